/- spec.DrawGetNum and DrawGetText. -/
import Derived.Test.YtlhpgihhlboddaaDoorDrawList
namespace Go.Proofs.YtlhpgihhlboddaaDoor
open Go.RowKit

theorem OB.base {w : World} {base base' : Nat} {v : Value} {xs : List Int} (h : OB w base v xs) (hb : base' ≤ base) : OB w base' v xs := by
  refine ⟨h.1, ?_⟩
  rcases h.2 with h' | ⟨g, cap, cur, hv, hg, r⟩
  · exact .inl h'
  · exact .inr ⟨g, cap, cur, hv, by omega, r⟩
theorem OB.shape {w : World} {base : Nat} {v : Value} {xs : List Int} (h : OB w base v xs) : ∃ ao cap, v = .slice ao xs.length cap := by
  rcases h.2 with ⟨rfl, h0⟩ | ⟨g, cap, cur, rfl, _⟩
  · exact ⟨none, 0, by rw [h0]⟩
  · exact ⟨_, cap, rfl⟩

set_option maxHeartbeats 1600000 in
set_option maxRecDepth 100000 in
theorem drawGetNum_any (ao : Option Addr) (ca : Nat) (xs : List Int) (w : World) (h : DCode w ao xs) :
    Calls Tryd.prog 19 #[.slice ao xs.length ca] w fun e w' => ∃ v ys k, e = .returned (.tuple #[v, .int .i64 k]) ∧ ys.length ≤ 30 ∧ BytesL ys ∧ OB w' w.heap.size v ys ∧ Below w.heap.size w w' := by
  have HC := hide (new_any ao ca xs w h.len h.code h.fit)
  clear h
  go_enter Tryd.func19, Tryd.ntmps19
  go_wp2_with fail
  refine (unhide HC).mono ?_
  rintro e w1 ⟨rfl, hcur, b1⟩
  have s1 := b1.size
  go_wp2_with fail
  refine (drawNums_any w.heap.size w.heap.size ca ao xs w1 s1 hcur).mono ?_
  rintro e w2 ⟨v, ys, rfl, hyl, _, ho, hby, hc2, hg2⟩
  have hlt := hcur.lt
  have b2 := cur_below hg2 b1 s1 (Nat.le_refl _)
  have s2 := b2.size
  obtain ⟨vo, vc, rfl⟩ := ho.shape
  obtain ⟨n, hn⟩ : ∃ n, ys.length = n := ⟨_, rfl⟩
  have HN := hide hn
  have HO := hide ho
  rw [hn] at HO hyl ⊢
  clear ho hn hcur
  go_wp2_with fail
  refine (pickInt_lit w.heap.size w.heap.size ca ao xs [0, 0, 1, (n : Int), (n : Int) - 5, -1, 9223372036854775807] w2 s2 (by simp) (by simp) hc2).mono ?_
  rintro e w3 ⟨k, rfl, hk, hc3, hg3⟩
  have b3 := cur_below hg3 b2 s2 (Nat.le_refl _)
  go_wp2
  go_ret2
  have ho := unhide HO
  rw [← unhide HN] at ho
  refine ⟨_, ys, k, rfl, by rw [unhide HN]; exact hyl, hby, ?_, b3⟩
  rw [← unhide HN]
  exact (OB.grown ho hg3 (by omega)).base s1

theorem textAns_bytes (s : ByteArray) (h : s.size ≤ 1048576) : BytesL (textAns s) := by
  refine BytesL.append (put_bytes 4 _ (by omega)) ?_
  intro y hy
  simp only [bs, List.mem_map] at hy
  obtain ⟨b, _, rfl⟩ := hy
  have := b.toNat_lt
  omega
theorem OB.cutAt {w : World} {base : Nat} {ao : Option Addr} {cap : Nat} {xs : List Int} (h : OB w base (.slice ao xs.length cap) xs) (m : Nat) (hm : m ≤ xs.length) : OB w base (.slice ao m cap) (xs.take m) := by
  have hl : (xs.take m).length = m := by simp; omega
  refine ⟨by rw [List.length_map, hl]; omega, ?_⟩
  rw [hl]
  rcases h.2 with ⟨hv, h0⟩ | ⟨g, c, cur, hv, hg, hh, hn, hc, hs, ht⟩
  · simp only [Value.slice.injEq] at hv
    obtain ⟨rfl, _, rfl⟩ := hv
    obtain rfl : m = 0 := by omega
    exact .inl ⟨rfl, rfl⟩
  · simp only [Value.slice.injEq] at hv
    obtain ⟨rfl, _, rfl⟩ := hv
    refine .inr ⟨g, cap, cur, rfl, hg, hh, by omega, hc, hs, ?_⟩
    rw [Nat.mul_one, List.map_take, ← ht, List.take_take]
    congr 1; omega
theorem BytesL.take {xs : List Int} (h : BytesL xs) (m : Nat) : BytesL (xs.take m) := fun y hy => h y (List.mem_of_mem_take hy)

def getTexts : List ByteArray := [⟨#[]⟩, ⟨#[97, 98, 99]⟩, ⟨#[120]⟩]
set_option maxHeartbeats 3200000 in
set_option maxRecDepth 100000 in
theorem drawGetText_any (ao : Option Addr) (ca : Nat) (xs : List Int) (w : World) (h : DCode w ao xs) :
    Calls Tryd.prog 21 #[.slice ao xs.length ca] w fun e w' => ∃ v ys k, e = .returned (.tuple #[v, .int .i64 k]) ∧ ys.length ≤ 40 ∧ BytesL ys ∧ OB w' w.heap.size v ys ∧ Below w.heap.size w w' := by
  obtain ⟨i0, hi, hz0, hz1, hz2⟩ := info_parts Tryd.info5
  have HC := hide (new_any ao ca xs w h.len h.code h.fit)
  clear h
  go_enter Tryd.func21, Tryd.ntmps21
  go_wp2_with fail
  refine (unhide HC).mono ?_
  rintro e w1 ⟨rfl, hcur, b1⟩
  have s1 := b1.size
  go_wp2_with fail
  refine (pick_lit w.heap.size w.heap.size ca ao xs getTexts w1 s1 (by decide) (by decide) hcur).mono ?_
  rintro e w2 ⟨x, rfl, hx, hc2, hg2⟩
  have b2 := cur_below hg2 b1 s1 (Nat.le_refl _)
  have s2 := b2.size
  have hxs : x.size ≤ 3 := by
    simp only [getTexts, List.mem_cons, List.not_mem_nil, or_false] at hx
    rcases hx with rfl | rfl | rfl <;> decide
  go_wp2_with fail
  refine (specText x _ (by omega)).mono ?_
  rintro e w3 ⟨v1, rfl, o3, b3⟩
  have s3 := b3.size
  have hc3 := hc2.below s2 b3
  have b13 := b2.trans (b3.mono s2)
  go_wp2_with fail
  refine (drawNums_any w.heap.size w.heap.size ca ao xs w3 (by omega) hc3).mono ?_
  rintro e w4 ⟨v2, ys, rfl, hyl, hne, ho4, hby, hc4, hg4⟩
  have hlt := hc3.lt
  have o4 := OB.grown o3 hg4 (by have := hc2.lt; omega)
  have b14 := cur_below hg4 b13 (by omega) (Nat.le_refl _)
  have hby1 := textAns_bytes x (by omega)
  have htl : (textAns x).length ≤ 8 := by rw [textAns_len]; have := (put_len 4 x.size).1; omega
  rcases ho4.2 with ⟨e0, _⟩ | ⟨g2, cap2, cur2, rfl, _⟩
  · exact absurd e0 hne
  have hcl := World.ownsRow.cells ho4 (g := g2) rfl
  have l1 := World.ownsRow.lt o4
  have s14 := b14.size
  have hcg : w.heap.size < w2.heap.size := hc2.lt
  have HCL := hide hcl
  have HX := hide (And.intro hc4 b14)
  have s34 : w3.heap.size ≤ w4.heap.size := hg4.size
  clear hcl hc4 b14 hg4 hc3 hcur o3 b13 b3 b2 b1 hg2 hc2 ho4 hne
  generalize textAns x = zs at *
  go_wp2_with (first
    | (at_builtin; refine wpList_append_own _ rfl (.tmp 11) (.tmp 13) 22 rfl w2.heap.size 5 i0 (.int .u8 0) 1 1 Tryd.underlying22 hi hz0 hz1 hz2 rfl (by decide) _ _ _ rfl o4 ⟨g2, 0, none⟩ ys.length cap2 (ys.map (Value.int .u8)) rfl (by simp) (unhide HCL) (ints_plain ys) (by unfold maxLen; omega) (by omega) (by omega) ?_; intro v' w5 ho' hg' _; have HO' := hide ho'; have HG' := hide hg'; clear ho' hg' o4)
    | fail)
  have o5 : OB w5 w2.heap.size v' (zs ++ ys) := by
    unfold OB; rw [List.length_append, List.map_append]; exact unhide HO'
  have hc5 := (unhide HX).1.grownNew (unhide HG') (fun j hj => by have := (l1 j hj).1; omega)
  have b5 : Below w.heap.size w w5 := (unhide HX).2.grown (unhide HG') s14 (fun j hj => by have := (l1 j hj).1; omega)
  have s5 := b5.size
  have hby5 := hby1.append hby
  have hl5 : (zs ++ ys).length ≤ 38 := by rw [List.length_append]; omega
  clear HO' HG' HX hby1 hby l1
  generalize zs ++ ys = us at *
  refine (once_any w.heap.size w.heap.size ca ao xs 4 _ s5 (by omega) (by omega) hc5).mono ?_
  rintro e w6 ⟨bb, rfl, hc6, hg6⟩
  have o6 := OB.grown o5 hg6 (by omega)
  have b6 := cur_below hg6 b5 s5 (Nat.le_refl _)
  have s6 := b6.size
  obtain ⟨vo, vc, rfl⟩ := o6.shape
  have hcap : us.length ≤ vc := by obtain ⟨_, _, _, h1, h2, _⟩ := OB.rb o6 (by omega); simp only [Value.slice.injEq] at h1; omega
  have hcm : vc ≤ 9223372036854775807 := by obtain ⟨_, _, _, h1, h2, _⟩ := OB.rb o6 (by omega); simp only [Value.slice.injEq, maxLen] at h1 h2; omega
  obtain ⟨n, hn⟩ : ∃ n, us.length = n := ⟨_, rfl⟩
  have HN := hide hn
  have HO := hide o6
  rw [hn] at HO hl5 hcap ⊢
  clear o6 o5 hn hc5 hg6 b5
  cases bb
  · go_wp2_with fail
    refine (pickInt_lit w.heap.size w.heap.size ca ao xs [0, 0, 0, 1, (n : Int), -1] w6 s6 (by simp) (by simp) hc6).mono ?_
    rintro e w8 ⟨k, rfl, hk, hc8, hg8⟩
    have b8 := cur_below hg8 b6 s6 (Nat.le_refl _)
    go_wp2
    go_ret2
    have ho := unhide HO
    rw [← unhide HN] at ho
    refine ⟨_, us, k, rfl, by rw [unhide HN]; omega, hby5, ?_, b8⟩
    rw [← unhide HN]
    exact (OB.grown ho hg8 (by omega)).base (by omega)
  · go_wp2_with fail
    refine (below_any w.heap.size w.heap.size ca ao xs ((n : Int) + 1) _ s6 (by omega) (by omega) hc6).mono ?_
    rintro e w7 ⟨x7, rfl, hx70, hx71, hc7, hg7⟩
    obtain ⟨m, rfl⟩ := Int.eq_ofNat_of_zero_le hx70
    have hmn : m ≤ n := by omega
    have b7 := cur_below hg7 b6 s6 (Nat.le_refl _)
    have s7 := b7.size
    have ho7 := unhide HO
    rw [← unhide HN] at ho7
    have o7 := hide (OB.grown (OB.cutAt ho7 m (by rw [unhide HN]; exact hmn)) hg7 (by omega))
    clear ho7 hg7 hc6 b6
    go_wp2_with fail
    refine (pickInt_lit w.heap.size w.heap.size ca ao xs [0, 0, 0, 1, (m : Int), -1] w7 s7 (by simp) (by simp) hc7).mono ?_
    rintro e w8 ⟨k, rfl, hk, hc8, hg8⟩
    have b8 := cur_below hg8 b7 s7 (Nat.le_refl _)
    go_wp2
    go_ret2
    refine ⟨_, us.take m, k, rfl, by simp; omega, hby5.take m, ?_, b8⟩
    exact (OB.grown (unhide o7) hg8 (by omega)).base (by omega)
end Go.Proofs.YtlhpgihhlboddaaDoor
