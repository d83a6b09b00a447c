/- Lemmas; their conditions stand in each statement. -/
import Derived.Lib.ItoaLen
import Derived.Test.YtjkcphnohhpihaaGreatDoorPPBA
set_option maxRecDepth 100000
set_option maxHeartbeats 8000000
set_option linter.unusedSectionVars false
namespace Go.Proofs.YtjkcphnohhpihaaGreatDoor
section
open Go.RowKit
variable [∀ (a b c d : Int), Decidable (Ok4 a b c d)]
variable [∀ (a b c d : Nat), Decidable (okN a b c d)]
variable [∀ (x : T4), Decidable (OkT x)]
theorem c4_grown {w w' : World} {r g : Nat} {a b c d : Int} (h : Cells4 w r a b c d) (hg : w.grownBy w' (some g)) (hr : r ≠ g) : Cells4 w' r a b c d :=
 ⟨hg.cell h.1 (by simpa using hr), hg.cell h.2.1 (by simpa using hr), hg.cell h.2.2.1 (by simpa using hr), hg.cell h.2.2.2 (by simpa using hr)⟩
theorem fr_grown {w w' : World} {r g : Nat} (h : ∀ j, w.frozen? ⟨r, j, none⟩ = false) (hl : r < w.heap.size) (hg : w.grownBy w' (some g)) (hr : r ≠ g) : ∀ j, w'.frozen? ⟨r, j, none⟩ = false := fun j =>
 (World.frozen?_of_block (a := ⟨r, j, none⟩) (hg.block r hl (by simpa using hr))).trans (h j)
theorem grown_set {w w' : World} {row : Option Nat} (h : w.grownBy w' row) {r : Nat} (hr : w.heap.size ≤ r) (j : Nat) (v : Value) : w.grownBy (w'.setCell ⟨r, j, none⟩ v) row :=
 grown_new h (set_grown w' r j v) (fun k e => by simp at e; omega)
theorem Cur.set {w : World} {base g ca : Nat} {ao : Option Addr} {xs : List Int} (h : Cur w base g ao ca xs) {r : Nat} (hr : g < r) (j : Nat) (v : Value) : Cur (w.setCell ⟨r, j, none⟩ v) base g ao ca xs :=
 h.grownNew (set_grown w r j v) (fun k e => by simp at e; omega)

theorem drawRight (base g ca : Nat) (ao : Option Addr) (xs : List Int) (w : World) (hB : base ≤ w.heap.size) (h : Cur w base g ao ca xs) :
 Calls Tryz.prog 106 #[.pointer (some ⟨g, 0, none⟩)] w fun e w' => ∃ a b c d : Int, e = .returned (txv a b c d) ∧ Cur w' base g ao ca xs ∧ w.grownBy w' (some g) := by
 have hlt:=h.lt
 have h0:=h.alloc hB (.cells #[.int .i64 0,.int .i64 0,.int .i64 0,.int .i64 0] 132)
 have g0:=World.grownBy_alloc w (.cells #[.int .i64 0,.int .i64 0,.int .i64 0,.int .i64 0] 132) (some g)
 have z0:=cells4_new w 0 0 0 0 132
 have f0 : ∀ j, (w.alloc (.cells #[.int .i64 0,.int .i64 0,.int .i64 0,.int .i64 0] 132)).frozen? ⟨w.heap.size, j, none⟩ = false:=fun j => by simp [go_sem]
 clear h
 have P:=hide (And.intro h0 (And.intro g0 (And.intro z0 f0)))
 clear h0 g0 z0 f0
 go_enter Tryz.func106, Tryz.ntmps106
 go_wp2_with fail
 refine (below_any base g ca ao xs 4 _ (by simp; omega) (by omega) (by omega) P.out.1).mono ?_
 rintro e w1 ⟨a, rfl, _, _, c1, e1⟩
 have P1:=hide (And.intro c1 (And.intro (grown_trans P.out.2.1 e1) (And.intro (c4_grown P.out.2.2.1 e1 (by omega)) (fr_grown P.out.2.2.2 (by simp) e1 (by omega)))))
 have s1 : w.heap.size + 1 ≤ w1.heap.size:=by have:=e1.size; simp at this; omega
 clear P c1 e1
 go_wp2_with fail
 refine (below_any base g ca ao xs 4 _ (by omega) (by omega) (by omega) P1.out.1).mono ?_
 rintro e w2 ⟨b, rfl, _, _, c2, e2⟩
 have P2:=hide (And.intro c2 (And.intro (grown_trans P1.out.2.1 e2) (And.intro (c4_grown P1.out.2.2.1 e2 (by omega)) (fr_grown P1.out.2.2.2 (by omega) e2 (by omega)))))
 have s2 : w.heap.size + 1 ≤ w2.heap.size:=by have:=e2.size; omega
 clear P1 c2 e2
 go_wp2_with fail
 refine (pickInt_lit base g ca ao xs [0, 5, 60, 100, 1000] w2 (by omega) (by decide) (by decide) P2.out.1).mono ?_
 rintro e w3 ⟨c, rfl, _, c3, e3⟩
 have P3:=hide (And.intro c3 (And.intro (grown_trans P2.out.2.1 e3) (And.intro (c4_grown P2.out.2.2.1 e3 (by omega)) (fr_grown P2.out.2.2.2 (by omega) e3 (by omega)))))
 have s3 : w.heap.size + 1 ≤ w3.heap.size:=by have:=e3.size; omega
 clear P2 c3 e3
 go_wp2_with fail
 refine (below_any base g ca ao xs 3 _ (by omega) (by omega) (by omega) P3.out.1).mono ?_
 rintro e w4 ⟨d, rfl, _, _, c4, e4⟩
 have gg:=grown_trans P3.out.2.1 e4
 obtain ⟨z0, z1, z2, z3⟩:=c4_grown P3.out.2.2.1 e4 (by omega)
 have zf:=fr_grown P3.out.2.2.2 (by omega) e4 (by omega)
 have HC:=hide c4
 clear P3 e4 c4
 go_wp2
 refine bodyPost_ret (v := txv a b c d) (by simp [results, Tryz.results106, go_sem, z0, z1, z2, z3]) rfl ?_
 exact ⟨a, b, c, d, rfl, (((HC.out.set (by omega) _ _).set (by omega) _ _).set (by omega) _ _).set (by omega) _ _, grown_set (grown_set (grown_set (grown_set gg (Nat.le_refl _) _ _) (Nat.le_refl _) _ _) (Nat.le_refl _) _ _) (Nat.le_refl _) _ _⟩

theorem OT.grown {w w' : World} {base g : Nat} {v : Value} {xs : List T4} (h : OT w base v xs) (hg : w.grownBy w' (some g)) (hlt : g < base) : OT w' base v xs :=
 World.ownsRow.kept h hg (by
  cases hv : v.ownBlock with
  | none => exact .inl rfl
  | some k => exact .inr fun e => by have := (World.ownsRow.lt h k hv).1; simp at e; omega)
def dents : List ByteArray := [⟨#[48]⟩, ⟨#[44]⟩, ⟨#[62]⟩, ⟨#[47]⟩, ⟨#[124]⟩, ⟨#[120]⟩, ⟨#[49]⟩]
theorem dents_size {q : ByteArray} (h : q ∈ dents) : q.size = 1 := by
 simp only [dents, List.mem_cons, List.not_mem_nil, or_false] at h
 rcases h with rfl | rfl | rfl | rfl | rfl | rfl | rfl <;> rfl

theorem cur_drew {w : World} {base g ca : Nat} {ao : Option Addr} {xs : List Int} (h : Cur w base g ao ca xs) : Cur w.drew base g ao ca xs := ⟨h.low, h.len, h.cells, h.code⟩
theorem grown_undrew {w w' : World} {row : Option Nat} (h : w.drew.grownBy w' row) : w.grownBy w' row := ⟨h.os, h.tape, h.output, h.size, h.block⟩
theorem below_far (base g ca : Nat) (ao : Option Addr) (xs : List Int) (n : Int) (w : World) (hB : base ≤ w.heap.size) (hn : 257 ≤ n) (hm : n ≤ 1000000) (h : Cur w base g ao ca xs) :
 Calls Tryz.prog 62 #[.pointer (some ⟨g, 0, none⟩),.int .i64 n] w fun e w' => ∃ x : Int, e = .returned (.int .i64 x) ∧ 0 ≤ x ∧ x < n ∧ Cur w' base g ao ca xs ∧ w.grownBy w' (some g) := by
 have H0:=hide h
 clear h
 go_enter Tryz.func62, Tryz.ntmps62
 go_wp2_with fail
 refine (byte_any base g ca ao xs _ (by omega) H0.out).mono ?_
 rintro e w1 ⟨x1, rfl, a0, a1, c1, g1⟩
 have s1:=g1.size
 have H1:=hide (And.intro c1 g1)
 clear H0 c1 g1
 go_wp2_with fail
 refine (byte_any base g ca ao xs _ (by omega) H1.out.1).mono ?_
 rintro e w2 ⟨x2, rfl, b0, b1, c2, g2⟩
 have s2:=g2.size
 have H2:=hide (And.intro c2 (grown_trans H1.out.2 g2))
 clear H1 c2 g2
 go_wp2_with fail
 refine (byte_any base g ca ao xs _ (by omega) H2.out.1).mono ?_
 rintro e w3 ⟨x3, rfl, d0, d1, c3, g3⟩
 have s3:=g3.size
 have H3:=hide (And.intro c3 (grown_trans H2.out.2 g3))
 clear H2 c3 g3
 go_wp2_with fail
 refine (byte_any base g ca ao xs _ (by omega) H3.out.1).mono ?_
 rintro e w4 ⟨x4, rfl, f0, f1, c4, g4⟩
 have H4:=hide (And.intro c4 (grown_trans H3.out.2 g4))
 clear H3 c4 g4
 go_wp2
 go_ret
 exact ⟨_, rfl, Int.emod_nonneg _ (by omega), Int.emod_lt_of_pos _ (by omega), H4.out.1, H4.out.2⟩
theorem below_all (base g ca : Nat) (ao : Option Addr) (xs : List Int) (n : Int) (w : World) (hB : base ≤ w.heap.size) (hn : 1 ≤ n) (hm : n ≤ 1000000) (h : Cur w base g ao ca xs) :
 Calls Tryz.prog 62 #[.pointer (some ⟨g, 0, none⟩),.int .i64 n] w fun e w' => ∃ x : Int, e = .returned (.int .i64 x) ∧ 0 ≤ x ∧ x < n ∧ Cur w' base g ao ca xs ∧ w.grownBy w' (some g) := by
 by_cases h1 : n ≤ 256
 ·exact below_any base g ca ao xs n w hB hn h1 h
 exact below_far base g ca ao xs n w hB (by omega) hm h

theorem dent_cur (base g ca : Nat) (ao : Option Addr) (xs : List Int) (s : ByteArray) (w : World) (hB : base ≤ w.heap.size) (hs : s.size ≤ 4000) (h : Cur w base g ao ca xs) :
 Calls Tryz.prog 117 #[.pointer (some ⟨g, 0, none⟩),.string s] w fun e w' => ∃ t : ByteArray, e = .returned (.string t) ∧ t.size ≤ 8001 ∧ Cur w' base g ao ca xs ∧ w.grownBy w' (some g) := by
 have P:=hide h
 clear h
 go_enter Tryz.func117, Tryz.ntmps117
 go_wp2_with fail
 refine (below_all base g ca ao xs ((s.size : Int) + 1) _ hB (by omega) (by omega) P.out).mono ?_
 rintro e w1 ⟨a, rfl, a0, a1, c1, e1⟩
 have P1:=hide (And.intro c1 e1)
 have s1:=e1.size
 clear P c1 e1
 obtain ⟨at', rfl⟩:=Int.eq_ofNat_of_zero_le a0
 have hat : at' ≤ s.size:=by omega
 clear a0 a1
 go_wp2_with fail
 refine (below_any base g ca ao xs 5 _ (by omega) (by omega) (by omega) P1.out.1).mono ?_
 rintro e w2 ⟨k, rfl, k0, k1, c2, e2⟩
 have s2:=e2.size
 have gg:=grown_trans P1.out.2 e2
 have HC:=hide c2
 clear P1 c2 e2
 have z1 : (s.extract 0 at').size ≤ s.size:=ext_size s 0 at'
 have z2 : (s.extract at' s.size).size ≤ s.size:=ext_size s at' s.size
 by_cases h0 : k = 0
 ·subst h0
  go_wp2
  go_ret
  exact ⟨_, rfl, by omega, HC.out, gg⟩
 have n0 : (k == 0) = false:=by simp [h0]
 by_cases h1 : k = 1
 ·subst h1
  clear h0
  obtain ⟨u, hu⟩ : ∃ u, s.extract 0 at' = u:=⟨_, rfl⟩
  obtain ⟨v, hv⟩ : ∃ v, s.extract at' s.size = v:=⟨_, rfl⟩
  have t1 : ∀ w', (Instr.slice 9 (.string s) none (some (.int .i64 (at' : Int))) none).run Tryz.prog w' = .ok (.string u) w':=fun w' => by
   rw [← hu]; simp [Instr.slice, go_sem, run_underlying Tryz.underlying9, hat]
  have t2 : ∀ w', (Instr.slice 9 (.string s) (some (.int .i64 (at' : Int))) none none).run Tryz.prog w' = .ok (.string v) w':=fun w' => by
   rw [← hv]; simp [Instr.slice, go_sem, run_underlying Tryz.underlying9, hat]
  have zu : u.size ≤ 4000:=by rw [← hu]; omega
  have zv : v.size ≤ 4000:=by rw [← hv]; omega
  clear hu hv z1 z2 hat
  go_wp2_with fail
  go_region_held3 (fun _ => True) (trivial) (first
   | (go_at_call 130; refine (pick_lit base g ca ao xs dents w2.drew (by simp; omega) (by decide) (by decide) (cur_drew HC.out)).mono ?_; rintro e w3 ⟨q, rfl, hq, c3, e3⟩
      have zq:=dents_size hq
      have HC3:=hide c3
      clear c3
      have gg3:=grown_trans gg (grown_undrew e3)
      obtain ⟨y1, hy1⟩ : ∃ y, y = u ++ q:=⟨_, rfl⟩
      obtain ⟨y2, hy2⟩ : ∃ y, y = y1 ++ v:=⟨_, rfl⟩
      have zy1 : y1.size ≤ 4001:=(by rw [hy1, ByteArray.size_append]; omega)
      have zy2 : y2.size ≤ 8001:=(by rw [hy2, ByteArray.size_append]; omega)
      have q1 : ∀ w', (Op.stringOp .add u q).run Tryz.prog w' = .ok (.string y1) w':=(fun w' => by rw [hy1]; exact run_string_add_sum w' _ _ (by omega))
      have q2 : ∀ w', (Op.stringOp .add y1 v).run Tryz.prog w' = .ok (.string y2) w':=(fun w' => by rw [hy2]; exact run_string_add_sum w' _ _ (by omega))
      clear hy1 hy2))
  all_goals
   go_wp2
   go_ret
   exact ⟨_, rfl, zy2, HC3.out, gg3⟩
 have n1 : (k == 1) = false:=by simp [h1]
 clear h0 h1
 go_wp2
 go_ret
 exact ⟨_, rfl, by omega, HC.out, gg⟩
end
section
open Go.RowKit
variable [∀ (a b c d : Int), Decidable (Ok4 a b c d)]
variable [∀ (a b c d : Nat), Decidable (okN a b c d)]
variable [∀ (last : Int) (s : St), Decidable (GoodSt last s)]
variable [∀ (x : T4), Decidable (OkT x)]
theorem itoa_short (n : Int) (h0 : -9223372036854775808 ≤ n) (h1 : n ≤ 9223372036854775807) : (Lib.itoa n).length ≤ 21 := by
 unfold Lib.itoa
 split
 ·have:=Lib.nDigits_le20 n.natAbs (by omega)
  rw [List.length_cons, Lib.decDigits_length]; omega
 have:=Lib.nDigits_le20 n.toNat (by omega)
 rw [Lib.decDigits_length]; omega
theorem txsT_len (ts : List T4) : (txsT ts).size ≤ ts.length * 28 := by
 unfold txsT
 split
 ·rw [toB_size]; exact accT_len ts ts.length
 exact Nat.zero_le _

theorem specNameOfW (up : ByteArray) (view : Int) (v : Value) (xs : List T4) (w : World) (hu : up.size + xs.length * 28 + 100 ≤ 33554432) (hx : xs.length ≤ 1048577) (h0 : -9223372036854775808 ≤ view) (h1 : view ≤ 9223372036854775807) (h : RT w v xs) :
 Calls Tryz.prog 107 #[.string up,.int .i64 view, v] w fun e w' => e = .returned (.string (nameAns up view xs)) ∧ Below w.heap.size w w' := by
 have DG:=hide fun w => specDigits_any view w (by omega) (by omega)
 have TT:=hide fun w h => specTxsText v xs w (by omega) h
 have RTH:=hide h
 have NO:=hide fun w => specNameOk (toB (nmOut up view xs)) w (by
  have:=itoa_short view h0 h1
  have:=txsT_len xs
  rw [toB_size]; unfold nmOut
  simp only [List.length_append, List.length_cons, Array.length_toList, ByteArray.size_data]
  omega)
 obtain ⟨hl, ao, ca, rfl, ha⟩:=h
 go_enter Tryz.func107, Tryz.ntmps107
 go_wp2
 go_loopw [7] (fun i wr => ∃ k : Nat, k ≤ xs.length ∧ i = .int .i64 k ∧ Hid (∀ j, j < k → OkT (xs.getD j (0, 0, 0, 0))) ∧ Below w.heap.size w wr) (fun i _ => xs.length - (intOf i).toNat)
 case atStart => exact ⟨0, Nat.zero_le _, rfl, hide (fun j hj => by omega), Below.refl _ _⟩
 case round =>
  obtain ⟨k, hk, rfl, HK, br⟩:=hrel
  have hsr:=br.size
  by_cases hlt : k < xs.length
  ·rcases ha with ha | ⟨g, rfl, ha⟩
   ·subst ha; simp at hlt
   obtain ⟨a0, a1, a2, a3⟩:=ha k hlt
   have hg : g < w.heap.size:=cell_lt a0
   have c0:=(br.cell (p:=⟨g, k * 4, none⟩) hg).trans a0
   have c1:=(br.cell (p:=⟨g, k * 4 + 1, none⟩) hg).trans a1
   have c2:=(br.cell (p:=⟨g, k * 4 + 2, none⟩) hg).trans a2
   have c3:=(br.cell (p:=⟨g, k * 4 + 3, none⟩) hg).trans a3
   have HNO : Hid (¬ OkT (xs.getD k (0, 0, 0, 0)) → nameAns up view xs = ⟨#[]⟩):=hide fun h => if_neg fun h2 => h (h2.1 _ (by rw [List.getD_eq_getElem?_getD, List.getElem?_eq_getElem hlt]; exact List.getElem_mem hlt))
   clear ha a0 a1 a2 a3
   generalize hxk : xs.getD k (0, 0, 0, 0) = x at *
   obtain ⟨xa, xb, xc, xd⟩:=x
   simp only at c0 c1 c2 c3
   by_cases hok : OkT (xa, xb, xc, xd)
   ·have CK:=hide fun w => specTxOk_yes xa xb xc xd w hok
    have HK' : Hid (∀ j, j < k + 1 → OkT (xs.getD j (0, 0, 0, 0))):=fun j hj => by
     by_cases e : j = k
     ·subst e; rw [hxk]; exact hok
     exact HK.out j (by omega)
    clear HK HNO hok hxk
    go_wp2_with fail
    refine (CK.out _).mono ?_
    rintro e w1 ⟨rfl, b1⟩
    have b1':=br.trans (b1.mono hsr)
    clear c0 c1 c2 c3 b1 CK
    go_wp2
    go_roundw
    case rel => exact ⟨k + 1, by omega, by go_num, HK', b1'⟩
    case measure => simp [intOf]; omega
   have CK:=hide fun w => specTxOk_no xa xb xc xd w hok
   have HNO:=hide (HNO.out hok)
   clear HK hok hxk
   go_wp2_with fail
   refine (CK.out _).mono ?_
   rintro e w1 ⟨rfl, b1⟩
   have b1':=br.trans (b1.mono hsr)
   clear c0 c1 c2 c3 b1 CK
   go_wp2
   go_ret
   exact ⟨by rw [HNO.out]; rfl, b1'⟩
  obtain rfl : k = xs.length:=by omega
  have HA : Hid (∀ x ∈ xs, OkT x):=hide fun x hx => by
   obtain ⟨j, hj, rfl⟩:=List.getElem_of_mem hx
   have:=HK.out j hj
   rwa [List.getD_eq_getElem?_getD, List.getElem?_eq_getElem hj] at this
  clear HK ha
  have NA : Hid (nameAns up view xs = if (stepsAns (toB (nmOut up view xs))).isSome then toB (nmOut up view xs) else ⟨#[]⟩):=hide (by
   unfold nameAns
   by_cases hq : (stepsAns (toB (nmOut up view xs))).isSome = true
   ·rw [if_pos ⟨HA.out, hq⟩, if_pos hq]
   rw [if_neg fun e => hq e.2, if_neg hq])
  have EQ : up ++ (⟨#[47]⟩ : ByteArray) ++ (⟨(Lib.itoa view).toArray⟩ : ByteArray) ++ (⟨#[124]⟩ : ByteArray) ++ txsT xs = toB (nmOut up view xs):=by
   apply ba_ext
   rw [toB_list]
   simp [nmOut, ByteArray.data_append]
  have hd : (⟨(Lib.itoa view).toArray⟩ : ByteArray).size ≤ 21:=by
   have:=itoa_short view h0 h1
   simpa [ByteArray.size] using this
  have hts:=txsT_len xs
  obtain ⟨z, hz⟩ : ∃ z, toB (nmOut up view xs) = z:=⟨_, rfl⟩
  rw [hz] at NA NO EQ
  generalize (⟨(Lib.itoa view).toArray⟩ : ByteArray) = d at *
  generalize txsT xs = tt at *
  obtain ⟨b, hb⟩ : ∃ b, (stepsAns z).isSome = b:=⟨_, rfl⟩
  rw [hb] at NA NO
  clear hz hb HA
  have q1 : ∀ w, (Op.stringOp .add (up ++ (⟨#[47]⟩ : ByteArray)) d).run Tryz.prog w = .ok (.string (up ++ (⟨#[47]⟩ : ByteArray) ++ d)) w:=fun w => run_string_add_sum w _ _ (by simp [ByteArray.size_append]; show up.size + 1 + d.size ≤ _; omega)
  have q2 : ∀ w, (Op.stringOp .add (up ++ (⟨#[47]⟩ : ByteArray) ++ d) (⟨#[124]⟩ : ByteArray)).run Tryz.prog w = .ok (.string (up ++ (⟨#[47]⟩ : ByteArray) ++ d ++ (⟨#[124]⟩ : ByteArray))) w:=fun w => run_string_add_sum w _ _ (by simp [ByteArray.size_append]; show up.size + 1 + d.size + 1 ≤ _; omega)
  have q3 : ∀ w, (Op.stringOp .add (up ++ (⟨#[47]⟩ : ByteArray) ++ d ++ (⟨#[124]⟩ : ByteArray)) tt).run Tryz.prog w = .ok (.string z) w:=fun w => by
   rw [run_string_add_sum w _ _ (by simp [ByteArray.size_append]; show up.size + 1 + d.size + 1 + tt.size ≤ _; omega), EQ]
  clear EQ
  go_wp2_with fail
  refine (DG.out _).mono ?_
  rintro e w1 ⟨rfl, b1⟩
  have B1:=br.trans (b1.mono hsr)
  clear b1 DG
  generalize up ++ (⟨#[47]⟩ : ByteArray) = a1 at *
  generalize a1 ++ d = a2 at *
  generalize a2 ++ (⟨#[124]⟩ : ByteArray) = a3 at *
  go_wp2_with fail
  refine (TT.out _ (RTH.out.below B1)).mono ?_
  rintro e w2 ⟨rfl, b2⟩
  have B2:=bu B1 b2
  clear b2 TT
  go_wp2_with fail
  refine (NO.out _).mono ?_
  rintro e w3 ⟨rfl, b3⟩
  have B3:=bu B2 b3
  clear b3 NO
  cases b with
  | true =>
   go_wp2
   go_ret
   exact ⟨by rw [NA.out]; rfl, B3⟩
  | false =>
   go_wp2
   go_ret
   exact ⟨by rw [NA.out]; rfl, B3⟩
theorem specNameOf (up : ByteArray) (view : Int) (v : Value) (xs : List T4) (w : World) (hu : up.size + xs.length * 28 + 100 ≤ 1000000) (h0 : -999999 ≤ view) (h1 : view ≤ 999999) (h : RT w v xs) :
 Calls Tryz.prog 107 #[.string up,.int .i64 view, v] w fun e w' => e = .returned (.string (nameAns up view xs)) ∧ Below w.heap.size w w' :=
 specNameOfW up view v xs w (by omega) (by omega) (by omega) (by omega) h
end
section
open Go.RowKit
variable [∀ (a b c d : Int), Decidable (Ok4 a b c d)]
variable [∀ (a b c d : Nat), Decidable (okN a b c d)]
variable [∀ (x : T4), Decidable (OkT x)]
variable [∀ (last : Int) (s : St), Decidable (GoodSt last s)]
theorem grown_of_below {B : Nat} {w w' : World} (b : Below B w w') (h : B = w.heap.size) : w.grownBy w' none := by subst h; exact ⟨b.os, b.tape, b.output, b.size, fun k hk _ => b.block k hk⟩
theorem nm_len (ss : List St) (h : ∀ s ∈ ss, OkSt s) : (nm ss).length ≤ ss.length * 64 := by
 induction ss with
 | nil => simp [nm]
 | cons s ss ih =>
  have h1:=h s (by simp)
  have h2:=ih fun x hx => h x (by simp [hx])
  have h3:=txsT_len2 s.2 h1.2.1
  have h4:=nDigits_six s.1.toNat (by have:=h1.1; omega)
  have e : nm (s :: ss) = 47 :: stText s ++ nm ss:=by simp [nm]
  rw [e, List.length_append, List.length_cons, List.length_cons]
  unfold stText
  rw [List.length_append, List.length_cons, Lib.decDigits_length]
  have e2 : (txsT s.2).data.toList.length = (txsT s.2).size:=by simp
  omega
theorem name_len {s : ByteArray} (h : (stepsAns s).isSome = true) : s.size ≤ 1920 := by
 cases hs : stepsAns s with
 | none => rw [hs] at h; cases h
 | some ss =>
  obtain ⟨h1, h2⟩:=(names_iff _ _).1 hs
  have h3:=nm_len ss h2.2.1
  have h4:=h2.1
  have e : s.size = s.data.toList.length:=by simp
  rw [e, h1]; omega
theorem nameAns_len (up : ByteArray) (view : Int) (ts : List T4) : (nameAns up view ts).size ≤ 1920 := by
 unfold nameAns
 split
 ·rename_i h; exact name_len h.2
 exact Nat.zero_le _

theorem drawNameR (base g ca : Nat) (ao : Option Addr) (xs : List Int) (w : World) (hB : base ≤ w.heap.size) (h : Cur w base g ao ca xs) :
 Calls Tryz.prog 66 #[.pointer (some ⟨g, 0, none⟩)] w fun e w' => ∃ s : ByteArray, e = .returned (.string s) ∧ s.size ≤ 1920 ∧ Cur w' base g ao ca xs ∧ w.grownBy w' (some g) := by
 obtain ⟨i0, hi, hz0, hz1, hz2⟩:=info_parts Tryz.infoTx
 have hlt:=h.lt
 have H0:=hide h
 clear h
 go_enter Tryz.func66, Tryz.ntmps66
 go_wp2
 go_loopw [3, 4, 5] (fun sv vv iv wr => ∃ (i : Nat) (view : Int) (s : ByteArray), i ≤ 6 ∧ iv = .int .i64 i ∧ vv = .int .i64 view ∧ 0 ≤ view ∧ view ≤ 3 * i ∧ sv = .string s ∧ s.size ≤ 1920 ∧ Cur wr base g ao ca xs ∧ w.grownBy wr (some g)) (fun _ _ iv _ => 7 - (intOf iv).toNat)
 case atStart => exact ⟨0, 0, ⟨#[]⟩, by omega, rfl, rfl, by omega, by omega, rfl, by decide, H0.out, grown_refl _ _⟩
 case round =>
  clear H0
  obtain ⟨i, view, s, hi6, rfl, rfl, v0, v1, rfl, hs, hc, hg⟩:=hrel
  have hsz:=hg.size
  have P:=hide (And.intro hc hg)
  clear hc hg
  go_wp2_with fail
  refine (below_any base g ca ao xs 6 _ (by omega) (by omega) (by omega) P.out.1).mono ?_
  rintro e w1 ⟨n, rfl, _, n1, c1, e1⟩
  have s1:=e1.size
  have P1:=hide (And.intro c1 (grown_trans P.out.2 e1))
  clear P c1 e1
  by_cases hin : (i : Int) < n
  ·go_wp2_with fail
   refine (below_any base g ca ao xs 4 _ (by omega) (by omega) (by omega) P1.out.1).mono ?_
   rintro e w2 ⟨q, rfl, q0, q1, c2, e2⟩
   have s2:=e2.size
   have P2:=hide (And.intro c2 (grown_trans P1.out.2 e2))
   clear P1 c2 e2
   have hqd : 0 ≤ q.tdiv 3 ∧ q.tdiv 3 ≤ 1:=by rw [Int.tdiv_eq_ediv_of_nonneg q0]; omega
   have hqe : 0 ≤ q / 3 ∧ q / 3 ≤ 1:=by omega
   have hw2 : w.heap.size ≤ w2.heap.size:=by omega
   go_wp2
   go_loopw [6, 7] (fun lv kv w3 => ∃ (k : Nat) (ys : List T4), k ≤ 3 ∧ kv = .int .i64 k ∧ ys.length = k ∧ OT w3 w2.heap.size lv ys ∧ Cur w3 base g ao ca xs ∧ w.grownBy w3 (some g) ∧ w2.heap.size ≤ w3.heap.size) (fun _ kv _ => 4 - (intOf kv).toNat)
   case atStart => exact ⟨0, [], by omega, rfl, rfl, World.ownsRow_lit w2 #[] 0 (Nat.le_refl _) (by unfold maxLen; omega) rfl, P2.out.1.alloc (by omega) _, grown_trans P2.out.2 (World.grownBy_alloc _ _ _), by simp⟩
   case round =>
    clear P2
    obtain ⟨k, ys, hk, rfl, hyl, ho, hc, hg, hz⟩:=hrel
    have P:=hide (And.intro ho (And.intro hc hg))
    clear ho hc hg
    go_wp2_with fail
    refine (below_any base g ca ao xs 3 _ (by omega) (by omega) (by omega) P.out.2.1).mono ?_
    rintro e w4 ⟨m, rfl, _, m1, c4, e4⟩
    have s4:=e4.size
    have P4:=hide (And.intro (P.out.1.grown e4 (by omega)) (And.intro c4 (grown_trans P.out.2.2 e4)))
    clear P c4 e4
    by_cases hkm : (k : Int) < m
    ·go_wp2_with fail
     refine (drawRight base g ca ao xs _ (by omega) P4.out.2.1).mono ?_
     rintro e w5 ⟨a, b, c, d, rfl, c5, e5⟩
     have s5:=e5.size
     have ho5:=ot_alloc (P4.out.1.grown e5 (by omega)) (.cells #[.int .i64 a,.int .i64 b,.int .i64 c,.int .i64 d] 132)
     have hc5:=c5.alloc (by omega) (.cells #[.int .i64 a,.int .i64 b,.int .i64 c,.int .i64 d] 132)
     have hg5:=grown_trans (grown_trans P4.out.2.2 e5) (World.grownBy_alloc w5 (.cells #[.int .i64 a,.int .i64 b,.int .i64 c,.int .i64 d] 132) (some g))
     clear P4 c5 e5
     go_wp2_with (first
      | (at_builtin; refine wpList_append_own _ rfl _ _ 130 rfl w2.heap.size 132 i0 (txv 0 0 0 0) 4 32 Tryz.underlying130 hi hz0 hz1 hz2 rfl (by decide) _ _ _ rfl ho5 ⟨w5.heap.size, 0, none⟩ 1 1 (tcell (a, b, c, d)) rfl rfl (four_cell w5 (a, b, c, d) 132) (four_plain _) (by unfold maxLen; omega) (by omega) (by simp; omega) ?_; intro v' w6 ho' hg' _; have hl2 := ho5.lt; have R := (show OT w6 w2.heap.size v' (ys ++ [(a, b, c, d)]) by unfold OT; rw [tcells_append, List.length_append]; simpa [tcells] using ho'); have RC := hc5.grownNew hg' (fun j e => by have := (hl2 j e).1; omega); have RG := grown_new hg5 hg' (fun j e => by have := (hl2 j e).1; omega); have SZ : w2.heap.size ≤ w6.heap.size := (by have := hg'.size; simp at this; omega); clear ho5 ho' hg' hg5 hc5 hl2))
     go_roundw
     case rel => exact ⟨k + 1, _, by omega, by go_num, by simp [hyl], R, RC, RG, SZ⟩
     case measure => simp [intOf]; omega
    have hd : decide ((k : Int) < m) = false:=by simpa using hkm
    have hrt:=P4.out.1.rt (by omega)
    have NM:=hide fun vw h0 h1 => specNameOf s vw _ ys w4 (by omega) h0 h1 hrt
    clear hrt
    go_wp2_with fail
    refine (NM.out _ (by omega) (by omega)).mono ?_
    rintro e w5 ⟨rfl, b5⟩
    have hn:=nameAns_len s (view + 1 + q.tdiv 3) ys
    have c5:=P4.out.2.1.grownNew (grown_of_below b5 rfl) (fun j e => by cases e)
    have g5:=grown_new P4.out.2.2 (grown_of_below b5 rfl) (fun j e => by cases e)
    have H5:=hide (And.intro c5 g5)
    clear NM P4 b5 c5 g5
    go_wp2
    go_roundw
    case rel => exact ⟨i + 1, _, _, by omega, by go_num, rfl, by omega, by omega, rfl, by assumption, H5.out.1, H5.out.2⟩
    case measure => simp [intOf]; omega
  have hd : decide ((i : Int) < n) = false:=by simpa using hin
  go_wp2
  go_ret
  exact ⟨_, rfl, hs, P1.out.1, P1.out.2⟩

theorem drawName (base g ca : Nat) (ao : Option Addr) (xs : List Int) (w : World) (hB : base ≤ w.heap.size) (h : Cur w base g ao ca xs) :
 Calls Tryz.prog 97 #[.pointer (some ⟨g, 0, none⟩)] w fun e w' => ∃ s : ByteArray, e = .returned (.string s) ∧ s.size ≤ 8001 ∧ Cur w' base g ao ca xs ∧ w.grownBy w' (some g) := by
 have hlt:=h.lt
 have H0:=hide h
 clear h
 go_enter Tryz.func97, Tryz.ntmps97
 go_wp2_with fail
 refine (once_any base g ca ao xs 20 _ (by omega) (by omega) (by omega) H0.out).mono ?_
 rintro e w1 ⟨b, rfl, c1, e1⟩
 have s1:=e1.size
 have P1:=hide (And.intro c1 e1)
 clear H0 c1 e1
 cases b with
 | true =>
  go_wp2
  go_loopw [3, 4] (fun sv iv wr => ∃ (i : Nat) (s : ByteArray), 1 ≤ i ∧ i ≤ 32 ∧ iv = .int .i64 i ∧ sv = .string s ∧ s.size ≤ i * 8 ∧ Cur wr base g ao ca xs ∧ w.grownBy wr (some g)) (fun _ iv _ => 33 - (intOf iv).toNat)
  case atStart => exact ⟨1, ⟨#[]⟩, by omega, by omega, by go_num, rfl, by decide, P1.out.1, P1.out.2⟩
  case round =>
   clear P1
   obtain ⟨i, s, hi1, hi2, rfl, rfl, hs, hc, hg⟩:=hrel
   have hsz:=hg.size
   have P:=hide (And.intro hc hg)
   clear hc hg
   go_wp2_with fail
   refine (below_any base g ca ao xs 2 _ (by omega) (by omega) (by omega) P.out.1).mono ?_
   rintro e w2 ⟨n, rfl, n0, n1, c2, e2⟩
   have s2:=e2.size
   have P2:=hide (And.intro c2 (grown_trans P.out.2 e2))
   clear P c2 e2
   by_cases hin : (i : Int) ≤ 30 + n
   ·have DG:=hide fun w => specDigits_any (i : Int) w (by omega) (by omega)
    have hd : (⟨(Lib.itoa (i : Int)).toArray⟩ : ByteArray).size ≤ 6:=dg_size (i : Int) (by omega) (by omega)
    generalize (⟨(Lib.itoa (i : Int)).toArray⟩ : ByteArray) = d at *
    obtain ⟨y1, hy1⟩ : ∃ y, y = s ++ (⟨#[47]⟩ : ByteArray):=⟨_, rfl⟩
    obtain ⟨y2, hy2⟩ : ∃ y, y = y1 ++ d:=⟨_, rfl⟩
    obtain ⟨y3, hy3⟩ : ∃ y, y = y2 ++ (⟨#[124]⟩ : ByteArray):=⟨_, rfl⟩
    have z1 : y1.size = s.size + 1:=by rw [hy1, ByteArray.size_append]; rfl
    have z2 : y2.size = y1.size + d.size:=by rw [hy2, ByteArray.size_append]
    have z3 : y3.size = y2.size + 1:=by rw [hy3, ByteArray.size_append]; rfl
    have q1 : ∀ w', (Op.stringOp .add s (⟨#[47]⟩ : ByteArray)).run Tryz.prog w' = .ok (.string y1) w':=(fun w' => by rw [hy1]; exact run_string_add_sum w' _ _ (by show s.size + 1 ≤ _; omega))
    have q2 : ∀ w', (Op.stringOp .add y1 d).run Tryz.prog w' = .ok (.string y2) w':=(fun w' => by rw [hy2]; exact run_string_add_sum w' _ _ (by omega))
    have q3 : ∀ w', (Op.stringOp .add y2 (⟨#[124]⟩ : ByteArray)).run Tryz.prog w' = .ok (.string y3) w':=(fun w' => by rw [hy3]; exact run_string_add_sum w' _ _ (by show y2.size + 1 ≤ _; omega))
    clear hy1 hy2 hy3
    go_wp2_with fail
    refine (DG.out _).mono ?_
    rintro e w3 ⟨rfl, b3⟩
    have c3:=P2.out.1.grownNew (grown_of_below b3 rfl) (fun j e => by cases e)
    have g3:=grown_new P2.out.2 (grown_of_below b3 rfl) (fun j e => by cases e)
    have H3:=hide (And.intro c3 g3)
    clear DG P2 b3 c3 g3
    go_wp2
    go_roundw
    case rel => exact ⟨i + 1, y3, by omega, by omega, by go_num, rfl, by omega, H3.out.1, H3.out.2⟩
    case measure => simp [intOf]; omega
   ·have hd : decide ((i : Int) ≤ 30 + n) = false:=by simpa using hin
    go_wp2
    go_ret
    exact ⟨_, rfl, by omega, P2.out.1, P2.out.2⟩
 | false =>
  go_wp2_with fail
  refine (drawNameR base g ca ao xs _ (by omega) P1.out.1).mono ?_
  rintro e w2 ⟨s, rfl, hs, c2, e2⟩
  have s2:=e2.size
  have P2:=hide (And.intro c2 (grown_trans P1.out.2 e2))
  clear P1 c2 e2
  go_wp2_with fail
  refine (dent_cur base g ca ao xs s _ (by omega) (by omega) P2.out.1).mono ?_
  rintro e w3 ⟨t, rfl, ht, c3, e3⟩
  have P3:=hide (And.intro c3 (grown_trans P2.out.2 e3))
  clear P2 c3 e3
  go_wp2
  go_ret
  exact ⟨_, rfl, ht, P3.out.1, P3.out.2⟩
end
section
open Go.RowKit
theorem step_append_ints {ops : Array Oper} {o : Oper} {a : Act} {w : World} {K : Act → World → Prop} {Q : Exit → Act → World → Prop} {E : Prop} (hgd : o.guard = none) (s x : Operand)
 (ho : o.op = .call { callee := .builtin .append, args := #[s, x], argTypes := #[25, 25] }) (base : Nat) (v u : Value) (xs ys : List Int) (hs : a.eval s = v) (hx : a.eval x = u)
 (hown : OI w base v xs) (hp : PI w u ys) (hl : xs.length + ys.length ≤ 16777216) (hbase : base ≤ w.heap.size)
 (h : ∀ v' w', OI w' base v' (xs ++ ys) → w.grownBy w' v.ownBlock → (v'.ownBlock = v.ownBlock ∨ v'.ownBlock = some w.heap.size) → K (a.put o.dst v') w') :
 if Region.wanted o (yielded ops a.tmps) = true then Oper.wp Tryz.prog o a w K Q else E := by
 have hw : Region.wanted o (yielded ops a.tmps) = true:=by simp [Region.wanted, hgd]
 rw [if_pos hw]
 obtain ⟨i0, hi, hz0, hz1, hz2⟩:=info_parts Tryz.info3
 obtain ⟨ao, cap, rfl, hp⟩:=hp
 match ao, hx with
 | none, hx =>
  have hy : ys = []:=by rcases hp with h | ⟨ad, e, _⟩; exact h; cases e
  subst hy
  have hrun:=run_append_none1 o.type base cap v xs.length (xs.map (Value.int .i64)) w hown
  unfold Oper.wp
  simp only [List.length_nil] at hx
  simp [execOp, ho, resolve, invoke, builtin, hs, hx, hrun, Result.andThen]
  exact h v w (by simpa using hown) (grown_same _ _) (.inl rfl)
 | some ad, hx =>
  have hn : ∀ j u, (ys.map (Value.int .i64))[j]? = some u → w.cell? (ad.add j) = some u:=by
   rcases hp with rfl | ⟨ad', e, h⟩
   ·intro j u hj; simp at hj
   cases e; exact h
  obtain ⟨v', w', hrun, r1, r2, _, r4⟩:=run_append_own_at (P:=Tryz.prog) w base 25 o.type 3 i0 (.int .i64 0) 1 8 Tryz.underlying25 hi hz0 hz1 hz2 rfl (by decide) v xs.length (xs.map (Value.int .i64)) hown ad ys.length cap (ys.map (Value.int .i64)) (by simp) hn (ints_plain64 ys) (by unfold maxLen; omega) (by omega) hbase
  unfold Oper.wp
  simp [execOp, ho, resolve, invoke, builtin, hs, hx, hrun, Result.andThen]
  refine h v' w' ?_ r2 r4
  unfold OI
  rw [List.map_append, List.length_append]
  exact r1
theorem Loc.grown {w w' : World} {r g : Nat} {cs : Array Value} (h : Loc w r cs) (hg : w.grownBy w' (some g)) (hr : r ≠ g) : Loc w' r cs := h.kp (kp_of hg) hr
theorem Loc.grownNew {w w' : World} {r : Nat} {row : Option Nat} {cs : Array Value} (h : Loc w r cs) (hg : w.grownBy w' row) (hr : row ≠ some r) : Loc w' r cs := h.kp (kp_grown hg) hr
theorem OI.drawn {w w' : World} {base g : Nat} {v : Value} {xs : List Int} (h : OI w base v xs) (hg : w.grownBy w' (some g)) (hlt : g < base) : OI w' base v xs :=
 h.grown hg (fun k hk e => by have := World.ownsRow.lt h k hk; cases e; omega)
end
end Go.Proofs.YtjkcphnohhpihaaGreatDoor
