/- Lemmas; their conditions stand in each statement. -/
import Derived.Test.YtjkcphnohhpihaaPDAC
import Derived.Lib.ItoaNum
import Derived.Shelf.Small.Wraps
import Derived.Shelf.Strconv.Clone
set_option maxRecDepth 100000
set_option maxHeartbeats 8000000
set_option linter.unusedSectionVars false
namespace Go.Proofs.Ytjkcphnohhpihaa
section
open Go.ChangeShapes Go.WideShapes Go.ChangeAt Go.RowKit
open Go.Joins
variable [∀ (a b c d : Int), Decidable (Ok4 a b c d)]
variable [∀ (n f : Int), Decidable (COk n f)]
theorem cellsPart : Try.prog.cellsOf 39 = 3 := by kernel_rfl
abbrev Pr := Int × ByteArray × Option Addr × Nat × List Int
def prz : Pr := (0, ⟨#[]⟩, none, 0, [])
def prp (r : Pr) : Pt := (r.1, r.2.1, r.2.2.2.2)
def ATab (W : World) (ao : Option Addr) (rs : List Pr) : Prop :=
 rs = [] ∨ ∃ g off, ao = some ⟨g, off, none⟩ ∧ ∀ k, k < rs.length → W.cell? ⟨g, off + k * 3, none⟩ = some (.int .i64 (rs.getD k prz).1) ∧ W.cell? ⟨g, off + k * 3 + 1, none⟩ = some (.string (rs.getD k prz).2.1) ∧ W.cell? ⟨g, off + k * 3 + 2, none⟩ = some (.slice (rs.getD k prz).2.2.1 (rs.getD k prz).2.2.2.2.length (rs.getD k prz).2.2.2.1)
theorem three_list {α : Type} {l : List α} (h : l.length = 3) : ∃ a b c, l = [a, b, c] := by
 match l, h with
 | [a, b, c], _ => exact ⟨a, b, c, rfl⟩
theorem open_parts0 {H : Type} {enc : TypeId × Value → H} {W : World} {fuel : Nat} {a : Option Addr} {len cap : Nat} {x : DataW H × List MemPlace} (h : DataW.trod enc Try.prog W 0 (fun _ => true) true fuel 22 (Value.slice a len cap).cells.toList = some x) :
 ∃ rs : List Pr, len = rs.length ∧ rs.length ≤ maxLen ∧ ATab W a rs ∧ ∀ r ∈ rs, r.2.1.size ≤ maxLen ∧ r.2.2.2.2.length ≤ maxLen ∧ AIW W r.2.2.1 r.2.2.2.2 ∧ WfL r.2.2.2.2 := by
 rcases Go.Deep.open_slice Try.underlying22 h with ⟨hcs, _⟩ | ⟨ad, l, c, m, n, D, Pl, hcs, _, hl, hm, hmm, _, hx⟩
 ·simp [Value.cells] at hcs
  obtain ⟨rfl, rfl, rfl⟩:=hcs
  exact ⟨[], rfl, by simp, .inl rfl, fun r hr => by simp at hr⟩
 simp [Value.cells] at hcs
 obtain ⟨rfl, rfl, rfl⟩:=hcs
 have hm' : m = cap:=by simpa using hmm
 have each : ∀ i, ∃ q : Pr, i < len → (W.cell? (ad.add (i * 3)) = some (.int .i64 q.1) ∧ W.cell? (ad.add (i * 3 + 1)) = some (.string q.2.1) ∧ W.cell? (ad.add (i * 3 + 2)) = some (.slice q.2.2.1 q.2.2.2.2.length q.2.2.2.1)) ∧ q.2.1.size ≤ maxLen ∧ q.2.2.2.2.length ≤ maxLen ∧ AIW W q.2.2.1 q.2.2.2.2 ∧ WfL q.2.2.2.2:=by
  intro i
  by_cases hi : i < len
  ·obtain ⟨cs', h1, h2⟩:=hx i (by omega)
   rw [cellsPart] at h1
   obtain ⟨_, hlen, hcell⟩:=World.cells?_some h1
   obtain ⟨y0, y1, y2, k, _, _, g0, g1, g2⟩:=Go.Deep.trod_struct3 Try.underlying39 h2
   obtain ⟨v0, v1, v2, rfl⟩:=three_list hlen
   have e0:=hcell 0 (by omega)
   have e1:=hcell 1 (by omega)
   have e2:=hcell 2 (by omega)
   rw [Go.Deep.add_add] at e0 e1 e2
   have ci : Try.prog.cellsOf 3 = 1:=by kernel_rfl
   have cs : Try.prog.cellsOf 9 = 1:=by kernel_rfl
   simp [ci, cs] at g0 g1 g2
   obtain ⟨a0, e0', _, _⟩:=DataW.trod_int Try.underlying3 g0
   obtain ⟨a1, e1', _, hs1⟩:=DataW.trod_string Try.underlying9 g1
   obtain ⟨ao, ca, xs, rfl, hxl, hxc, hxw⟩:=open_listW g2
   simp at e0' e1'
   subst e0' e1'
   exact ⟨(a0, a1, ao, ca, xs), fun _ => ⟨⟨by simpa using e0, by simpa using e1, by simpa using e2⟩, hs1, hxl, hxc, hxw⟩⟩
  exact ⟨prz, fun h => absurd h hi⟩
 obtain ⟨q, hq⟩:=Classical.axiomOfChoice each
 refine ⟨(List.range len).map q, by simp, by simp; omega, ?_, fun r hr => ?_⟩
 ·by_cases h0 : len = 0
  ·left; simp [h0]
  right
  obtain ⟨b, off, spot⟩:=ad
  have hc:=(hq 0 (by omega)).1.1
  have hspot : spot = none:=by simpa [Addr.add] using World.cell?_spot hc
  subst hspot
  refine ⟨b, off, rfl, fun k hk => ?_⟩
  rw [List.length_map, List.length_range] at hk
  have:=(hq k hk).1
  have ea : ∀ j, ((⟨b, off, none⟩ : Addr).add j) = ⟨b, off + j, none⟩:=fun j => by unfold Addr.add; split <;> simp_all
  rw [ea, ea, ea] at this
  have eg : ((List.range len).map q).getD k prz = q k:=by simp [hk]
  rw [eg]
  simpa [Nat.add_assoc] using this
 obtain ⟨j, hj, rfl⟩:=List.mem_map.1 hr
 exact (hq j (List.mem_range.1 hj)).2
theorem open_parts {H : Type} {enc : TypeId × Value → H} {W : World} {base : Nat} {v : Value} {d : DataW H} {p : List MemPlace} (hv : Value.okWide Try.prog W .any base 22 v)
 (h : DataW.Trod enc Try.prog W 0 (fun _ => true) true 22 v d p) : ∃ al cl, ∃ rs : List Pr, v = .slice al rs.length cl ∧ rs.length ≤ maxLen ∧ ATab W al rs ∧ ∀ r ∈ rs, r.2.1.size ≤ maxLen ∧ r.2.2.2.2.length ≤ maxLen ∧ AIW W r.2.2.1 r.2.2.2.2 ∧ WfL r.2.2.2.2 := by
 obtain ⟨a, len, cap, rfl⟩:=okWide_slice Try.underlying22 hv
 obtain ⟨fuel, hf⟩:=h
 obtain ⟨rs, rfl, hm, hr, he⟩:=open_parts0 hf
 exact ⟨a, cap, rs, rfl, hm, hr, he⟩
theorem ATab.rpt {W : World} {ao : Option Addr} {ca : Nat} {rs : List Pr} (h : ATab W ao rs) (he : ∀ r ∈ rs, AIW W r.2.2.1 r.2.2.2.2) (hl : ∀ r ∈ rs, r.2.2.2.2.length ≤ 4194304) : RPt W (.slice ao rs.length ca) (rs.map prp) := by
 refine ⟨ao, ca, by simp, ?_⟩
 rcases h with rfl | ⟨g, off, rfl, h⟩
 ·exact .inl rfl
 refine .inr ⟨g, off, rfl, fun k hk => ?_⟩
 rw [List.length_map] at hk
 have hm : rs.getD k prz ∈ rs:=by rw [List.getD_eq_getElem?_getD, List.getElem?_eq_getElem hk]; exact List.getElem_mem hk
 have e : (rs.map prp).getD k zpt = prp (rs.getD k prz):=by simp [List.getElem?_eq_getElem hk]
 obtain ⟨c0, c1, c2⟩:=h k hk
 rw [e]
 exact ⟨_, c0, c1, c2, (he _ hm).ri (hl _ hm)⟩
end
section
open Go.RowKit
variable [∀ (a b c d : Int), Decidable (Ok4 a b c d)]
variable [∀ (n f : Int), Decidable (COk n f)]
theorem eqPartS_yes (v u : Value) (ps : List Pt) (w : World) (hl : ps.length ≤ 4194304) (hv : RPt w v ps) (hu : RPt w u ps) :
 Calls Try.prog 9 #[v, u] w fun e w' => e = .returned (.bool true) ∧ Below w.heap.size w w' := by
 obtain ⟨ao, ca, rfl, ha⟩:=hv
 obtain ⟨bo, cb, rfl, hb⟩:=hu
 obtain ⟨n, hn⟩ : ∃ n, ps.length = n:=⟨_, rfl⟩
 have Hn:=hide hn
 rw [hn] at hl ha hb ⊢
 clear hn
 go_enter Try.func9, Try.ntmps9
 go_wp2
 go_loopw [5] (fun i wr => ∃ k : Nat, k ≤ n ∧ i = .int .i64 k ∧ Below w.heap.size w wr) (fun i _ => n - (intOf i).toNat)
 case atStart => exact ⟨0, Nat.zero_le _, rfl, Below.refl _ _⟩
 case round =>
  obtain ⟨k, hk, rfl, br⟩:=hrel
  have hsr:=br.size
  by_cases hlt : k < n
  ·rcases ha with ha | ⟨g, o, rfl, ha⟩
   ·subst ha; have := Hn.out; simp at this; omega
   rcases hb with hb | ⟨g', o', rfl, hb⟩
   ·subst hb; have := Hn.out; simp at this; omega
   obtain ⟨p, a0, a1, a2, ra⟩:=ha k hlt
   obtain ⟨q, b0, b1, b2, rb⟩:=hb k hlt
   have hg : g < w.heap.size:=cell_lt a0
   have hg' : g' < w.heap.size:=cell_lt b0
   generalize (ps.getD k zpt).1 = m at *
   generalize (ps.getD k zpt).2.1 = s at *
   generalize (ps.getD k zpt).2.2 = xs at *
   have K : Hid (∀ w', Below wr.heap.size wr w' → Below wr.heap.size wr w' ∧ (w'.cell? ⟨g, o + k * 3, none⟩ = some (.int .i64 m) ∧ w'.cell? ⟨g, o + k * 3 + 1, none⟩ = some (.string s) ∧ w'.cell? ⟨g, o + k * 3 + 2, none⟩ = some p) ∧ (w'.cell? ⟨g', o' + k * 3, none⟩ = some (.int .i64 m) ∧ w'.cell? ⟨g', o' + k * 3 + 1, none⟩ = some (.string s) ∧ w'.cell? ⟨g', o' + k * 3 + 2, none⟩ = some q)):=fun w' hb' => by
    have hw:=br.trans (hb'.mono hsr)
    exact ⟨hb', ⟨(hw.cell (p := ⟨g, o + k * 3, none⟩) hg).trans a0, (hw.cell (p := ⟨g, o + k * 3 + 1, none⟩) hg).trans a1, (hw.cell (p := ⟨g, o + k * 3 + 2, none⟩) hg).trans a2⟩, ⟨(hw.cell (p := ⟨g', o' + k * 3, none⟩) hg').trans b0, (hw.cell (p := ⟨g', o' + k * 3 + 1, none⟩) hg').trans b1, (hw.cell (p := ⟨g', o' + k * 3 + 2, none⟩) hg').trans b2⟩⟩
   have EQ : Hid (∀ w', Below wr.heap.size wr w' → Calls Try.prog 23 #[qv m s p, qv m s q] w' fun e w'' => e = .returned (.bool true) ∧ Below w'.heap.size w' w''):=hide fun w' hb' => by
    have hw:=br.trans (hb'.mono hsr)
    exact eqPart_yes m s p q xs w' (ra.below hw) (rb.below hw)
   obtain ⟨pa, pc, rfl⟩:=ra.form
   obtain ⟨qa, qc, rfl⟩:=rb.form
   have bA : Below wr.heap.size wr wr.drew:=Below.drew (Below.refl _ _)
   have hKeep:=K.out _ bA
   clear ha hb a0 a1 a2 b0 b1 b2 ra rb
   generalize xs.length = xl at *
   go_wp2_with fail
   first | go_region_held3 (fun w' => Below wr.heap.size wr w' ∧ (w'.cell? ⟨g, o + k * 3, none⟩ = some (.int .i64 m) ∧ w'.cell? ⟨g, o + k * 3 + 1, none⟩ = some (.string s) ∧ w'.cell? ⟨g, o + k * 3 + 2, none⟩ = some (.slice pa xl pc)) ∧ (w'.cell? ⟨g', o' + k * 3, none⟩ = some (.int .i64 m) ∧ w'.cell? ⟨g', o' + k * 3 + 1, none⟩ = some (.string s) ∧ w'.cell? ⟨g', o' + k * 3 + 2, none⟩ = some (.slice qa xl qc))) (exact hKeep) (first
    | (go_at_call 23; have hgo := bA; refine (EQ.out _ bA).mono ?_; rintro e wa ⟨rfl, ba⟩
       have bB : Below wr.heap.size wr wa:=bA.trans ba
       have hKeep:=K.out _ bB; clear bA hgo)) | fail
   all_goals
    go_wp2
    go_roundw
    case rel => exact ⟨k + 1, by omega, by go_num, br.trans (bB.mono hsr)⟩
    case measure => simp [intOf]; omega
  have hkn : k = n:=by omega
  subst hkn
  clear ha hb
  go_wp2
  go_ret
  exact ⟨rfl, br⟩

def psum : List Pr → Nat
 | [] => 0
 | r :: rs => r.2.1.size + r.2.2.2.2.length + psum rs
theorem psum_snoc (rs : List Pr) (r : Pr) : psum (rs ++ [r]) = psum rs + (r.2.1.size + r.2.2.2.2.length) := by
 induction rs with
 | nil => simp [psum]
 | cons x rs ih => simp only [List.cons_append, psum, ih]; omega
theorem psum_take (rs : List Pr) (k : Nat) (hk : k < rs.length) : psum (rs.take (k + 1)) = psum (rs.take k) + ((rs.getD k prz).2.1.size + (rs.getD k prz).2.2.2.2.length) := by
 rw [List.take_succ_eq_append_getElem hk, psum_snoc]
 simp [List.getElem?_eq_getElem hk]
theorem psum_le (rs : List Pr) (k : Nat) : psum (rs.take k) ≤ psum rs := by
 induction rs generalizing k with
 | nil => simp [psum]
 | cons r rs ih =>
  cases k with
  | zero => simp [psum]
  | succ k => simp only [List.take_succ_cons, psum]; have := ih k; omega

theorem szPartS_yes (al : Option Addr) (cl : Nat) (rs : List Pr) (left : Int) (w : World) (h : ATab w al rs) (hs : (rs.length : Int) + psum rs ≤ left) (hl : left ≤ 1048576) :
 Calls Try.prog 5 #[.slice al rs.length cl,.int .i64 left] w fun e w' => e = .returned (.int .i64 (left - rs.length - psum rs)) ∧ Below w.heap.size w w' := by
 obtain ⟨n, hn⟩ : ∃ n, rs.length = n:=⟨_, rfl⟩
 have Hn:=hide hn
 have H:=hide h
 rw [hn] at hs ⊢
 clear hn h
 have hd0 : decide (left - (n : Int) < 0) = false:=by simp; omega
 go_enter Try.func5, Try.ntmps5
 go_wp2
 go_loopw [1, 5] (fun a i wr => ∃ k : Nat, k ≤ n ∧ i = .int .i64 k ∧ a = .int .i64 (left - n - (psum (rs.take k) : Nat)) ∧ Below w.heap.size w wr) (fun _ i _ => n - (intOf i).toNat)
 case atStart => exact ⟨0, Nat.zero_le _, rfl, by simp [psum], Below.refl _ _⟩
 case round =>
  obtain ⟨k, hk, rfl, rfl, br⟩:=hrel
  have hp:=psum_le rs k
  by_cases hlt : k < n
  ·have hkx : k < rs.length:=by have:=Hn.out; omega
   have hp1:=psum_le rs (k + 1)
   have hps:=psum_take rs k hkx
   have HP1:=hide hps
   rw [hps] at hp1
   clear hps
   rcases H.out with h | ⟨g, off, rfl, h⟩
   ·subst h; simp at hkx
   obtain ⟨c0, c1, c2⟩:=h k hkx
   have hg : g < w.heap.size:=cell_lt c0
   replace c0:=(br.cell (p:=⟨g, off + k * 3, none⟩) hg).trans c0
   replace c1:=(br.cell (p:=⟨g, off + k * 3 + 1, none⟩) hg).trans c1
   replace c2:=(br.cell (p:=⟨g, off + k * 3 + 2, none⟩) hg).trans c2
   clear h H
   generalize (rs.getD k prz).1 = m at *
   generalize (rs.getD k prz).2.1 = s at *
   generalize (rs.getD k prz).2.2.2.2.length = x at *
   generalize (rs.getD k prz).2.2.1 = ao at *
   generalize (rs.getD k prz).2.2.2.1 = ca at *
   generalize psum (rs.take k) = q at *
   have SZ:=hide fun w => szPart_yes m s ao x ca (left - n - q) w (by omega) (by omega)
   have hd1 : decide (left - (n : Int) - (q : Int) - (s.size : Int) - (x : Int) < 0) = false:=by simp; omega
   go_wp2_with fail
   refine (SZ.out _).mono ?_
   rintro e w1 ⟨rfl, b1⟩
   have B1:=bu br b1
   clear c0 c1 c2 SZ b1
   go_wp2
   go_roundw
   case rel => exact ⟨k + 1, by omega, by go_num, by rw [HP1.out]; simp; omega, B1⟩
   case measure => simp [intOf]; omega
  have hkn : rs.take k = rs:=List.take_of_length_le (by have:=Hn.out; omega)
  rw [hkn]
  clear hp
  go_wp2
  go_ret
  exact ⟨rfl, br⟩
theorem made_pcells (n : Nat) : (madeCells (qv 0 ⟨#[]⟩ (.slice none 0 0)).cells (n * 3)).toList = pcells (List.replicate n ((0, ⟨#[]⟩),.slice none 0 0)) := by
 apply List.ext_getElem?
 intro i
 by_cases hi : i < n * 3
 ·have h:=pcells_get (List.replicate n ((0, ⟨#[]⟩),.slice none 0 0)) (i / 3) (i % 3) (by simp; omega) (by omega)
  rw [show i / 3 * 3 + i % 3 = i by omega] at h
  have hr : (List.replicate n (((0 : Int), (⟨#[]⟩ : ByteArray)), Value.slice none 0 0)).getD (i / 3) ((0, ⟨#[]⟩),.slice none 0 0) = ((0, ⟨#[]⟩),.slice none 0 0):=by simp [show i / 3 < n by omega]
  rw [h, hr]
  have hc : (qv 0 ⟨#[]⟩ (.slice none 0 0)).cells = #[.int .i64 0,.string ⟨#[]⟩,.slice none 0 0]:=by rfl
  rw [hc]
  have h3 : i % 3 = 0 ∨ i % 3 = 1 ∨ i % 3 = 2:=by omega
  have he : (madeCells #[Value.int .i64 0,.string ⟨#[]⟩,.slice none 0 0] (n * 3)).toList[i]? = some (#[Value.int .i64 0,.string ⟨#[]⟩,.slice none 0 0][i % 3]!):=by
   simp [madeCells, hi]
  rw [he]
  rcases h3 with e | e | e <;> rw [e] <;> rfl
 rw [List.getElem?_eq_none (by rw [Array.length_toList, size_madeCells]; omega), List.getElem?_eq_none (by rw [pcells_len]; simp; omega)]
theorem opt_zero {w : World} {base n : Nat} {v : Value} (h : w.ownsRow base 36 3 v n (pcells (List.replicate n ((0, ⟨#[]⟩),.slice none 0 0)))) : OPtV w base v (List.replicate n zpt) (List.replicate n (.slice none 0 0)) := by
 refine ⟨by simp, ?_, fun k hk => ?_, fun i j hij hj b hb => ?_⟩
 ·rw [List.length_replicate, List.map_replicate, List.zip_replicate']
  exact h
 ·rw [List.length_replicate] at hk
  have e1 : (List.replicate n (Value.slice none 0 0)).getD k (.slice none 0 0) = .slice none 0 0:=by simp [hk]
  have e2 : (List.replicate n zpt).getD k zpt = zpt:=by simp [hk]
  rw [e1, e2]
  exact World.ownsRow_nil _ _ _ _
 rw [List.length_replicate] at hj
 have e1 : (List.replicate n (Value.slice none 0 0)).getD i (.slice none 0 0) = .slice none 0 0:=by simp [show i < n by omega]
 rw [e1] at hb
 simp [Value.ownBlock] at hb
def pthalf (ps : List Pt) (k : Nat) : List Pt := ps.take k ++ List.replicate (ps.length - k) zpt
theorem pthalf_len (ps : List Pt) (k : Nat) (h : k ≤ ps.length) : (pthalf ps k).length = ps.length := by simp [pthalf]; omega
theorem pthalf_set (ps : List Pt) (k : Nat) (h : k < ps.length) : (pthalf ps k).set k (ps.getD k zpt) = pthalf ps (k + 1) := by
 have e : ps.length - k = (ps.length - (k + 1)) + 1:=by omega
 have hk : (ps.take k).length = k:=by simp; omega
 unfold pthalf
 rw [List.take_succ_eq_append_getElem h, e, List.replicate_succ, List.set_append_right _ _ (by omega), hk, Nat.sub_self, List.set_cons_zero, List.append_assoc, List.getD_eq_getElem?_getD, List.getElem?_eq_getElem h]
 rfl

theorem toPartS_any (v : Value) (ps : List Pt) (w : World) (hl : ps.length ≤ 1048577) (h : RPt w v ps) :
 Calls Try.prog 7 #[v] w fun e w' => ∃ u, e = .returned u ∧ OPt w' w.heap.size u ps ∧ Below w.heap.size w w' := by
 obtain ⟨i0, hi, hz0, hz1, hz2⟩:=info_parts Try.infoPt
 obtain ⟨ao, ca, rfl⟩:=h.form
 have H:=hide h
 obtain ⟨n, hn⟩ : ∃ n, ps.length = n:=⟨_, rfl⟩
 have Hn:=hide hn
 rw [hn] at hl H ⊢
 clear h hn
 go_enter Try.func7, Try.ntmps7
 go_wp2_with (first | (at_make; refine wpList_make_full _ rfl _ _ 24 rfl w.heap.size 36 i0 (qv 0 ⟨#[]⟩ (.slice none 0 0)) 3 Try.underlying24 hi hz0 hz1 .i64 .i64 _ _ n rfl rfl rfl rfl (by rw [hz2]; omega) (by unfold maxLen; omega) (Nat.le_refl _) ?_; intro w0 ho0 hg0))
 have T0 : OPtV w0 w.heap.size (.slice (some ⟨w.heap.size, 0, none⟩) n n) (pthalf ps 0) (List.replicate n (.slice none 0 0)):=by
  rw [made_pcells] at ho0
  have:=opt_zero ho0
  simpa [pthalf, Hn.out] using this
 have B0 : Below w.heap.size w w0:=(Below.refl _ _).grown hg0 (Nat.le_refl _) (by simp)
 clear ho0 hg0 hz0 hz1 hz2 hi
 go_loopw [4] (fun i wr => ∃ (k : Nat) (vs : List Value), k ≤ n ∧ i = .int .i64 k ∧ OPtV wr w.heap.size (.slice (some ⟨w.heap.size, 0, none⟩) n n) (pthalf ps k) vs ∧ Below w.heap.size w wr) (fun i _ => n - (intOf i).toNat)
 case atStart => exact ⟨0, _, Nat.zero_le _, rfl, T0, B0⟩
 case round =>
  clear T0
  obtain ⟨k, vs, hk, rfl, T, br⟩:=hrel
  by_cases hlt : k < n
  ·have hkx : k < ps.length:=by have:=Hn.out; omega
   have hlen:=pthalf_len ps k (by omega)
   have HR:=H.out.below br
   obtain ⟨g, off, u, rfl, c0, c1, c2, ru⟩:=HR.at k hkx
   have HS:=hide (pthalf_set ps k hkx)
   obtain ⟨x, hx⟩ : ∃ x, ps.getD k zpt = x:=⟨_, rfl⟩
   rw [hx] at c0 c1 ru HS
   clear hx
   obtain ⟨m, s, xs⟩:=x
   simp only at c0 c1 ru
   have TP:=hide fun w h => toPart_any m s u xs w h
   obtain ⟨ua, uc, rfl⟩:=ru.form
   have RU:=hide ru
   have HT:=hide T
   generalize xs.length = xl at *
   clear HR H ru T
   go_wp2_with fail
   refine (TP.out _ RU.out).mono ?_
   rintro e w2 ⟨u2, rfl, o2, b2⟩
   have T2:=HT.out.below b2
   have B2:=bu br b2
   have lt2:=World.ownsRow.lt o2
   have hrow:=T2.row
   rw [hlen, Hn.out] at hrow
   have hplen : (pcells (((pthalf ps k).map phd).zip vs)).length = n * 3:=by rw [pcells_len]; simp [T2.len, hlen, Hn.out]
   have gt : ∀ j, j < n * 3 → ∃ u, w2.cell? ⟨w.heap.size, j, none⟩ = some u:=fun j hj => ⟨_, (hrow.cellAt j hj).trans (List.getElem?_eq_getElem (by rw [hplen]; exact hj))⟩
   obtain ⟨y0, d0⟩:=gt (k * 3) (by omega)
   obtain ⟨y1, d1⟩:=gt (k * 3 + 1) (by omega)
   obtain ⟨y2, d2⟩:=gt (k * 3 + 2) (by omega)
   have f0:=hrow.frozenAt (k * 3)
   have f1:=hrow.frozenAt (k * 3 + 1)
   have f2:=hrow.frozenAt (k * 3 + 2)
   have R:=hide (show OPtV (((w2.setCell ⟨w.heap.size, k * 3, none⟩ (.int .i64 m)).setCell ⟨w.heap.size, k * 3 + 1, none⟩ (.string s)).setCell ⟨w.heap.size, k * 3 + 2, none⟩ u2) w.heap.size (.slice (some ⟨w.heap.size, 0, none⟩) n n) (pthalf ps (k + 1)) (vs.set k u2) by
    have T3:=T2
    have en : n = (pthalf ps k).length:=by rw [hlen, Hn.out]
    rw [← HS.out]
    have:=opt_set (m:=m) (s:=s) (u:=u2) (xs:=xs) (k:=k) (cap:=n) (g:=w.heap.size) (w:=w2) (base:=w.heap.size) (ps:=pthalf ps k) (vs:=vs) (by rw [← en]; exact T3) (by rw [hlen]; exact hkx) (OI.mono o2 br.size) (fun j hj _ b hb e => by
     have h1:=World.ownsRow.lt (HT.out.each j hj) b hb
     have h2:=lt2 b e
     omega)
    rw [← en] at this
    exact this)
   have BR:=hide (((B2.setCell (p:=⟨w.heap.size, k * 3, none⟩) (Nat.le_refl _) (.int .i64 m)).setCell (p:=⟨w.heap.size, k * 3 + 1, none⟩) (Nat.le_refl _) (.string s)).setCell (p:=⟨w.heap.size, k * 3 + 2, none⟩) (Nat.le_refl _) u2)
   obtain ⟨va, vc, rfl⟩:=o2.form
   generalize xs.length = zl at *
   clear T2 B2 hrow hplen gt o2 lt2 HT TP RU c0 c1 c2
   go_wp2
   go_roundw
   case rel => exact ⟨k + 1, _, by omega, by go_num, R.out, BR.out⟩
   case measure => simp [intOf]; omega
  have hkn : pthalf ps k = ps:=by
   have:=Hn.out
   unfold pthalf
   rw [List.take_of_length_le (by omega), show ps.length - k = 0 by omega]
   simp
  rw [hkn] at T
  have T':=hide T
  clear T hkn H
  go_wp2
  go_ret
  exact ⟨_, rfl, ⟨_, T'.out⟩, br⟩
end
section
open Go.RowKit
theorem one_str (w : World) (c : Int) : (convert 30 9 (.slice (some ⟨w.heap.size, 0, none⟩) 1 1)).run Try.prog (w.alloc (.cells #[.int .u8 c] 5)) = .ok (.string (strOfNums [c])) (w.alloc (.cells #[.int .u8 c] 5)) := by
 refine run_convert_bytes_arg (P := Try.prog) _ 30 5 Try.underlying30 Try.underlying5 w.heap.size 0 1 1 [c] rfl (fun i hi => ?_) 9 Try.underlying9
 obtain rfl : i = 0:=by omega
 simp
end
section

def rest (m : Nat) : List UInt8 := if m = 0 then [] else Lib.decDigits m
theorem rest_step (m : Nat) (h : m ≠ 0) : rest m = rest (m / 10) ++ [UInt8.ofNat (48 + m % 10)] := by
 by_cases h10 : m < 10
 ·have e : m / 10 = 0:=by omega
  rw [rest, if_neg h, Lib.decDigits, dif_pos h10, e, rest, if_pos rfl, Nat.mod_eq_of_lt h10]; rfl
 have e : m / 10 ≠ 0:=by omega
 rw [rest, if_neg h, Lib.decDigits, dif_neg h10, rest, if_neg e]
def DAt (n m : Nat) (t : List UInt8) : Prop := rest m ++ t = rest n ∧ t.length ≤ 20 ∧ m < 10 ^ (20 - t.length)
theorem dat_start (n : Nat) (h : n ≤ 9223372036854775808) : DAt n n [] := ⟨by simp, by simp, by simp; omega⟩
theorem dat_step {n m : Nat} {t : List UInt8} (h : DAt n m t) (h0 : m ≠ 0) : DAt n (m / 10) (UInt8.ofNat (48 + m % 10) :: t) ∧ t.length ≤ 19 := by
 obtain ⟨h1, h2, h3⟩:=h
 have hl : t.length ≤ 19:=by
  by_cases e : t.length = 20
  ·rw [e] at h3; simp at h3; omega
  omega
 refine ⟨⟨?_, by simp; omega, ?_⟩, hl⟩
 ·rw [rest_step m h0] at h1; simpa using h1
 have e : 20 - t.length = (20 - (t.length + 1)) + 1:=by omega
 rw [e, Nat.pow_succ] at h3
 simp only [List.length_cons]
 exact Nat.div_lt_of_lt_mul (by rw [Nat.mul_comm]; exact h3)
theorem dat_end {n : Nat} {t : List UInt8} (h : DAt n 0 t) (hn : n ≠ 0) : t = Lib.decDigits n := by
 have:=h.1
 rwa [rest, if_pos rfl, List.nil_append, rest, if_neg hn] at this

theorem one_more (k : Nat) (t : List UInt8) (h : k < 10) : strOfNums [48 + (k : Int)] ++ (⟨t.toArray⟩ : ByteArray) = ⟨(UInt8.ofNat (48 + k) :: t).toArray⟩ := by
 have e : (48 + (k : Int)).toNat = 48 + k:=by omega
 apply ByteArray.ext
 apply Array.toList_inj.1
 simp [strOfNums, e]
theorem one_size (c : Int) : (strOfNums [c]).size = 1 := rfl
end
section
open Go.RowKit
def markT (k : Nat) : ByteArray := ⟨(109 :: Lib.decDigits k).toArray⟩

theorem markText_any (n : Nat) (w : World) (hn : 0 < n) (hm : n ≤ 9223372036854775807) :
 Calls Try.prog 24 #[.int .i64 n] w fun e w' => e = .returned (.string (markT n)) ∧ Below w.heap.size w w' := by
 have hcv:=one_str
 have hsz:=one_size
 go_enter Try.func24, Try.ntmps24
 go_wp2
 go_loopw [0, 3] (fun x s wr => ∃ (m : Nat) (t : List UInt8), m ≤ 9223372036854775807 ∧ DAt n m t ∧ x = .int .i64 m ∧ s = .string ⟨t.toArray⟩ ∧ Below w.heap.size w wr) (fun x _ _ => (intOf x).toNat)
 case atStart => exact ⟨n, [], hm, dat_start n (by omega), rfl, rfl, Below.refl _ _⟩
 case round =>
  obtain ⟨m, t, hm', hd, rfl, rfl, hb⟩:=hrel
  have ht20:=hd.2.1
  by_cases h0 : m = 0
  ·subst h0
   have HE:=hide (dat_end hd (by omega))
   clear hd
   go_wp2
   go_ret
   have HE':=HE.out
   subst HE'
   exact ⟨by apply congrArg Ending.returned; apply congrArg Value.string; apply ByteArray.ext; apply Array.toList_inj.1; simp [markT], hb⟩
  have hpos : 0 < m:=by omega
  obtain ⟨hd', hl⟩:=dat_step hd h0
  have HD:=hide hd'
  clear hd hd'
  have hs0:=hb.size
  have hmo:=one_more (m % 10) t (by omega)
  have hbl : Below w.heap.size w (wr.alloc (.cells #[.int .u8 (48 + (m : Int) % 10)] 5)):=hb.alloc hs0 _
  go_wp2
  go_roundw
  case rel => exact ⟨m / 10, _, by omega, HD.out, by go_num, by rw [← hmo]; rfl, hbl⟩
  case measure => simp [intOf]; omega
end
section
open Go.RowKit
variable [∀ (a b c d : Int), Decidable (Ok4 a b c d)]
variable [∀ (n f : Int), Decidable (COk n f)]
def pmk : Nat → List Pt → List Pt
 | _, [] => []
 | k, p :: ps => ((k : Int), markT (k + 1), imarks (k + 2) p.2.2.length) :: pmk (k + 2 + p.2.2.length) ps
def pend : Nat → List Pt → Nat
 | k, [] => k
 | k, p :: ps => pend (k + 2 + p.2.2.length) ps
theorem pmk_len (k : Nat) (ps : List Pt) : (pmk k ps).length = ps.length := by
 induction ps generalizing k with
 | nil => rfl
 | cons p ps ih => simp [pmk, ih]
theorem pmk_snoc (k : Nat) (ps : List Pt) (p : Pt) : pmk k (ps ++ [p]) = pmk k ps ++ [((pend k ps : Int), markT (pend k ps + 1), imarks (pend k ps + 2) p.2.2.length)] ∧ pend k (ps ++ [p]) = pend k ps + 2 + p.2.2.length := by
 induction ps generalizing k with
 | nil => exact ⟨rfl, rfl⟩
 | cons x ps ih => simp only [List.cons_append, pmk, pend, (ih _).1, (ih _).2]; exact ⟨trivial, trivial⟩
theorem pend_take (k0 : Nat) (ps : List Pt) (k : Nat) (hk : k < ps.length) : pend k0 (ps.take (k + 1)) = pend k0 (ps.take k) + 2 + (ps.getD k zpt).2.2.length := by
 rw [List.take_succ_eq_append_getElem hk, (pmk_snoc _ _ _).2]
 simp [List.getElem?_eq_getElem hk]
theorem pend_ge (k0 : Nat) (ps : List Pt) : k0 ≤ pend k0 ps := by
 induction ps generalizing k0 with
 | nil => exact Nat.le_refl _
 | cons p ps ih => have := ih (k0 + 2 + p.2.2.length); simp only [pend]; omega
theorem pend_le (k0 : Nat) (ps : List Pt) (k : Nat) : pend k0 (ps.take k) ≤ pend k0 ps := by
 induction ps generalizing k0 k with
 | nil => simp [pend]
 | cons p ps ih =>
  cases k with
  | zero => simp only [List.take_zero, pend]; have := pend_ge (k0 + 2 + p.2.2.length) ps; omega
  | succ k => simp only [List.take_succ_cons, pend]; exact ih _ _
def pmix (k0 k : Nat) (ps : List Pt) : List Pt := pmk k0 (ps.take k) ++ ps.drop k
theorem pmix_len (k0 k : Nat) (ps : List Pt) (h : k ≤ ps.length) : (pmix k0 k ps).length = ps.length := by
 simp [pmix, pmk_len]; omega
theorem pmix_get (k0 k : Nat) (ps : List Pt) (h : k < ps.length) : (pmix k0 k ps).getD k zpt = ps.getD k zpt := by
 have hl : (pmk k0 (ps.take k)).length = k:=by rw [pmk_len]; simp; omega
 unfold pmix
 rw [List.getD_eq_getElem?_getD, List.getElem?_append_right (by omega), hl, Nat.sub_self, List.getElem?_drop, Nat.add_zero, ← List.getD_eq_getElem?_getD]
theorem pmix_set (k0 k : Nat) (ps : List Pt) (h : k < ps.length) : (pmix k0 k ps).set k ((pend k0 (ps.take k) : Int), markT (pend k0 (ps.take k) + 1), imarks (pend k0 (ps.take k) + 2) (ps.getD k zpt).2.2.length) = pmix k0 (k + 1) ps := by
 have hl : (pmk k0 (ps.take k)).length = k:=by rw [pmk_len]; simp; omega
 unfold pmix
 rw [List.set_append_right _ _ (by omega), hl, Nat.sub_self, List.drop_eq_getElem_cons h, List.set_cons_zero, List.take_succ_eq_append_getElem h, (pmk_snoc _ _ _).1, List.append_assoc]
 simp [List.getElem?_eq_getElem h]

theorem markPartS_any (lo hi : Nat) (v : Value) (ps : List Pt) (vs : List Value) (k0 : Nat) (w : World) (hn : ps.length ≤ 4194304) (hw : ∀ p ∈ ps, p.2.2.length ≤ 4194304) (hp : pend k0 ps ≤ 100000000) (h : OPR w lo hi v ps vs) :
 Calls Try.prog 10 #[v,.int .i64 k0] w fun e w' => e = .returned (.int .i64 (pend k0 ps)) ∧ OPR w' lo hi v (pmk k0 ps) vs ∧ Kp w w' (fun b => lo ≤ b ∧ b < hi) := by
 obtain ⟨va, vc, rfl⟩:=OPt.form ⟨vs, h.tab⟩
 obtain ⟨n, hn'⟩ : ∃ n, ps.length = n:=⟨_, rfl⟩
 have Hn:=hide hn'
 have HW:=hide hw
 rw [hn'] at hn h ⊢
 have HS:=hide h
 clear hw h hn'
 go_enter Try.func10, Try.ntmps10
 go_wp2
 go_loopw [1, 5] (fun c i wr => ∃ k : Nat, k ≤ n ∧ i = .int .i64 k ∧ c = .int .i64 ((pend k0 (ps.take k) : Nat) : Int) ∧ OPR wr lo hi (.slice va n vc) (pmix k0 k ps) vs ∧ Kp w wr (fun b => lo ≤ b ∧ b < hi)) (fun _ i _ => n - (intOf i).toNat)
 case atStart => exact ⟨0, Nat.zero_le _, rfl, by simp [pend], by simpa [pmix, pmk] using HS.out, Kp.refl _ _⟩
 case round =>
  clear HS
  obtain ⟨k, hk, rfl, rfl, os, kr⟩:=hrel
  have hpk:=pend_le k0 ps k
  by_cases hlt : k < n
  ·have hkx : k < ps.length:=by have:=Hn.out; omega
   have hlen : (pmix k0 k ps).length = n:=by rw [pmix_len k0 k ps (by omega)]; exact Hn.out
   have hge:=pmix_get k0 k ps hkx
   have hse:=pmix_set k0 k ps hkx
   have hpt:=pend_take k0 ps k hkx
   have hpk1:=pend_le k0 ps (k + 1)
   have hxl:=HW.out _ (pt_mem hkx)
   have hkl : k < (pmix k0 k ps).length:=by omega
   obtain ⟨g, rfl⟩ : ∃ g, va = some ⟨g, 0, none⟩:=by
    rcases os.tab.row.2 with ⟨e, h0⟩ | ⟨g, cap, cur, e, _⟩
    ·omega
    injection e with e1 e2 e3; exact ⟨g, e1⟩
   have hrow:=os.tab.row
   rw [hlen] at hrow
   have hglo:=(World.ownsRow.lt hrow g rfl).1
   have hghi:=os.rowHi g rfl
   have hplen : (pcells (((pmix k0 k ps).map phd).zip vs)).length = n * 3:=by rw [pcells_len]; simp [os.tab.len, hlen]
   have hou:=os.tab.each k hkl
   have huh:=os.eachHi k hkl
   have hne : (vs.getD k (.slice none 0 0)).ownBlock ≠ some g:=pt_oi os.tab.row hou g rfl
   have hzl : ((pmix k0 k ps).map phd).zip vs = ((pmix k0 k ps).map phd).zip vs:=rfl
   have c2 : wr.cell? ⟨g, k * 3 + 2, none⟩ = some (vs.getD k (.slice none 0 0)):=by
    have:=hrow.cellAt (k * 3 + 2) (by omega)
    rw [pcells_get _ k _ (by simp [os.tab.len]; omega) (by omega), pzip_get _ vs os.tab.len k hkl] at this
    exact this
   rw [hge] at hou
   generalize (ps.getD k zpt).2.2 = xs at *
   generalize hqe : pend k0 (ps.take k) = q at *
   obtain ⟨u, hu⟩ : ∃ u, vs.getD k (.slice none 0 0) = u:=⟨_, rfl⟩
   have HU:=hide hu
   rw [hu] at hou huh hne c2
   obtain ⟨y0, d0⟩ : ∃ y, wr.cell? ⟨g, k * 3, none⟩ = some y:=⟨_, (hrow.cellAt (k * 3) (by omega)).trans (List.getElem?_eq_getElem (by rw [hplen]; omega))⟩
   have f0:=hrow.frozenAt (k * 3)
   obtain ⟨w1, hw1⟩ : ∃ y, wr.setCell ⟨g, k * 3, none⟩ (.int .i64 (q : Int)) = y:=⟨_, rfl⟩
   have k1 : Kp wr w1 (fun b => b = g):=hw1 ▸ set_kp _ _ _ _
   have r1:=hw1 ▸ (hrow.stored (k * 3) (.int .i64 (q : Int))).1
   have MT:=hide fun w => markText_any (q + 1) w (by omega) (by omega)
   have HSE:=hide hse
   have HPT:=hide hpt
   have T:=hide os.tab
   have TOP:=os.top
   have RH:=hide os.rowHi
   have EH:=hide os.eachHi
   have MK:=hide fun w h => imark_any lo (q + 2) u xs w hxl (by omega) h
   clear hzl hge hu hse hpt os
   go_wp2_with fail
   refine (MT.out _).mono ?_
   rintro e w2 ⟨rfl, b2⟩
   have r2:=World.ownsRow.kept (row:=none) r1 ⟨b2.os, b2.tape, b2.output, b2.size, fun k hk _ => b2.block k hk⟩ (by simp [Value.ownBlock])
   obtain ⟨y1, d1⟩ : ∃ y, w2.cell? ⟨g, k * 3 + 1, none⟩ = some y:=⟨_, (r2.cellAt (k * 3 + 1) (by omega)).trans (List.getElem?_eq_getElem (by rw [List.length_set, hplen]; omega))⟩
   have f1:=r2.frozenAt (k * 3 + 1)
   have c2' : w2.cell? ⟨g, k * 3 + 2, none⟩ = some u:=by
    have h1 : w1.cell? ⟨g, k * 3 + 2, none⟩ = some u:=hw1 ▸ (World.cell?_setCell_other _ _ _ _ (by simp)).trans c2
    exact (b2.cell (p := ⟨g, k * 3 + 2, none⟩) (cell_lt h1)).trans h1
   obtain ⟨mt, hmt⟩ : ∃ t, markT (q + 1) = t:=⟨_, rfl⟩
   rw [hmt] at HSE ⊢
   clear hmt
   obtain ⟨w3, hw3⟩ : ∃ y, w2.setCell ⟨g, k * 3 + 1, none⟩ (.string mt) = y:=⟨_, rfl⟩
   have r3:=hw3 ▸ (r2.stored (k * 3 + 1) (.string mt)).1
   have k3 : Kp wr w3 (fun b => b = g):=(k1.trans (Below.kpOf b2 _)).trans (hw3 ▸ set_kp _ _ _ _)
   have c3 : w3.cell? ⟨g, k * 3 + 2, none⟩ = some u:=hw3 ▸ (World.cell?_setCell_other _ _ _ _ (by simp)).trans c2'
   have o3 : OI w3 lo u xs:=hou.kp k3 (fun b hb e => hne (by rw [← e]; exact hb))
   have lu:=World.ownsRow.lt hou
   obtain ⟨ua, uc, rfl⟩:=o3.form
   have O3:=hide o3
   have R3:=hide r3
   clear c2 c2' d0 f0 r1 r2 b2 k1 MT hou hrow r3 o3 hw1
   go_wp2_with fail
   refine (MK.out _ O3.out).mono ?_
   rintro e w4 ⟨rfl, o4, g4⟩
   have T4 : OPtV w4 lo (.slice (some ⟨g, 0, none⟩) n vc) (pmix k0 (k + 1) ps) vs:=by
    rw [← HSE.out]
    refine opt_mark T.out hkl (by rw [hlen]; exact R3.out) k3 (by rw [HU.out]; exact o4) (by rw [HU.out]; exact g4)
   have K4 : Kp w w4 (fun b => lo ≤ b ∧ b < hi):=(kr.trans (k3.mono fun b e => e ▸ ⟨hglo, hghi⟩)).trans ((kp_grown g4).mono fun b e => ⟨(lu b e).1, huh b e⟩)
   have OP : Hid (OPR w4 lo hi (.slice (some ⟨g, 0, none⟩) n vc) (pmix k0 (k + 1) ps) vs):=hide ⟨T4, by have:=k3.size; have:=g4.size; omega, RH.out, fun j hj => EH.out j (by rw [hlen]; rw [pmix_len k0 (k + 1) ps (by omega), Hn.out] at hj; exact hj)⟩
   clear T4 o4 g4 c3 d1 f1 k3 lu O3 R3 T RH EH huh hne kr hw3
   go_wp2
   go_roundw
   case rel => exact ⟨k + 1, by omega, by go_num, by rw [HPT.out]; simp, OP.out, K4⟩
   case measure => simp [intOf]; omega
  have hkn : ps.take k = ps:=List.take_of_length_le (by have:=Hn.out; omega)
  have hpm : pmix k0 k ps = pmk k0 ps:=by unfold pmix; rw [hkn, List.drop_of_length_le (by have:=Hn.out; omega), List.append_nil]
  rw [hpm] at os
  rw [hkn]
  have OS:=hide os
  clear os hpm hpk
  go_wp2
  go_ret
  exact ⟨rfl, OS.out, kr⟩
theorem pmk_get (k0 : Nat) (ps : List Pt) (k : Nat) (hk : k < ps.length) : (pmk k0 ps).getD k zpt = ((pend k0 (ps.take k) : Int), markT (pend k0 (ps.take k) + 1), imarks (pend k0 (ps.take k) + 2) (ps.getD k zpt).2.2.length) := by
 induction ps generalizing k0 k with
 | nil => simp at hk
 | cons p ps ih =>
  cases k with
  | zero => rfl
  | succ k =>
   have:=ih (k0 + 2 + p.2.2.length) k (by simpa using hk)
   simpa [pmk, pend] using this

theorem heldPartS_any (v : Value) (ps : List Pt) (k0 : Nat) (w : World) (hn : ps.length ≤ 4194304) (hp : pend k0 ps ≤ 100000000) (h : RPt w v (pmk k0 ps)) :
 Calls Try.prog 11 #[v,.int .i64 k0] w fun e w' => e = .returned (.int .i64 (pend k0 ps)) ∧ Below w.heap.size w w' := by
 obtain ⟨ao, ca, rfl⟩:=h.form
 rw [pmk_len] at h ⊢
 obtain ⟨n, hn'⟩ : ∃ n, ps.length = n:=⟨_, rfl⟩
 have Hn:=hide hn'
 rw [hn'] at hn h ⊢
 have H:=hide h
 clear h hn'
 go_enter Try.func11, Try.ntmps11
 go_wp2
 go_loopw [1, 5] (fun c i wr => ∃ k : Nat, k ≤ n ∧ i = .int .i64 k ∧ c = .int .i64 ((pend k0 (ps.take k) : Nat) : Int) ∧ Below w.heap.size w wr) (fun _ i _ => n - (intOf i).toNat)
 case atStart => exact ⟨0, Nat.zero_le _, rfl, by simp [pend], Below.refl _ _⟩
 case round =>
  obtain ⟨k, hk, rfl, rfl, br⟩:=hrel
  have hpk:=pend_le k0 ps k
  by_cases hlt : k < n
  ·have hkx : k < ps.length:=by have:=Hn.out; omega
   have hge:=pmk_get k0 ps k hkx
   have HPT:=hide (pend_take k0 ps k hkx)
   have hpk1:=pend_le k0 ps (k + 1)
   rw [HPT.out] at hpk1
   obtain ⟨g, o, u, rfl, c0, c1, c2, ru⟩:=(H.out.below br).at k (by rw [pmk_len]; exact hkx)
   rw [hge] at c0 c1 ru
   simp only at c0 c1 ru
   generalize (ps.getD k zpt).2.2.length = xl at *
   generalize pend k0 (ps.take k) = q at *
   have MT:=hide fun w => markText_any (q + 1) w (by omega) (by omega)
   generalize markT (q + 1) = mt at *
   have K : Hid (∀ w', Below wr.heap.size wr w' → Below wr.heap.size wr w' ∧ w'.cell? ⟨g, o + k * 3, none⟩ = some (.int .i64 q) ∧ w'.cell? ⟨g, o + k * 3 + 1, none⟩ = some (.string mt) ∧ w'.cell? ⟨g, o + k * 3 + 2, none⟩ = some u):=hide fun w' hb' =>
    ⟨hb', (hb'.cell (p := ⟨g, o + k * 3, none⟩) (cell_lt c0)).trans c0, (hb'.cell (p := ⟨g, o + k * 3 + 1, none⟩) (cell_lt c1)).trans c1, (hb'.cell (p := ⟨g, o + k * 3 + 2, none⟩) (cell_lt c2)).trans c2⟩
   have RU:=hide fun w' (hb' : Below wr.heap.size wr w') => ru.below hb'
   obtain ⟨ua, uc, rfl⟩:=ru.form
   rw [imarks_len] at K RU c2
   have HE:=hide fun w h => iheld_any (.slice ua xl uc) xl (q + 2) w (by omega) h
   have bA : Below wr.heap.size wr wr.drew:=Below.drew (Below.refl _ _)
   have hKeep:=K.out _ bA
   clear hge ru H
   go_upto_region 7 with fail
   first | go_region_held3 (fun w' => Below wr.heap.size wr w' ∧ w'.cell? ⟨g, o + k * 3, none⟩ = some (.int .i64 q) ∧ w'.cell? ⟨g, o + k * 3 + 1, none⟩ = some (.string mt) ∧ w'.cell? ⟨g, o + k * 3 + 2, none⟩ = some (.slice ua xl uc)) (exact hKeep) (first
    | (go_at_call 24; have hgo := bA; refine (MT.out _).mono ?_; rintro e wa ⟨rfl, ba⟩
       have bB : Below wr.heap.size wr wa:=bu bA ba
       have hKeep:=K.out _ bB; clear bA hgo ba)) | fail
   all_goals
    have e2:=hKeep.2.2.2
    have hd1 : decide ((q : Int) + 1 + 1 + (xl : Int) < 0) = false:=by simp; omega
    clear hKeep c0 c1 c2
    go_wp2_with fail
    refine (HE.out _ (RU.out _ bB)).mono ?_
    rintro e w4 ⟨rfl, rfl⟩
    clear e2 RU HE K
    go_wp2
    go_roundw
    case rel => exact ⟨k + 1, by omega, by go_num, by rw [HPT.out]; simp, bu br bB⟩
    case measure => simp [intOf]; omega
  have hkn : ps.take k = ps:=List.take_of_length_le (by have:=Hn.out; omega)
  rw [hkn]
  clear hpk H
  go_wp2
  go_ret
  exact ⟨rfl, br⟩

theorem szPartS_no (al : Option Addr) (cl : Nat) (rs : List Pr) (left : Int) (w : World) (h : ATab w al rs) (hb : ∀ r ∈ rs, r.2.1.size ≤ maxLen ∧ r.2.2.2.2.length ≤ maxLen) (h0 : 0 ≤ left) (hm : rs.length ≤ maxLen) (hs : left < (rs.length : Int) + psum rs) (hl : left ≤ 1048576) :
 Calls Try.prog 5 #[.slice al rs.length cl,.int .i64 left] w fun e w' => e = .returned (.int .i64 (-1)) ∧ Below w.heap.size w w' := by
 obtain ⟨n, hn⟩ : ∃ n, rs.length = n:=⟨_, rfl⟩
 have Hn:=hide hn
 have H:=hide h
 have HB:=hide hb
 unfold maxLen at hm
 rw [hn] at hs hm ⊢
 clear hn h hb
 by_cases h1 : left < n
 ·have hd0 : decide (left - (n : Int) < 0) = true:=by simp; omega
  clear H HB
  go_enter Try.func5, Try.ntmps5
  go_wp2
  go_ret
  exact ⟨rfl, Below.refl _ _⟩
 have hd0 : decide (left - (n : Int) < 0) = false:=by simp; omega
 go_enter Try.func5, Try.ntmps5
 go_wp2
 go_loopw [1, 5] (fun a i wr => ∃ k : Nat, k ≤ n ∧ i = .int .i64 k ∧ a = .int .i64 (left - n - (psum (rs.take k) : Nat)) ∧ (psum (rs.take k) : Int) ≤ left - n ∧ Below w.heap.size w wr) (fun _ i _ => n - (intOf i).toNat)
 case atStart => exact ⟨0, Nat.zero_le _, rfl, by simp [psum], by simp [psum]; omega, Below.refl _ _⟩
 case round =>
  obtain ⟨k, hk, rfl, rfl, hp, br⟩:=hrel
  by_cases hlt : k < n
  ·have hkx : k < rs.length:=by have:=Hn.out; omega
   have HP1:=hide (psum_take rs k hkx)
   have hbk:=HB.out (rs.getD k prz) (by rw [List.getD_eq_getElem?_getD, List.getElem?_eq_getElem hkx]; exact List.getElem_mem hkx)
   rcases H.out with h | ⟨g, off, rfl, h⟩
   ·subst h; simp at hkx
   obtain ⟨c0, c1, c2⟩:=h k hkx
   have hg : g < w.heap.size:=cell_lt c0
   replace c0:=(br.cell (p:=⟨g, off + k * 3, none⟩) hg).trans c0
   replace c1:=(br.cell (p:=⟨g, off + k * 3 + 1, none⟩) hg).trans c1
   replace c2:=(br.cell (p:=⟨g, off + k * 3 + 2, none⟩) hg).trans c2
   clear h H HB
   generalize (rs.getD k prz).1 = m at *
   generalize (rs.getD k prz).2.1 = s at *
   generalize (rs.getD k prz).2.2.2.2.length = x at *
   generalize (rs.getD k prz).2.2.1 = ao at *
   generalize (rs.getD k prz).2.2.2.1 = ca at *
   generalize psum (rs.take k) = q at *
   obtain ⟨hb1, hb2⟩:=hbk
   unfold maxLen at hb1 hb2
   by_cases hfit : (s.size : Int) + x ≤ left - n - q
   ·have SZ:=hide fun w => szPart_yes m s ao x ca (left - n - q) w hfit (by omega)
    have hd1 : decide (left - (n : Int) - (q : Int) - (s.size : Int) - (x : Int) < 0) = false:=by simp; omega
    go_wp2_with fail
    refine (SZ.out _).mono ?_
    rintro e w1 ⟨rfl, b1⟩
    have B1:=bu br b1
    clear c0 c1 c2 SZ b1
    go_wp2
    go_roundw
    case rel => exact ⟨k + 1, by omega, by go_num, by rw [HP1.out]; simp; omega, by rw [HP1.out]; simp; omega, B1⟩
    case measure => simp [intOf]; omega
   have SZ:=hide fun w => szPart_no m s ao x ca (left - n - q) w (by omega) (by omega) (by omega) (by omega) (by omega)
   go_wp2_with fail
   refine (SZ.out _).mono ?_
   rintro e w1 ⟨rfl, b1⟩
   have B1:=bu br b1
   clear c0 c1 c2 SZ b1
   go_wp2
   go_ret
   exact ⟨rfl, B1⟩
  have hkn : rs.take k = rs:=List.take_of_length_le (by have:=Hn.out; omega)
  rw [hkn] at hp
  omega
theorem psum_each {rs : List Pr} {r : Pr} (h : r ∈ rs) : r.2.1.size + r.2.2.2.2.length ≤ psum rs := by
 induction rs with
 | nil => simp at h
 | cons x rs ih =>
  rcases List.mem_cons.1 h with rfl | h
  ·simp only [psum]; omega
  have:=ih h; simp only [psum]; omega
theorem prp_mem {rs : List Pr} {p : Pt} (h : p ∈ rs.map prp) : p.2.1.size + p.2.2.length ≤ psum rs := by
 obtain ⟨r, hr, rfl⟩:=List.mem_map.1 h
 exact psum_each hr
theorem ATab.below {W W' : World} {ao : Option Addr} {rs : List Pr} (h : ATab W ao rs) (hb : Below W.heap.size W W') : ATab W' ao rs := by
 rcases h with h | ⟨g, off, rfl, h⟩
 ·exact .inl h
 refine .inr ⟨g, off, rfl, fun k hk => ?_⟩
 obtain ⟨c0, c1, c2⟩:=h k hk
 have hg:=cell_lt c0
 exact ⟨(hb.cell (p := ⟨g, off + k * 3, none⟩) hg).trans c0, (hb.cell (p := ⟨g, off + k * 3 + 1, none⟩) hg).trans c1, (hb.cell (p := ⟨g, off + k * 3 + 2, none⟩) hg).trans c2⟩
def whos : List Pt → Nat
 | [] => 0
 | p :: ps => p.2.2.length + whos ps
theorem pend_sum (k : Nat) (ps : List Pt) : pend k ps = k + 2 * ps.length + whos ps := by
 induction ps generalizing k with
 | nil => simp [pend, whos]
 | cons p ps ih => simp only [pend, whos, ih, List.length_cons]; omega
theorem pmk_small (k : Nat) (ps : List Pt) (h : ∀ p ∈ ps, p.2.2.length ≤ 4194304) : ∀ p ∈ pmk k ps, p.2.2.length ≤ 4194304 := by
 induction ps generalizing k with
 | nil => simp [pmk]
 | cons x ps ih =>
  intro p hp
  simp only [pmk, List.mem_cons] at hp
  rcases hp with rfl | hp
  ·simp only [imarks_len]; exact h x (by simp)
  exact ih _ (fun y hy => h y (by simp [hy])) p hp
theorem whos_le (rs : List Pr) : whos (rs.map prp) ≤ psum rs := by
 induction rs with
 | nil => simp [whos]
 | cons r rs ih => simp only [List.map_cons, whos, psum]; have : (prp r).2.2.length = r.2.2.2.2.length := rfl; omega
theorem whos_drop (ps : List Pt) (v : Int) : whos (dropP ps v) ≤ whos ps ∧ (dropP ps v).length ≤ ps.length := by
 refine ⟨?_, List.length_filter_le _ _⟩
 induction ps with
 | nil => simp [dropP, whos]
 | cons p ps ih =>
  unfold dropP at *
  rw [List.filter_cons]
  split
  ·simp only [whos]; omega
  simp only [whos]; omega

theorem fnTableDrop_short (IM0 : ∀ (v : Value) (ps : List Pt) (view : Int) (w : World), ps.length ≤ 1048576 → (∀ p ∈ ps, p.2.1.size ≤ 1048576 ∧ p.2.2.length ≤ 1048576) → RPt w v ps → Calls Try.prog 8 #[v,.int .i64 view] w fun e w' => ∃ u, e = .returned u ∧ OPt w' w.heap.size u (dropP ps view) ∧ Below w.heap.size w w')
 (al : Option Addr) (cl : Nat) (rs : List Pr) (view : Int) (w : World) (h : ATab w al rs) (ha : ∀ r ∈ rs, AIW w r.2.2.1 r.2.2.2.2) (hs : rs.length + psum rs ≤ 1048576) :
 Calls Try.prog 3 #[.slice al rs.length cl,.int .i64 view] w fun e w' => e = .returned (.bool true) ∧ Below w.heap.size w w' := by
 have RA:=hide fun w' (hb : Below w.heap.size w w') => (ATab.rpt (ca:=cl) h ha (fun r hr => by have:=psum_each hr; omega)).below hb
 have HA:=hide fun w' (hb : Below w.heap.size w w') => h.below hb
 have ZA:=hide fun w h => szPartS_yes al cl rs 1048576 w h (by omega) (by omega)
 have hpm : ∀ p ∈ rs.map prp, p.2.1.size ≤ 1048576 ∧ p.2.2.length ≤ 1048576:=fun p hp => by have:=prp_mem hp; omega
 have hpl : (rs.map prp).length = rs.length:=by simp
 have hd0 : decide ((1048576 : Int) - (rs.length : Int) - (psum rs : Int) < 0) = false:=by simp; omega
 obtain ⟨len, hlen⟩ : ∃ l, rs.length = l:=⟨_, rfl⟩
 rw [hlen] at hpl RA ZA hd0 hs ⊢
 have hps:=pend_sum 1 (rs.map prp)
 have hpw:=whos_le rs
 generalize psum rs = sm at *
 generalize rs.map prp = ps at *
 have hw : ∀ p ∈ ps, p.2.2.length ≤ 4194304:=fun p hp => by have:=hpm p hp; omega
 have TP:=hide fun w h => toPartS_any (.slice al len cl) ps w (by omega) h
 have EQ:=hide fun v u w h h' => eqPartS_yes v u ps w (by omega) h h'
 have SP:=hide fun v w h => specTableDrop v ps view w (by omega) h
 have IM:=hide fun v w h => IM0 v ps view w (by omega) hpm h
 have hrl : ∀ q ∈ dropP ps view, q.2.2.length ≤ 4194304:=fun q hq => hw q (List.mem_filter.1 hq).1
 have hrn:=(whos_drop ps view).2
 have hrw:=(whos_drop ps view).1
 have hrp:=pend_sum 1 (dropP ps view)
 generalize dropP ps view = rl at *
 have hpe : pend 1 ps ≤ 5000000:=by omega
 have hre : pend 1 rl ≤ 9000000:=by omega
 clear hps hrp hrw hpw
 have ER:=hide fun v u w h h' => eqPartS_yes v u rl w (by omega) h h'
 have Bw:=Below.refl w.heap.size w
 clear h ha IM0 hlen
 go_enter Try.func3, Try.ntmps3
 go_wp2_with fail
 refine (ZA.out _ (HA.out _ Bw)).mono ?_
 rintro _ w1 ⟨rfl, bb⟩
 have Bw1:=bu Bw bb
 have sw1:=bb.size
 clear Bw bb ZA HA
 go_wp2_with fail
 refine (TP.out _ (RA.out _ Bw1)).mono ?_
 rintro _ w2 ⟨v1, rfl, o1, bb⟩
 have Bw2:=bu Bw1 bb
 have sw2:=bb.size
 clear Bw1 bb
 obtain ⟨a1, k1, rfl⟩:=OPt.form o1
 rw [hpl] at o1 ⊢
 go_wp2_with fail
 refine (SP.out _ _ (o1.rpt hw)).mono ?_
 rintro _ w3 ⟨tW, rfl, oW, bb⟩
 have Bw3:=bu Bw2 bb
 have sw3:=bb.size
 clear Bw2 bb o1 SP
 obtain ⟨vsoW, oW⟩:=oW
 obtain ⟨aoW, koW, rfl⟩:=OPt.form ⟨_, oW⟩
 replace oW:=oW.opr
 go_wp2_with fail
 refine (TP.out _ (RA.out _ Bw3)).mono ?_
 rintro _ w4 ⟨v2, rfl, oX, bb⟩
 have Bw4:=bu Bw3 bb
 have sw4:=bb.size
 replace oW:=oW.below bb
 clear Bw3 bb
 obtain ⟨vsoX, oX⟩:=oX
 obtain ⟨aoX, koX, rfl⟩:=OPt.form ⟨_, oX⟩
 replace oX:=oX.opr
 rw [hpl] at oX ⊢
 go_wp2_with fail
 refine (IM.out _ _ (oX.rpt hw)).mono ?_
 rintro _ w5 ⟨tG, rfl, oG, bb⟩
 have Bw5:=bu Bw4 bb
 have sw5:=bb.size
 replace oW:=oW.below bb
 replace oX:=oX.below bb
 clear Bw4 bb
 obtain ⟨vsoG, oG⟩:=oG
 obtain ⟨aoG, koG, rfl⟩:=OPt.form ⟨_, oG⟩
 replace oG:=oG.opr
 go_wp2_with fail
 refine (ER.out _ _ _ (oG.rpt hrl) (oW.rpt hrl)).mono ?_
 rintro _ w6 ⟨rfl, bb⟩
 have Bw6:=bu Bw5 bb
 have sw6:=bb.size
 replace oW:=oW.below bb
 replace oX:=oX.below bb
 replace oG:=oG.below bb
 clear Bw5 bb
 go_wp2_with fail
 refine (TP.out _ (RA.out _ Bw6)).mono ?_
 rintro _ w7 ⟨v3, rfl, oY, bb⟩
 have Bw7:=bu Bw6 bb
 have sw7:=bb.size
 replace oW:=oW.below bb
 replace oX:=oX.below bb
 replace oG:=oG.below bb
 clear Bw6 bb
 obtain ⟨aY, kY, rfl⟩:=OPt.form oY
 rw [hpl] at oY ⊢
 go_wp2_with fail
 refine (EQ.out _ _ _ (oX.rpt hw) (oY.rpt hw)).mono ?_
 rintro _ w8 ⟨rfl, bb⟩
 have Bw8:=bu Bw7 bb
 have sw8:=bb.size
 replace oW:=oW.below bb
 replace oX:=oX.below bb
 replace oG:=oG.below bb
 clear Bw7 bb oY EQ
 have hkk : decide (((pend 1 ps : Nat) : Int) < 0) = false:=by simp
 go_wp2_with fail
 refine (markPartS_any _ _ _ ps _ 1 _ (by omega) hw (by omega) oX).mono ?_
 rintro _ w9 ⟨rfl, om, k1⟩
 clear oX
 have Bw9:=Below.kp Bw8 k1 Bw8.size (fun k hk => by omega)
 have sw9:=k1.size
 replace oW:=oW.kp k1 (fun j h1 h2 h3 => by omega)
 replace oG:=oG.kp k1 (fun j h1 h2 h3 => by omega)
 clear Bw8 k1 om
 go_wp2_with fail
 refine (ER.out _ _ _ (oG.rpt hrl) (oW.rpt hrl)).mono ?_
 rintro _ w10 ⟨rfl, bb⟩
 have Bw10:=bu Bw9 bb
 have sw10:=bb.size
 replace oW:=oW.below bb
 replace oG:=oG.below bb
 clear Bw9 bb
 go_wp2_with fail
 refine (markPartS_any _ _ _ rl _ 1 _ (by omega) hrl (by omega) oG).mono ?_
 rintro _ w11 ⟨rfl, om, k3⟩
 clear oG
 have Bw11:=Below.kp Bw10 k3 Bw10.size (fun k hk => by omega)
 have sw11:=k3.size
 replace oW:=oW.kp k3 (fun j h1 h2 h3 => by omega)
 clear Bw10 k3
 have oG:=om
 clear om
 have hrm:=pmk_small 1 rl hrl
 have hkm : decide (((pend 1 rl : Nat) : Int) < 0) = false:=by simp
 go_wp2_with fail
 refine (heldPartS_any _ rl 1 _ (by omega) (by omega) (oG.rpt hrm)).mono ?_
 rintro _ w12 ⟨rfl, bb⟩
 have Bw12:=bu Bw11 bb
 have sw12:=bb.size
 replace oW:=oW.below bb
 replace oG:=oG.below bb
 clear Bw11 bb
 go_wp2_with fail
 refine (TP.out _ (RA.out _ Bw12)).mono ?_
 rintro _ w13 ⟨v5, rfl, o5, bb⟩
 have Bw13:=bu Bw12 bb
 have sw13:=bb.size
 replace oW:=oW.below bb
 replace oG:=oG.below bb
 clear Bw12 bb
 obtain ⟨a5, k5, rfl⟩:=OPt.form o5
 rw [hpl] at o5 ⊢
 go_wp2_with fail
 refine (IM.out _ _ (o5.rpt hw)).mono ?_
 rintro _ w14 ⟨tH, rfl, oH, bb⟩
 have Bw14:=bu Bw13 bb
 have sw14:=bb.size
 replace oW:=oW.below bb
 replace oG:=oG.below bb
 clear Bw13 bb o5
 obtain ⟨aH, kH, rfl⟩:=OPt.form oH
 go_wp2_with fail
 refine (ER.out _ _ _ (oH.rpt hrl) (oW.rpt hrl)).mono ?_
 rintro _ w15 ⟨rfl, bb⟩
 have Bw15:=bu Bw14 bb
 have sw15:=bb.size
 replace oW:=oW.below bb
 replace oG:=oG.below bb
 clear Bw14 bb oH
 go_wp2_with fail
 refine (heldPartS_any _ rl 1 _ (by omega) (by omega) (oG.rpt hrm)).mono ?_
 rintro _ w16 ⟨rfl, bb⟩
 have Bw16:=bu Bw15 bb
 have sw16:=bb.size
 replace oW:=oW.below bb
 replace oG:=oG.below bb
 clear Bw15 bb
 go_wp2
 go_ret
 exact ⟨rfl, Bw16⟩
end
section
open Go.RowKit
theorem str_ne {t s : ByteArray} (h : t ≠ s) : (t.toList == s.toList) = false := by
 rw [beq_eq_false_iff_ne]
 intro e
 rw [ByteArray.toList_eq, ByteArray.toList_eq] at e
 exact h (ByteArray.ext (Array.toList_inj.1 e))
end
end Go.Proofs.Ytjkcphnohhpihaa
namespace Go.Proofs
open Go.Shelf
def Try.laysM316_ren : Go.Shelf.Ren := ⟨fun | 316 => 97 | n => n, fun | 9 => 9 | 3 => 3 | 4 => 4 | 37 => 30 | 0 => 0 | 127 => 124 | 5 => 5 | n => n, fun | n => n⟩
theorem Try.laysM316 : Go.Proofs.LaysM.n316 Try.prog Try.laysM316_ren := {
 mixed := by kernel_rfl
 f316 := Try.func97.trans (congrArg some (by kernel_rfl))
 t0 := Try.underlying0
 a0 := Try.isAgg0
 z0 := Try.sizeOf0
 v0 := Try.zeroValue0
 t3 := Try.underlying3
 a3 := Try.isAgg3
 z3 := Try.sizeOf3
 v3 := Try.zeroValue3
 t4 := Try.underlying4
 a4 := Try.isAgg4
 z4 := Try.sizeOf4
 v4 := Try.zeroValue4
 t9 := Try.underlying9
 a9 := Try.isAgg9
 z9 := Try.sizeOf9
 v9 := Try.zeroValue9
 t37 := Try.underlying30
 a37 := Try.isAgg30
 z37 := Try.sizeOf30
 v37 := Try.zeroValue30
 t127 := Try.underlying124
 a127 := Try.isAgg124
 z127 := Try.sizeOf124
 v127 := Try.zeroValue124
 t5 := Try.underlying5
 a5 := Try.isAgg5
 z5 := Try.sizeOf5
 v5 := Try.zeroValue5
 i0 := by kernel_rfl
 i3 := by kernel_rfl
 i4 := by kernel_rfl
 i5 := by kernel_rfl
 i9 := by kernel_rfl
 i37 := by kernel_rfl
 i127 := by kernel_rfl }
open Go.RowKit in
theorem Try.stringslite_Clone (s : ByteArray) (w : World) (hlim : s.size ≤ 281474976710656) :
 Calls Try.prog 97 #[.string s] w fun e w' => e = .returned (.string s) ∧ Below w.heap.size w w' := Any.stringslite_Clone Try.laysM316 s w hlim
end Go.Proofs
namespace Go.Proofs.Ytjkcphnohhpihaa
section
open Go.RowKit
def OS (w : World) (base : Nat) (v : Value) (xs : List ByteArray) : Prop := w.ownsRow base 9 1 v xs.length (xs.map Value.string)
theorem OS.below {w w' : World} {base : Nat} {v : Value} {xs : List ByteArray} (h : OS w base v xs) (hb : Below w.heap.size w w') : OS w' base v xs :=
 World.ownsRow.kept (row := none) h ⟨hb.os, hb.tape, hb.output, hb.size, fun k hk _ => hb.block k hk⟩ (by cases v.ownBlock <;> simp)

theorem clone_any (s : ByteArray) (w : World) (hs : s.size ≤ 281474976710656) :
 Calls Try.prog 96 #[.string s] w fun e w' => e = .returned (.string s) ∧ Below w.heap.size w w' := by
 go_enter Try.func96, Try.ntmps96
 go_wp2_with fail
 refine (Try.stringslite_Clone s _ hs).mono ?_
 rintro e w' ⟨rfl, b⟩
 go_wp2
 go_ret
 exact ⟨rfl, b⟩
end
end Go.Proofs.Ytjkcphnohhpihaa
