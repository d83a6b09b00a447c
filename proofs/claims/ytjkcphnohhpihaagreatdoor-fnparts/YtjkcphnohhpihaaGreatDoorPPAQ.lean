/- Lemmas; their conditions stand in each statement. -/
import Derived.Test.YtjkcphnohhpihaaGreatDoorPPAC
import Derived.Test.YtjkcphnohhpihaaGreatDoorPPAN
set_option maxRecDepth 100000
set_option maxHeartbeats 8000000
set_option linter.unusedSectionVars false
namespace Go.Proofs.YtjkcphnohhpihaaGreatDoor
section
open Go.ChangeShapes Go.WideShapes Go.ChangeAt Go.RowKit
open Go.Joins
variable [∀ (a b c d : Int), Decidable (Ok4 a b c d)]
variable [∀ (n f : Int), Decidable (COk n f)]
theorem cellsPart : Tryz.prog.cellsOf 27 = 3 := by kernel_rfl
abbrev Pr := Int × ByteArray × Option Addr × Nat × List Int
def prz : Pr := (0, ⟨#[]⟩, none, 0, [])
def prp (r : Pr) : Pt := (r.1, r.2.1, r.2.2.2.2)
def ATab (W : World) (ao : Option Addr) (rs : List Pr) : Prop :=
 rs = [] ∨ ∃ g off, ao = some ⟨g, off, none⟩ ∧ ∀ k, k < rs.length → W.cell? ⟨g, off + k * 3, none⟩ = some (.int .i64 (rs.getD k prz).1) ∧ W.cell? ⟨g, off + k * 3 + 1, none⟩ = some (.string (rs.getD k prz).2.1) ∧ W.cell? ⟨g, off + k * 3 + 2, none⟩ = some (.slice (rs.getD k prz).2.2.1 (rs.getD k prz).2.2.2.2.length (rs.getD k prz).2.2.2.1)
theorem three_list {α : Type} {l : List α} (h : l.length = 3) : ∃ a b c, l = [a, b, c] := by
 match l, h with
 | [a, b, c], _ => exact ⟨a, b, c, rfl⟩
theorem open_parts0 {H : Type} {enc : TypeId × Value → H} {W : World} {fuel : Nat} {a : Option Addr} {len cap : Nat} {x : DataW H × List MemPlace} (h : DataW.trod enc Tryz.prog W 0 (fun _ => true) true fuel 24 (Value.slice a len cap).cells.toList = some x) :
 ∃ rs : List Pr, len = rs.length ∧ rs.length ≤ maxLen ∧ ATab W a rs ∧ ∀ r ∈ rs, r.2.1.size ≤ maxLen ∧ r.2.2.2.2.length ≤ maxLen ∧ AIW W r.2.2.1 r.2.2.2.2 ∧ WfL r.2.2.2.2 := by
 rcases Go.Deep.open_slice Tryz.underlying24 h with ⟨hcs, _⟩ | ⟨ad, l, c, m, n, D, Pl, hcs, _, hl, hm, hmm, _, hx⟩
 ·simp [Value.cells] at hcs
  obtain ⟨rfl, rfl, rfl⟩:=hcs
  exact ⟨[], rfl, by simp, .inl rfl, fun r hr => by simp at hr⟩
 simp [Value.cells] at hcs
 obtain ⟨rfl, rfl, rfl⟩:=hcs
 have hm' : m = cap:=by simpa using hmm
 have each : ∀ i, ∃ q : Pr, i < len → (W.cell? (ad.add (i * 3)) = some (.int .i64 q.1) ∧ W.cell? (ad.add (i * 3 + 1)) = some (.string q.2.1) ∧ W.cell? (ad.add (i * 3 + 2)) = some (.slice q.2.2.1 q.2.2.2.2.length q.2.2.2.1)) ∧ q.2.1.size ≤ maxLen ∧ q.2.2.2.2.length ≤ maxLen ∧ AIW W q.2.2.1 q.2.2.2.2 ∧ WfL q.2.2.2.2:=by
  intro i
  by_cases hi : i < len
  ·obtain ⟨cs', h1, h2⟩:=hx i (by omega)
   rw [cellsPart] at h1
   obtain ⟨_, hlen, hcell⟩:=World.cells?_some h1
   obtain ⟨y0, y1, y2, k, _, _, g0, g1, g2⟩:=Go.Deep.trod_struct3 Tryz.underlying27 h2
   obtain ⟨v0, v1, v2, rfl⟩:=three_list hlen
   have e0:=hcell 0 (by omega)
   have e1:=hcell 1 (by omega)
   have e2:=hcell 2 (by omega)
   rw [Go.Deep.add_add] at e0 e1 e2
   have ci : Tryz.prog.cellsOf 3 = 1:=by kernel_rfl
   have cs : Tryz.prog.cellsOf 9 = 1:=by kernel_rfl
   simp [ci, cs] at g0 g1 g2
   obtain ⟨a0, e0', _, _⟩:=DataW.trod_int Tryz.underlying3 g0
   obtain ⟨a1, e1', _, hs1⟩:=DataW.trod_string Tryz.underlying9 g1
   obtain ⟨ao, ca, xs, rfl, hxl, hxc, hxw⟩:=open_listW g2
   simp at e0' e1'
   subst e0' e1'
   exact ⟨(a0, a1, ao, ca, xs), fun _ => ⟨⟨by simpa using e0, by simpa using e1, by simpa using e2⟩, hs1, hxl, hxc, hxw⟩⟩
  exact ⟨prz, fun h => absurd h hi⟩
 obtain ⟨q, hq⟩:=Classical.axiomOfChoice each
 refine ⟨(List.range len).map q, by simp, by simp; omega, ?_, fun r hr => ?_⟩
 ·by_cases h0 : len = 0
  ·left; simp [h0]
  right
  obtain ⟨b, off, spot⟩:=ad
  have hc:=(hq 0 (by omega)).1.1
  have hspot : spot = none:=by simpa [Addr.add] using World.cell?_spot hc
  subst hspot
  refine ⟨b, off, rfl, fun k hk => ?_⟩
  rw [List.length_map, List.length_range] at hk
  have:=(hq k hk).1
  have ea : ∀ j, ((⟨b, off, none⟩ : Addr).add j) = ⟨b, off + j, none⟩:=fun j => by unfold Addr.add; split <;> simp_all
  rw [ea, ea, ea] at this
  have eg : ((List.range len).map q).getD k prz = q k:=by simp [hk]
  rw [eg]
  simpa [Nat.add_assoc] using this
 obtain ⟨j, hj, rfl⟩:=List.mem_map.1 hr
 exact (hq j (List.mem_range.1 hj)).2
theorem open_part {H : Type} {enc : TypeId × Value → H} {W : World} {base : Nat} {v : Value} {d : DataW H} {p : List MemPlace} (hv : Value.okWide Tryz.prog W .any base 27 v)
 (h : DataW.Trod enc Tryz.prog W 0 (fun _ => true) true 27 v d p) :
 ∃ n s ao ca, ∃ xs : List Int, v = qv n s (.slice ao xs.length ca) ∧ s.size ≤ maxLen ∧ xs.length ≤ maxLen ∧ AIW W ao xs ∧ WfL xs := by
 obtain ⟨c0, c1, c2, y0, y1, y2, m, rfl, _, _, hy0, hy1, hy2⟩:=open_agg3 Tryz.underlying27 (by kernel_rfl) cellsPart hv h
 obtain ⟨a, e0, _, _⟩:=DataW.trod_int Tryz.underlying3 hy0
 obtain ⟨s, e1, _, hs⟩:=DataW.trod_string Tryz.underlying9 hy1
 obtain ⟨ao, ca, xs, rfl, hx, ax, wx⟩:=open_listW hy2
 simp at e0 e1
 exact ⟨a, s, ao, ca, xs, by rw [e0, e1], hs, hx, ax, wx⟩
theorem open_parts {H : Type} {enc : TypeId × Value → H} {W : World} {base : Nat} {v : Value} {d : DataW H} {p : List MemPlace} (hv : Value.okWide Tryz.prog W .any base 24 v)
 (h : DataW.Trod enc Tryz.prog W 0 (fun _ => true) true 24 v d p) : ∃ al cl, ∃ rs : List Pr, v = .slice al rs.length cl ∧ rs.length ≤ maxLen ∧ ATab W al rs ∧ ∀ r ∈ rs, r.2.1.size ≤ maxLen ∧ r.2.2.2.2.length ≤ maxLen ∧ AIW W r.2.2.1 r.2.2.2.2 ∧ WfL r.2.2.2.2 := by
 obtain ⟨a, len, cap, rfl⟩:=okWide_slice Tryz.underlying24 hv
 obtain ⟨fuel, hf⟩:=h
 obtain ⟨rs, rfl, hm, hr, he⟩:=open_parts0 hf
 exact ⟨a, cap, rs, rfl, hm, hr, he⟩
theorem ATab.rpt {W : World} {ao : Option Addr} {ca : Nat} {rs : List Pr} (h : ATab W ao rs) (he : ∀ r ∈ rs, AIW W r.2.2.1 r.2.2.2.2) (hl : ∀ r ∈ rs, r.2.2.2.2.length ≤ 4194304) : RPt W (.slice ao rs.length ca) (rs.map prp) := by
 refine ⟨ao, ca, by simp, ?_⟩
 rcases h with rfl | ⟨g, off, rfl, h⟩
 ·exact .inl rfl
 refine .inr ⟨g, off, rfl, fun k hk => ?_⟩
 rw [List.length_map] at hk
 have hm : rs.getD k prz ∈ rs:=by rw [List.getD_eq_getElem?_getD, List.getElem?_eq_getElem hk]; exact List.getElem_mem hk
 have e : (rs.map prp).getD k zpt = prp (rs.getD k prz):=by simp [List.getElem?_eq_getElem hk]
 obtain ⟨c0, c1, c2⟩:=h k hk
 rw [e]
 exact ⟨_, c0, c1, c2, (he _ hm).ri (hl _ hm)⟩
end
section
open Go.RowKit
variable [∀ (a b c d : Int), Decidable (Ok4 a b c d)]
variable [∀ (n f : Int), Decidable (COk n f)]
theorem eqPartS_yes (v u : Value) (ps : List Pt) (w : World) (hl : ps.length ≤ 4194304) (hv : RPt w v ps) (hu : RPt w u ps) :
 Calls Tryz.prog 12 #[v, u] w fun e w' => e = .returned (.bool true) ∧ Below w.heap.size w w' := by
 obtain ⟨ao, ca, rfl, ha⟩:=hv
 obtain ⟨bo, cb, rfl, hb⟩:=hu
 obtain ⟨n, hn⟩ : ∃ n, ps.length = n:=⟨_, rfl⟩
 have Hn:=hide hn
 rw [hn] at hl ha hb ⊢
 clear hn
 go_enter Tryz.func12, Tryz.ntmps12
 go_wp2
 go_loopw [5] (fun i wr => ∃ k : Nat, k ≤ n ∧ i = .int .i64 k ∧ Below w.heap.size w wr) (fun i _ => n - (intOf i).toNat)
 case atStart => exact ⟨0, Nat.zero_le _, rfl, Below.refl _ _⟩
 case round =>
  obtain ⟨k, hk, rfl, br⟩:=hrel
  have hsr:=br.size
  by_cases hlt : k < n
  ·rcases ha with ha | ⟨g, o, rfl, ha⟩
   ·subst ha; have := Hn.out; simp at this; omega
   rcases hb with hb | ⟨g', o', rfl, hb⟩
   ·subst hb; have := Hn.out; simp at this; omega
   obtain ⟨p, a0, a1, a2, ra⟩:=ha k hlt
   obtain ⟨q, b0, b1, b2, rb⟩:=hb k hlt
   have hg : g < w.heap.size:=cell_lt a0
   have hg' : g' < w.heap.size:=cell_lt b0
   generalize (ps.getD k zpt).1 = m at *
   generalize (ps.getD k zpt).2.1 = s at *
   generalize (ps.getD k zpt).2.2 = xs at *
   have K : Hid (∀ w', Below wr.heap.size wr w' → Below wr.heap.size wr w' ∧ (w'.cell? ⟨g, o + k * 3, none⟩ = some (.int .i64 m) ∧ w'.cell? ⟨g, o + k * 3 + 1, none⟩ = some (.string s) ∧ w'.cell? ⟨g, o + k * 3 + 2, none⟩ = some p) ∧ (w'.cell? ⟨g', o' + k * 3, none⟩ = some (.int .i64 m) ∧ w'.cell? ⟨g', o' + k * 3 + 1, none⟩ = some (.string s) ∧ w'.cell? ⟨g', o' + k * 3 + 2, none⟩ = some q)):=fun w' hb' => by
    have hw:=br.trans (hb'.mono hsr)
    exact ⟨hb', ⟨(hw.cell (p := ⟨g, o + k * 3, none⟩) hg).trans a0, (hw.cell (p := ⟨g, o + k * 3 + 1, none⟩) hg).trans a1, (hw.cell (p := ⟨g, o + k * 3 + 2, none⟩) hg).trans a2⟩, ⟨(hw.cell (p := ⟨g', o' + k * 3, none⟩) hg').trans b0, (hw.cell (p := ⟨g', o' + k * 3 + 1, none⟩) hg').trans b1, (hw.cell (p := ⟨g', o' + k * 3 + 2, none⟩) hg').trans b2⟩⟩
   have EQ : Hid (∀ w', Below wr.heap.size wr w' → Calls Tryz.prog 13 #[qv m s p, qv m s q] w' fun e w'' => e = .returned (.bool true) ∧ Below w'.heap.size w' w''):=hide fun w' hb' => by
    have hw:=br.trans (hb'.mono hsr)
    exact eqPart_yes m s p q xs w' (ra.below hw) (rb.below hw)
   obtain ⟨pa, pc, rfl⟩:=ra.form
   obtain ⟨qa, qc, rfl⟩:=rb.form
   have bA : Below wr.heap.size wr wr.drew:=Below.drew (Below.refl _ _)
   have hKeep:=K.out _ bA
   clear ha hb a0 a1 a2 b0 b1 b2 ra rb
   generalize xs.length = xl at *
   go_wp2_with fail
   first | go_region_held3 (fun w' => Below wr.heap.size wr w' ∧ (w'.cell? ⟨g, o + k * 3, none⟩ = some (.int .i64 m) ∧ w'.cell? ⟨g, o + k * 3 + 1, none⟩ = some (.string s) ∧ w'.cell? ⟨g, o + k * 3 + 2, none⟩ = some (.slice pa xl pc)) ∧ (w'.cell? ⟨g', o' + k * 3, none⟩ = some (.int .i64 m) ∧ w'.cell? ⟨g', o' + k * 3 + 1, none⟩ = some (.string s) ∧ w'.cell? ⟨g', o' + k * 3 + 2, none⟩ = some (.slice qa xl qc))) (exact hKeep) (first
    | (go_at_call 13; have hgo := bA; refine (EQ.out _ bA).mono ?_; rintro e wa ⟨rfl, ba⟩
       have bB : Below wr.heap.size wr wa:=bA.trans ba
       have hKeep:=K.out _ bB; clear bA hgo)) | fail
   all_goals
    go_wp2
    go_roundw
    case rel => exact ⟨k + 1, by omega, by go_num, br.trans (bB.mono hsr)⟩
    case measure => simp [intOf]; omega
  have hkn : k = n:=by omega
  subst hkn
  clear ha hb
  go_wp2
  go_ret
  exact ⟨rfl, br⟩

def psum : List Pr → Nat
 | [] => 0
 | r :: rs => r.2.1.size + r.2.2.2.2.length + psum rs
theorem psum_snoc (rs : List Pr) (r : Pr) : psum (rs ++ [r]) = psum rs + (r.2.1.size + r.2.2.2.2.length) := by
 induction rs with
 | nil => simp [psum]
 | cons x rs ih => simp only [List.cons_append, psum, ih]; omega
theorem psum_take (rs : List Pr) (k : Nat) (hk : k < rs.length) : psum (rs.take (k + 1)) = psum (rs.take k) + ((rs.getD k prz).2.1.size + (rs.getD k prz).2.2.2.2.length) := by
 rw [List.take_succ_eq_append_getElem hk, psum_snoc]
 simp [List.getElem?_eq_getElem hk]
theorem psum_le (rs : List Pr) (k : Nat) : psum (rs.take k) ≤ psum rs := by
 induction rs generalizing k with
 | nil => simp [psum]
 | cons r rs ih =>
  cases k with
  | zero => simp [psum]
  | succ k => simp only [List.take_succ_cons, psum]; have := ih k; omega

theorem szPartS_yes (al : Option Addr) (cl : Nat) (rs : List Pr) (left : Int) (w : World) (h : ATab w al rs) (hs : (rs.length : Int) + psum rs ≤ left) (hl : left ≤ 1048576) :
 Calls Tryz.prog 5 #[.slice al rs.length cl,.int .i64 left] w fun e w' => e = .returned (.int .i64 (left - rs.length - psum rs)) ∧ Below w.heap.size w w' := by
 obtain ⟨n, hn⟩ : ∃ n, rs.length = n:=⟨_, rfl⟩
 have Hn:=hide hn
 have H:=hide h
 rw [hn] at hs ⊢
 clear hn h
 have hd0 : decide (left - (n : Int) < 0) = false:=by simp; omega
 go_enter Tryz.func5, Tryz.ntmps5
 go_wp2
 go_loopw [1, 5] (fun a i wr => ∃ k : Nat, k ≤ n ∧ i = .int .i64 k ∧ a = .int .i64 (left - n - (psum (rs.take k) : Nat)) ∧ Below w.heap.size w wr) (fun _ i _ => n - (intOf i).toNat)
 case atStart => exact ⟨0, Nat.zero_le _, rfl, by simp [psum], Below.refl _ _⟩
 case round =>
  obtain ⟨k, hk, rfl, rfl, br⟩:=hrel
  have hp:=psum_le rs k
  by_cases hlt : k < n
  ·have hkx : k < rs.length:=by have:=Hn.out; omega
   have hp1:=psum_le rs (k + 1)
   have hps:=psum_take rs k hkx
   have HP1:=hide hps
   rw [hps] at hp1
   clear hps
   rcases H.out with h | ⟨g, off, rfl, h⟩
   ·subst h; simp at hkx
   obtain ⟨c0, c1, c2⟩:=h k hkx
   have hg : g < w.heap.size:=cell_lt c0
   replace c0:=(br.cell (p:=⟨g, off + k * 3, none⟩) hg).trans c0
   replace c1:=(br.cell (p:=⟨g, off + k * 3 + 1, none⟩) hg).trans c1
   replace c2:=(br.cell (p:=⟨g, off + k * 3 + 2, none⟩) hg).trans c2
   clear h H
   generalize (rs.getD k prz).1 = m at *
   generalize (rs.getD k prz).2.1 = s at *
   generalize (rs.getD k prz).2.2.2.2.length = x at *
   generalize (rs.getD k prz).2.2.1 = ao at *
   generalize (rs.getD k prz).2.2.2.1 = ca at *
   generalize psum (rs.take k) = q at *
   have SZ:=hide fun w => szPart_yes m s ao x ca (left - n - q) w (by omega) (by omega)
   have hd1 : decide (left - (n : Int) - (q : Int) - (s.size : Int) - (x : Int) < 0) = false:=by simp; omega
   go_wp2_with fail
   refine (SZ.out _).mono ?_
   rintro e w1 ⟨rfl, b1⟩
   have B1:=bu br b1
   clear c0 c1 c2 SZ b1
   go_wp2
   go_roundw
   case rel => exact ⟨k + 1, by omega, by go_num, by rw [HP1.out]; simp; omega, B1⟩
   case measure => simp [intOf]; omega
  have hkn : rs.take k = rs:=List.take_of_length_le (by have:=Hn.out; omega)
  rw [hkn]
  clear hp
  go_wp2
  go_ret
  exact ⟨rfl, br⟩
theorem made_pcells (n : Nat) : (madeCells (qv 0 ⟨#[]⟩ (.slice none 0 0)).cells (n * 3)).toList = pcells (List.replicate n ((0, ⟨#[]⟩),.slice none 0 0)) := by
 apply List.ext_getElem?
 intro i
 by_cases hi : i < n * 3
 ·have h:=pcells_get (List.replicate n ((0, ⟨#[]⟩),.slice none 0 0)) (i / 3) (i % 3) (by simp; omega) (by omega)
  rw [show i / 3 * 3 + i % 3 = i by omega] at h
  have hr : (List.replicate n (((0 : Int), (⟨#[]⟩ : ByteArray)), Value.slice none 0 0)).getD (i / 3) ((0, ⟨#[]⟩),.slice none 0 0) = ((0, ⟨#[]⟩),.slice none 0 0):=by simp [show i / 3 < n by omega]
  rw [h, hr]
  have hc : (qv 0 ⟨#[]⟩ (.slice none 0 0)).cells = #[.int .i64 0,.string ⟨#[]⟩,.slice none 0 0]:=by rfl
  rw [hc]
  have h3 : i % 3 = 0 ∨ i % 3 = 1 ∨ i % 3 = 2:=by omega
  have he : (madeCells #[Value.int .i64 0,.string ⟨#[]⟩,.slice none 0 0] (n * 3)).toList[i]? = some (#[Value.int .i64 0,.string ⟨#[]⟩,.slice none 0 0][i % 3]!):=by
   simp [madeCells, hi]
  rw [he]
  rcases h3 with e | e | e <;> rw [e] <;> rfl
 rw [List.getElem?_eq_none (by rw [Array.length_toList, size_madeCells]; omega), List.getElem?_eq_none (by rw [pcells_len]; simp; omega)]
theorem opt_zero {w : World} {base n : Nat} {v : Value} (h : w.ownsRow base 36 3 v n (pcells (List.replicate n ((0, ⟨#[]⟩),.slice none 0 0)))) : OPtV w base v (List.replicate n zpt) (List.replicate n (.slice none 0 0)) := by
 refine ⟨by simp, ?_, fun k hk => ?_, fun i j hij hj b hb => ?_⟩
 ·rw [List.length_replicate, List.map_replicate, List.zip_replicate']
  exact h
 ·rw [List.length_replicate] at hk
  have e1 : (List.replicate n (Value.slice none 0 0)).getD k (.slice none 0 0) = .slice none 0 0:=by simp [hk]
  have e2 : (List.replicate n zpt).getD k zpt = zpt:=by simp [hk]
  rw [e1, e2]
  exact World.ownsRow_nil _ _ _ _
 rw [List.length_replicate] at hj
 have e1 : (List.replicate n (Value.slice none 0 0)).getD i (.slice none 0 0) = .slice none 0 0:=by simp [show i < n by omega]
 rw [e1] at hb
 simp [Value.ownBlock] at hb
def pthalf (ps : List Pt) (k : Nat) : List Pt := ps.take k ++ List.replicate (ps.length - k) zpt
theorem pthalf_len (ps : List Pt) (k : Nat) (h : k ≤ ps.length) : (pthalf ps k).length = ps.length := by simp [pthalf]; omega
theorem pthalf_set (ps : List Pt) (k : Nat) (h : k < ps.length) : (pthalf ps k).set k (ps.getD k zpt) = pthalf ps (k + 1) := by
 have e : ps.length - k = (ps.length - (k + 1)) + 1:=by omega
 have hk : (ps.take k).length = k:=by simp; omega
 unfold pthalf
 rw [List.take_succ_eq_append_getElem h, e, List.replicate_succ, List.set_append_right _ _ (by omega), hk, Nat.sub_self, List.set_cons_zero, List.append_assoc, List.getD_eq_getElem?_getD, List.getElem?_eq_getElem h]
 rfl

theorem toPartS_any (v : Value) (ps : List Pt) (w : World) (hl : ps.length ≤ 1048577) (h : RPt w v ps) :
 Calls Tryz.prog 9 #[v] w fun e w' => ∃ u, e = .returned u ∧ OPt w' w.heap.size u ps ∧ Below w.heap.size w w' := by
 obtain ⟨i0, hi, hz0, hz1, hz2⟩:=info_parts Tryz.infoPt
 obtain ⟨ao, ca, rfl⟩:=h.form
 have H:=hide h
 obtain ⟨n, hn⟩ : ∃ n, ps.length = n:=⟨_, rfl⟩
 have Hn:=hide hn
 rw [hn] at hl H ⊢
 clear h hn
 go_enter Tryz.func9, Tryz.ntmps9
 go_wp2_with (first | (at_make; refine wpList_make_full _ rfl _ _ 30 rfl w.heap.size 36 i0 (qv 0 ⟨#[]⟩ (.slice none 0 0)) 3 Tryz.underlying30 hi hz0 hz1 .i64 .i64 _ _ n rfl rfl rfl rfl (by rw [hz2]; omega) (by unfold maxLen; omega) (Nat.le_refl _) ?_; intro w0 ho0 hg0))
 have T0 : OPtV w0 w.heap.size (.slice (some ⟨w.heap.size, 0, none⟩) n n) (pthalf ps 0) (List.replicate n (.slice none 0 0)):=by
  rw [made_pcells] at ho0
  have:=opt_zero ho0
  simpa [pthalf, Hn.out] using this
 have B0 : Below w.heap.size w w0:=(Below.refl _ _).grown hg0 (Nat.le_refl _) (by simp)
 clear ho0 hg0 hz0 hz1 hz2 hi
 go_loopw [4] (fun i wr => ∃ (k : Nat) (vs : List Value), k ≤ n ∧ i = .int .i64 k ∧ OPtV wr w.heap.size (.slice (some ⟨w.heap.size, 0, none⟩) n n) (pthalf ps k) vs ∧ Below w.heap.size w wr) (fun i _ => n - (intOf i).toNat)
 case atStart => exact ⟨0, _, Nat.zero_le _, rfl, T0, B0⟩
 case round =>
  clear T0
  obtain ⟨k, vs, hk, rfl, T, br⟩:=hrel
  by_cases hlt : k < n
  ·have hkx : k < ps.length:=by have:=Hn.out; omega
   have hlen:=pthalf_len ps k (by omega)
   have HR:=H.out.below br
   obtain ⟨g, off, u, rfl, c0, c1, c2, ru⟩:=HR.at k hkx
   have HS:=hide (pthalf_set ps k hkx)
   obtain ⟨x, hx⟩ : ∃ x, ps.getD k zpt = x:=⟨_, rfl⟩
   rw [hx] at c0 c1 ru HS
   clear hx
   obtain ⟨m, s, xs⟩:=x
   simp only at c0 c1 ru
   have TP:=hide fun w h => toPart_any m s u xs w h
   obtain ⟨ua, uc, rfl⟩:=ru.form
   have RU:=hide ru
   have HT:=hide T
   generalize xs.length = xl at *
   clear HR H ru T
   go_wp2_with fail
   refine (TP.out _ RU.out).mono ?_
   rintro e w2 ⟨u2, rfl, o2, b2⟩
   have T2:=HT.out.below b2
   have B2:=bu br b2
   have lt2:=World.ownsRow.lt o2
   have hrow:=T2.row
   rw [hlen, Hn.out] at hrow
   have hplen : (pcells (((pthalf ps k).map phd).zip vs)).length = n * 3:=by rw [pcells_len]; simp [T2.len, hlen, Hn.out]
   have gt : ∀ j, j < n * 3 → ∃ u, w2.cell? ⟨w.heap.size, j, none⟩ = some u:=fun j hj => ⟨_, (hrow.cellAt j hj).trans (List.getElem?_eq_getElem (by rw [hplen]; exact hj))⟩
   obtain ⟨y0, d0⟩:=gt (k * 3) (by omega)
   obtain ⟨y1, d1⟩:=gt (k * 3 + 1) (by omega)
   obtain ⟨y2, d2⟩:=gt (k * 3 + 2) (by omega)
   have f0:=hrow.frozenAt (k * 3)
   have f1:=hrow.frozenAt (k * 3 + 1)
   have f2:=hrow.frozenAt (k * 3 + 2)
   have R:=hide (show OPtV (((w2.setCell ⟨w.heap.size, k * 3, none⟩ (.int .i64 m)).setCell ⟨w.heap.size, k * 3 + 1, none⟩ (.string s)).setCell ⟨w.heap.size, k * 3 + 2, none⟩ u2) w.heap.size (.slice (some ⟨w.heap.size, 0, none⟩) n n) (pthalf ps (k + 1)) (vs.set k u2) by
    have T3:=T2
    have en : n = (pthalf ps k).length:=by rw [hlen, Hn.out]
    rw [← HS.out]
    have:=opt_set (m:=m) (s:=s) (u:=u2) (xs:=xs) (k:=k) (cap:=n) (g:=w.heap.size) (w:=w2) (base:=w.heap.size) (ps:=pthalf ps k) (vs:=vs) (by rw [← en]; exact T3) (by rw [hlen]; exact hkx) (OI.mono o2 br.size) (fun j hj _ b hb e => by
     have h1:=World.ownsRow.lt (HT.out.each j hj) b hb
     have h2:=lt2 b e
     omega)
    rw [← en] at this
    exact this)
   have BR:=hide (((B2.setCell (p:=⟨w.heap.size, k * 3, none⟩) (Nat.le_refl _) (.int .i64 m)).setCell (p:=⟨w.heap.size, k * 3 + 1, none⟩) (Nat.le_refl _) (.string s)).setCell (p:=⟨w.heap.size, k * 3 + 2, none⟩) (Nat.le_refl _) u2)
   obtain ⟨va, vc, rfl⟩:=o2.form
   generalize xs.length = zl at *
   clear T2 B2 hrow hplen gt o2 lt2 HT TP RU c0 c1 c2
   go_wp2
   go_roundw
   case rel => exact ⟨k + 1, _, by omega, by go_num, R.out, BR.out⟩
   case measure => simp [intOf]; omega
  have hkn : pthalf ps k = ps:=by
   have:=Hn.out
   unfold pthalf
   rw [List.take_of_length_le (by omega), show ps.length - k = 0 by omega]
   simp
  rw [hkn] at T
  have T':=hide T
  clear T hkn H
  go_wp2
  go_ret
  exact ⟨_, rfl, ⟨_, T'.out⟩, br⟩
end
section
open Go.RowKit
def markT (k : Nat) : ByteArray := ⟨(109 :: Lib.decDigits k).toArray⟩

theorem markText_any (n : Nat) (w : World) (hn : 0 < n) (hm : n ≤ 9223372036854775807) :
 Calls Tryz.prog 51 #[.int .i64 n] w fun e w' => e = .returned (.string (markT n)) ∧ Below w.heap.size w w' := by
 have hcv:=one_str
 have hsz:=one_size
 go_enter Tryz.func51, Tryz.ntmps51
 go_wp2
 go_loopw [0, 3] (fun x s wr => ∃ (m : Nat) (t : List UInt8), m ≤ 9223372036854775807 ∧ DAt n m t ∧ x = .int .i64 m ∧ s = .string ⟨t.toArray⟩ ∧ Below w.heap.size w wr) (fun x _ _ => (intOf x).toNat)
 case atStart => exact ⟨n, [], hm, dat_start n (by omega), rfl, rfl, Below.refl _ _⟩
 case round =>
  obtain ⟨m, t, hm', hd, rfl, rfl, hb⟩:=hrel
  have ht20:=hd.2.1
  by_cases h0 : m = 0
  ·subst h0
   have HE:=hide (dat_end hd (by omega))
   clear hd
   go_wp2
   go_ret
   have HE':=HE.out
   subst HE'
   exact ⟨by apply congrArg Ending.returned; apply congrArg Value.string; apply ByteArray.ext; apply Array.toList_inj.1; simp [markT], hb⟩
  have hpos : 0 < m:=by omega
  obtain ⟨hd', hl⟩:=dat_step hd h0
  have HD:=hide hd'
  clear hd hd'
  have hs0:=hb.size
  have hmo:=one_more (m % 10) t (by omega)
  have hbl : Below w.heap.size w (wr.alloc (.cells #[.int .u8 (48 + (m : Int) % 10)] 5)):=hb.alloc hs0 _
  go_wp2
  go_roundw
  case rel => exact ⟨m / 10, _, by omega, HD.out, by go_num, by rw [← hmo]; rfl, hbl⟩
  case measure => simp [intOf]; omega
end
section
open Go.RowKit
variable [∀ (a b c d : Int), Decidable (Ok4 a b c d)]
variable [∀ (n f : Int), Decidable (COk n f)]
def pmk : Nat → List Pt → List Pt
 | _, [] => []
 | k, p :: ps => ((k : Int), markT (k + 1), imarks (k + 2) p.2.2.length) :: pmk (k + 2 + p.2.2.length) ps
def pend : Nat → List Pt → Nat
 | k, [] => k
 | k, p :: ps => pend (k + 2 + p.2.2.length) ps
theorem pmk_len (k : Nat) (ps : List Pt) : (pmk k ps).length = ps.length := by
 induction ps generalizing k with
 | nil => rfl
 | cons p ps ih => simp [pmk, ih]
theorem pmk_snoc (k : Nat) (ps : List Pt) (p : Pt) : pmk k (ps ++ [p]) = pmk k ps ++ [((pend k ps : Int), markT (pend k ps + 1), imarks (pend k ps + 2) p.2.2.length)] ∧ pend k (ps ++ [p]) = pend k ps + 2 + p.2.2.length := by
 induction ps generalizing k with
 | nil => exact ⟨rfl, rfl⟩
 | cons x ps ih => simp only [List.cons_append, pmk, pend, (ih _).1, (ih _).2]; exact ⟨trivial, trivial⟩
theorem pend_take (k0 : Nat) (ps : List Pt) (k : Nat) (hk : k < ps.length) : pend k0 (ps.take (k + 1)) = pend k0 (ps.take k) + 2 + (ps.getD k zpt).2.2.length := by
 rw [List.take_succ_eq_append_getElem hk, (pmk_snoc _ _ _).2]
 simp [List.getElem?_eq_getElem hk]
theorem pend_ge (k0 : Nat) (ps : List Pt) : k0 ≤ pend k0 ps := by
 induction ps generalizing k0 with
 | nil => exact Nat.le_refl _
 | cons p ps ih => have := ih (k0 + 2 + p.2.2.length); simp only [pend]; omega
theorem pend_le (k0 : Nat) (ps : List Pt) (k : Nat) : pend k0 (ps.take k) ≤ pend k0 ps := by
 induction ps generalizing k0 k with
 | nil => simp [pend]
 | cons p ps ih =>
  cases k with
  | zero => simp only [List.take_zero, pend]; have := pend_ge (k0 + 2 + p.2.2.length) ps; omega
  | succ k => simp only [List.take_succ_cons, pend]; exact ih _ _
def pmix (k0 k : Nat) (ps : List Pt) : List Pt := pmk k0 (ps.take k) ++ ps.drop k
theorem pmix_len (k0 k : Nat) (ps : List Pt) (h : k ≤ ps.length) : (pmix k0 k ps).length = ps.length := by
 simp [pmix, pmk_len]; omega
theorem pmix_get (k0 k : Nat) (ps : List Pt) (h : k < ps.length) : (pmix k0 k ps).getD k zpt = ps.getD k zpt := by
 have hl : (pmk k0 (ps.take k)).length = k:=by rw [pmk_len]; simp; omega
 unfold pmix
 rw [List.getD_eq_getElem?_getD, List.getElem?_append_right (by omega), hl, Nat.sub_self, List.getElem?_drop, Nat.add_zero, ← List.getD_eq_getElem?_getD]
theorem pmix_set (k0 k : Nat) (ps : List Pt) (h : k < ps.length) : (pmix k0 k ps).set k ((pend k0 (ps.take k) : Int), markT (pend k0 (ps.take k) + 1), imarks (pend k0 (ps.take k) + 2) (ps.getD k zpt).2.2.length) = pmix k0 (k + 1) ps := by
 have hl : (pmk k0 (ps.take k)).length = k:=by rw [pmk_len]; simp; omega
 unfold pmix
 rw [List.set_append_right _ _ (by omega), hl, Nat.sub_self, List.drop_eq_getElem_cons h, List.set_cons_zero, List.take_succ_eq_append_getElem h, (pmk_snoc _ _ _).1, List.append_assoc]
 simp [List.getElem?_eq_getElem h]

theorem markPartS_any (lo hi : Nat) (v : Value) (ps : List Pt) (vs : List Value) (k0 : Nat) (w : World) (hn : ps.length ≤ 4194304) (hw : ∀ p ∈ ps, p.2.2.length ≤ 4194304) (hp : pend k0 ps ≤ 100000000) (h : OPR w lo hi v ps vs) :
 Calls Tryz.prog 14 #[v,.int .i64 k0] w fun e w' => e = .returned (.int .i64 (pend k0 ps)) ∧ OPR w' lo hi v (pmk k0 ps) vs ∧ Kp w w' (fun b => lo ≤ b ∧ b < hi) := by
 obtain ⟨va, vc, rfl⟩:=OPt.form ⟨vs, h.tab⟩
 obtain ⟨n, hn'⟩ : ∃ n, ps.length = n:=⟨_, rfl⟩
 have Hn:=hide hn'
 have HW:=hide hw
 rw [hn'] at hn h ⊢
 have HS:=hide h
 clear hw h hn'
 go_enter Tryz.func14, Tryz.ntmps14
 go_wp2
 go_loopw [1, 5] (fun c i wr => ∃ k : Nat, k ≤ n ∧ i = .int .i64 k ∧ c = .int .i64 ((pend k0 (ps.take k) : Nat) : Int) ∧ OPR wr lo hi (.slice va n vc) (pmix k0 k ps) vs ∧ Kp w wr (fun b => lo ≤ b ∧ b < hi)) (fun _ i _ => n - (intOf i).toNat)
 case atStart => exact ⟨0, Nat.zero_le _, rfl, by simp [pend], by simpa [pmix, pmk] using HS.out, Kp.refl _ _⟩
 case round =>
  clear HS
  obtain ⟨k, hk, rfl, rfl, os, kr⟩:=hrel
  have hpk:=pend_le k0 ps k
  by_cases hlt : k < n
  ·have hkx : k < ps.length:=by have:=Hn.out; omega
   have hlen : (pmix k0 k ps).length = n:=by rw [pmix_len k0 k ps (by omega)]; exact Hn.out
   have hge:=pmix_get k0 k ps hkx
   have hse:=pmix_set k0 k ps hkx
   have hpt:=pend_take k0 ps k hkx
   have hpk1:=pend_le k0 ps (k + 1)
   have hxl:=HW.out _ (pt_mem hkx)
   have hkl : k < (pmix k0 k ps).length:=by omega
   obtain ⟨g, rfl⟩ : ∃ g, va = some ⟨g, 0, none⟩:=by
    rcases os.tab.row.2 with ⟨e, h0⟩ | ⟨g, cap, cur, e, _⟩
    ·omega
    injection e with e1 e2 e3; exact ⟨g, e1⟩
   have hrow:=os.tab.row
   rw [hlen] at hrow
   have hglo:=(World.ownsRow.lt hrow g rfl).1
   have hghi:=os.rowHi g rfl
   have hplen : (pcells (((pmix k0 k ps).map phd).zip vs)).length = n * 3:=by rw [pcells_len]; simp [os.tab.len, hlen]
   have hou:=os.tab.each k hkl
   have huh:=os.eachHi k hkl
   have hne : (vs.getD k (.slice none 0 0)).ownBlock ≠ some g:=pt_oi os.tab.row hou g rfl
   have hzl : ((pmix k0 k ps).map phd).zip vs = ((pmix k0 k ps).map phd).zip vs:=rfl
   have c2 : wr.cell? ⟨g, k * 3 + 2, none⟩ = some (vs.getD k (.slice none 0 0)):=by
    have:=hrow.cellAt (k * 3 + 2) (by omega)
    rw [pcells_get _ k _ (by simp [os.tab.len]; omega) (by omega), pzip_get _ vs os.tab.len k hkl] at this
    exact this
   rw [hge] at hou
   generalize (ps.getD k zpt).2.2 = xs at *
   generalize hqe : pend k0 (ps.take k) = q at *
   obtain ⟨u, hu⟩ : ∃ u, vs.getD k (.slice none 0 0) = u:=⟨_, rfl⟩
   have HU:=hide hu
   rw [hu] at hou huh hne c2
   obtain ⟨y0, d0⟩ : ∃ y, wr.cell? ⟨g, k * 3, none⟩ = some y:=⟨_, (hrow.cellAt (k * 3) (by omega)).trans (List.getElem?_eq_getElem (by rw [hplen]; omega))⟩
   have f0:=hrow.frozenAt (k * 3)
   obtain ⟨w1, hw1⟩ : ∃ y, wr.setCell ⟨g, k * 3, none⟩ (.int .i64 (q : Int)) = y:=⟨_, rfl⟩
   have k1 : Kp wr w1 (fun b => b = g):=hw1 ▸ set_kp _ _ _ _
   have r1:=hw1 ▸ (hrow.stored (k * 3) (.int .i64 (q : Int))).1
   have MT:=hide fun w => markText_any (q + 1) w (by omega) (by omega)
   have HSE:=hide hse
   have HPT:=hide hpt
   have T:=hide os.tab
   have TOP:=os.top
   have RH:=hide os.rowHi
   have EH:=hide os.eachHi
   have MK:=hide fun w h => imark_any lo (q + 2) u xs w hxl (by omega) h
   clear hzl hge hu hse hpt os
   go_wp2_with fail
   refine (MT.out _).mono ?_
   rintro e w2 ⟨rfl, b2⟩
   have r2:=World.ownsRow.kept (row:=none) r1 ⟨b2.os, b2.tape, b2.output, b2.size, fun k hk _ => b2.block k hk⟩ (by simp [Value.ownBlock])
   obtain ⟨y1, d1⟩ : ∃ y, w2.cell? ⟨g, k * 3 + 1, none⟩ = some y:=⟨_, (r2.cellAt (k * 3 + 1) (by omega)).trans (List.getElem?_eq_getElem (by rw [List.length_set, hplen]; omega))⟩
   have f1:=r2.frozenAt (k * 3 + 1)
   have c2' : w2.cell? ⟨g, k * 3 + 2, none⟩ = some u:=by
    have h1 : w1.cell? ⟨g, k * 3 + 2, none⟩ = some u:=hw1 ▸ (World.cell?_setCell_other _ _ _ _ (by simp)).trans c2
    exact (b2.cell (p := ⟨g, k * 3 + 2, none⟩) (cell_lt h1)).trans h1
   obtain ⟨mt, hmt⟩ : ∃ t, markT (q + 1) = t:=⟨_, rfl⟩
   rw [hmt] at HSE ⊢
   clear hmt
   obtain ⟨w3, hw3⟩ : ∃ y, w2.setCell ⟨g, k * 3 + 1, none⟩ (.string mt) = y:=⟨_, rfl⟩
   have r3:=hw3 ▸ (r2.stored (k * 3 + 1) (.string mt)).1
   have k3 : Kp wr w3 (fun b => b = g):=(k1.trans (Below.kpOf b2 _)).trans (hw3 ▸ set_kp _ _ _ _)
   have c3 : w3.cell? ⟨g, k * 3 + 2, none⟩ = some u:=hw3 ▸ (World.cell?_setCell_other _ _ _ _ (by simp)).trans c2'
   have o3 : OI w3 lo u xs:=hou.kp k3 (fun b hb e => hne (by rw [← e]; exact hb))
   have lu:=World.ownsRow.lt hou
   obtain ⟨ua, uc, rfl⟩:=o3.form
   have O3:=hide o3
   have R3:=hide r3
   clear c2 c2' d0 f0 r1 r2 b2 k1 MT hou hrow r3 o3 hw1
   go_wp2_with fail
   refine (MK.out _ O3.out).mono ?_
   rintro e w4 ⟨rfl, o4, g4⟩
   have T4 : OPtV w4 lo (.slice (some ⟨g, 0, none⟩) n vc) (pmix k0 (k + 1) ps) vs:=by
    rw [← HSE.out]
    refine opt_mark T.out hkl (by rw [hlen]; exact R3.out) k3 (by rw [HU.out]; exact o4) (by rw [HU.out]; exact g4)
   have K4 : Kp w w4 (fun b => lo ≤ b ∧ b < hi):=(kr.trans (k3.mono fun b e => e ▸ ⟨hglo, hghi⟩)).trans ((kp_grown g4).mono fun b e => ⟨(lu b e).1, huh b e⟩)
   have OP : Hid (OPR w4 lo hi (.slice (some ⟨g, 0, none⟩) n vc) (pmix k0 (k + 1) ps) vs):=hide ⟨T4, by have:=k3.size; have:=g4.size; omega, RH.out, fun j hj => EH.out j (by rw [hlen]; rw [pmix_len k0 (k + 1) ps (by omega), Hn.out] at hj; exact hj)⟩
   clear T4 o4 g4 c3 d1 f1 k3 lu O3 R3 T RH EH huh hne kr hw3
   go_wp2
   go_roundw
   case rel => exact ⟨k + 1, by omega, by go_num, by rw [HPT.out]; simp, OP.out, K4⟩
   case measure => simp [intOf]; omega
  have hkn : ps.take k = ps:=List.take_of_length_le (by have:=Hn.out; omega)
  have hpm : pmix k0 k ps = pmk k0 ps:=by unfold pmix; rw [hkn, List.drop_of_length_le (by have:=Hn.out; omega), List.append_nil]
  rw [hpm] at os
  rw [hkn]
  have OS:=hide os
  clear os hpm hpk
  go_wp2
  go_ret
  exact ⟨rfl, OS.out, kr⟩
end
end Go.Proofs.YtjkcphnohhpihaaGreatDoor
