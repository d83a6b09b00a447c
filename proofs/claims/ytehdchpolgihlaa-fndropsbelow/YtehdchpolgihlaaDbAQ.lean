/- Texts that belong together: PartOpen, PartEq, PartTo, QcLater, PartTold, PartGet. -/
import Derived.Test.YtehdchpolgihlaaDbAK
import Derived.Test.YtehdchpolgihlaaDbAP
import Derived.Deep.Slices
import Derived.Test.YtehdchpolgihlaaDbAG
import Derived.Deep.RegionHeld3
import Derived.Test.YtehdchpolgihlaaDbAM
import Derived.Test.YtehdchpolgihlaaDbAB
import Derived.Test.YtehdchpolgihlaaDbAD
import Derived.Deep.RegionWith
import Derived.Deep.RegionLaw
import Derived.Deep.DeepCutAuto
import Derived.Laws.CopyOwn
import Derived.Laws.EntriesVeiled
/- A part and a table of parts that came in. -/
namespace Go.Proofs.Ytehdchpolgihlaa
open Go.ChangeShapes Go.WideShapes Go.ChangeAt Go.RowKit
open Go.Joins
set_option linter.unusedSectionVars false
variable [∀ (a b c d : Int), Decidable (Ok4 a b c d)]
variable [∀ (n f : Int), Decidable (COk n f)]

set_option maxRecDepth 100000 in
theorem cellsPart : Try.prog.cellsOf 58 = 3 := by kernel_rfl
/-- A part as it came: its list at whatever place. -/
abbrev Pr := Int × ByteArray × Option Addr × Nat × List Int
def prz : Pr := (0, ⟨#[]⟩, none, 0, [])
def prp (r : Pr) : Pt := (r.1, r.2.1, r.2.2.2.2)
/-- What is known of a table that came in. -/
def ATab (W : World) (ao : Option Addr) (rs : List Pr) : Prop :=
  rs = [] ∨ ∃ g off, ao = some ⟨g, off, none⟩ ∧ ∀ k, k < rs.length → W.cell? ⟨g, off + k * 3, none⟩ = some (.int .i64 (rs.getD k prz).1) ∧ W.cell? ⟨g, off + k * 3 + 1, none⟩ = some (.string (rs.getD k prz).2.1) ∧ W.cell? ⟨g, off + k * 3 + 2, none⟩ = some (.slice (rs.getD k prz).2.2.1 (rs.getD k prz).2.2.2.2.length (rs.getD k prz).2.2.2.1)
theorem three_list {α : Type} {l : List α} (h : l.length = 3) : ∃ a b c, l = [a, b, c] := by
  match l, h with
  | [a, b, c], _ => exact ⟨a, b, c, rfl⟩
set_option maxRecDepth 100000 in
theorem open_parts0 {H : Type} {enc : TypeId × Value → H} {W : World} {fuel : Nat} {a : Option Addr} {len cap : Nat} {x : DataW H × List MemPlace} (h : DataW.trod enc Try.prog W 0 (fun _ => true) true fuel 33 (Value.slice a len cap).cells.toList = some x) :
    ∃ rs : List Pr, len = rs.length ∧ rs.length ≤ maxLen ∧ ATab W a rs ∧ ∀ r ∈ rs, r.2.1.size ≤ maxLen ∧ r.2.2.2.2.length ≤ maxLen ∧ AIW W r.2.2.1 r.2.2.2.2 ∧ WfL r.2.2.2.2 := by
  rcases Go.Deep.open_slice Try.underlying33 h with ⟨hcs, _⟩ | ⟨ad, l, c, m, n, D, Pl, hcs, _, hl, hm, hmm, _, hx⟩
  · simp [Value.cells] at hcs
    obtain ⟨rfl, rfl, rfl⟩ := hcs
    exact ⟨[], rfl, by simp, .inl rfl, fun r hr => by simp at hr⟩
  · simp [Value.cells] at hcs
    obtain ⟨rfl, rfl, rfl⟩ := hcs
    have hm' : m = cap := by simpa using hmm
    have each : ∀ i, ∃ q : Pr, i < len → (W.cell? (ad.add (i * 3)) = some (.int .i64 q.1) ∧ W.cell? (ad.add (i * 3 + 1)) = some (.string q.2.1) ∧ W.cell? (ad.add (i * 3 + 2)) = some (.slice q.2.2.1 q.2.2.2.2.length q.2.2.2.1)) ∧ q.2.1.size ≤ maxLen ∧ q.2.2.2.2.length ≤ maxLen ∧ AIW W q.2.2.1 q.2.2.2.2 ∧ WfL q.2.2.2.2 := by
      intro i
      by_cases hi : i < len
      · obtain ⟨cs', h1, h2⟩ := hx i (by omega)
        rw [cellsPart] at h1
        obtain ⟨_, hlen, hcell⟩ := World.cells?_some h1
        obtain ⟨y0, y1, y2, k, _, _, g0, g1, g2⟩ := Go.Deep.trod_struct3 Try.underlying58 h2
        obtain ⟨v0, v1, v2, rfl⟩ := three_list hlen
        have e0 := hcell 0 (by omega)
        have e1 := hcell 1 (by omega)
        have e2 := hcell 2 (by omega)
        rw [Go.Deep.add_add] at e0 e1 e2
        have ci : Try.prog.cellsOf 3 = 1 := by kernel_rfl
        have cs : Try.prog.cellsOf 9 = 1 := by kernel_rfl
        simp [ci, cs] at g0 g1 g2
        obtain ⟨a0, e0', _, _⟩ := DataW.trod_int Try.underlying3 g0
        obtain ⟨a1, e1', _, hs1⟩ := DataW.trod_string Try.underlying9 g1
        obtain ⟨ao, ca, xs, rfl, hxl, hxc, hxw⟩ := open_listW g2
        simp at e0' e1'
        subst e0' e1'
        exact ⟨(a0, a1, ao, ca, xs), fun _ => ⟨⟨by simpa using e0, by simpa using e1, by simpa using e2⟩, hs1, hxl, hxc, hxw⟩⟩
      · exact ⟨prz, fun h => absurd h hi⟩
    obtain ⟨q, hq⟩ := Classical.axiomOfChoice each
    refine ⟨(List.range len).map q, by simp, by simp; omega, ?_, fun r hr => ?_⟩
    · by_cases h0 : len = 0
      · left; simp [h0]
      · right
        obtain ⟨b, off, spot⟩ := ad
        have hc := (hq 0 (by omega)).1.1
        have hspot : spot = none := by simpa [Addr.add] using World.cell?_spot hc
        subst hspot
        refine ⟨b, off, rfl, fun k hk => ?_⟩
        rw [List.length_map, List.length_range] at hk
        have := (hq k hk).1
        have ea : ∀ j, ((⟨b, off, none⟩ : Addr).add j) = ⟨b, off + j, none⟩ := fun j => by unfold Addr.add; split <;> simp_all
        rw [ea, ea, ea] at this
        have eg : ((List.range len).map q).getD k prz = q k := by simp [hk]
        rw [eg]
        simpa [Nat.add_assoc] using this
    · obtain ⟨j, hj, rfl⟩ := List.mem_map.1 hr
      exact (hq j (List.mem_range.1 hj)).2
set_option maxRecDepth 100000 in
theorem open_part {H : Type} {enc : TypeId × Value → H} {W : World} {base : Nat} {v : Value} {d : DataW H} {p : List MemPlace} (hv : Value.okWide Try.prog W .any base 58 v)
    (h : DataW.Trod enc Try.prog W 0 (fun _ => true) true 58 v d p) :
    ∃ n s ao ca, ∃ xs : List Int, v = qv n s (.slice ao xs.length ca) ∧ s.size ≤ maxLen ∧ xs.length ≤ maxLen ∧ AIW W ao xs ∧ WfL xs := by
  obtain ⟨c0, c1, c2, y0, y1, y2, m, rfl, _, _, hy0, hy1, hy2⟩ := open_agg3 Try.underlying58 (by kernel_rfl) cellsPart hv h
  obtain ⟨a, e0, _, _⟩ := DataW.trod_int Try.underlying3 hy0
  obtain ⟨s, e1, _, hs⟩ := DataW.trod_string Try.underlying9 hy1
  obtain ⟨ao, ca, xs, rfl, hx, ax, wx⟩ := open_listW hy2
  simp at e0 e1
  exact ⟨a, s, ao, ca, xs, by rw [e0, e1], hs, hx, ax, wx⟩
set_option maxRecDepth 100000 in
theorem open_parts {H : Type} {enc : TypeId × Value → H} {W : World} {base : Nat} {v : Value} {d : DataW H} {p : List MemPlace} (hv : Value.okWide Try.prog W .any base 33 v)
    (h : DataW.Trod enc Try.prog W 0 (fun _ => true) true 33 v d p) : ∃ al cl, ∃ rs : List Pr, v = .slice al rs.length cl ∧ rs.length ≤ maxLen ∧ ATab W al rs ∧ ∀ r ∈ rs, r.2.1.size ≤ maxLen ∧ r.2.2.2.2.length ≤ maxLen ∧ AIW W r.2.2.1 r.2.2.2.2 ∧ WfL r.2.2.2.2 := by
  obtain ⟨a, len, cap, rfl⟩ := okWide_slice Try.underlying33 hv
  obtain ⟨fuel, hf⟩ := h
  obtain ⟨rs, rfl, hm, hr, he⟩ := open_parts0 hf
  exact ⟨a, cap, rs, rfl, hm, hr, he⟩
theorem ATab.rpt {W : World} {ao : Option Addr} {ca : Nat} {rs : List Pr} (h : ATab W ao rs) (he : ∀ r ∈ rs, AIW W r.2.2.1 r.2.2.2.2) (hl : ∀ r ∈ rs, r.2.2.2.2.length ≤ 4194304) : RPt W (.slice ao rs.length ca) (rs.map prp) := by
  refine ⟨ao, ca, by simp, ?_⟩
  rcases h with rfl | ⟨g, off, rfl, h⟩
  · exact .inl rfl
  · refine .inr ⟨g, off, rfl, fun k hk => ?_⟩
    rw [List.length_map] at hk
    have hm : rs.getD k prz ∈ rs := by rw [List.getD_eq_getElem?_getD, List.getElem?_eq_getElem hk]; exact List.getElem_mem hk
    have e : (rs.map prp).getD k zpt = prp (rs.getD k prz) := by simp [List.getElem?_eq_getElem hk]
    obtain ⟨c0, c1, c2⟩ := h k hk
    rw [e]
    exact ⟨_, c0, c1, c2, (he _ hm).ri (hl _ hm)⟩
end Go.Proofs.Ytehdchpolgihlaa

/- PartEq: tables are held against each other (laws.eqPartS), counted (laws.szPartS). -/
namespace Go.Proofs.Ytehdchpolgihlaa
open Go.RowKit
set_option linter.unusedSectionVars false
variable [∀ (a b c d : Int), Decidable (Ok4 a b c d)]
variable [∀ (n f : Int), Decidable (COk n f)]

set_option maxHeartbeats 4000000 in
set_option maxRecDepth 100000 in
theorem eqPartS_yes (v u : Value) (ps : List Pt) (w : World) (hl : ps.length ≤ 4194304) (hv : RPt w v ps) (hu : RPt w u ps) :
    Calls Try.prog 17 #[v, u] w fun e w' => e = .returned (.bool true) ∧ Below w.heap.size w w' := by
  obtain ⟨ao, ca, rfl, ha⟩ := hv
  obtain ⟨bo, cb, rfl, hb⟩ := hu
  obtain ⟨n, hn⟩ : ∃ n, ps.length = n := ⟨_, rfl⟩
  have Hn := hide hn
  rw [hn] at hl ha hb ⊢
  clear hn
  go_enter Try.func17, Try.ntmps17
  go_wp2
  go_loopw [5] (fun i wr => ∃ k : Nat, k ≤ n ∧ i = .int .i64 k ∧ Below w.heap.size w wr) (fun i _ => n - (intOf i).toNat)
  case atStart => exact ⟨0, Nat.zero_le _, rfl, Below.refl _ _⟩
  case round =>
    obtain ⟨k, hk, rfl, br⟩ := hrel
    have hsr := br.size
    by_cases hlt : k < n
    · rcases ha with ha | ⟨g, o, rfl, ha⟩
      · subst ha; have := unhide Hn; simp at this; omega
      rcases hb with hb | ⟨g', o', rfl, hb⟩
      · subst hb; have := unhide Hn; simp at this; omega
      obtain ⟨p, a0, a1, a2, ra⟩ := ha k hlt
      obtain ⟨q, b0, b1, b2, rb⟩ := hb k hlt
      have hg : g < w.heap.size := cell_lt a0
      have hg' : g' < w.heap.size := cell_lt b0
      generalize (ps.getD k zpt).1 = m at *
      generalize (ps.getD k zpt).2.1 = s at *
      generalize (ps.getD k zpt).2.2 = xs at *
      have K : Hid (∀ w', Below wr.heap.size wr w' → Below wr.heap.size wr w' ∧ (w'.cell? ⟨g, o + k * 3, none⟩ = some (.int .i64 m) ∧ w'.cell? ⟨g, o + k * 3 + 1, none⟩ = some (.string s) ∧ w'.cell? ⟨g, o + k * 3 + 2, none⟩ = some p) ∧ (w'.cell? ⟨g', o' + k * 3, none⟩ = some (.int .i64 m) ∧ w'.cell? ⟨g', o' + k * 3 + 1, none⟩ = some (.string s) ∧ w'.cell? ⟨g', o' + k * 3 + 2, none⟩ = some q)) := fun w' hb' => by
        have hw := br.trans (hb'.mono hsr)
        exact ⟨hb', ⟨(hw.cell (p := ⟨g, o + k * 3, none⟩) hg).trans a0, (hw.cell (p := ⟨g, o + k * 3 + 1, none⟩) hg).trans a1, (hw.cell (p := ⟨g, o + k * 3 + 2, none⟩) hg).trans a2⟩, ⟨(hw.cell (p := ⟨g', o' + k * 3, none⟩) hg').trans b0, (hw.cell (p := ⟨g', o' + k * 3 + 1, none⟩) hg').trans b1, (hw.cell (p := ⟨g', o' + k * 3 + 2, none⟩) hg').trans b2⟩⟩
      have EQ : Hid (∀ w', Below wr.heap.size wr w' → Calls Try.prog 16 #[qv m s p, qv m s q] w' fun e w'' => e = .returned (.bool true) ∧ Below w'.heap.size w' w'') := hide fun w' hb' => by
        have hw := br.trans (hb'.mono hsr)
        exact eqPart_yes m s p q xs w' (ra.below hw (Nat.le_refl _)) (rb.below hw (Nat.le_refl _))
      obtain ⟨pa, pc, rfl⟩ := ra.form
      obtain ⟨qa, qc, rfl⟩ := rb.form
      have bA : Below wr.heap.size wr wr.drew := Below.drew (Below.refl _ _)
      have hKeep := unhide K _ bA
      clear ha hb a0 a1 a2 b0 b1 b2 ra rb
      generalize xs.length = xl at *
      go_wp2_with fail
      first | go_region_held3 (fun w' => Below wr.heap.size wr w' ∧ (w'.cell? ⟨g, o + k * 3, none⟩ = some (.int .i64 m) ∧ w'.cell? ⟨g, o + k * 3 + 1, none⟩ = some (.string s) ∧ w'.cell? ⟨g, o + k * 3 + 2, none⟩ = some (.slice pa xl pc)) ∧ (w'.cell? ⟨g', o' + k * 3, none⟩ = some (.int .i64 m) ∧ w'.cell? ⟨g', o' + k * 3 + 1, none⟩ = some (.string s) ∧ w'.cell? ⟨g', o' + k * 3 + 2, none⟩ = some (.slice qa xl qc))) (exact hKeep) (first
        | (go_at_call 16; have hgo := bA; refine (unhide EQ _ bA).mono ?_; rintro e wa ⟨rfl, ba⟩
           have bB : Below wr.heap.size wr wa := bA.trans ba
           have hKeep := unhide K _ bB; clear bA hgo)) | fail
      all_goals
        go_wp2
        go_roundw
        case rel => exact ⟨k + 1, by omega, by go_num, br.trans (bB.mono hsr)⟩
        case measure => simp [intOf]; omega
    · have hkn : k = n := by omega
      subst hkn
      clear ha hb
      go_wp2
      go_ret
      exact ⟨rfl, br⟩

/-- What szPartS counts beside the parts themselves. -/
def psum : List Pr → Nat
  | [] => 0
  | r :: rs => r.2.1.size + r.2.2.2.2.length + psum rs
theorem psum_snoc (rs : List Pr) (r : Pr) : psum (rs ++ [r]) = psum rs + (r.2.1.size + r.2.2.2.2.length) := by
  induction rs with
  | nil => simp [psum]
  | cons x rs ih => simp only [List.cons_append, psum, ih]; omega
theorem psum_take (rs : List Pr) (k : Nat) (hk : k < rs.length) : psum (rs.take (k + 1)) = psum (rs.take k) + ((rs.getD k prz).2.1.size + (rs.getD k prz).2.2.2.2.length) := by
  rw [List.take_succ_eq_append_getElem hk, psum_snoc]
  simp [List.getElem?_eq_getElem hk]
theorem psum_le (rs : List Pr) (k : Nat) : psum (rs.take k) ≤ psum rs := by
  induction rs generalizing k with
  | nil => simp [psum]
  | cons r rs ih =>
    cases k with
    | zero => simp [psum]
    | succ k => simp only [List.take_succ_cons, psum]; have := ih k; omega

set_option maxHeartbeats 4000000 in
set_option maxRecDepth 100000 in
theorem szPartS_yes (al : Option Addr) (cl : Nat) (rs : List Pr) (left : Int) (w : World) (h : ATab w al rs) (hs : (rs.length : Int) + psum rs ≤ left) (hl : left ≤ 1048576) :
    Calls Try.prog 12 #[.slice al rs.length cl, .int .i64 left] w fun e w' => e = .returned (.int .i64 (left - rs.length - psum rs)) ∧ Below w.heap.size w w' := by
  obtain ⟨n, hn⟩ : ∃ n, rs.length = n := ⟨_, rfl⟩
  have Hn := hide hn
  have H := hide h
  rw [hn] at hs ⊢
  clear hn h
  have hd0 : decide (left - (n : Int) < 0) = false := by simp; omega
  go_enter Try.func12, Try.ntmps12
  go_wp2
  go_loopw [1, 5] (fun a i wr => ∃ k : Nat, k ≤ n ∧ i = .int .i64 k ∧ a = .int .i64 (left - n - (psum (rs.take k) : Nat)) ∧ Below w.heap.size w wr) (fun _ i _ => n - (intOf i).toNat)
  case atStart => exact ⟨0, Nat.zero_le _, rfl, by simp [psum], Below.refl _ _⟩
  case round =>
    obtain ⟨k, hk, rfl, rfl, br⟩ := hrel
    have hp := psum_le rs k
    by_cases hlt : k < n
    · have hkx : k < rs.length := by have := unhide Hn; omega
      have hp1 := psum_le rs (k + 1)
      have hps := psum_take rs k hkx
      have HP1 := hide hps
      rw [hps] at hp1
      clear hps
      rcases unhide H with h | ⟨g, off, rfl, h⟩
      · subst h; simp at hkx
      obtain ⟨c0, c1, c2⟩ := h k hkx
      have hg : g < w.heap.size := cell_lt c0
      replace c0 := (br.cell (p := ⟨g, off + k * 3, none⟩) hg).trans c0
      replace c1 := (br.cell (p := ⟨g, off + k * 3 + 1, none⟩) hg).trans c1
      replace c2 := (br.cell (p := ⟨g, off + k * 3 + 2, none⟩) hg).trans c2
      clear h H
      generalize (rs.getD k prz).1 = m at *
      generalize (rs.getD k prz).2.1 = s at *
      generalize (rs.getD k prz).2.2.2.2.length = x at *
      generalize (rs.getD k prz).2.2.1 = ao at *
      generalize (rs.getD k prz).2.2.2.1 = ca at *
      generalize psum (rs.take k) = q at *
      have SZ := hide fun w => szPart_yes m s ao x ca (left - n - q) w (by omega) (by omega)
      have hd1 : decide (left - (n : Int) - (q : Int) - (s.size : Int) - (x : Int) < 0) = false := by simp; omega
      go_wp2_with fail
      refine (unhide SZ _).mono ?_
      rintro e w1 ⟨rfl, b1⟩
      have B1 := br.trans (b1.mono br.size)
      clear c0 c1 c2 SZ b1
      go_wp2
      go_roundw
      case rel => exact ⟨k + 1, by omega, by go_num, by rw [unhide HP1]; simp; omega, B1⟩
      case measure => simp [intOf]; omega
    · have hkn : rs.take k = rs := List.take_of_length_le (by have := unhide Hn; omega)
      rw [hkn]
      clear hp
      go_wp2
      go_ret
      exact ⟨rfl, br⟩
end Go.Proofs.Ytehdchpolgihlaa

/- PartTo: laws.toPartS; laws.szPartS where there is too much. -/
namespace Go.Proofs.Ytehdchpolgihlaa
open Go.RowKit
set_option linter.unusedSectionVars false
variable [∀ (a b c d : Int), Decidable (Ok4 a b c d)]
variable [∀ (n f : Int), Decidable (COk n f)]

theorem made_pcells (n : Nat) : (madeCells (qv 0 ⟨#[]⟩ (.slice none 0 0)).cells (n * 3)).toList = pcells (List.replicate n ((0, ⟨#[]⟩), .slice none 0 0)) := by
  apply List.ext_getElem?
  intro i
  by_cases hi : i < n * 3
  · have h := pcells_get (List.replicate n ((0, ⟨#[]⟩), .slice none 0 0)) (i / 3) (i % 3) (by simp; omega) (by omega)
    rw [show i / 3 * 3 + i % 3 = i by omega] at h
    have hr : (List.replicate n (((0 : Int), (⟨#[]⟩ : ByteArray)), Value.slice none 0 0)).getD (i / 3) ((0, ⟨#[]⟩), .slice none 0 0) = ((0, ⟨#[]⟩), .slice none 0 0) := by simp [show i / 3 < n by omega]
    rw [h, hr]
    have hc : (qv 0 ⟨#[]⟩ (.slice none 0 0)).cells = #[.int .i64 0, .string ⟨#[]⟩, .slice none 0 0] := by rfl
    rw [hc]
    have h3 : i % 3 = 0 ∨ i % 3 = 1 ∨ i % 3 = 2 := by omega
    have he : (madeCells #[Value.int .i64 0, .string ⟨#[]⟩, .slice none 0 0] (n * 3)).toList[i]? = some (#[Value.int .i64 0, .string ⟨#[]⟩, .slice none 0 0][i % 3]!) := by
      simp [madeCells, hi]
    rw [he]
    rcases h3 with e | e | e <;> rw [e] <;> rfl
  · rw [List.getElem?_eq_none (by rw [Array.length_toList, size_madeCells]; omega), List.getElem?_eq_none (by rw [pcells_len]; simp; omega)]
theorem opt_zero {w : World} {base n : Nat} {v : Value} (h : w.ownsRow base 31 3 v n (pcells (List.replicate n ((0, ⟨#[]⟩), .slice none 0 0)))) : OPtV w base v (List.replicate n zpt) (List.replicate n (.slice none 0 0)) := by
  refine ⟨by simp, ?_, fun k hk => ?_, fun i j hij hj b hb => ?_⟩
  · rw [List.length_replicate, List.map_replicate, List.zip_replicate']
    exact h
  · rw [List.length_replicate] at hk
    have e1 : (List.replicate n (Value.slice none 0 0)).getD k (.slice none 0 0) = .slice none 0 0 := by simp [hk]
    have e2 : (List.replicate n zpt).getD k zpt = zpt := by simp [hk]
    rw [e1, e2]
    exact World.ownsRow_nil _ _ _ _
  · rw [List.length_replicate] at hj
    have e1 : (List.replicate n (Value.slice none 0 0)).getD i (.slice none 0 0) = .slice none 0 0 := by simp [show i < n by omega]
    rw [e1] at hb
    simp [Value.ownBlock] at hb
/-- What is written behind k rounds. -/
def pthalf (ps : List Pt) (k : Nat) : List Pt := ps.take k ++ List.replicate (ps.length - k) zpt
theorem pthalf_len (ps : List Pt) (k : Nat) (h : k ≤ ps.length) : (pthalf ps k).length = ps.length := by simp [pthalf]; omega
theorem pthalf_set (ps : List Pt) (k : Nat) (h : k < ps.length) : (pthalf ps k).set k (ps.getD k zpt) = pthalf ps (k + 1) := by
  have e : ps.length - k = (ps.length - (k + 1)) + 1 := by omega
  have hk : (ps.take k).length = k := by simp; omega
  unfold pthalf
  rw [List.take_succ_eq_append_getElem h, e, List.replicate_succ, List.set_append_right _ _ (by omega), hk, Nat.sub_self, List.set_cons_zero, List.append_assoc, List.getD_eq_getElem?_getD, List.getElem?_eq_getElem h]
  rfl

set_option maxHeartbeats 4000000 in
set_option maxRecDepth 100000 in
theorem toPartS_any (v : Value) (ps : List Pt) (w : World) (hl : ps.length ≤ 1048577) (h : RPt w v ps) :
    Calls Try.prog 14 #[v] w fun e w' => ∃ u, e = .returned u ∧ OPt w' w.heap.size u ps ∧ Below w.heap.size w w' := by
  obtain ⟨i0, hi, hz0, hz1, hz2⟩ := info_parts Try.infoPt
  obtain ⟨ao, ca, rfl⟩ := h.form
  have H := hide h
  obtain ⟨n, hn⟩ : ∃ n, ps.length = n := ⟨_, rfl⟩
  have Hn := hide hn
  rw [hn] at hl H ⊢
  clear h hn
  go_enter Try.func14, Try.ntmps14
  go_wp2_with (first | (at_make; refine wpList_make_full _ rfl _ _ 24 rfl w.heap.size 31 i0 (qv 0 ⟨#[]⟩ (.slice none 0 0)) 3 Try.underlying24 hi hz0 hz1 .i64 .i64 _ _ n rfl rfl rfl rfl (by rw [hz2]; omega) (by unfold maxLen; omega) (Nat.le_refl _) ?_; intro w0 ho0 hg0))
  have T0 : OPtV w0 w.heap.size (.slice (some ⟨w.heap.size, 0, none⟩) n n) (pthalf ps 0) (List.replicate n (.slice none 0 0)) := by
    rw [made_pcells] at ho0
    have := opt_zero ho0
    simpa [pthalf, unhide Hn] using this
  have B0 : Below w.heap.size w w0 := (Below.refl _ _).grown hg0 (Nat.le_refl _) (by simp)
  clear ho0 hg0 hz0 hz1 hz2 hi
  go_loopw [4] (fun i wr => ∃ (k : Nat) (vs : List Value), k ≤ n ∧ i = .int .i64 k ∧ OPtV wr w.heap.size (.slice (some ⟨w.heap.size, 0, none⟩) n n) (pthalf ps k) vs ∧ Below w.heap.size w wr) (fun i _ => n - (intOf i).toNat)
  case atStart => exact ⟨0, _, Nat.zero_le _, rfl, T0, B0⟩
  case round =>
    clear T0
    obtain ⟨k, vs, hk, rfl, T, br⟩ := hrel
    by_cases hlt : k < n
    · have hkx : k < ps.length := by have := unhide Hn; omega
      have hlen := pthalf_len ps k (by omega)
      have HR := (unhide H).below br (Nat.le_refl _)
      obtain ⟨g, off, u, rfl, c0, c1, c2, ru⟩ := HR.at k hkx
      have HS := hide (pthalf_set ps k hkx)
      obtain ⟨x, hx⟩ : ∃ x, ps.getD k zpt = x := ⟨_, rfl⟩
      rw [hx] at c0 c1 ru HS
      clear hx
      obtain ⟨m, s, xs⟩ := x
      simp only at c0 c1 ru
      have TP := hide fun w h => toPart_any m s u xs w h
      obtain ⟨ua, uc, rfl⟩ := ru.form
      have RU := hide ru
      have HT := hide T
      generalize xs.length = xl at *
      clear HR H ru T
      go_wp2_with fail
      refine (unhide TP _ (unhide RU)).mono ?_
      rintro e w2 ⟨u2, rfl, o2, b2⟩
      have T2 := (unhide HT).below b2
      have B2 := br.trans (b2.mono br.size)
      have lt2 := World.ownsRow.lt o2
      have hrow := T2.row
      rw [hlen, unhide Hn] at hrow
      have hplen : (pcells (((pthalf ps k).map phd).zip vs)).length = n * 3 := by rw [pcells_len]; simp [T2.len, hlen, unhide Hn]
      have gt : ∀ j, j < n * 3 → ∃ u, w2.cell? ⟨w.heap.size, j, none⟩ = some u := fun j hj => ⟨_, (hrow.cellAt j hj).trans (List.getElem?_eq_getElem (by rw [hplen]; exact hj))⟩
      obtain ⟨y0, d0⟩ := gt (k * 3) (by omega)
      obtain ⟨y1, d1⟩ := gt (k * 3 + 1) (by omega)
      obtain ⟨y2, d2⟩ := gt (k * 3 + 2) (by omega)
      have f0 := hrow.frozenAt (k * 3)
      have f1 := hrow.frozenAt (k * 3 + 1)
      have f2 := hrow.frozenAt (k * 3 + 2)
      have R := hide (show OPtV (((w2.setCell ⟨w.heap.size, k * 3, none⟩ (.int .i64 m)).setCell ⟨w.heap.size, k * 3 + 1, none⟩ (.string s)).setCell ⟨w.heap.size, k * 3 + 2, none⟩ u2) w.heap.size (.slice (some ⟨w.heap.size, 0, none⟩) n n) (pthalf ps (k + 1)) (vs.set k u2) by
        have T3 := T2
        have en : n = (pthalf ps k).length := by rw [hlen, unhide Hn]
        rw [← unhide HS]
        have := opt_set (m := m) (s := s) (u := u2) (xs := xs) (k := k) (cap := n) (g := w.heap.size) (w := w2) (base := w.heap.size) (ps := pthalf ps k) (vs := vs) (by rw [← en]; exact T3) (by rw [hlen]; exact hkx) (OI.mono o2 br.size) (fun j hj _ b hb e => by
          have h1 := World.ownsRow.lt ((unhide HT).each j hj) b hb
          have h2 := lt2 b e
          omega)
        rw [← en] at this
        exact this)
      have BR := hide (((B2.setCell (p := ⟨w.heap.size, k * 3, none⟩) (Nat.le_refl _) (.int .i64 m)).setCell (p := ⟨w.heap.size, k * 3 + 1, none⟩) (Nat.le_refl _) (.string s)).setCell (p := ⟨w.heap.size, k * 3 + 2, none⟩) (Nat.le_refl _) u2)
      obtain ⟨va, vc, rfl⟩ := o2.form
      generalize xs.length = zl at *
      clear T2 B2 hrow hplen gt o2 lt2 HT TP RU c0 c1 c2
      go_wp2
      go_roundw
      case rel => exact ⟨k + 1, _, by omega, by go_num, unhide R, unhide BR⟩
      case measure => simp [intOf]; omega
    · have hkn : pthalf ps k = ps := by
        have := unhide Hn
        unfold pthalf
        rw [List.take_of_length_le (by omega), show ps.length - k = 0 by omega]
        simp
      rw [hkn] at T
      have T' := hide T
      clear T hkn H
      go_wp2
      go_ret
      exact ⟨_, rfl, ⟨_, unhide T'⟩, br⟩
end Go.Proofs.Ytehdchpolgihlaa

/- The later of two certificates, copied. -/
namespace Go.Proofs.Ytehdchpolgihlaa
open Go.RowKit

abbrev zq : Obj := .cells #[.int .i64 0, .string ⟨#[]⟩, .slice none 0 0] 75

set_option maxHeartbeats 4000000 in
set_option maxRecDepth 100000 in
theorem qtold_any (g : Nat) (n : Int) (s : ByteArray) (ao : Option Addr) (ca : Nat) (xs : List Int) (w : World) (hg : Loc w g #[.int .i64 n, .string s, .slice ao xs.length ca]) (ha : RI w (.slice ao xs.length ca) xs) (hs : s.size ≤ 281474976710656) :
    Calls Try.prog 52 #[.pointer (some ⟨g, 0, none⟩)] w fun e w' => ∃ u, e = .returned (qv n s u) ∧ OI w' w.heap.size u xs ∧ Below w.heap.size w w' := by
  have CL := hide fun w => clone_any s w hs
  have hgl := hg.lt
  obtain ⟨w0, hw0⟩ : ∃ w0, w.alloc zq = w0 := ⟨_, rfl⟩
  have B0 : Below w.heap.size w w0 := hw0 ▸ qalloc _ _
  have Z0 : Loc w0 w.heap.size #[.int .i64 0, .string ⟨#[]⟩, .slice none 0 0] := hw0 ▸ loc_at w _ _ rfl
  have s0 : w0.heap.size = w.heap.size + 1 := by rw [← hw0]; simp
  have G0 := hg.below B0 hgl
  have K : Hid (∀ w', Below w0.heap.size w0 w' → Below w0.heap.size w0 w' ∧ w'.cell? ⟨g, 0, none⟩ = some (.int .i64 n) ∧ w'.cell? ⟨g, 1, none⟩ = some (.string s)) := hide fun w' hb =>
    ⟨hb, (G0.below hb G0.lt).cell 0 rfl, (G0.below hb G0.lt).cell 1 rfl⟩
  have RA := hide ha
  have HZ := hide Z0
  have HG := hide G0
  clear ha hg Z0 G0
  go_enter Try.func52, Try.ntmps52
  go_upto_region 1 with fail
  clear hw0
  go_cut [3] (fun c wx => ∃ h, c = .pointer (some ⟨h, 0, none⟩) ∧ w0.heap.size ≤ h ∧ Loc wx h #[.int .i64 n, .string s, .slice none 0 0] ∧ Below w0.heap.size w0 wx)
  case first =>
    clear HZ HG RA
    refine wp_region_noPanic ?_
    refine wp_region_held_drew (S := fun w' => Below w0.heap.size w0 w' ∧ w'.cell? ⟨g, 0, none⟩ = some (.int .i64 n) ∧ w'.cell? ⟨g, 1, none⟩ = some (.string s)) (by kernel_rfl) (unhide K _ (Below.drew (Below.refl _ _))) (fun hHeld => ?_)
    obtain ⟨wd, hd⟩ : ∃ wd, w0.drew = wd := ⟨_, rfl⟩
    have bd : Below w0.heap.size w0 wd := hd ▸ Below.drew (Below.refl _ _)
    have szd := bd.size
    rw [hd] at hHeld ⊢
    clear hd
    refine take_at (i := 0) (d := 4) (v := ?_) rfl rfl (by kernel_rfl) (by kernel_rfl) (by kernel_rfl) (fun _ _ _ h => h) (Or.inl ⟨by rfl, ?_⟩) (by assumption) ?_
    rotate_left
    · intro w hSw
      try dsimp only at hSw
      go_simp
      try with_reducible rfl
    simp only [Act.put, List.setIfInBounds_toArray, List.set_cons_zero, List.set_cons_succ]
    refine take_at (i := 1) (d := 5) (v := ?_) rfl rfl (by kernel_rfl) (by kernel_rfl) (by kernel_rfl) (fun _ _ _ h => h) (Or.inl ⟨by rfl, ?_⟩) (by assumption) ?_
    rotate_left
    · intro w hSw
      try dsimp only at hSw
      go_simp
      try with_reducible rfl
    simp only [Act.put, List.setIfInBounds_toArray, List.set_cons_zero, List.set_cons_succ]
    refine take_at (i := 2) (d := 6) (v := ?_) rfl rfl (by kernel_rfl) (by kernel_rfl) (by kernel_rfl) (fun _ _ _ h => h) (Or.inl ⟨by rfl, ?_⟩) (by assumption) ?_
    rotate_left
    · intro w hSw
      try dsimp only at hSw
      go_simp
      try with_reducible rfl
    simp only [Act.put, List.setIfInBounds_toArray, List.set_cons_zero, List.set_cons_succ]
    refine take_at (i := 3) (d := 7) (v := ?_) rfl rfl (by kernel_rfl) (by kernel_rfl) (by kernel_rfl) (fun _ _ _ h => h) (Or.inl ⟨by rfl, ?_⟩) (by assumption) ?_
    rotate_left
    · intro w hSw
      try dsimp only at hSw
      go_simp
      try with_reducible rfl
    simp only [Act.put, List.setIfInBounds_toArray, List.set_cons_zero, List.set_cons_succ]
    refine take_at (i := 4) (d := 8) (v := ?_) rfl rfl (by kernel_rfl) (by kernel_rfl) (by kernel_rfl) (fun _ _ _ h => h) (Or.inl ⟨by rfl, ?_⟩) (by assumption) ?_
    rotate_left
    · intro w hSw
      try dsimp only at hSw
      go_simp
      try with_reducible rfl
    simp only [Act.put, List.setIfInBounds_toArray, List.set_cons_zero, List.set_cons_succ]
    refine take_at (i := 5) (d := 9) (v := ?_) rfl rfl (by kernel_rfl) (by kernel_rfl) (by kernel_rfl) (fun _ _ _ h => h) (Or.inl ⟨by rfl, ?_⟩) (by assumption) ?_
    rotate_left
    · intro w hSw
      try dsimp only at hSw
      go_simp
      try with_reducible rfl
    simp only [Act.put, List.setIfInBounds_toArray, List.set_cons_zero, List.set_cons_succ]
    refine take_at (i := 6) (d := 10) (v := ?_) rfl rfl (by kernel_rfl) (by kernel_rfl) (by kernel_rfl) (fun _ _ _ h => h) (Or.inl ⟨by rfl, ?_⟩) (by assumption) ?_
    rotate_left
    · intro w hSw
      try dsimp only at hSw
      go_simp
      try with_reducible rfl
    simp only [Act.put, List.setIfInBounds_toArray, List.set_cons_zero, List.set_cons_succ]
    refine take_at (i := 7) (d := 11) (v := ?_) rfl rfl (by kernel_rfl) (by kernel_rfl) (by kernel_rfl) (fun _ _ _ h => h) (Or.inl ⟨by rfl, ?_⟩) (by assumption) ?_
    rotate_left
    · intro w hSw
      try dsimp only at hSw
      go_simp
      try with_reducible rfl
    simp only [Act.put, List.setIfInBounds_toArray, List.set_cons_zero, List.set_cons_succ]
    refine wpAnyH_ready (rs := [8, 10]) (by kernel_rfl) (by simp) (AllReadyH.cons rfl (fun KK hKK => ?_) (AllReadyH.cons rfl (fun KK hKK => ?_) AllReadyH.nil))
    · go_simp
      refine (unhide CL _).mono ?_
      rintro e wc1 ⟨rfl, bnew⟩
      have bc1 : Below w0.heap.size w0 wc1 := bd.trans (bnew.mono bd.size)
      have zzwc1 := bnew.size
      clear hHeld bnew
      refine hKK.out _ _ (unhide K _ bc1) (fun hHeld => ?_)
      clear hKK KK
      refine take_at (i := 9) (d := 13) (v := ?_) rfl rfl (by kernel_rfl) (by kernel_rfl) (by kernel_rfl) (fun _ _ _ h => h) (Or.inl ⟨by rfl, ?_⟩) (by assumption) ?_
      rotate_left
      · intro w hSw
        try dsimp only at hSw
        go_simp
        try with_reducible rfl
      simp only [Act.put, List.setIfInBounds_toArray, List.set_cons_zero, List.set_cons_succ]
      refine ready_at (i := 10) rfl (by kernel_rfl) (fun KK hKK => ?_)
      go_simp
      obtain ⟨wl2, hwl2⟩ : ∃ x, wc1.alloc (.cells #[.int .i64 0, .string ⟨#[]⟩, .slice none 0 0] 75) = x := ⟨_, rfl⟩
      have bl2 : Below w0.heap.size w0 wl2 := hwl2 ▸ bc1.alloc bc1.size _
      have lg : Loc wl2 wc1.heap.size #[.int .i64 0, .string ⟨#[]⟩, .slice none 0 0] := hwl2 ▸ loc_at wc1 _ _ rfl
      rw [hwl2]
      clear hHeld hwl2
      refine hKK.out _ _ (unhide K _ bl2) (fun hHeld => ?_)
      clear hKK KK
      have q0 := lg.cell 0 rfl
      have q1 := lg.cell 1 rfl
      have q2 := lg.cell 2 rfl
      have FG := lg.frozen
      refine ready_at (i := 11) rfl (by kernel_rfl) (fun KK hKK => ?_)
      go_simp
      have bs : Below w0.heap.size w0 (((wl2.setCell ⟨wc1.heap.size, 0, none⟩ (.int .i64 n)).setCell ⟨wc1.heap.size, 1, none⟩ (.string s)).setCell ⟨wc1.heap.size, 2, none⟩ (.slice none 0 0)) := Below.set (Below.set (Below.set bl2 _ _ (by omega)) _ _ (by omega)) _ _ (by omega)
      clear hHeld
      refine hKK.out _ _ (unhide K _ bs) (fun hHeld => ?_)
      clear hKK KK
      clear hHeld
      refine wpAnyH_done (by kernel_rfl) ?_ _
      refine NoPanic.normal ?_
      go_wp2_with fail
      go_meet
      exact ⟨_, rfl, by omega, ((lg.set 0 _ rfl).set 1 _ rfl).set 2 _ rfl, bs⟩
    · go_simp
      obtain ⟨wl3, hwl3⟩ : ∃ x, wd.alloc (.cells #[.int .i64 0, .string ⟨#[]⟩, .slice none 0 0] 75) = x := ⟨_, rfl⟩
      have bl3 : Below w0.heap.size w0 wl3 := hwl3 ▸ bd.alloc bd.size _
      have lg : Loc wl3 wd.heap.size #[.int .i64 0, .string ⟨#[]⟩, .slice none 0 0] := hwl3 ▸ loc_at wd _ _ rfl
      rw [hwl3]
      clear hHeld hwl3
      refine hKK.out _ _ (unhide K _ bl3) (fun hHeld => ?_)
      clear hKK KK
      refine ready_at (i := 8) rfl (by kernel_rfl) (fun KK hKK => ?_)
      go_simp
      refine (unhide CL _).mono ?_
      rintro e wc4 ⟨rfl, bnew⟩
      have bc4 : Below w0.heap.size w0 wc4 := bl3.trans (bnew.mono bl3.size)
      have zzwc4 := bnew.size
      have lg := lg.below bnew lg.lt
      clear hHeld bnew
      refine hKK.out _ _ (unhide K _ bc4) (fun hHeld => ?_)
      clear hKK KK
      refine take_at (i := 9) (d := 13) (v := ?_) rfl rfl (by kernel_rfl) (by kernel_rfl) (by kernel_rfl) (fun _ _ _ h => h) (Or.inl ⟨by rfl, ?_⟩) (by assumption) ?_
      rotate_left
      · intro w hSw
        try dsimp only at hSw
        go_simp
        try with_reducible rfl
      simp only [Act.put, List.setIfInBounds_toArray, List.set_cons_zero, List.set_cons_succ]
      have q0 := lg.cell 0 rfl
      have q1 := lg.cell 1 rfl
      have q2 := lg.cell 2 rfl
      have FG := lg.frozen
      refine ready_at (i := 11) rfl (by kernel_rfl) (fun KK hKK => ?_)
      go_simp
      have bs : Below w0.heap.size w0 (((wc4.setCell ⟨wd.heap.size, 0, none⟩ (.int .i64 n)).setCell ⟨wd.heap.size, 1, none⟩ (.string s)).setCell ⟨wd.heap.size, 2, none⟩ (.slice none 0 0)) := Below.set (Below.set (Below.set bc4 _ _ (by omega)) _ _ (by omega)) _ _ (by omega)
      clear hHeld
      refine hKK.out _ _ (unhide K _ bs) (fun hHeld => ?_)
      clear hKK KK
      clear hHeld
      refine wpAnyH_done (by kernel_rfl) ?_ _
      refine NoPanic.normal ?_
      go_wp2_with fail
      go_meet
      exact ⟨_, rfl, by omega, ((lg.set 0 _ rfl).set 1 _ rfl).set 2 _ rfl, bs⟩
  case rest =>
    obtain ⟨h, rfl, hh, LH, bw⟩ := hcut
    have G1 := (unhide HG).below bw (unhide HG).lt
    have Z1 := (unhide HZ).below bw (unhide HZ).lt
    have R1 := unhide RA
    have B1 : Below w.heap.size w wc := B0.trans (bw.mono B0.size)
    have s1 := bw.size
    have l1 := LH.lt
    have x2 := G1.cell 2 rfl
    have y0 := Z1.cell 0 rfl
    have y1 := Z1.cell 1 rfl
    have y2 := Z1.cell 2 rfl
    have fy := Z1.frozen
    have h0 := LH.cell 0 rfl
    have h1 := LH.cell 1 rfl
    have h2 := LH.cell 2 rfl
    have fh := LH.frozen
    have hl := R1.1
    clear HG HZ RA K CL bw B0
    by_cases hx : xs = []
    · subst hx
      go_wp2
      refine bodyPost_ret (v := qv n s (.slice none 0 0)) (by simp [results, Try.results52, go_sem, y0, y1, y2]) rfl ?_
      exact ⟨_, rfl, World.ownsRow_nil _ _ _ _, Below.set (Below.set (Below.set B1 _ _ (Nat.le_refl _)) _ _ (Nat.le_refl _)) _ _ (Nat.le_refl _)⟩
    · have hp : 0 < xs.length := List.length_pos_iff.2 hx
      obtain ⟨cs, hcs⟩ : ∃ cs, xs.map (Value.int .i64) = cs := ⟨_, rfl⟩
      have hcl : cs.length = xs.length := by rw [← hcs]; simp
      have hone : ∀ v ∈ cs, v.oneCell' = true := by rw [← hcs]; exact ints_plain64 xs
      obtain ⟨ad, rfl, hcells⟩ : ∃ ad, ao = some ad ∧ ∀ j u, cs[j]? = some u → w.cell? (ad.add j) = some u := by
        obtain ⟨_, ao', ca', e, hr⟩ := R1
        cases e
        rcases hr with rfl | ⟨b, off, rfl, hr⟩
        · exact absurd rfl hx
        · exact ⟨_, rfl, hcs ▸ inews_cells hr⟩
      have hrows : ∀ w', Below w.heap.size w w' → ∀ j u, cs[j]? = some u → w'.cell? (ad.add j) = some u := fun w' hb j u hj => (hb.cell (cell_lt (hcells j u hj))).trans (hcells j u hj)
      have HR := hide hrows
      have HC := hide hcs
      obtain ⟨i0, hi, hz0, hz1, hz2⟩ := info_parts Try.info3
      obtain ⟨m, hm⟩ : ∃ m, xs.length = m := ⟨_, rfl⟩
      rw [hm] at hl hcl hp x2 G1
      have Hm := hide hm
      clear R1 hcells hrows hcs hm hx
      have hgt : decide ((0 : Int) < (m : Int)) = true := by simpa using hp
      go_upto_region 4 with (first | (at_make; refine wpList_make_full _ rfl _ _ 29 rfl wc.heap.size 3 i0 (.int .i64 0) 1 Try.underlying29 hi hz0 hz1 .i64 .i64 m m m rfl rfl rfl rfl (by rw [hz2]; omega) (by unfold maxLen; omega) (Nat.le_refl _) ?_; intro w2 ho2 hg2
                                      have b2 : Below wc.heap.size wc w2 := (Below.refl _ _).grown hg2 (Nat.le_refl _) (by simp)
                                      have L2 := LH.below b2 LH.lt
                                      have k2 := L2.cell 2 rfl
                                      have f2 := L2.frozen))
      obtain ⟨hlen, hrow⟩ := ho2
      rcases hrow with ⟨e, _⟩ | ⟨row, cap, cur, e, hrb, hrh, _, hcm, hcz, hct⟩
      · cases e
      cases e
      have hlt2 : wc.heap.size < w2.heap.size := (Array.getElem?_eq_some_iff.1 hrh).1
      obtain ⟨w3, hw3⟩ : ∃ w3, w2.setCell ⟨h, 2, none⟩ (.slice (some ⟨wc.heap.size, 0, none⟩) m m) = w3 := ⟨_, rfl⟩
      have B3 : Below w.heap.size w w3 := hw3 ▸ Below.set (B1.trans (b2.mono B1.size)) (g := h) 2 _ (by omega)
      have K3 : Kp w2 w3 (fun k => k = h) := hw3 ▸ set_kp w2 h 2 _
      have L3 : Loc w3 h #[.int .i64 n, .string s, .slice (some ⟨wc.heap.size, 0, none⟩) m m] := hw3 ▸ L2.set 2 _ rfl
      have Z3 := (Z1.below b2 Z1.lt).kp K3 (by omega)
      have G3 := (G1.below b2 G1.lt).kp K3 (by omega)
      have H3 : w3.heap[wc.heap.size]? = some (.cells cur.toList.toArray 3 (0, 0)) := by rw [K3.block _ hlt2 (by omega)]; simpa using hrh
      have c3 := unhide HR w3 B3
      have z3 := K3.size
      have p2 := L3.cell 2 rfl
      have q2 := G3.cell 2 rfl
      have hcz' : cur.toList.length = m := by simpa using hcz
      rw [hw3]
      clear hw3 k2 f2 h0 h1 h2 fh y0 y1 y2 fy x2
      have H3h := hide H3
      have C3 := hide c3
      go_region_law (refine step_copy_splice rfl (.tmp 28) (.tmp 32) 29 29 rfl 3 Try.underlying29 (by rw [hi]; simp [hz1]) (some ⟨wc.heap.size, 0, none⟩) (some ad) m m m ca (by simp [Act.eval]) (by simp [Act.eval]) wc.heap.size 0 cur.toList 3 (unhide H3h) cs (by rw [hcl]; simp) (fun _ => ⟨rfl, _, rfl, unhide C3⟩) (by omega) hone wc.heap.size w3 ⟨rfl, rfl, rfl, Nat.le_refl _, fun _ _ => rfl⟩ (Nat.le_refl _) ?_; intro w4 hg4 hb4)
      all_goals
        have L4 := L3.below hb4 l1
        have Z4 := Z3.below hb4 (by omega)
        have B4 : Below w.heap.size w w4 := B3.trans (hb4.mono (by omega))
        have h0 := L4.cell 0 rfl
        have h1 := L4.cell 1 rfl
        have h2 := L4.cell 2 rfl
        have y0 := Z4.cell 0 rfl
        have y1 := Z4.cell 1 rfl
        have y2 := Z4.cell 2 rfl
        have fy := Z4.frozen
        have O4 : OI w4 w.heap.size (.slice (some ⟨wc.heap.size, 0, none⟩) m m) xs := by
          refine ⟨by rw [unhide Hm]; simp [unhide Hm], .inr ⟨wc.heap.size, m, _, by rw [unhide Hm], by omega, hg4.out, by rw [unhide Hm]; exact Nat.le_refl _, hcm, ?_, ?_⟩⟩
          · rw [List.size_toArray, length_splice _ _ _ (by omega), hcz', Nat.mul_one]
          · rw [unhide HC]; simp [splice, unhide Hm, hcl]
        have HO := hide O4
        clear L3 Z3 G3 H3 c3 p2 q2 K3 L4 Z4 O4 hg4 hb4 LH Z1 G1 b2 L2 hlen hct hcz hrh
        go_wp2
        refine bodyPost_ret (v := qv n s (.slice (some ⟨wc.heap.size, 0, none⟩) m m)) (by simp [results, Try.results52, go_sem, y0, y1, y2]) rfl ?_
        have K5 : Kp w4 (((w4.setCell ⟨w.heap.size, 0, none⟩ (.int .i64 n)).setCell ⟨w.heap.size, 1, none⟩ (.string s)).setCell ⟨w.heap.size, 2, none⟩ (.slice (some ⟨wc.heap.size, 0, none⟩) m m)) (fun k => k = w.heap.size) := ((set_kp _ _ _ _).trans (set_kp _ _ _ _)).trans (set_kp _ _ _ _)
        exact ⟨_, rfl, (unhide HO).kp K5 (fun k hk => by simp [Value.ownBlock] at hk; omega), Below.set (Below.set (Below.set B4 _ _ (Nat.le_refl _)) _ _ (Nat.le_refl _)) _ _ (Nat.le_refl _)⟩
end Go.Proofs.Ytehdchpolgihlaa

/- PartTold: (impl.Part).told, impl.toldParts, impl.tableOf. -/
namespace Go.Proofs.Ytehdchpolgihlaa
open Go.RowKit
set_option linter.unusedSectionVars false
variable [∀ (a b c d : Int), Decidable (Ok4 a b c d)]
variable [∀ (n f : Int), Decidable (COk n f)]

set_option maxHeartbeats 4000000 in
set_option maxRecDepth 100000 in
theorem ptold_any (n : Int) (s : ByteArray) (v : Value) (xs : List Int) (w : World) (h : RI w v xs) (hs : s.size ≤ 281474976710656) :
    Calls Try.prog 37 #[qv n s v] w fun e w' => ∃ u, e = .returned (qv n s u) ∧ OI w' w.heap.size u xs ∧ Below w.heap.size w w' := by
  obtain ⟨ao, ca, rfl⟩ := h.form
  obtain ⟨w0, hw0⟩ : ∃ y, ((w.alloc (.cells #[.int .i64 n, .string s, .slice ao xs.length ca] 31)).alloc zpo).alloc (.cells #[.int .i64 n, .string s, .slice ao xs.length ca] 75) = y := ⟨_, rfl⟩
  have B0 : Below w.heap.size w w0 := hw0 ▸ ((qalloc2 _ _ _).alloc (by simp; omega) _)
  have LZ : Loc w0 (w.heap.size + 1) #[.int .i64 0, .string ⟨#[]⟩, .slice none 0 0] := hw0 ▸ (loc_at (w.alloc _) _ _ (by simp)).alloc _
  have LQ : Loc w0 (w.heap.size + 1 + 1) #[.int .i64 n, .string s, .slice ao xs.length ca] := hw0 ▸ (loc_at ((w.alloc _).alloc _) _ _ (by simp))
  have s0 : w0.heap.size = w.heap.size + 1 + 1 + 1 := by rw [← hw0]; simp
  have TO := hide (qtold_any (w.heap.size + 1 + 1) n s ao ca xs w0 LQ (h.below B0 (Nat.le_refl _)) hs)
  have HZ := hide LZ
  clear h LZ LQ
  go_enter Try.func37, Try.ntmps37
  go_wp2_with fail
  clear hw0
  refine (unhide TO).mono ?_
  rintro e w2 ⟨u, rfl, o2, b2⟩
  have B2 : Below w.heap.size w w2 := B0.trans (b2.mono B0.size)
  have Z2 := (unhide HZ).below b2 (unhide HZ).lt
  have y0 := Z2.cell 0 rfl
  have y1 := Z2.cell 1 rfl
  have y2 := Z2.cell 2 rfl
  have fy := Z2.frozen
  have lt2 := World.ownsRow.lt o2
  obtain ⟨ua, uc, rfl⟩ := o2.form
  have O2 := hide o2
  clear o2 b2 Z2 HZ TO
  go_wp2
  refine bodyPost_ret (v := qv n s (.slice ua xs.length uc)) (by simp [results, Try.results37, go_sem, y0, y1, y2]) rfl ?_
  have K5 : Kp w2 (((w2.setCell ⟨w.heap.size + 1, 0, none⟩ (.int .i64 n)).setCell ⟨w.heap.size + 1, 1, none⟩ (.string s)).setCell ⟨w.heap.size + 1, 2, none⟩ (.slice ua xs.length uc)) (fun k => k = w.heap.size + 1) := ((set_kp _ _ _ _).trans (set_kp _ _ _ _)).trans (set_kp _ _ _ _)
  exact ⟨_, rfl, ((unhide O2).kp K5 (fun k hk => by have := lt2 k hk; omega)).mono (by omega), Below.kp B2 K5 B2.size (fun k hk => by omega)⟩

set_option maxHeartbeats 400000 in
set_option maxRecDepth 100000 in
theorem tableOf_any (ao : Option Addr) (n ca : Nat) (w : World) :
    Calls Try.prog 27 #[.slice ao n ca] w fun e w' => e = .returned (.agg #[.slice ao n ca, .func (.func 36) #[] #[]]) ∧ Below w.heap.size w w' := by
  go_enter Try.func27, Try.ntmps27
  go_wp2
  refine bodyPost_ret (v := .agg #[.slice ao n ca, .func (.func 36) #[] #[]]) (by simp [results, Try.results27, go_sem]) rfl ?_
  exact ⟨rfl, (Below.refl _ _).alloc (Nat.le_refl _) _⟩
set_option maxHeartbeats 4000000 in
set_option maxRecDepth 100000 in
theorem toldParts_any (v : Value) (ps : List Pt) (w : World) (hl : ps.length ≤ 4194305) (hs : ∀ p ∈ ps, p.2.1.size ≤ 281474976710656) (h : RPt w v ps) :
    Calls Try.prog 26 #[v] w fun e w' => ∃ u, e = .returned u ∧ OPt w' w.heap.size u ps ∧ Below w.heap.size w w' := by
  obtain ⟨i0, hi, hz0, hz1, hz2⟩ := info_parts Try.infoPt
  obtain ⟨ao, ca, rfl⟩ := h.form
  have HS0 := hide hs
  have H := hide h
  clear hs
  obtain ⟨n, hn⟩ : ∃ n, ps.length = n := ⟨_, rfl⟩
  have Hn := hide hn
  rw [hn] at hl H ⊢
  clear h hn
  go_enter Try.func26, Try.ntmps26
  go_wp2_with (first | (at_make; refine wpList_make_full _ rfl _ _ 24 rfl w.heap.size 31 i0 (qv 0 ⟨#[]⟩ (.slice none 0 0)) 3 Try.underlying24 hi hz0 hz1 .i64 .i64 _ _ n rfl rfl rfl rfl (by rw [hz2]; omega) (by unfold maxLen; omega) (Nat.le_refl _) ?_; intro w0 ho0 hg0))
  have T0 : OPtV w0 w.heap.size (.slice (some ⟨w.heap.size, 0, none⟩) n n) (pthalf ps 0) (List.replicate n (.slice none 0 0)) := by
    rw [made_pcells] at ho0
    have := opt_zero ho0
    simpa [pthalf, unhide Hn] using this
  have B0 : Below w.heap.size w w0 := (Below.refl _ _).grown hg0 (Nat.le_refl _) (by simp)
  clear ho0 hg0 hz0 hz1 hz2 hi
  go_loopw [11] (fun i wr => ∃ (k : Nat) (vs : List Value), k ≤ n ∧ i = .int .i64 k ∧ OPtV wr w.heap.size (.slice (some ⟨w.heap.size, 0, none⟩) n n) (pthalf ps k) vs ∧ Below w.heap.size w wr) (fun i _ => n - (intOf i).toNat)
  case atStart => exact ⟨0, _, Nat.zero_le _, rfl, T0, B0⟩
  case round =>
    clear T0
    obtain ⟨k, vs, hk, rfl, T, br⟩ := hrel
    by_cases hlt : k < n
    · have hkx : k < ps.length := by have := unhide Hn; omega
      have hlen := pthalf_len ps k (by omega)
      have HR := (unhide H).below br (Nat.le_refl _)
      obtain ⟨g, off, u, rfl, c0, c1, c2, ru⟩ := HR.at k hkx
      have HS := hide (pthalf_set ps k hkx)
      have hsz := unhide HS0 _ (pt_mem hkx)
      obtain ⟨x, hx⟩ : ∃ x, ps.getD k zpt = x := ⟨_, rfl⟩
      rw [hx] at c0 c1 ru HS hsz
      clear hx
      obtain ⟨m, s, xs⟩ := x
      simp only at c0 c1 ru hsz
      have TP := hide fun w h => ptold_any m s u xs w h hsz
      obtain ⟨ua, uc, rfl⟩ := ru.form
      have RU := hide ru
      have HT := hide T
      generalize xs.length = xl at *
      obtain ⟨w1, hw1⟩ : ∃ y, wr.alloc (.cells #[.int .i64 m, .string s, .slice ua xl uc] 31) = y := ⟨_, rfl⟩
      have b1 : Below wr.heap.size wr w1 := hw1 ▸ qalloc _ _
      have L1 : Loc w1 wr.heap.size #[.int .i64 m, .string s, .slice ua xl uc] := hw1 ▸ loc_at wr _ _ rfl
      have p0 := L1.cell 0 rfl
      have p1 := L1.cell 1 rfl
      have p2 := L1.cell 2 rfl
      have s1 := b1.size
      replace RU := hide ((unhide RU).below b1 (Nat.le_refl _))
      replace HT := hide ((unhide HT).below b1)
      replace br := br.trans (b1.mono br.size)
      clear HR H ru T b1 hsz
      go_wp2_with fail
      clear hw1 p0 p1 p2 L1
      refine (unhide TP _ (unhide RU)).mono ?_
      rintro e w2 ⟨u2, rfl, o2, b2⟩
      have T2 := (unhide HT).below b2
      have B2 := br.trans (b2.mono br.size)
      have lt2 := World.ownsRow.lt o2
      have hrow := T2.row
      rw [hlen, unhide Hn] at hrow
      have hplen : (pcells (((pthalf ps k).map phd).zip vs)).length = n * 3 := by rw [pcells_len]; simp [T2.len, hlen, unhide Hn]
      have gt : ∀ j, j < n * 3 → ∃ u, w2.cell? ⟨w.heap.size, j, none⟩ = some u := fun j hj => ⟨_, (hrow.cellAt j hj).trans (List.getElem?_eq_getElem (by rw [hplen]; exact hj))⟩
      obtain ⟨y0, d0⟩ := gt (k * 3) (by omega)
      obtain ⟨y1, d1⟩ := gt (k * 3 + 1) (by omega)
      obtain ⟨y2, d2⟩ := gt (k * 3 + 2) (by omega)
      have f0 := hrow.frozenAt (k * 3)
      have f1 := hrow.frozenAt (k * 3 + 1)
      have f2 := hrow.frozenAt (k * 3 + 2)
      have R := hide (show OPtV (((w2.setCell ⟨w.heap.size, k * 3, none⟩ (.int .i64 m)).setCell ⟨w.heap.size, k * 3 + 1, none⟩ (.string s)).setCell ⟨w.heap.size, k * 3 + 2, none⟩ u2) w.heap.size (.slice (some ⟨w.heap.size, 0, none⟩) n n) (pthalf ps (k + 1)) (vs.set k u2) by
        have T3 := T2
        have en : n = (pthalf ps k).length := by rw [hlen, unhide Hn]
        rw [← unhide HS]
        have := opt_set (m := m) (s := s) (u := u2) (xs := xs) (k := k) (cap := n) (g := w.heap.size) (w := w2) (base := w.heap.size) (ps := pthalf ps k) (vs := vs) (by rw [← en]; exact T3) (by rw [hlen]; exact hkx) (OI.mono o2 br.size) (fun j hj _ b hb e => by
          have h1 := World.ownsRow.lt ((unhide HT).each j hj) b hb
          have h2 := lt2 b e
          omega)
        rw [← en] at this
        exact this)
      have BR := hide (((B2.setCell (p := ⟨w.heap.size, k * 3, none⟩) (Nat.le_refl _) (.int .i64 m)).setCell (p := ⟨w.heap.size, k * 3 + 1, none⟩) (Nat.le_refl _) (.string s)).setCell (p := ⟨w.heap.size, k * 3 + 2, none⟩) (Nat.le_refl _) u2)
      obtain ⟨va, vc, rfl⟩ := o2.form
      generalize xs.length = zl at *
      clear T2 B2 hrow hplen gt o2 lt2 HT TP RU c0 c1 c2
      go_wp2
      go_roundw
      case rel => exact ⟨k + 1, _, by omega, by go_num, unhide R, unhide BR⟩
      case measure => simp [intOf]; omega
    · have hkn : pthalf ps k = ps := by
        have := unhide Hn
        unfold pthalf
        rw [List.take_of_length_le (by omega), show ps.length - k = 0 by omega]
        simp
      rw [hkn] at T
      have T' := hide T
      clear T hkn H
      go_wp2
      go_ret
      exact ⟨_, rfl, ⟨_, unhide T'⟩, br⟩
end Go.Proofs.Ytehdchpolgihlaa

/- PartGet: TableDrop and TableGet of the specification. -/
namespace Go.Proofs.Ytehdchpolgihlaa
open Go.RowKit

theorem drop_take (ps : List Pt) (k : Nat) (view : Int) (hk : k < ps.length) : dropP (ps.take (k + 1)) view = dropP (ps.take k) view ++ (if view ≤ (ps.getD k zpt).1 then [ps.getD k zpt] else []) := by
  rw [pt_take hk]
  unfold dropP
  rw [List.filter_append]
  simp [List.filter_cons]

set_option maxHeartbeats 4000000 in
set_option maxRecDepth 100000 in
theorem specTableDrop (v : Value) (ps : List Pt) (view : Int) (w : World) (hl : ps.length ≤ 4194304) (h : RPt w v ps) :
    Calls Try.prog 10 #[v, .int .i64 view] w fun e w' => ∃ u, e = .returned u ∧ OPt w' w.heap.size u (dropP ps view) ∧ Below w.heap.size w w' := by
  obtain ⟨ao, ca, rfl⟩ := h.form
  obtain ⟨n, hn⟩ : ∃ n, ps.length = n := ⟨_, rfl⟩
  have Hn := hide hn
  obtain ⟨w0, hw0⟩ : ∃ y, w.alloc (.cells #[] 31) = y := ⟨_, rfl⟩
  have B0 : Below w.heap.size w w0 := hw0 ▸ qalloc _ _
  have T0 : OPtV w0 w.heap.size (.slice (some ⟨w.heap.size, 0, none⟩) 0 0) [] [] := hw0 ▸ opt_empty w
  have H := hide h
  rw [hn] at hl H ⊢
  clear h hn
  go_enter Try.func10, Try.ntmps10
  go_wp2
  go_loopw [5, 6] (fun t i wr => ∃ (k : Nat) (ds : List Pt) (vs : List Value) (ta : Option Addr) (tc : Nat), k ≤ n ∧ i = .int .i64 k ∧ t = .slice ta ds.length tc ∧ ds.length ≤ k ∧ Hid (dropP (ps.take k) view = ds) ∧ OPtV wr w.heap.size (.slice ta ds.length tc) ds vs ∧ Below w.heap.size w wr) (fun _ i _ => n - (intOf i).toNat)
  case atStart => exact ⟨0, [], _, _, _, Nat.zero_le _, rfl, rfl, Nat.le_refl _, hide (by simp [dropP]), T0, B0⟩
  case round =>
    clear T0 B0 hw0
    obtain ⟨k, ds, vs, ta, tc, hk, rfl, rfl, hdl, HD, T, br⟩ := hrel
    by_cases hlt : k < n
    · have hkx : k < ps.length := by have := unhide Hn; omega
      have HT := hide (drop_take ps k view hkx)
      rw [unhide HD] at HT
      obtain ⟨g, off, u, rfl, c0, c1, c2, ru⟩ := ((unhide H).below br (Nat.le_refl _)).at k hkx
      obtain ⟨x, hx⟩ : ∃ x, ps.getD k zpt = x := ⟨_, rfl⟩
      rw [hx] at c0 c1 ru HT
      clear hx
      obtain ⟨m, s, xs⟩ := x
      simp only at c0 c1 ru
      have CP := hide fun w h => l10Copy_any m s u xs w h
      obtain ⟨ua, uc, rfl⟩ := ru.form
      have RU := hide ru
      have TT := hide T
      clear ru T H
      generalize xs.length = xl at *
      by_cases hv : view ≤ m
      · rw [if_pos hv] at HT
        go_wp2_with fail
        refine (unhide CP _ (unhide RU)).mono ?_
        rintro e w2 ⟨u2, rfl, o2, b2⟩
        have T2 := (unhide TT).below b2
        have B2 := br.trans (b2.mono br.size)
        obtain ⟨w3, hw3⟩ : ∃ y, w2.alloc (.cells #[.int .i64 m, .string s, u2] 31) = y := ⟨_, rfl⟩
        have t3 : Below w2.heap.size w2 w3 := hw3 ▸ qalloc _ _
        have L3 : Loc w3 w2.heap.size #[.int .i64 m, .string s, u2] := hw3 ▸ loc_at w2 _ _ rfl
        have T3 := hide (T2.below t3)
        have O3 := hide (o2.below t3)
        have B3 := B2.trans (t3.mono B2.size)
        have hN : Hid (∀ j, j < (ds).length → ∀ b, (vs.getD j (.slice none 0 0)).ownBlock = some b → b < wr.heap.size) := hide fun j hj b hb => (World.ownsRow.lt ((unhide TT).each j hj) b hb).2
        have d0 := L3.cell 0 rfl
        have d1 := L3.cell 1 rfl
        have d2 := L3.cell 2 rfl
        obtain ⟨xa, xc, rfl⟩ := o2.form
        have sr := br.size
        have s3 := B3.size
        clear T2 B2 o2 b2 TT CP RU c0 c1 c2 t3 L3
        go_wp2_with (first
          | (at_builtin; clear hw3; refine append_part rfl _ _ rfl w.heap.size wr.heap.size (.slice ta ds.length tc) (ds) vs w2.heap.size 1 m s _ xs rfl rfl (unhide T3) d0 d1 d2 (unhide O3) (unhide hN) sr (by omega) s3 ?_; intro v4 w4 ho4 hg4 _
             have r4 := World.ownsRow.lt (unhide T3).row
             have B4 := B3.grown hg4 s3 (fun j e => (r4 j e).1)
             obtain ⟨a4, c4, hv4⟩ := OPt.form ⟨_, ho4⟩
             subst hv4
             have O4 := hide ho4
             clear T3 O3 B3 ho4 hg4 r4 d0 d1 d2 hN))
        go_roundw
        case rel => exact ⟨k + 1, ds ++ [(m, s, xs)], _, a4, c4, by omega, by go_num, by simp, by simp; omega, HT, unhide O4, B4⟩
        case measure => simp [intOf]; omega
      · rw [if_neg hv, List.append_nil] at HT
        clear CP RU
        go_wp2
        go_roundw
        case rel => exact ⟨k + 1, ds, vs, ta, tc, by omega, by go_num, rfl, by omega, HT, unhide TT, br⟩
        case measure => simp [intOf]; omega
    · have hkn : ps.take k = ps := List.take_of_length_le (by have := unhide Hn; omega)
      rw [hkn] at HD
      have T' := hide T
      have HD' := unhide HD
      subst HD'
      clear T hkn H
      go_wp2
      go_ret
      exact ⟨_, rfl, ⟨_, unhide T'⟩, br⟩

theorem get_first {ps : List Pt} {k : Nat} {v : Int} {s : ByteArray} (hk : k < ps.length) (h0 : (ps.take k).find? (fun x => decide (x.1 = v) && (x.2.1.toList == s.toList)) = none) (h1 : (ps.getD k zpt).1 = v) (h2 : ((ps.getD k zpt).2.1.toList == s.toList) = true) : getP ps v s = ps.getD k zpt := by
  unfold getP
  have e : ps = ps.take k ++ (ps.getD k zpt :: ps.drop (k + 1)) := by
    conv => lhs; rw [← List.take_append_drop k ps, List.drop_eq_getElem_cons hk]
    simp [List.getElem?_eq_getElem hk]
  conv => lhs; rw [e]
  rw [List.find?_append, h0, List.find?_cons_of_pos (by rw [decide_eq_true h1, h2]; rfl)]
  rfl
theorem get_none {ps : List Pt} {v : Int} {s : ByteArray} (h0 : ps.find? (fun x => decide (x.1 = v) && (x.2.1.toList == s.toList)) = none) : getP ps v s = (v, s, []) := by
  unfold getP; rw [h0]; rfl
theorem find_more {ps : List Pt} {k : Nat} {p : Pt → Bool} (hk : k < ps.length) (h0 : (ps.take k).find? p = none) (h1 : p (ps.getD k zpt) = false) : (ps.take (k + 1)).find? p = none := by
  rw [pt_take hk, List.find?_append, h0]
  generalize ps.getD k zpt = x at *
  simp [h1]

set_option maxHeartbeats 4000000 in
set_option maxRecDepth 100000 in
theorem specTableGet (v : Value) (ps : List Pt) (view : Int) (name : ByteArray) (w : World) (hl : ps.length ≤ 4194304) (h : RPt w v ps) :
    Calls Try.prog 13 #[v, .int .i64 view, .string name] w fun e w' => ∃ u, e = .returned (qv (getP ps view name).1 (getP ps view name).2.1 u) ∧ OI w' w.heap.size u (getP ps view name).2.2 ∧ Below w.heap.size w w' := by
  obtain ⟨ao, ca, rfl⟩ := h.form
  obtain ⟨n, hn⟩ : ∃ n, ps.length = n := ⟨_, rfl⟩
  have Hn := hide hn
  obtain ⟨w0, hw0⟩ : ∃ y, w.alloc zpo = y := ⟨_, rfl⟩
  have B0 : Below w.heap.size w w0 := hw0 ▸ qalloc _ _
  have Z0 : Loc w0 w.heap.size #[.int .i64 0, .string ⟨#[]⟩, .slice none 0 0] := hw0 ▸ loc_at w _ _ rfl
  have s0 : w0.heap.size = w.heap.size + 1 := by rw [← hw0]; simp
  have H := hide h
  rw [hn] at hl H ⊢
  clear h hn
  have FIN : Hid (∀ (w' : World) (m : Int) (s : ByteArray) (u : Value) (xs : List Int), OI w' w0.heap.size u xs → Below w.heap.size w w' → OI (((w'.setCell ⟨w.heap.size, 0, none⟩ (.int .i64 m)).setCell ⟨w.heap.size, 1, none⟩ (.string s)).setCell ⟨w.heap.size, 2, none⟩ u) w.heap.size u xs ∧ Below w.heap.size w (((w'.setCell ⟨w.heap.size, 0, none⟩ (.int .i64 m)).setCell ⟨w.heap.size, 1, none⟩ (.string s)).setCell ⟨w.heap.size, 2, none⟩ u)) := hide fun w' m s u xs ho hb => by
    have lt := World.ownsRow.lt ho
    have K : Kp w' (((w'.setCell ⟨w.heap.size, 0, none⟩ (.int .i64 m)).setCell ⟨w.heap.size, 1, none⟩ (.string s)).setCell ⟨w.heap.size, 2, none⟩ u) (fun k => k = w.heap.size) := ((set_kp _ _ _ _).trans (set_kp _ _ _ _)).trans (set_kp _ _ _ _)
    exact ⟨OI.mono (ho.kp K (fun k hk e => by have := (lt k hk).1; omega)) (by omega), Below.kp hb K hb.size (fun k e => by omega)⟩
  go_enter Try.func13, Try.ntmps13
  go_wp2
  go_loopw [7] (fun i wr => ∃ k : Nat, k ≤ n ∧ i = .int .i64 k ∧ Hid ((ps.take k).find? (fun x => decide (x.1 = view) && (x.2.1.toList == name.toList)) = none) ∧ Below w0.heap.size w0 wr) (fun i _ => n - (intOf i).toNat)
  case atStart => exact ⟨0, Nat.zero_le _, rfl, hide (by simp), Below.refl _ _⟩
  case round =>
    clear hw0
    obtain ⟨k, hk, rfl, HK, br⟩ := hrel
    have Z := Z0.below br Z0.lt
    have B := B0.trans (br.mono B0.size)
    by_cases hlt : k < n
    · have hkx : k < ps.length := by have := unhide Hn; omega
      obtain ⟨g, off, u, rfl, c0, c1, c2, ru⟩ := ((unhide H).below B (Nat.le_refl _)).at k hkx
      have HF : Hid ((ps.getD k zpt).1 = view → ((ps.getD k zpt).2.1.toList == name.toList) = true → getP ps view name = ps.getD k zpt) := hide (get_first hkx (unhide HK))
      have HM : Hid ((decide ((ps.getD k zpt).1 = view) && ((ps.getD k zpt).2.1.toList == name.toList)) = false → (ps.take (k + 1)).find? (fun x => decide (x.1 = view) && (x.2.1.toList == name.toList)) = none) := hide (find_more hkx (unhide HK))
      obtain ⟨x, hx⟩ : ∃ x, ps.getD k zpt = x := ⟨_, rfl⟩
      rw [hx] at c0 c1 ru HF HM
      clear hx
      obtain ⟨m, s, xs⟩ := x
      simp only at c0 c1 ru HF HM
      by_cases h1 : m = view
      · by_cases h2 : (s.toList == name.toList) = true
        · have E := hide (unhide HF h1 h2)
          subst h1
          have CP := hide fun w h => l10Copy_any m s u xs w h
          obtain ⟨ua, uc, rfl⟩ := ru.form
          have RU := hide ru
          clear ru H HF HM HK
          generalize xs.length = xl at *
          go_wp2_with fail
          refine (unhide CP _ (unhide RU)).mono ?_
          rintro e w2 ⟨u2, rfl, o2, b2⟩
          have Z2 := Z.below b2 Z.lt
          have B2 := B.trans (b2.mono B.size)
          have z0 := Z2.cell 0 rfl
          have z1 := Z2.cell 1 rfl
          have z2 := Z2.cell 2 rfl
          have fz := Z2.frozen
          have R := hide ((unhide FIN) w2 m s u2 xs (OI.mono o2 br.size) B2)
          obtain ⟨xa, xc, rfl⟩ := o2.form
          clear o2 b2 Z Z2 B2 c0 c1 c2 CP RU FIN
          go_wp2
          refine bodyPost_ret (v := qv m s (.slice xa xs.length xc)) (by simp [results, Try.results13, go_sem, z0, z1, z2]) rfl ?_
          rw [unhide E]
          exact ⟨_, rfl, (unhide R).1, (unhide R).2⟩
        · have h2' : (s.toList == name.toList) = false := by simpa using h2
          have HK2 := hide (unhide HM (by rw [h2']; simp))
          clear HF HM HK
          go_wp2
          go_roundw
          case rel => exact ⟨k + 1, by omega, by go_num, HK2, br⟩
          case measure => simp [intOf]; omega
      · have h1' : decide (m = view) = false := by simpa using h1
        have HK2 := hide (unhide HM (by rw [h1']; rfl))
        clear HF HM HK
        go_wp2
        go_roundw
        case rel => exact ⟨k + 1, by omega, by go_num, HK2, br⟩
        case measure => simp [intOf]; omega
    · have hkn : ps.take k = ps := List.take_of_length_le (by have := unhide Hn; omega)
      have h0 := unhide HK
      rw [hkn] at h0
      have E := hide (get_none h0)
      have z0 := Z.cell 0 rfl
      have z1 := Z.cell 1 rfl
      have z2 := Z.cell 2 rfl
      have fz := Z.frozen
      have R := hide ((unhide FIN) wr view name (.slice none 0 0) [] (World.ownsRow_nil _ _ _ _) B)
      clear HK h0 hkn H Z FIN
      go_wp2
      refine bodyPost_ret (v := qv view name (.slice none 0 0)) (by simp [results, Try.results13, go_sem, z0, z1, z2]) rfl ?_
      rw [unhide E]
      exact ⟨_, rfl, (unhide R).1, (unhide R).2⟩
end Go.Proofs.Ytehdchpolgihlaa
