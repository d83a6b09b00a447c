/- Texts that belong together: PartEq, PartSet, PartTo, MarkT, PartMark, PartHeld, PartSum, TableOkWalk, PartCmpP. -/
import Derived.Test.YtehdchpolgihlaaGreatDoorPzAE
import Derived.Test.YtehdchpolgihlaaGreatDoorPzAY
import Derived.Deep.RegionHeld3
import Derived.Test.YtehdchpolgihlaaGreatDoorPzBB
import Derived.Test.YtehdchpolgihlaaGreatDoorPzAO
import Derived.Test.YtehdchpolgihlaaGreatDoorPzBA
/- PartEq: tables are held against each other (laws.eqPartS), counted (laws.szPartS). -/
namespace Go.Proofs.YtehdchpolgihlaaGreatDoor
open Go.RowKit
set_option linter.unusedSectionVars false
variable [∀ (a b c d : Int), Decidable (Ok4 a b c d)]
variable [∀ (n f : Int), Decidable (COk n f)]

set_option maxHeartbeats 4000000 in
set_option maxRecDepth 100000 in
theorem eqPartS_yes (v u : Value) (ps : List Pt) (w : World) (hl : ps.length ≤ 4194304) (hv : RPt w v ps) (hu : RPt w u ps) :
    Calls Tryz.prog 48 #[v, u] w fun e w' => e = .returned (.bool true) ∧ Below w.heap.size w w' := by
  obtain ⟨ao, ca, rfl, ha⟩ := hv
  obtain ⟨bo, cb, rfl, hb⟩ := hu
  obtain ⟨n, hn⟩ : ∃ n, ps.length = n := ⟨_, rfl⟩
  have Hn := hide hn
  rw [hn] at hl ha hb ⊢
  clear hn
  go_enter Tryz.func48, Tryz.ntmps48
  go_wp2
  go_loopw [5] (fun i wr => ∃ k : Nat, k ≤ n ∧ i = .int .i64 k ∧ Below w.heap.size w wr) (fun i _ => n - (intOf i).toNat)
  case atStart => exact ⟨0, Nat.zero_le _, rfl, Below.refl _ _⟩
  case round =>
    obtain ⟨k, hk, rfl, br⟩ := hrel
    have hsr := br.size
    by_cases hlt : k < n
    · rcases ha with ha | ⟨g, o, rfl, ha⟩
      · subst ha; have := unhide Hn; simp at this; omega
      rcases hb with hb | ⟨g', o', rfl, hb⟩
      · subst hb; have := unhide Hn; simp at this; omega
      obtain ⟨p, a0, a1, a2, ra⟩ := ha k hlt
      obtain ⟨q, b0, b1, b2, rb⟩ := hb k hlt
      have hg : g < w.heap.size := cell_lt a0
      have hg' : g' < w.heap.size := cell_lt b0
      generalize (ps.getD k zpt).1 = m at *
      generalize (ps.getD k zpt).2.1 = s at *
      generalize (ps.getD k zpt).2.2 = xs at *
      have K : Hid (∀ w', Below wr.heap.size wr w' → Below wr.heap.size wr w' ∧ (w'.cell? ⟨g, o + k * 3, none⟩ = some (.int .i64 m) ∧ w'.cell? ⟨g, o + k * 3 + 1, none⟩ = some (.string s) ∧ w'.cell? ⟨g, o + k * 3 + 2, none⟩ = some p) ∧ (w'.cell? ⟨g', o' + k * 3, none⟩ = some (.int .i64 m) ∧ w'.cell? ⟨g', o' + k * 3 + 1, none⟩ = some (.string s) ∧ w'.cell? ⟨g', o' + k * 3 + 2, none⟩ = some q)) := fun w' hb' => by
        have hw := br.trans (hb'.mono hsr)
        exact ⟨hb', ⟨(hw.cell (p := ⟨g, o + k * 3, none⟩) hg).trans a0, (hw.cell (p := ⟨g, o + k * 3 + 1, none⟩) hg).trans a1, (hw.cell (p := ⟨g, o + k * 3 + 2, none⟩) hg).trans a2⟩, ⟨(hw.cell (p := ⟨g', o' + k * 3, none⟩) hg').trans b0, (hw.cell (p := ⟨g', o' + k * 3 + 1, none⟩) hg').trans b1, (hw.cell (p := ⟨g', o' + k * 3 + 2, none⟩) hg').trans b2⟩⟩
      have EQ : Hid (∀ w', Below wr.heap.size wr w' → Calls Tryz.prog 42 #[qv m s p, qv m s q] w' fun e w'' => e = .returned (.bool true) ∧ Below w'.heap.size w' w'') := hide fun w' hb' => by
        have hw := br.trans (hb'.mono hsr)
        exact eqPart_yes m s p q xs w' (ra.below hw (Nat.le_refl _)) (rb.below hw (Nat.le_refl _))
      obtain ⟨pa, pc, rfl⟩ := ra.form
      obtain ⟨qa, qc, rfl⟩ := rb.form
      have bA : Below wr.heap.size wr wr.drew := Below.drew (Below.refl _ _)
      have hKeep := unhide K _ bA
      clear ha hb a0 a1 a2 b0 b1 b2 ra rb
      generalize xs.length = xl at *
      go_wp2_with fail
      first | go_region_held3 (fun w' => Below wr.heap.size wr w' ∧ (w'.cell? ⟨g, o + k * 3, none⟩ = some (.int .i64 m) ∧ w'.cell? ⟨g, o + k * 3 + 1, none⟩ = some (.string s) ∧ w'.cell? ⟨g, o + k * 3 + 2, none⟩ = some (.slice pa xl pc)) ∧ (w'.cell? ⟨g', o' + k * 3, none⟩ = some (.int .i64 m) ∧ w'.cell? ⟨g', o' + k * 3 + 1, none⟩ = some (.string s) ∧ w'.cell? ⟨g', o' + k * 3 + 2, none⟩ = some (.slice qa xl qc))) (exact hKeep) (first
        | (go_at_call 42; have hgo := bA; refine (unhide EQ _ bA).mono ?_; rintro e wa ⟨rfl, ba⟩
           have bB : Below wr.heap.size wr wa := bA.trans ba
           have hKeep := unhide K _ bB; clear bA hgo)) | fail
      all_goals
        go_wp2
        go_roundw
        case rel => exact ⟨k + 1, by omega, by go_num, br.trans (bB.mono hsr)⟩
        case measure => simp [intOf]; omega
    · have hkn : k = n := by omega
      subst hkn
      clear ha hb
      go_wp2
      go_ret
      exact ⟨rfl, br⟩

/-- What szPartS counts beside the parts themselves. -/
def psum : List Pr → Nat
  | [] => 0
  | r :: rs => r.2.1.size + r.2.2.2.2.length + psum rs
theorem psum_snoc (rs : List Pr) (r : Pr) : psum (rs ++ [r]) = psum rs + (r.2.1.size + r.2.2.2.2.length) := by
  induction rs with
  | nil => simp [psum]
  | cons x rs ih => simp only [List.cons_append, psum, ih]; omega
theorem psum_take (rs : List Pr) (k : Nat) (hk : k < rs.length) : psum (rs.take (k + 1)) = psum (rs.take k) + ((rs.getD k prz).2.1.size + (rs.getD k prz).2.2.2.2.length) := by
  rw [List.take_succ_eq_append_getElem hk, psum_snoc]
  simp [List.getElem?_eq_getElem hk]
theorem psum_le (rs : List Pr) (k : Nat) : psum (rs.take k) ≤ psum rs := by
  induction rs generalizing k with
  | nil => simp [psum]
  | cons r rs ih =>
    cases k with
    | zero => simp [psum]
    | succ k => simp only [List.take_succ_cons, psum]; have := ih k; omega

set_option maxHeartbeats 4000000 in
set_option maxRecDepth 100000 in
theorem szPartS_yes (al : Option Addr) (cl : Nat) (rs : List Pr) (left : Int) (w : World) (h : ATab w al rs) (hs : (rs.length : Int) + psum rs ≤ left) (hl : left ≤ 1048576) :
    Calls Tryz.prog 46 #[.slice al rs.length cl, .int .i64 left] w fun e w' => e = .returned (.int .i64 (left - rs.length - psum rs)) ∧ Below w.heap.size w w' := by
  obtain ⟨n, hn⟩ : ∃ n, rs.length = n := ⟨_, rfl⟩
  have Hn := hide hn
  have H := hide h
  rw [hn] at hs ⊢
  clear hn h
  have hd0 : decide (left - (n : Int) < 0) = false := by simp; omega
  go_enter Tryz.func46, Tryz.ntmps46
  go_wp2
  go_loopw [1, 5] (fun a i wr => ∃ k : Nat, k ≤ n ∧ i = .int .i64 k ∧ a = .int .i64 (left - n - (psum (rs.take k) : Nat)) ∧ Below w.heap.size w wr) (fun _ i _ => n - (intOf i).toNat)
  case atStart => exact ⟨0, Nat.zero_le _, rfl, by simp [psum], Below.refl _ _⟩
  case round =>
    obtain ⟨k, hk, rfl, rfl, br⟩ := hrel
    have hp := psum_le rs k
    by_cases hlt : k < n
    · have hkx : k < rs.length := by have := unhide Hn; omega
      have hp1 := psum_le rs (k + 1)
      have hps := psum_take rs k hkx
      have HP1 := hide hps
      rw [hps] at hp1
      clear hps
      rcases unhide H with h | ⟨g, off, rfl, h⟩
      · subst h; simp at hkx
      obtain ⟨c0, c1, c2⟩ := h k hkx
      have hg : g < w.heap.size := cell_lt c0
      replace c0 := (br.cell (p := ⟨g, off + k * 3, none⟩) hg).trans c0
      replace c1 := (br.cell (p := ⟨g, off + k * 3 + 1, none⟩) hg).trans c1
      replace c2 := (br.cell (p := ⟨g, off + k * 3 + 2, none⟩) hg).trans c2
      clear h H
      generalize (rs.getD k prz).1 = m at *
      generalize (rs.getD k prz).2.1 = s at *
      generalize (rs.getD k prz).2.2.2.2.length = x at *
      generalize (rs.getD k prz).2.2.1 = ao at *
      generalize (rs.getD k prz).2.2.2.1 = ca at *
      generalize psum (rs.take k) = q at *
      have SZ := hide fun w => szPart_yes m s ao x ca (left - n - q) w (by omega) (by omega)
      have hd1 : decide (left - (n : Int) - (q : Int) - (s.size : Int) - (x : Int) < 0) = false := by simp; omega
      go_wp2_with fail
      refine (unhide SZ _).mono ?_
      rintro e w1 ⟨rfl, b1⟩
      have B1 := br.trans (b1.mono br.size)
      clear c0 c1 c2 SZ b1
      go_wp2
      go_roundw
      case rel => exact ⟨k + 1, by omega, by go_num, by rw [unhide HP1]; simp; omega, B1⟩
      case measure => simp [intOf]; omega
    · have hkn : rs.take k = rs := List.take_of_length_le (by have := unhide Hn; omega)
      rw [hkn]
      clear hp
      go_wp2
      go_ret
      exact ⟨rfl, br⟩
end Go.Proofs.YtehdchpolgihlaaGreatDoor

/- PartSet: a part of a table of the call's own is written. -/
namespace Go.Proofs.YtehdchpolgihlaaGreatDoor
open Go.RowKit

theorem pcells_set3 (l : List ((Int × ByteArray) × Value)) (k : Nat) (m : Int) (s : ByteArray) (u : Value) (hk : k < l.length) : (((pcells l).set (k * 3) (.int .i64 m)).set (k * 3 + 1) (.string s)).set (k * 3 + 2) u = pcells (l.set k ((m, s), u)) := by
  induction l generalizing k with
  | nil => simp at hk
  | cons p l ih =>
    cases k with
    | zero => simp [pcells_cons]
    | succ k =>
      rw [List.set_cons_succ, pcells_cons, pcells_cons, show (k + 1) * 3 = k * 3 + 1 + 1 + 1 by omega, show k * 3 + 1 + 1 + 1 + 1 = (k * 3 + 1) + 1 + 1 + 1 by omega, show k * 3 + 1 + 1 + 1 + 2 = (k * 3 + 2) + 1 + 1 + 1 by omega]
      simp only [List.set_cons_succ]
      rw [ih k (by simpa using hk)]
theorem pcells_set2 (l : List ((Int × ByteArray) × Value)) (k : Nat) (m : Int) (s : ByteArray) (hk : k < l.length) : ((pcells l).set (k * 3) (.int .i64 m)).set (k * 3 + 1) (.string s) = pcells (l.set k ((m, s), (l.getD k ((0, ⟨#[]⟩), .slice none 0 0)).2)) := by
  induction l generalizing k with
  | nil => simp at hk
  | cons p l ih =>
    cases k with
    | zero => simp [pcells_cons]
    | succ k =>
      rw [List.set_cons_succ, pcells_cons, pcells_cons, show (k + 1) * 3 = k * 3 + 1 + 1 + 1 by omega, show k * 3 + 1 + 1 + 1 + 1 = (k * 3 + 1) + 1 + 1 + 1 by omega]
      simp only [List.set_cons_succ]
      rw [ih k (by simpa using hk)]
      simp
theorem pzip_set (ps : List Pt) (vs : List Value) (k : Nat) (x : Pt) (u : Value) (hl : vs.length = ps.length) : ((ps.set k x).map phd).zip (vs.set k u) = ((ps.map phd).zip vs).set k (phd x, u) := by
  apply List.ext_getElem?
  intro j
  by_cases hj : j < ps.length
  · rw [List.getElem?_eq_getElem (by simp; omega), List.getElem?_eq_getElem (by simp; omega)]
    rw [List.getElem_set]
    by_cases e : k = j
    · subst e; simp
    · simp [e]
  · rw [List.getElem?_eq_none (by simp; omega), List.getElem?_eq_none (by simp; omega)]
theorem vset_same (vs : List Value) (k : Nat) (hk : k < vs.length) : vs.set k (vs.getD k (.slice none 0 0)) = vs := by
  apply List.ext_getElem?
  intro j
  rw [List.getElem?_set]
  split
  · rename_i e; subst e; simp [hk]
  · rfl
/-- A part is put into a table. -/
theorem opt_set {w : World} {base g cap k : Nat} {ps : List Pt} {vs : List Value} {m : Int} {s : ByteArray} {u : Value} {xs : List Int} (h : OPtV w base (.slice (some ⟨g, 0, none⟩) ps.length cap) ps vs) (hk : k < ps.length) (hu : OI w base u xs)
    (hap : ∀ j, j < ps.length → j ≠ k → ∀ b, (vs.getD j (.slice none 0 0)).ownBlock = some b → u.ownBlock ≠ some b) :
    OPtV (((w.setCell ⟨g, k * 3, none⟩ (.int .i64 m)).setCell ⟨g, k * 3 + 1, none⟩ (.string s)).setCell ⟨g, k * 3 + 2, none⟩ u) base (.slice (some ⟨g, 0, none⟩) ps.length cap) (ps.set k (m, s, xs)) (vs.set k u) := by
  have hz : ((ps.map phd).zip vs).length = ps.length := by simp [h.len]
  have K : Kp w (((w.setCell ⟨g, k * 3, none⟩ (.int .i64 m)).setCell ⟨g, k * 3 + 1, none⟩ (.string s)).setCell ⟨g, k * 3 + 2, none⟩ u) (fun b => b = g) := ((set_kp _ _ _ _).trans (set_kp _ _ _ _)).trans (set_kp _ _ _ _)
  have keep : ∀ (x : Value) (zs : List Int), OI w base x zs → OI (((w.setCell ⟨g, k * 3, none⟩ (.int .i64 m)).setCell ⟨g, k * 3 + 1, none⟩ (.string s)).setCell ⟨g, k * 3 + 2, none⟩ u) base x zs := fun x zs hx =>
    hx.kp K (fun b hb e => pt_oi h.row hx g rfl (by rw [← e]; exact hb))
  refine ⟨by simp [h.len], ?_, fun j hj => ?_, fun i j hij hj b hb => ?_⟩
  · rw [List.length_set, pzip_set ps vs k _ u h.len, show phd (m, s, xs) = (m, s) from rfl, ← pcells_set3 _ k m s u (by omega)]
    exact (((h.row.stored (k * 3) _).1.stored (k * 3 + 1) _).1.stored (k * 3 + 2) _).1
  · rw [List.length_set] at hj
    by_cases e : k = j
    · subst e
      have e1 : (ps.set k (m, s, xs)).getD k zpt = (m, s, xs) := by simp [hk]
      have e2 : (vs.set k u).getD k (.slice none 0 0) = u := by simp [h.len, hk]
      rw [e1, e2]; exact keep _ _ hu
    · have e1 : (ps.set k (m, s, xs)).getD j zpt = ps.getD j zpt := by simp [e]
      have e2 : (vs.set k u).getD j (.slice none 0 0) = vs.getD j (.slice none 0 0) := by simp [e]
      rw [e1, e2]; exact keep _ _ (h.each j hj)
  · rw [List.length_set] at hj
    by_cases e : k = i
    · subst e
      have e1 : (vs.set k u).getD k (.slice none 0 0) = u := by simp [h.len, hk]
      have e2 : (vs.set k u).getD j (.slice none 0 0) = vs.getD j (.slice none 0 0) := by simp [show k ≠ j by omega]
      rw [e1] at hb
      rw [e2]
      intro e3
      exact hap j hj (by omega) b e3 hb
    · by_cases e' : k = j
      · subst e'
        have e1 : (vs.set k u).getD k (.slice none 0 0) = u := by simp [h.len, hk]
        have e2 : (vs.set k u).getD i (.slice none 0 0) = vs.getD i (.slice none 0 0) := by simp [e]
        rw [e2] at hb
        rw [e1]
        exact hap i (by omega) (by omega) b hb
      · have e1 : (vs.set k u).getD i (.slice none 0 0) = vs.getD i (.slice none 0 0) := by simp [e]
        have e2 : (vs.set k u).getD j (.slice none 0 0) = vs.getD j (.slice none 0 0) := by simp [e']
        rw [e1] at hb
        rw [e2]
        exact h.apart i j hij hj b hb
/-- A part's view and name are written; its list is turned by itself. -/
theorem opt_mark {w w1 w2 : World} {base g n cap k : Nat} {ps : List Pt} {vs : List Value} {m : Int} {s : ByteArray} {xs : List Int} (h : OPtV w base (.slice (some ⟨g, 0, none⟩) n cap) ps vs) (hk : k < ps.length)
    (t : w1.ownsRow base 26 3 (.slice (some ⟨g, 0, none⟩) n cap) ps.length (((pcells ((ps.map phd).zip vs)).set (k * 3) (.int .i64 m)).set (k * 3 + 1) (.string s))) (g1 : Kp w w1 (fun b => b = g))
    (o2 : OI w2 base (vs.getD k (.slice none 0 0)) xs) (g2 : w1.grownBy w2 (vs.getD k (.slice none 0 0)).ownBlock) : OPtV w2 base (.slice (some ⟨g, 0, none⟩) n cap) (ps.set k (m, s, xs)) vs := by
  have hz : ((ps.map phd).zip vs).length = ps.length := by simp [h.len]
  have key1 : ∀ j, j < ps.length → OI w1 base (vs.getD j (.slice none 0 0)) (ps.getD j zpt).2.2 := fun j hj =>
    (h.each j hj).kp g1 (fun b hb e => pt_oi h.row (h.each j hj) g rfl (by rw [← e]; exact hb))
  refine ⟨by simp [h.len], ?_, fun j hj => ?_, fun i j hij hj => h.apart i j hij (by simpa using hj)⟩
  · have ev : vs = vs.set k (vs.getD k (.slice none 0 0)) := (vset_same vs k (by rw [h.len]; exact hk)).symm
    rw [List.length_set]
    have e : ((ps.set k (m, s, xs)).map phd).zip vs = ((ps.map phd).zip vs).set k ((m, s), vs.getD k (.slice none 0 0)) := by
      conv => lhs; rw [ev]
      exact pzip_set ps vs k _ _ h.len
    have e2 : (((ps.map phd).zip vs).getD k ((0, ⟨#[]⟩), .slice none 0 0)).2 = vs.getD k (.slice none 0 0) := by rw [pzip_get ps vs h.len k hk]
    rw [e, ← e2, ← pcells_set2 _ k m s (by omega)]
    refine World.ownsRow.kept t g2 (.inr fun e => ?_)
    exact pt_oi t (key1 k hk) g rfl (by rw [← e]; rfl)
  · rw [List.length_set] at hj
    by_cases e : k = j
    · subst e
      have : (ps.set k (m, s, xs)).getD k zpt = (m, s, xs) := by simp [hk]
      rw [this]; exact o2
    · have : (ps.set k (m, s, xs)).getD j zpt = ps.getD j zpt := by simp [e]
      rw [this]
      refine World.ownsRow.kept (key1 j hj) g2 ?_
      cases hv : (vs.getD j (.slice none 0 0)).ownBlock with
      | none => exact .inl rfl
      | some b =>
        refine .inr fun e2 => ?_
        rcases Nat.lt_or_ge k j with h3 | h3
        · exact h.apart k j h3 hj b e2.symm hv
        · exact h.apart j k (by omega) hk b hv e2.symm
end Go.Proofs.YtehdchpolgihlaaGreatDoor

/- PartTo: laws.toPartS; laws.szPartS where there is too much. -/
namespace Go.Proofs.YtehdchpolgihlaaGreatDoor
open Go.RowKit
set_option linter.unusedSectionVars false
variable [∀ (a b c d : Int), Decidable (Ok4 a b c d)]
variable [∀ (n f : Int), Decidable (COk n f)]

theorem made_pcells (n : Nat) : (madeCells (qv 0 ⟨#[]⟩ (.slice none 0 0)).cells (n * 3)).toList = pcells (List.replicate n ((0, ⟨#[]⟩), .slice none 0 0)) := by
  apply List.ext_getElem?
  intro i
  by_cases hi : i < n * 3
  · have h := pcells_get (List.replicate n ((0, ⟨#[]⟩), .slice none 0 0)) (i / 3) (i % 3) (by simp; omega) (by omega)
    rw [show i / 3 * 3 + i % 3 = i by omega] at h
    have hr : (List.replicate n (((0 : Int), (⟨#[]⟩ : ByteArray)), Value.slice none 0 0)).getD (i / 3) ((0, ⟨#[]⟩), .slice none 0 0) = ((0, ⟨#[]⟩), .slice none 0 0) := by simp [show i / 3 < n by omega]
    rw [h, hr]
    have hc : (qv 0 ⟨#[]⟩ (.slice none 0 0)).cells = #[.int .i64 0, .string ⟨#[]⟩, .slice none 0 0] := by rfl
    rw [hc]
    have h3 : i % 3 = 0 ∨ i % 3 = 1 ∨ i % 3 = 2 := by omega
    have he : (madeCells #[Value.int .i64 0, .string ⟨#[]⟩, .slice none 0 0] (n * 3)).toList[i]? = some (#[Value.int .i64 0, .string ⟨#[]⟩, .slice none 0 0][i % 3]!) := by
      simp [madeCells, hi]
    rw [he]
    rcases h3 with e | e | e <;> rw [e] <;> rfl
  · rw [List.getElem?_eq_none (by rw [Array.length_toList, size_madeCells]; omega), List.getElem?_eq_none (by rw [pcells_len]; simp; omega)]
theorem opt_zero {w : World} {base n : Nat} {v : Value} (h : w.ownsRow base 26 3 v n (pcells (List.replicate n ((0, ⟨#[]⟩), .slice none 0 0)))) : OPtV w base v (List.replicate n zpt) (List.replicate n (.slice none 0 0)) := by
  refine ⟨by simp, ?_, fun k hk => ?_, fun i j hij hj b hb => ?_⟩
  · rw [List.length_replicate, List.map_replicate, List.zip_replicate']
    exact h
  · rw [List.length_replicate] at hk
    have e1 : (List.replicate n (Value.slice none 0 0)).getD k (.slice none 0 0) = .slice none 0 0 := by simp [hk]
    have e2 : (List.replicate n zpt).getD k zpt = zpt := by simp [hk]
    rw [e1, e2]
    exact World.ownsRow_nil _ _ _ _
  · rw [List.length_replicate] at hj
    have e1 : (List.replicate n (Value.slice none 0 0)).getD i (.slice none 0 0) = .slice none 0 0 := by simp [show i < n by omega]
    rw [e1] at hb
    simp [Value.ownBlock] at hb
/-- What is written behind k rounds. -/
def pthalf (ps : List Pt) (k : Nat) : List Pt := ps.take k ++ List.replicate (ps.length - k) zpt
theorem pthalf_len (ps : List Pt) (k : Nat) (h : k ≤ ps.length) : (pthalf ps k).length = ps.length := by simp [pthalf]; omega
theorem pthalf_set (ps : List Pt) (k : Nat) (h : k < ps.length) : (pthalf ps k).set k (ps.getD k zpt) = pthalf ps (k + 1) := by
  have e : ps.length - k = (ps.length - (k + 1)) + 1 := by omega
  have hk : (ps.take k).length = k := by simp; omega
  unfold pthalf
  rw [List.take_succ_eq_append_getElem h, e, List.replicate_succ, List.set_append_right _ _ (by omega), hk, Nat.sub_self, List.set_cons_zero, List.append_assoc, List.getD_eq_getElem?_getD, List.getElem?_eq_getElem h]
  rfl

set_option maxHeartbeats 4000000 in
set_option maxRecDepth 100000 in
theorem toPartS_any (v : Value) (ps : List Pt) (w : World) (hl : ps.length ≤ 1048577) (h : RPt w v ps) :
    Calls Tryz.prog 47 #[v] w fun e w' => ∃ u, e = .returned u ∧ OPt w' w.heap.size u ps ∧ Below w.heap.size w w' := by
  obtain ⟨i0, hi, hz0, hz1, hz2⟩ := info_parts Tryz.infoPt
  obtain ⟨ao, ca, rfl⟩ := h.form
  have H := hide h
  obtain ⟨n, hn⟩ : ∃ n, ps.length = n := ⟨_, rfl⟩
  have Hn := hide hn
  rw [hn] at hl H ⊢
  clear h hn
  go_enter Tryz.func47, Tryz.ntmps47
  go_wp2_with (first | (at_make; refine wpList_make_full _ rfl _ _ 33 rfl w.heap.size 26 i0 (qv 0 ⟨#[]⟩ (.slice none 0 0)) 3 Tryz.underlying33 hi hz0 hz1 .i64 .i64 _ _ n rfl rfl rfl rfl (by rw [hz2]; omega) (by unfold maxLen; omega) (Nat.le_refl _) ?_; intro w0 ho0 hg0))
  have T0 : OPtV w0 w.heap.size (.slice (some ⟨w.heap.size, 0, none⟩) n n) (pthalf ps 0) (List.replicate n (.slice none 0 0)) := by
    rw [made_pcells] at ho0
    have := opt_zero ho0
    simpa [pthalf, unhide Hn] using this
  have B0 : Below w.heap.size w w0 := (Below.refl _ _).grown hg0 (Nat.le_refl _) (by simp)
  clear ho0 hg0 hz0 hz1 hz2 hi
  go_loopw [4] (fun i wr => ∃ (k : Nat) (vs : List Value), k ≤ n ∧ i = .int .i64 k ∧ OPtV wr w.heap.size (.slice (some ⟨w.heap.size, 0, none⟩) n n) (pthalf ps k) vs ∧ Below w.heap.size w wr) (fun i _ => n - (intOf i).toNat)
  case atStart => exact ⟨0, _, Nat.zero_le _, rfl, T0, B0⟩
  case round =>
    clear T0
    obtain ⟨k, vs, hk, rfl, T, br⟩ := hrel
    by_cases hlt : k < n
    · have hkx : k < ps.length := by have := unhide Hn; omega
      have hlen := pthalf_len ps k (by omega)
      have HR := (unhide H).below br (Nat.le_refl _)
      obtain ⟨g, off, u, rfl, c0, c1, c2, ru⟩ := HR.at k hkx
      have HS := hide (pthalf_set ps k hkx)
      obtain ⟨x, hx⟩ : ∃ x, ps.getD k zpt = x := ⟨_, rfl⟩
      rw [hx] at c0 c1 ru HS
      clear hx
      obtain ⟨m, s, xs⟩ := x
      simp only at c0 c1 ru
      have TP := hide fun w h => toPart_any m s u xs w h
      obtain ⟨ua, uc, rfl⟩ := ru.form
      have RU := hide ru
      have HT := hide T
      generalize xs.length = xl at *
      clear HR H ru T
      go_wp2_with fail
      refine (unhide TP _ (unhide RU)).mono ?_
      rintro e w2 ⟨u2, rfl, o2, b2⟩
      have T2 := (unhide HT).below b2
      have B2 := br.trans (b2.mono br.size)
      have lt2 := World.ownsRow.lt o2
      have hrow := T2.row
      rw [hlen, unhide Hn] at hrow
      have hplen : (pcells (((pthalf ps k).map phd).zip vs)).length = n * 3 := by rw [pcells_len]; simp [T2.len, hlen, unhide Hn]
      have gt : ∀ j, j < n * 3 → ∃ u, w2.cell? ⟨w.heap.size, j, none⟩ = some u := fun j hj => ⟨_, (hrow.cellAt j hj).trans (List.getElem?_eq_getElem (by rw [hplen]; exact hj))⟩
      obtain ⟨y0, d0⟩ := gt (k * 3) (by omega)
      obtain ⟨y1, d1⟩ := gt (k * 3 + 1) (by omega)
      obtain ⟨y2, d2⟩ := gt (k * 3 + 2) (by omega)
      have f0 := hrow.frozenAt (k * 3)
      have f1 := hrow.frozenAt (k * 3 + 1)
      have f2 := hrow.frozenAt (k * 3 + 2)
      have R := hide (show OPtV (((w2.setCell ⟨w.heap.size, k * 3, none⟩ (.int .i64 m)).setCell ⟨w.heap.size, k * 3 + 1, none⟩ (.string s)).setCell ⟨w.heap.size, k * 3 + 2, none⟩ u2) w.heap.size (.slice (some ⟨w.heap.size, 0, none⟩) n n) (pthalf ps (k + 1)) (vs.set k u2) by
        have T3 := T2
        have en : n = (pthalf ps k).length := by rw [hlen, unhide Hn]
        rw [← unhide HS]
        have := opt_set (m := m) (s := s) (u := u2) (xs := xs) (k := k) (cap := n) (g := w.heap.size) (w := w2) (base := w.heap.size) (ps := pthalf ps k) (vs := vs) (by rw [← en]; exact T3) (by rw [hlen]; exact hkx) (OI.mono o2 br.size) (fun j hj _ b hb e => by
          have h1 := World.ownsRow.lt ((unhide HT).each j hj) b hb
          have h2 := lt2 b e
          omega)
        rw [← en] at this
        exact this)
      have BR := hide (((B2.setCell (p := ⟨w.heap.size, k * 3, none⟩) (Nat.le_refl _) (.int .i64 m)).setCell (p := ⟨w.heap.size, k * 3 + 1, none⟩) (Nat.le_refl _) (.string s)).setCell (p := ⟨w.heap.size, k * 3 + 2, none⟩) (Nat.le_refl _) u2)
      obtain ⟨va, vc, rfl⟩ := o2.form
      generalize xs.length = zl at *
      clear T2 B2 hrow hplen gt o2 lt2 HT TP RU c0 c1 c2
      go_wp2
      go_roundw
      case rel => exact ⟨k + 1, _, by omega, by go_num, unhide R, unhide BR⟩
      case measure => simp [intOf]; omega
    · have hkn : pthalf ps k = ps := by
        have := unhide Hn
        unfold pthalf
        rw [List.take_of_length_le (by omega), show ps.length - k = 0 by omega]
        simp
      rw [hkn] at T
      have T' := hide T
      clear T hkn H
      go_wp2
      go_ret
      exact ⟨_, rfl, ⟨_, unhide T'⟩, br⟩
end Go.Proofs.YtehdchpolgihlaaGreatDoor

/- MarkT: laws.markText. -/
namespace Go.Proofs.YtehdchpolgihlaaGreatDoor
open Go.RowKit

/-- The text that marks number k. -/
def markT (k : Nat) : ByteArray := ⟨(109 :: Lib.decDigits k).toArray⟩

set_option maxHeartbeats 800000 in
set_option maxRecDepth 100000 in
theorem markText_any (n : Nat) (w : World) (hn : 0 < n) (hm : n ≤ 9223372036854775807) :
    Calls Tryz.prog 101 #[.int .i64 n] w fun e w' => e = .returned (.string (markT n)) ∧ Below w.heap.size w w' := by
  have hcv := one_str
  have hsz := one_size
  go_enter Tryz.func101, Tryz.ntmps101
  go_wp2
  go_loopw [0, 3] (fun x s wr => ∃ (m : Nat) (t : List UInt8), m ≤ 9223372036854775807 ∧ DAt n m t ∧ x = .int .i64 m ∧ s = .string ⟨t.toArray⟩ ∧ Below w.heap.size w wr) (fun x _ _ => (intOf x).toNat)
  case atStart => exact ⟨n, [], hm, dat_start n (by omega), rfl, rfl, Below.refl _ _⟩
  case round =>
    obtain ⟨m, t, hm', hd, rfl, rfl, hb⟩ := hrel
    have ht20 := hd.2.1
    by_cases h0 : m = 0
    · subst h0
      have HE := hide (dat_end hd (by omega))
      clear hd
      go_wp2
      go_ret
      have HE' := unhide HE
      subst HE'
      exact ⟨by apply congrArg Ending.returned; apply congrArg Value.string; apply ByteArray.ext; apply Array.toList_inj.1; simp [markT], hb⟩
    · have hpos : 0 < m := by omega
      obtain ⟨hd', hl⟩ := dat_step hd h0
      have HD := hide hd'
      clear hd hd'
      have hs0 := hb.size
      have hmo := one_more (m % 10) t (by omega)
      have hbl : Below w.heap.size w (wr.alloc (.cells #[.int .u8 (48 + (m : Int) % 10)] 5)) := hb.alloc hs0 _
      go_wp2
      go_roundw
      case rel => exact ⟨m / 10, _, by omega, unhide HD, by go_num, by rw [← hmo]; rfl, hbl⟩
      case measure => simp [intOf]; omega
end Go.Proofs.YtehdchpolgihlaaGreatDoor

/- PartMark: tables are marked (laws.markPartS), and the marks are asked for (laws.heldPartS). -/
namespace Go.Proofs.YtehdchpolgihlaaGreatDoor
open Go.RowKit
set_option linter.unusedSectionVars false
variable [∀ (a b c d : Int), Decidable (Ok4 a b c d)]
variable [∀ (n f : Int), Decidable (COk n f)]

/-- The marks of a table, from k on; where they end. -/
def pmk : Nat → List Pt → List Pt
  | _, [] => []
  | k, p :: ps => ((k : Int), markT (k + 1), imarks (k + 2) p.2.2.length) :: pmk (k + 2 + p.2.2.length) ps
def pend : Nat → List Pt → Nat
  | k, [] => k
  | k, p :: ps => pend (k + 2 + p.2.2.length) ps
theorem pmk_len (k : Nat) (ps : List Pt) : (pmk k ps).length = ps.length := by
  induction ps generalizing k with
  | nil => rfl
  | cons p ps ih => simp [pmk, ih]
theorem pmk_snoc (k : Nat) (ps : List Pt) (p : Pt) : pmk k (ps ++ [p]) = pmk k ps ++ [((pend k ps : Int), markT (pend k ps + 1), imarks (pend k ps + 2) p.2.2.length)] ∧ pend k (ps ++ [p]) = pend k ps + 2 + p.2.2.length := by
  induction ps generalizing k with
  | nil => exact ⟨rfl, rfl⟩
  | cons x ps ih => simp only [List.cons_append, pmk, pend, (ih _).1, (ih _).2]; exact ⟨trivial, trivial⟩
theorem pend_take (k0 : Nat) (ps : List Pt) (k : Nat) (hk : k < ps.length) : pend k0 (ps.take (k + 1)) = pend k0 (ps.take k) + 2 + (ps.getD k zpt).2.2.length := by
  rw [List.take_succ_eq_append_getElem hk, (pmk_snoc _ _ _).2]
  simp [List.getElem?_eq_getElem hk]
theorem pend_ge (k0 : Nat) (ps : List Pt) : k0 ≤ pend k0 ps := by
  induction ps generalizing k0 with
  | nil => exact Nat.le_refl _
  | cons p ps ih => have := ih (k0 + 2 + p.2.2.length); simp only [pend]; omega
theorem pend_le (k0 : Nat) (ps : List Pt) (k : Nat) : pend k0 (ps.take k) ≤ pend k0 ps := by
  induction ps generalizing k0 k with
  | nil => simp [pend]
  | cons p ps ih =>
    cases k with
    | zero => simp only [List.take_zero, pend]; have := pend_ge (k0 + 2 + p.2.2.length) ps; omega
    | succ k => simp only [List.take_succ_cons, pend]; exact ih _ _
/-- What of the table is marked behind k rounds. -/
def pmix (k0 k : Nat) (ps : List Pt) : List Pt := pmk k0 (ps.take k) ++ ps.drop k
theorem pmix_len (k0 k : Nat) (ps : List Pt) (h : k ≤ ps.length) : (pmix k0 k ps).length = ps.length := by
  simp [pmix, pmk_len]; omega
theorem pmix_get (k0 k : Nat) (ps : List Pt) (h : k < ps.length) : (pmix k0 k ps).getD k zpt = ps.getD k zpt := by
  have hl : (pmk k0 (ps.take k)).length = k := by rw [pmk_len]; simp; omega
  unfold pmix
  rw [List.getD_eq_getElem?_getD, List.getElem?_append_right (by omega), hl, Nat.sub_self, List.getElem?_drop, Nat.add_zero, ← List.getD_eq_getElem?_getD]
theorem pmix_set (k0 k : Nat) (ps : List Pt) (h : k < ps.length) : (pmix k0 k ps).set k ((pend k0 (ps.take k) : Int), markT (pend k0 (ps.take k) + 1), imarks (pend k0 (ps.take k) + 2) (ps.getD k zpt).2.2.length) = pmix k0 (k + 1) ps := by
  have hl : (pmk k0 (ps.take k)).length = k := by rw [pmk_len]; simp; omega
  unfold pmix
  rw [List.set_append_right _ _ (by omega), hl, Nat.sub_self, List.drop_eq_getElem_cons h, List.set_cons_zero, List.take_succ_eq_append_getElem h, (pmk_snoc _ _ _).1, List.append_assoc]
  simp [List.getElem?_eq_getElem h]

set_option maxHeartbeats 8000000 in
set_option maxRecDepth 100000 in
theorem markPartS_any (lo hi : Nat) (v : Value) (ps : List Pt) (vs : List Value) (k0 : Nat) (w : World) (hn : ps.length ≤ 4194304) (hw : ∀ p ∈ ps, p.2.2.length ≤ 4194304) (hp : pend k0 ps ≤ 100000000) (h : OPR w lo hi v ps vs) :
    Calls Tryz.prog 49 #[v, .int .i64 k0] w fun e w' => e = .returned (.int .i64 (pend k0 ps)) ∧ OPR w' lo hi v (pmk k0 ps) vs ∧ Kp w w' (fun b => lo ≤ b ∧ b < hi) := by
  obtain ⟨va, vc, rfl⟩ := OPt.form ⟨vs, h.tab⟩
  obtain ⟨n, hn'⟩ : ∃ n, ps.length = n := ⟨_, rfl⟩
  have Hn := hide hn'
  have HW := hide hw
  rw [hn'] at hn h ⊢
  have HS := hide h
  clear hw h hn'
  go_enter Tryz.func49, Tryz.ntmps49
  go_wp2
  go_loopw [1, 5] (fun c i wr => ∃ k : Nat, k ≤ n ∧ i = .int .i64 k ∧ c = .int .i64 ((pend k0 (ps.take k) : Nat) : Int) ∧ OPR wr lo hi (.slice va n vc) (pmix k0 k ps) vs ∧ Kp w wr (fun b => lo ≤ b ∧ b < hi)) (fun _ i _ => n - (intOf i).toNat)
  case atStart => exact ⟨0, Nat.zero_le _, rfl, by simp [pend], by simpa [pmix, pmk] using unhide HS, Kp.refl _ _⟩
  case round =>
    clear HS
    obtain ⟨k, hk, rfl, rfl, os, kr⟩ := hrel
    have hpk := pend_le k0 ps k
    by_cases hlt : k < n
    · have hkx : k < ps.length := by have := unhide Hn; omega
      have hlen : (pmix k0 k ps).length = n := by rw [pmix_len k0 k ps (by omega)]; exact unhide Hn
      have hge := pmix_get k0 k ps hkx
      have hse := pmix_set k0 k ps hkx
      have hpt := pend_take k0 ps k hkx
      have hpk1 := pend_le k0 ps (k + 1)
      have hxl := unhide HW _ (pt_mem hkx)
      have hkl : k < (pmix k0 k ps).length := by omega
      obtain ⟨g, rfl⟩ : ∃ g, va = some ⟨g, 0, none⟩ := by
        rcases os.tab.row.2 with ⟨e, h0⟩ | ⟨g, cap, cur, e, _⟩
        · omega
        · injection e with e1 e2 e3; exact ⟨g, e1⟩
      have hrow := os.tab.row
      rw [hlen] at hrow
      have hglo := (World.ownsRow.lt hrow g rfl).1
      have hghi := os.rowHi g rfl
      have hplen : (pcells (((pmix k0 k ps).map phd).zip vs)).length = n * 3 := by rw [pcells_len]; simp [os.tab.len, hlen]
      have hou := os.tab.each k hkl
      have huh := os.eachHi k hkl
      have hne : (vs.getD k (.slice none 0 0)).ownBlock ≠ some g := pt_oi os.tab.row hou g rfl
      have hzl : ((pmix k0 k ps).map phd).zip vs = ((pmix k0 k ps).map phd).zip vs := rfl
      have c2 : wr.cell? ⟨g, k * 3 + 2, none⟩ = some (vs.getD k (.slice none 0 0)) := by
        have := hrow.cellAt (k * 3 + 2) (by omega)
        rw [pcells_get _ k _ (by simp [os.tab.len]; omega) (by omega), pzip_get _ vs os.tab.len k hkl] at this
        exact this
      rw [hge] at hou
      generalize (ps.getD k zpt).2.2 = xs at *
      generalize hqe : pend k0 (ps.take k) = q at *
      obtain ⟨u, hu⟩ : ∃ u, vs.getD k (.slice none 0 0) = u := ⟨_, rfl⟩
      have HU := hide hu
      rw [hu] at hou huh hne c2
      obtain ⟨y0, d0⟩ : ∃ y, wr.cell? ⟨g, k * 3, none⟩ = some y := ⟨_, (hrow.cellAt (k * 3) (by omega)).trans (List.getElem?_eq_getElem (by rw [hplen]; omega))⟩
      have f0 := hrow.frozenAt (k * 3)
      obtain ⟨w1, hw1⟩ : ∃ y, wr.setCell ⟨g, k * 3, none⟩ (.int .i64 (q : Int)) = y := ⟨_, rfl⟩
      have k1 : Kp wr w1 (fun b => b = g) := hw1 ▸ set_kp _ _ _ _
      have r1 := hw1 ▸ (hrow.stored (k * 3) (.int .i64 (q : Int))).1
      have MT := hide fun w => markText_any (q + 1) w (by omega) (by omega)
      have HSE := hide hse
      have HPT := hide hpt
      have T := hide os.tab
      have TOP := os.top
      have RH := hide os.rowHi
      have EH := hide os.eachHi
      have MK := hide fun w h => imark_any lo (q + 2) u xs w hxl (by omega) h
      clear hzl hge hu hse hpt os
      go_wp2_with fail
      refine (unhide MT _).mono ?_
      rintro e w2 ⟨rfl, b2⟩
      have r2 := World.ownsRow.kept (row := none) r1 ⟨b2.os, b2.tape, b2.output, b2.size, fun k hk _ => b2.block k hk⟩ (by simp [Value.ownBlock])
      obtain ⟨y1, d1⟩ : ∃ y, w2.cell? ⟨g, k * 3 + 1, none⟩ = some y := ⟨_, (r2.cellAt (k * 3 + 1) (by omega)).trans (List.getElem?_eq_getElem (by rw [List.length_set, hplen]; omega))⟩
      have f1 := r2.frozenAt (k * 3 + 1)
      have c2' : w2.cell? ⟨g, k * 3 + 2, none⟩ = some u := by
        have h1 : w1.cell? ⟨g, k * 3 + 2, none⟩ = some u := hw1 ▸ (World.cell?_setCell_other _ _ _ _ (by simp)).trans c2
        exact (b2.cell (p := ⟨g, k * 3 + 2, none⟩) (cell_lt h1)).trans h1
      obtain ⟨mt, hmt⟩ : ∃ t, markT (q + 1) = t := ⟨_, rfl⟩
      rw [hmt] at HSE ⊢
      clear hmt
      obtain ⟨w3, hw3⟩ : ∃ y, w2.setCell ⟨g, k * 3 + 1, none⟩ (.string mt) = y := ⟨_, rfl⟩
      have r3 := hw3 ▸ (r2.stored (k * 3 + 1) (.string mt)).1
      have k3 : Kp wr w3 (fun b => b = g) := (k1.trans (Below.kpOf b2 _)).trans (hw3 ▸ set_kp _ _ _ _)
      have c3 : w3.cell? ⟨g, k * 3 + 2, none⟩ = some u := hw3 ▸ (World.cell?_setCell_other _ _ _ _ (by simp)).trans c2'
      have o3 : OI w3 lo u xs := hou.kp k3 (fun b hb e => hne (by rw [← e]; exact hb))
      have lu := World.ownsRow.lt hou
      obtain ⟨ua, uc, rfl⟩ := o3.form
      have O3 := hide o3
      have R3 := hide r3
      clear c2 c2' d0 f0 r1 r2 b2 k1 MT hou hrow r3 o3 hw1
      go_wp2_with fail
      refine (unhide MK _ (unhide O3)).mono ?_
      rintro e w4 ⟨rfl, o4, g4⟩
      have T4 : OPtV w4 lo (.slice (some ⟨g, 0, none⟩) n vc) (pmix k0 (k + 1) ps) vs := by
        rw [← unhide HSE]
        refine opt_mark (unhide T) hkl (by rw [hlen]; exact unhide R3) k3 (by rw [unhide HU]; exact o4) (by rw [unhide HU]; exact g4)
      have K4 : Kp w w4 (fun b => lo ≤ b ∧ b < hi) := (kr.trans (k3.mono fun b e => e ▸ ⟨hglo, hghi⟩)).trans ((kp_grown g4).mono fun b e => ⟨(lu b e).1, huh b e⟩)
      have OP : Hid (OPR w4 lo hi (.slice (some ⟨g, 0, none⟩) n vc) (pmix k0 (k + 1) ps) vs) := hide ⟨T4, by have := k3.size; have := g4.size; omega, unhide RH, fun j hj => unhide EH j (by rw [hlen]; rw [pmix_len k0 (k + 1) ps (by omega), unhide Hn] at hj; exact hj)⟩
      clear T4 o4 g4 c3 d1 f1 k3 lu O3 R3 T RH EH huh hne kr hw3
      go_wp2
      go_roundw
      case rel => exact ⟨k + 1, by omega, by go_num, by rw [unhide HPT]; simp, unhide OP, K4⟩
      case measure => simp [intOf]; omega
    · have hkn : ps.take k = ps := List.take_of_length_le (by have := unhide Hn; omega)
      have hpm : pmix k0 k ps = pmk k0 ps := by unfold pmix; rw [hkn, List.drop_of_length_le (by have := unhide Hn; omega), List.append_nil]
      rw [hpm] at os
      rw [hkn]
      have OS := hide os
      clear os hpm hpk
      go_wp2
      go_ret
      exact ⟨rfl, unhide OS, kr⟩
end Go.Proofs.YtehdchpolgihlaaGreatDoor

/- PartHeld: laws.heldPartS; laws.szPartS where there is too much. -/
namespace Go.Proofs.YtehdchpolgihlaaGreatDoor
open Go.RowKit
set_option linter.unusedSectionVars false
variable [∀ (a b c d : Int), Decidable (Ok4 a b c d)]
variable [∀ (n f : Int), Decidable (COk n f)]

theorem pmk_get (k0 : Nat) (ps : List Pt) (k : Nat) (hk : k < ps.length) : (pmk k0 ps).getD k zpt = ((pend k0 (ps.take k) : Int), markT (pend k0 (ps.take k) + 1), imarks (pend k0 (ps.take k) + 2) (ps.getD k zpt).2.2.length) := by
  induction ps generalizing k0 k with
  | nil => simp at hk
  | cons p ps ih =>
    cases k with
    | zero => rfl
    | succ k =>
      have := ih (k0 + 2 + p.2.2.length) k (by simpa using hk)
      simpa [pmk, pend] using this

set_option maxHeartbeats 4000000 in
set_option maxRecDepth 100000 in
theorem heldPartS_any (v : Value) (ps : List Pt) (k0 : Nat) (w : World) (hn : ps.length ≤ 4194304) (hp : pend k0 ps ≤ 100000000) (h : RPt w v (pmk k0 ps)) :
    Calls Tryz.prog 50 #[v, .int .i64 k0] w fun e w' => e = .returned (.int .i64 (pend k0 ps)) ∧ Below w.heap.size w w' := by
  obtain ⟨ao, ca, rfl⟩ := h.form
  rw [pmk_len] at h ⊢
  obtain ⟨n, hn'⟩ : ∃ n, ps.length = n := ⟨_, rfl⟩
  have Hn := hide hn'
  rw [hn'] at hn h ⊢
  have H := hide h
  clear h hn'
  go_enter Tryz.func50, Tryz.ntmps50
  go_wp2
  go_loopw [1, 5] (fun c i wr => ∃ k : Nat, k ≤ n ∧ i = .int .i64 k ∧ c = .int .i64 ((pend k0 (ps.take k) : Nat) : Int) ∧ Below w.heap.size w wr) (fun _ i _ => n - (intOf i).toNat)
  case atStart => exact ⟨0, Nat.zero_le _, rfl, by simp [pend], Below.refl _ _⟩
  case round =>
    obtain ⟨k, hk, rfl, rfl, br⟩ := hrel
    have hpk := pend_le k0 ps k
    by_cases hlt : k < n
    · have hkx : k < ps.length := by have := unhide Hn; omega
      have hge := pmk_get k0 ps k hkx
      have HPT := hide (pend_take k0 ps k hkx)
      have hpk1 := pend_le k0 ps (k + 1)
      rw [unhide HPT] at hpk1
      obtain ⟨g, o, u, rfl, c0, c1, c2, ru⟩ := ((unhide H).below br (Nat.le_refl _)).at k (by rw [pmk_len]; exact hkx)
      rw [hge] at c0 c1 ru
      simp only at c0 c1 ru
      generalize (ps.getD k zpt).2.2.length = xl at *
      generalize pend k0 (ps.take k) = q at *
      have MT := hide fun w => markText_any (q + 1) w (by omega) (by omega)
      generalize markT (q + 1) = mt at *
      have K : Hid (∀ w', Below wr.heap.size wr w' → Below wr.heap.size wr w' ∧ w'.cell? ⟨g, o + k * 3, none⟩ = some (.int .i64 q) ∧ w'.cell? ⟨g, o + k * 3 + 1, none⟩ = some (.string mt) ∧ w'.cell? ⟨g, o + k * 3 + 2, none⟩ = some u) := hide fun w' hb' =>
        ⟨hb', (hb'.cell (p := ⟨g, o + k * 3, none⟩) (cell_lt c0)).trans c0, (hb'.cell (p := ⟨g, o + k * 3 + 1, none⟩) (cell_lt c1)).trans c1, (hb'.cell (p := ⟨g, o + k * 3 + 2, none⟩) (cell_lt c2)).trans c2⟩
      have RU := hide fun w' (hb' : Below wr.heap.size wr w') => ru.below hb' (Nat.le_refl _)
      obtain ⟨ua, uc, rfl⟩ := ru.form
      rw [imarks_len] at K RU c2
      have HE := hide fun w h => iheld_any (.slice ua xl uc) xl (q + 2) w (by omega) h
      have bA : Below wr.heap.size wr wr.drew := Below.drew (Below.refl _ _)
      have hKeep := unhide K _ bA
      clear hge ru H
      go_upto_region 7 with fail
      first | go_region_held3 (fun w' => Below wr.heap.size wr w' ∧ w'.cell? ⟨g, o + k * 3, none⟩ = some (.int .i64 q) ∧ w'.cell? ⟨g, o + k * 3 + 1, none⟩ = some (.string mt) ∧ w'.cell? ⟨g, o + k * 3 + 2, none⟩ = some (.slice ua xl uc)) (exact hKeep) (first
        | (go_at_call 101; have hgo := bA; refine (unhide MT _).mono ?_; rintro e wa ⟨rfl, ba⟩
           have bB : Below wr.heap.size wr wa := bA.trans (ba.mono bA.size)
           have hKeep := unhide K _ bB; clear bA hgo ba)) | fail
      all_goals
        have e2 := hKeep.2.2.2
        have hd1 : decide ((q : Int) + 1 + 1 + (xl : Int) < 0) = false := by simp; omega
        clear hKeep c0 c1 c2
        go_wp2_with fail
        refine (unhide HE _ (unhide RU _ bB)).mono ?_
        rintro e w4 ⟨rfl, rfl⟩
        clear e2 RU HE K
        go_wp2
        go_roundw
        case rel => exact ⟨k + 1, by omega, by go_num, by rw [unhide HPT]; simp, br.trans (bB.mono br.size)⟩
        case measure => simp [intOf]; omega
    · have hkn : ps.take k = ps := List.take_of_length_le (by have := unhide Hn; omega)
      rw [hkn]
      clear hpk H
      go_wp2
      go_ret
      exact ⟨rfl, br⟩

set_option maxHeartbeats 4000000 in
set_option maxRecDepth 100000 in
theorem szPartS_no (al : Option Addr) (cl : Nat) (rs : List Pr) (left : Int) (w : World) (h : ATab w al rs) (hb : ∀ r ∈ rs, r.2.1.size ≤ maxLen ∧ r.2.2.2.2.length ≤ maxLen) (h0 : 0 ≤ left) (hm : rs.length ≤ maxLen) (hs : left < (rs.length : Int) + psum rs) (hl : left ≤ 1048576) :
    Calls Tryz.prog 46 #[.slice al rs.length cl, .int .i64 left] w fun e w' => e = .returned (.int .i64 (-1)) ∧ Below w.heap.size w w' := by
  obtain ⟨n, hn⟩ : ∃ n, rs.length = n := ⟨_, rfl⟩
  have Hn := hide hn
  have H := hide h
  have HB := hide hb
  unfold maxLen at hm
  rw [hn] at hs hm ⊢
  clear hn h hb
  by_cases h1 : left < n
  · have hd0 : decide (left - (n : Int) < 0) = true := by simp; omega
    clear H HB
    go_enter Tryz.func46, Tryz.ntmps46
    go_wp2
    go_ret
    exact ⟨rfl, Below.refl _ _⟩
  have hd0 : decide (left - (n : Int) < 0) = false := by simp; omega
  go_enter Tryz.func46, Tryz.ntmps46
  go_wp2
  go_loopw [1, 5] (fun a i wr => ∃ k : Nat, k ≤ n ∧ i = .int .i64 k ∧ a = .int .i64 (left - n - (psum (rs.take k) : Nat)) ∧ (psum (rs.take k) : Int) ≤ left - n ∧ Below w.heap.size w wr) (fun _ i _ => n - (intOf i).toNat)
  case atStart => exact ⟨0, Nat.zero_le _, rfl, by simp [psum], by simp [psum]; omega, Below.refl _ _⟩
  case round =>
    obtain ⟨k, hk, rfl, rfl, hp, br⟩ := hrel
    by_cases hlt : k < n
    · have hkx : k < rs.length := by have := unhide Hn; omega
      have HP1 := hide (psum_take rs k hkx)
      have hbk := unhide HB (rs.getD k prz) (by rw [List.getD_eq_getElem?_getD, List.getElem?_eq_getElem hkx]; exact List.getElem_mem hkx)
      rcases unhide H with h | ⟨g, off, rfl, h⟩
      · subst h; simp at hkx
      obtain ⟨c0, c1, c2⟩ := h k hkx
      have hg : g < w.heap.size := cell_lt c0
      replace c0 := (br.cell (p := ⟨g, off + k * 3, none⟩) hg).trans c0
      replace c1 := (br.cell (p := ⟨g, off + k * 3 + 1, none⟩) hg).trans c1
      replace c2 := (br.cell (p := ⟨g, off + k * 3 + 2, none⟩) hg).trans c2
      clear h H HB
      generalize (rs.getD k prz).1 = m at *
      generalize (rs.getD k prz).2.1 = s at *
      generalize (rs.getD k prz).2.2.2.2.length = x at *
      generalize (rs.getD k prz).2.2.1 = ao at *
      generalize (rs.getD k prz).2.2.2.1 = ca at *
      generalize psum (rs.take k) = q at *
      obtain ⟨hb1, hb2⟩ := hbk
      unfold maxLen at hb1 hb2
      by_cases hfit : (s.size : Int) + x ≤ left - n - q
      · have SZ := hide fun w => szPart_yes m s ao x ca (left - n - q) w hfit (by omega)
        have hd1 : decide (left - (n : Int) - (q : Int) - (s.size : Int) - (x : Int) < 0) = false := by simp; omega
        go_wp2_with fail
        refine (unhide SZ _).mono ?_
        rintro e w1 ⟨rfl, b1⟩
        have B1 := br.trans (b1.mono br.size)
        clear c0 c1 c2 SZ b1
        go_wp2
        go_roundw
        case rel => exact ⟨k + 1, by omega, by go_num, by rw [unhide HP1]; simp; omega, by rw [unhide HP1]; simp; omega, B1⟩
        case measure => simp [intOf]; omega
      · have SZ := hide fun w => szPart_no m s ao x ca (left - n - q) w (by omega) (by omega) (by omega) (by omega) (by omega)
        go_wp2_with fail
        refine (unhide SZ _).mono ?_
        rintro e w1 ⟨rfl, b1⟩
        have B1 := br.trans (b1.mono br.size)
        clear c0 c1 c2 SZ b1
        go_wp2
        go_ret
        exact ⟨rfl, B1⟩
    · have hkn : rs.take k = rs := List.take_of_length_le (by have := unhide Hn; omega)
      rw [hkn] at hp
      omega
end Go.Proofs.YtehdchpolgihlaaGreatDoor

/- PartSum: what a table's parts come to together. -/
namespace Go.Proofs.YtehdchpolgihlaaGreatDoor
open Go.RowKit
set_option linter.unusedSectionVars false
variable [∀ (a b c d : Int), Decidable (Ok4 a b c d)]
variable [∀ (n f : Int), Decidable (COk n f)]

theorem psum_each {rs : List Pr} {r : Pr} (h : r ∈ rs) : r.2.1.size + r.2.2.2.2.length ≤ psum rs := by
  induction rs with
  | nil => simp at h
  | cons x rs ih =>
    rcases List.mem_cons.1 h with rfl | h
    · simp only [psum]; omega
    · have := ih h; simp only [psum]; omega
theorem prp_mem {rs : List Pr} {p : Pt} (h : p ∈ rs.map prp) : p.2.1.size + p.2.2.length ≤ psum rs := by
  obtain ⟨r, hr, rfl⟩ := List.mem_map.1 h
  exact psum_each hr
theorem ATab.below {W W' : World} {ao : Option Addr} {rs : List Pr} (h : ATab W ao rs) (hb : Below W.heap.size W W') : ATab W' ao rs := by
  rcases h with h | ⟨g, off, rfl, h⟩
  · exact .inl h
  · refine .inr ⟨g, off, rfl, fun k hk => ?_⟩
    obtain ⟨c0, c1, c2⟩ := h k hk
    have hg := cell_lt c0
    exact ⟨(hb.cell (p := ⟨g, off + k * 3, none⟩) hg).trans c0, (hb.cell (p := ⟨g, off + k * 3 + 1, none⟩) hg).trans c1, (hb.cell (p := ⟨g, off + k * 3 + 2, none⟩) hg).trans c2⟩
/-- How many voters a table has in all. -/
def whos : List Pt → Nat
  | [] => 0
  | p :: ps => p.2.2.length + whos ps
theorem pend_sum (k : Nat) (ps : List Pt) : pend k ps = k + 2 * ps.length + whos ps := by
  induction ps generalizing k with
  | nil => simp [pend, whos]
  | cons p ps ih => simp only [pend, whos, ih, List.length_cons]; omega
theorem pmk_small (k : Nat) (ps : List Pt) (h : ∀ p ∈ ps, p.2.2.length ≤ 4194304) : ∀ p ∈ pmk k ps, p.2.2.length ≤ 4194304 := by
  induction ps generalizing k with
  | nil => simp [pmk]
  | cons x ps ih =>
    intro p hp
    simp only [pmk, List.mem_cons] at hp
    rcases hp with rfl | hp
    · simp only [imarks_len]; exact h x (by simp)
    · exact ih _ (fun y hy => h y (by simp [hy])) p hp
theorem whos_le (rs : List Pr) : whos (rs.map prp) ≤ psum rs := by
  induction rs with
  | nil => simp [whos]
  | cons r rs ih => simp only [List.map_cons, whos, psum]; have : (prp r).2.2.length = r.2.2.2.2.length := rfl; omega
end Go.Proofs.YtehdchpolgihlaaGreatDoor

/- TableOkWalk: the walk of laws.FnExactTableOk, over what the program's TableOk answers. -/
namespace Go.Proofs.YtehdchpolgihlaaGreatDoor
open Go.RowKit
set_option linter.unusedSectionVars false
variable [∀ (a b c d : Int), Decidable (Ok4 a b c d)]
variable [∀ (n f : Int), Decidable (COk n f)]
variable [∀ (n : Int) (s : List Int), Decidable (OkL n s)]
variable [∀ (a b c d : Nat), Decidable (okN a b c d)]
variable [∀ (last : Int) (s : St), Decidable (GoodSt last s)]
variable [∀ (x : T4), Decidable (OkT x)]

set_option maxHeartbeats 8000000 in
set_option maxRecDepth 100000 in
theorem fnTableOk_short (E : World → Prop) (hE : ∀ w w', E w → Below w.heap.size w w' → E w') (IM0 : ∀ (n f : Int) (v : Value) (ps : List Pt) (w : World), ps.length ≤ 1048576 → (∀ p ∈ ps, p.2.1.size ≤ 1048576 ∧ p.2.2.length ≤ 1048576) → E w → RPt w v ps → Calls Tryz.prog 29 #[cv n f, v] w fun e w' => e = .returned (.bool (tokB n f ps)) ∧ Below w.heap.size w w')
    (n f : Int) (al : Option Addr) (cl : Nat) (rs : List Pr) (w : World) (h : ATab w al rs) (ha : ∀ r ∈ rs, AIW w r.2.2.1 r.2.2.2.2) (hs : rs.length + psum rs ≤ 1048576) (he : E w) :
    Calls Tryz.prog 6 #[cv n f, .slice al rs.length cl] w fun e w' => e = .returned (.bool true) ∧ Below w.heap.size w w' := by
  have RA := hide fun w' (hb : Below w.heap.size w w') => (ATab.rpt (ca := cl) h ha (fun r hr => by have := psum_each hr; omega)).below hb (Nat.le_refl _)
  have HA := hide fun w' (hb : Below w.heap.size w w') => h.below hb
  have ZA := hide fun w h => szPartS_yes al cl rs 1048576 w h (by omega) (by omega)
  have HE := hide fun w' (hb : Below w.heap.size w w') => hE w w' he hb
  have hpm : ∀ p ∈ rs.map prp, p.2.1.size ≤ 1048576 ∧ p.2.2.length ≤ 1048576 := fun p hp => by have := prp_mem hp; omega
  have hpl : (rs.map prp).length = rs.length := by simp
  have hd0 : decide ((1048576 : Int) - (rs.length : Int) - (psum rs : Int) < 0) = false := by simp; omega
  obtain ⟨len, hlen⟩ : ∃ l, rs.length = l := ⟨_, rfl⟩
  rw [hlen] at hpl RA ZA hd0 hs ⊢
  generalize psum rs = sm at *
  generalize rs.map prp = ps at *
  have hw : ∀ p ∈ ps, p.2.2.length ≤ 4194304 := fun p hp => by have := hpm p hp; omega
  have TO := hide fun w => toConf_any n f w
  have TP := hide fun w h => toPartS_any (.slice al len cl) ps w (by omega) h
  have SP := hide fun v w h => specTableOk n f v ps w (by omega) (fun p hp => (hpm p hp).1) h
  have IM := hide fun v w e h => IM0 n f v ps w (by omega) hpm e h
  have EQ := hide fun v u w h h' => eqPartS_yes v u ps w (by omega) h h'
  generalize tokB n f ps = q at *
  have hq : (q != q) = false := by simp
  obtain ⟨w0, hw0⟩ : ∃ y, w.alloc (.cells #[.int .i64 n, .int .i64 f] 60) = y := ⟨_, rfl⟩
  have B : Below w.heap.size w w0 := hw0 ▸ qalloc _ _
  have LC : Loc w0 w.heap.size #[.int .i64 n, .int .i64 f] := hw0 ▸ loc_at w _ _ rfl
  clear h ha he hE IM0
  go_enter Tryz.func6, Tryz.ntmps6
  go_wp2_with fail
  refine (unhide ZA _ (unhide HA _ B)).mono ?_
  rintro _ w1 ⟨rfl, bb⟩
  replace B := B.trans (bb.mono B.size)
  replace LC := LC.below bb LC.lt
  clear bb
  clear ZA HA
  have c0 := LC.cell 0 rfl
  have c1 := LC.cell 1 rfl
  go_wp2_with fail
  clear c0 c1
  refine (unhide TO _).mono ?_
  rintro _ w2 ⟨rfl, bb⟩
  replace B := B.trans (bb.mono B.size)
  replace LC := LC.below bb LC.lt
  clear bb
  go_wp2_with fail
  refine (unhide TP _ (unhide RA _ B)).mono ?_
  rintro _ w3 ⟨v1, rfl, o1, bb⟩
  replace B := B.trans (bb.mono B.size)
  replace LC := LC.below bb LC.lt
  clear bb
  obtain ⟨a1, k1, rfl⟩ := OPt.form o1
  rw [hpl] at o1 ⊢
  go_wp2_with fail
  refine (unhide SP _ _ (o1.rpt hw)).mono ?_
  rintro _ w4 ⟨rfl, bb⟩
  replace B := B.trans (bb.mono B.size)
  replace LC := LC.below bb LC.lt
  replace o1 := o1.below bb
  clear bb
  clear SP
  clear o1
  go_wp2_with fail
  refine (unhide TP _ (unhide RA _ B)).mono ?_
  rintro _ w5 ⟨v2, rfl, o2, bb⟩
  replace B := B.trans (bb.mono B.size)
  replace LC := LC.below bb LC.lt
  clear bb
  obtain ⟨a2, k2, rfl⟩ := OPt.form o2
  rw [hpl] at o2 ⊢
  have c0 := LC.cell 0 rfl
  have c1 := LC.cell 1 rfl
  go_wp2_with fail
  clear c0 c1
  refine (unhide TO _).mono ?_
  rintro _ w6 ⟨rfl, bb⟩
  replace B := B.trans (bb.mono B.size)
  replace LC := LC.below bb LC.lt
  replace o2 := o2.below bb
  clear bb
  go_wp2_with fail
  refine (unhide IM _ _ (unhide HE _ B) (o2.rpt hw)).mono ?_
  rintro _ w7 ⟨rfl, bb⟩
  replace B := B.trans (bb.mono B.size)
  replace LC := LC.below bb LC.lt
  replace o2 := o2.below bb
  clear bb
  clear IM
  go_wp2_with fail
  refine (unhide TP _ (unhide RA _ B)).mono ?_
  rintro _ w8 ⟨v3, rfl, o3, bb⟩
  replace B := B.trans (bb.mono B.size)
  replace LC := LC.below bb LC.lt
  replace o2 := o2.below bb
  clear bb
  obtain ⟨a3, k3, rfl⟩ := OPt.form o3
  rw [hpl] at o3 ⊢
  go_wp2_with fail
  refine (unhide EQ _ _ _ (o2.rpt hw) (o3.rpt hw)).mono ?_
  rintro _ w9 ⟨rfl, bb⟩
  replace B := B.trans (bb.mono B.size)
  replace LC := LC.below bb LC.lt
  replace o2 := o2.below bb
  replace o3 := o3.below bb
  clear bb
  go_wp2
  go_ret
  exact ⟨rfl, B⟩
end Go.Proofs.YtehdchpolgihlaaGreatDoor

/- PartCmpP: the order of parts in the program's words (below 0, 0, above 0), and where a part comes to stand in a table. -/
namespace Go.Proofs.YtehdchpolgihlaaGreatDoor
open Go.RowKit
set_option linter.unusedSectionVars false
variable [∀ (n : Int) (s : List Int), Decidable (OkL n s)]

def cmpS (s t : ByteArray) : Int := if Op.bytesLess s.toList t.toList = true then -1 else if Op.bytesLess t.toList s.toList = true then 1 else 0
def cmpP (a b : Pt) : Int := if cmpI a.1 b.1 ≠ 0 then cmpI a.1 b.1 else cmpS a.2.1 b.2.1
theorem cmpS_lt (s t : ByteArray) : cmpS s t < 0 ↔ Op.bytesLess s.toList t.toList = true := by
  unfold cmpS
  split
  · simp_all
  · split <;> simp_all
theorem cmpS_eq (s t : ByteArray) : cmpS s t = 0 ↔ s.toList = t.toList := by
  unfold cmpS
  constructor
  · intro h
    split at h
    · simp at h
    · split at h
      · simp at h
      · rename_i h1 h2
        exact Classical.byContradiction fun hn => h2 (less_total (by simpa using h1) hn)
  · intro h
    rw [h]
    simp [less_irrefl]
theorem cmpS_in (s t : ByteArray) : -1 ≤ cmpS s t ∧ cmpS s t ≤ 1 := by
  unfold cmpS
  repeat' split
  all_goals omega
theorem cmpP_lt (a b : Pt) : cmpP a b < 0 ↔ befP a b = true := by
  have hs := cmpS_lt a.2.1 b.2.1
  unfold cmpP cmpI
  simp only [befP, Bool.or_eq_true, decide_eq_true_eq, Bool.and_eq_true]
  rcases Int.lt_trichotomy a.1 b.1 with h | h | h
  · simp [h]
  · simp [h, hs]
  · have h1 : ¬ a.1 < b.1 := by omega
    have h2 : ¬ a.1 = b.1 := by omega
    simp [h, h1, h2]
theorem cmpP_eq (a b : Pt) : cmpP a b = 0 ↔ samP a b = true := by
  have hs := cmpS_eq a.2.1 b.2.1
  unfold cmpP cmpI
  simp only [samP, decide_eq_true_eq, Bool.and_eq_true, beq_iff_eq]
  rcases Int.lt_trichotomy a.1 b.1 with h | h | h
  · have h2 : ¬ a.1 = b.1 := by omega
    simp [h, h2]
  · simp [h, hs]
  · have h1 : ¬ a.1 < b.1 := by omega
    have h2 : ¬ a.1 = b.1 := by omega
    simp [h, h1, h2]
theorem cmpP_in (a b : Pt) : -1 ≤ cmpP a b ∧ cmpP a b ≤ 1 := by
  have hs := cmpS_in a.2.1 b.2.1
  unfold cmpP cmpI
  repeat' split
  all_goals omega
theorem cmpP_head (a b a' b' : Pt) (h : phd a = phd a') (h' : phd b = phd b') : cmpP a b = cmpP a' b' := by
  simp only [phd, Prod.mk.injEq] at h h'
  unfold cmpP
  rw [h.1, h.2, h'.1, h'.2]

/-- What withPart makes of a table, when the search comes to place k. -/
def putP (p : Pt) : List Pt → List Pt
  | [] => [p]
  | x :: xs => if samP x p = true then joinP x p :: xs else p :: x :: xs
theorem putP_cons (p x : Pt) (xs : List Pt) : putP p (x :: xs) = if samP x p = true then joinP x p :: xs else p :: x :: xs := rfl
def insP (ps : List Pt) (p : Pt) (k : Nat) : List Pt := ps.take k ++ putP p (ps.drop k)
/-- Place k: what is ahead of it stands ahead of p, what is there doesn't. -/
def PlaceP (ps : List Pt) (p : Pt) (k : Nat) : Prop := k ≤ ps.length ∧ (∀ i, k = i + 1 → befP (ps.getD i zpt) p = true) ∧ (k < ps.length → befP (ps.getD k zpt) p = false)
def Bf (a b : Pt) : Prop := befP a b = true
theorem row_pair (ps : List Pt) : rowP ps = true ↔ ps.Pairwise Bf := by
  induction ps with
  | nil => simp [rowP]
  | cons t ts ih =>
    cases ts with
    | nil => simp [rowP]
    | cons u ts =>
      rw [rowP, Bool.and_eq_true, ih]
      constructor
      · rintro ⟨h1, h2⟩
        refine List.Pairwise.cons ?_ h2
        intro v hv
        rcases List.mem_cons.1 hv with rfl | hv
        · exact h1
        · exact bef_trans h1 ((List.pairwise_cons.1 h2).1 v hv)
      · intro h
        obtain ⟨h1, h2⟩ := List.pairwise_cons.1 h
        exact ⟨h1 u (by simp), h2⟩
theorem put_pair {ps qs : List Pt} {p : Pt} (h : (qs ++ putP p ps).Pairwise Bf) : (qs ++ ps).Pairwise Bf := by
  cases ps with
  | nil =>
    rw [List.append_nil]
    exact (List.pairwise_append.1 h).1
  | cons x xs =>
    rw [putP_cons] at h
    split at h
    · obtain ⟨h1, h2, h3⟩ := List.pairwise_append.1 h
      obtain ⟨h4, h5⟩ := List.pairwise_cons.1 h2
      refine List.pairwise_append.2 ⟨h1, List.pairwise_cons.2 ⟨fun y hy => h4 y hy, h5⟩, fun a ha b hb => ?_⟩
      rcases List.mem_cons.1 hb with rfl | hb
      · exact h3 a ha (joinP b p) (by simp)
      · exact h3 a ha b (by simp [hb])
    · exact h.sublist (List.sublist_append_right [p] (x :: xs) |>.append_left qs)
theorem ins_pair {ps : List Pt} {p : Pt} {k : Nat} (h : (insP ps p k).Pairwise Bf) : ps.Pairwise Bf := by
  have := put_pair h
  rwa [List.take_append_drop] at this
theorem add_ins (ps : List Pt) (p : Pt) : ∃ k, addP ps p = insP ps p k := by
  induction ps with
  | nil => exact ⟨0, rfl⟩
  | cons x xs ih =>
    unfold addP
    split
    · obtain ⟨k, hk⟩ := ih
      exact ⟨k + 1, by rw [hk]; simp [insP]⟩
    · exact ⟨0, by simp [insP, putP]⟩
theorem ins_add {ps : List Pt} {p : Pt} {k : Nat} (hp : ps.Pairwise Bf) (h : PlaceP ps p k) : insP ps p k = addP ps p := by
  induction ps generalizing k with
  | nil =>
    obtain rfl : k = 0 := by have := h.1; simp at this; exact this
    rfl
  | cons x xs ih =>
    obtain ⟨h1, h2, h3⟩ := h
    obtain ⟨p1, p2⟩ := List.pairwise_cons.1 hp
    cases k with
    | zero =>
      have h3 : befP x p = false := by simpa using h3 (by simp)
      simp [insP, putP, addP, h3]
    | succ k =>
      have hk : k ≤ xs.length := by simpa using h1
      have hx : befP x p = true := by
        have := h2 k rfl
        cases k with
        | zero => simpa using this
        | succ j =>
          have hj : j < xs.length := by omega
          have hm : xs.getD j zpt ∈ xs := pt_mem hj
          exact bef_trans (p1 _ hm) (by simpa using this)
      have := ih p2 (k := k) ⟨hk, fun i hi => by have := h2 (i + 1) (by omega); simpa using this, fun hl => by have := h3 (by simpa using hl); simpa using this⟩
      rw [addP, if_pos hx, ← this]
      simp [insP]
theorem ins_mem {ps : List Pt} {p q : Pt} {k : Nat} (h : q ∈ insP ps p k) : q ∈ ps ∨ q = p ∨ ∃ x ∈ ps, samP x p = true ∧ q = joinP x p := by
  unfold insP at h
  rcases List.mem_append.1 h with h | h
  · exact .inl (List.mem_of_mem_take h)
  · have hd : ∀ y ∈ ps.drop k, y ∈ ps := fun y hy => List.mem_of_mem_drop hy
    generalize ps.drop k = ds at *
    cases ds with
    | nil => simp [putP] at h; exact .inr (.inl h)
    | cons x xs =>
      rw [putP_cons] at h
      split at h
      · rename_i hs
        rcases List.mem_cons.1 h with rfl | h
        · exact .inr (.inr ⟨x, hd x (by simp), hs, rfl⟩)
        · exact .inl (hd q (by simp [h]))
      · rcases List.mem_cons.1 h with rfl | h
        · exact .inr (.inl rfl)
        · exact .inl (hd q h)
end Go.Proofs.YtehdchpolgihlaaGreatDoor
