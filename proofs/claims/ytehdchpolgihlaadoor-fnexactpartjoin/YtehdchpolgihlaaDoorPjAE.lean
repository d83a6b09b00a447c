/- Texts that belong together: HeldBy, PartOne, PartRows, PartPlain, SpecSets, PartJoins. -/
import Derived.Deep.RegionHeld3
import Derived.Below
import Derived.Test.YtehdchpolgihlaaDoorPjAA
import Derived.OwnWalk
import Derived.Maps.AppendAt
import Derived.Test.YtehdchpolgihlaaDoorPjAB
import Derived.Deep.DeepCutAuto
/- An operation of a region that draws its order, taken first, its slot written out. -/
namespace Go.Proofs.YtehdchpolgihlaaDoor
open Go Go.RowKit
section
variable {P : Program} {ops : Array Oper} {Q : Exit → Act → World → Prop} {md : Region.Mode} {S : World → Prop}
theorem take_at {i d : Nat} {oi : Oper} {v : Value} {fuel : Nat} {listed : Array Bool} {a : Act} {w : World} (hi : ops[i]? = some oi) (hd : oi.dst = some d)
    (hs : Region.noSelect ops = true) (hf : Region.free md ops listed i = true) (hr : (Region.ready md ops listed).contains i = true)
    (hQ : ∀ c a w, Q (.panic c) (a.put (some d) v) w → Q (.panic c) a w) (hy : YieldsIf P ops S oi v a) (hS : S w)
    (h : wpAnyH P md ops Q S fuel (listed.setIfInBounds i true) (a.put (some d) v) w) : wpAnyH P md ops Q S (fuel + 1) listed a w :=
  wpAnyH_take hi hs hf hr (by rw [hd]; exact hQ) hy hS (by rw [hd]; exact h)
theorem ready_at {i : Nat} {o : Oper} {fuel : Nat} {listed : Array Bool} {a : Act} {w : World} (ho : ops[i]? = some o) (hr : Region.ready md ops listed = [i])
    (h : ∀ K' : Act → World → Prop, Shut (∀ a w, S w → (S w → wpAnyH P md ops Q S fuel (listed.setIfInBounds i true) a w) → K' a w) → if Region.wanted o (yielded ops a.tmps) = true then Oper.wp P o a w K' Q else K' (a.put o.dst undef) w) :
    wpAnyH P md ops Q S (fuel + 1) listed a w :=
  wpAnyH_ready hr (by simp) (AllReadyH.cons ho h AllReadyH.nil)
end
theorem undrew {B : Nat} {w w' : World} (h : Below B w.drew w') : Below B w w' := ⟨h.os, h.tape, h.output, h.size, h.block⟩
end Go.Proofs.YtehdchpolgihlaaDoor

/- PartOne: a part as a value; laws.eqPart, heldPart, markPart, szPart, toPart; spec.l10Copy. -/
namespace Go.Proofs.YtehdchpolgihlaaDoor
open Go.RowKit

set_option maxHeartbeats 1600000 in
set_option maxRecDepth 100000 in
theorem eqPart_yes (n : Int) (s : ByteArray) (a b : Value) (xs : List Int) (w : World) (ha : RI w a xs) (hb : RI w b xs) :
    Calls Tryd.prog 10 #[qv n s a, qv n s b] w fun e w' => e = .returned (.bool true) ∧ Below w.heap.size w w' := by
  have R1 := hide ha
  have R2 := hide hb
  have B := hide (qalloc2 w (.cells #[.int .i64 n, .string s, a] 31) (.cells #[.int .i64 n, .string s, b] 31))
  clear ha hb
  go_enter Tryd.func10, Tryd.ntmps10
  go_wp2_with fail
  refine (eqIntS_yes a b xs _ ((unhide R1).below (unhide B) (Nat.le_refl _)) ((unhide R2).below (unhide B) (Nat.le_refl _))).mono ?_
  rintro e w1 ⟨rfl, n, rfl⟩
  go_wp2
  go_ret
  exact ⟨rfl, below_drewN' (unhide B) _⟩

set_option maxHeartbeats 1600000 in
set_option maxRecDepth 100000 in
theorem heldPart_any (n : Int) (s : ByteArray) (v : Value) (m : Nat) (w : World) (h : RI w v (imarks 1 m)) :
    Calls Tryd.prog 14 #[qv n s v, .int .i64 1] w fun e w' => e = .returned (.int .i64 (1 + m)) ∧ Below w.heap.size w w' := by
  have R1 := hide h
  have B := hide (qalloc w (.cells #[.int .i64 n, .string s, v] 31))
  have hd : decide ((1 : Int) + (m : Int) < 0) = false := by simp; omega
  clear h
  go_enter Tryd.func14, Tryd.ntmps14
  go_wp2_with fail
  refine (iheld_any v m 1 _ (by omega) ((unhide R1).below (unhide B) (Nat.le_refl _))).mono ?_
  rintro e w1 ⟨rfl, rfl⟩
  go_wp2
  go_ret
  exact ⟨rfl, unhide B⟩

set_option maxHeartbeats 1600000 in
set_option maxRecDepth 100000 in
theorem markPart_any (n : Int) (s : ByteArray) (base : Nat) (v : Value) (xs : List Int) (k0 : Nat) (w : World) (hl : xs.length ≤ 4194304) (hk : k0 ≤ 100000000) (h : OI w base v xs) :
    Calls Tryd.prog 13 #[qv n s v, .int .i64 k0] w fun e w' => e = .returned (.int .i64 (k0 + xs.length)) ∧ OI w' base v (imarks k0 xs.length) ∧ Kp w w' (fun k => v.ownBlock = some k) := by
  have B := hide (qalloc w (.cells #[.int .i64 n, .string s, v] 31))
  have H := hide (h.below (unhide B))
  have hb := World.ownsRow.lt h
  have MK := hide fun w h => imark_any base k0 v xs w hl hk h
  clear h
  go_enter Tryd.func13, Tryd.ntmps13
  go_wp2_with fail
  refine (unhide MK _ (unhide H)).mono ?_
  rintro e w1 ⟨rfl, o1, g1⟩
  have K := (Below.kpOf (unhide B) (fun k => v.ownBlock = some k)).trans (kp_grown g1)
  go_wp2
  go_ret
  exact ⟨rfl, o1, K⟩

set_option maxHeartbeats 800000 in
set_option maxRecDepth 100000 in
theorem szPart_yes (n : Int) (s : ByteArray) (ao : Option Addr) (m ca : Nat) (left : Int) (w : World) (h : (s.size : Int) + m ≤ left) (hl : left ≤ 1048576) :
    Calls Tryd.prog 5 #[qv n s (.slice ao m ca), .int .i64 left] w fun e w' => e = .returned (.int .i64 (left - s.size - m)) ∧ Below w.heap.size w w' := by
  have h1 : decide ((left : Int) - (s.size : Int) < 0) = false := by simp; omega
  have h2 : decide ((left : Int) - (s.size : Int) - (m : Int) < 0) = false := by simp; omega
  go_enter Tryd.func5, Tryd.ntmps5
  go_wp2_with (first | (go_at_call 15; refine (szIntS_yes _ _ _ _ _ (by omega) (by omega)).mono ?_; rintro e w' ⟨rfl, rfl⟩))
  go_ret
  exact ⟨rfl, qalloc _ _⟩

set_option maxHeartbeats 800000 in
set_option maxRecDepth 100000 in
theorem szPart_no1 (n : Int) (s : ByteArray) (ao : Option Addr) (m ca : Nat) (left : Int) (w : World) (h0 : 0 ≤ left) (h : left < s.size) (hs : s.size ≤ 9223372036854775807) (hl : left ≤ 1048576) :
    Calls Tryd.prog 5 #[qv n s (.slice ao m ca), .int .i64 left] w fun e w' => e = .returned (.int .i64 (-1)) ∧ Below w.heap.size w w' := by
  have h1 : decide ((left : Int) - (s.size : Int) < 0) = true := by simp; omega
  go_enter Tryd.func5, Tryd.ntmps5
  go_wp2
  go_ret
  exact ⟨rfl, qalloc _ _⟩

set_option maxHeartbeats 800000 in
set_option maxRecDepth 100000 in
theorem szPart_no2 (n : Int) (s : ByteArray) (ao : Option Addr) (m ca : Nat) (left : Int) (w : World) (h0 : (s.size : Int) ≤ left) (h : left < s.size + m) (hm : m ≤ 9223372036854775807) (hl : left ≤ 1048576) :
    Calls Tryd.prog 5 #[qv n s (.slice ao m ca), .int .i64 left] w fun e w' => e = .returned (.int .i64 (-1)) ∧ Below w.heap.size w w' := by
  have h1 : decide ((left : Int) - (s.size : Int) < 0) = false := by simp; omega
  go_enter Tryd.func5, Tryd.ntmps5
  go_wp2_with fail
  refine (szIntS_no _ _ _ _ _ (by omega) (by omega) (by omega) hm).mono ?_
  rintro e w' ⟨rfl, rfl⟩
  go_wp2
  go_ret
  exact ⟨rfl, qalloc _ _⟩

theorem szPart_no (n : Int) (s : ByteArray) (ao : Option Addr) (m ca : Nat) (left : Int) (w : World) (h0 : 0 ≤ left) (h : left < s.size + m) (hs : s.size ≤ 9223372036854775807) (hm : m ≤ 9223372036854775807) (hl : left ≤ 1048576) :
    Calls Tryd.prog 5 #[qv n s (.slice ao m ca), .int .i64 left] w fun e w' => e = .returned (.int .i64 (-1)) ∧ Below w.heap.size w w' := by
  by_cases h1 : left < (s.size : Int)
  · exact szPart_no1 n s ao m ca left w h0 h1 hs hl
  · exact szPart_no2 n s ao m ca left w (by omega) h hm hl

set_option maxHeartbeats 1600000 in
set_option maxRecDepth 100000 in
theorem toPart_any (n : Int) (s : ByteArray) (a : Value) (xs : List Int) (w : World) (ha : RI w a xs) :
    Calls Tryd.prog 8 #[qv n s a] w fun e w' => ∃ u, e = .returned (qv n s u) ∧ OI w' w.heap.size u xs ∧ Below w.heap.size w w' := by
  have R1 := hide ha
  clear ha
  go_enter Tryd.func8, Tryd.ntmps8
  go_wp2_with fail
  refine Calls.mono (toIntS_any a xs _ ((unhide R1).below ((((Below.refl w.heap.size w).alloc (Nat.le_refl _) _).alloc (by simp) _).alloc (by simp; omega) _) (Nat.le_refl _))) ?_
  rintro e w1 ⟨u, rfl, o1, b1⟩
  have s1 := b1.size
  have L1 : Loc w1 (w.heap.size + 1) #[.int .i64 0, .string ⟨#[]⟩, .slice none 0 0] := Loc.below (Loc.alloc (loc_at (w.alloc _) #[.int .i64 0, .string ⟨#[]⟩, .slice none 0 0] _ (by simp)) _) b1 (by simp)
  have L2 : Loc w1 (w.heap.size + 1 + 1) #[.int .i64 n, .string s, .slice none 0 0] := Loc.below (loc_at ((w.alloc _).alloc _) #[.int .i64 n, .string s, .slice none 0 0] _ (by simp)) b1 (by simp)
  have B1 : Below w.heap.size w w1 := ((((Below.refl w.heap.size w).alloc (Nat.le_refl _) _).alloc (by simp) _).alloc (by simp; omega) _).trans (b1.mono (by simp; omega))
  have lt1 := World.ownsRow.lt o1
  simp at lt1 s1
  have y0 := L1.cell 0 rfl
  have y1 := L1.cell 1 rfl
  have y2 := L1.cell 2 rfl
  have fy0 := L1.frozen 0
  have fy1 := L1.frozen 1
  have fy2 := L1.frozen 2
  have z0 := L2.cell 0 rfl
  have z1 := L2.cell 1 rfl
  have z2 := L2.cell 2 rfl
  have fz2 := L2.frozen 2
  obtain ⟨ua, uc, hu⟩ := o1.form
  have O1 := hide o1
  clear o1 b1
  subst hu
  go_wp2
  refine bodyPost_ret (v := qv n s (.slice ua xs.length uc)) (by simp [results, Tryd.results8, go_sem, y0, y1, y2]) rfl ?_
  have K : Kp w1 ((((w1.setCell ⟨w.heap.size + 1 + 1, 2, none⟩ (.slice ua xs.length uc)).setCell ⟨w.heap.size + 1, 0, none⟩ (.int .i64 n)).setCell ⟨w.heap.size + 1, 1, none⟩ (.string s)).setCell ⟨w.heap.size + 1, 2, none⟩ (.slice ua xs.length uc)) (fun k => k = w.heap.size + 1 ∨ k = w.heap.size + 1 + 1) :=
    (((((set_kp _ _ _ _).mono (fun k h => .inr h))).trans ((set_kp _ _ _ _).mono (fun k h => .inl h))).trans ((set_kp _ _ _ _).mono (fun k h => .inl h))).trans ((set_kp _ _ _ _).mono (fun k h => .inl h))
  exact ⟨_, rfl, ((unhide O1).kp K (fun k hk => by have := lt1 k hk; omega)).mono (by simp; omega), Below.kp B1 K B1.size (fun k hk => by omega)⟩

abbrev zpo : Obj := .cells #[.int .i64 0, .string ⟨#[]⟩, .slice none 0 0] 31

end Go.Proofs.YtehdchpolgihlaaDoor

/- Tables of parts in memory: a row of three cells each, and each part's own list of numbers. -/
namespace Go.Proofs.YtehdchpolgihlaaDoor
open Go.RowKit

/-- A part: its view, its name, who voted. -/
abbrev Pt := Int × ByteArray × List Int
def zpt : Pt := (0, ⟨#[]⟩, [])
def phd (p : Pt) : Int × ByteArray := (p.1, p.2.1)
theorem Tryd.infoPt : (Tryd.prog.info? 31).map (fun i => (i.zero, i.size, i.bytes)) = some (some (.agg #[.int .i64 0, .string ⟨#[]⟩, .slice none 0 0]), 3, 48) := by kernel_rfl
def pcell (p : (Int × ByteArray) × Value) : List Value := [.int .i64 p.1.1, .string p.1.2, p.2]
def pcells (ps : List ((Int × ByteArray) × Value)) : List Value := ps.flatMap pcell
theorem pcells_cons (p : (Int × ByteArray) × Value) (ps : List ((Int × ByteArray) × Value)) : pcells (p :: ps) = .int .i64 p.1.1 :: .string p.1.2 :: p.2 :: pcells ps := by simp [pcells, pcell]
theorem pcells_len (ps : List ((Int × ByteArray) × Value)) : (pcells ps).length = ps.length * 3 := by
  induction ps with
  | nil => rfl
  | cons p ps ih => rw [pcells_cons]; simp only [List.length_cons, ih]; omega
theorem pcells_append (ps qs : List ((Int × ByteArray) × Value)) : pcells (ps ++ qs) = pcells ps ++ pcells qs := by simp [pcells]
theorem pcells_get (ps : List ((Int × ByteArray) × Value)) (k j : Nat) (hk : k < ps.length) (hj : j < 3) : (pcells ps)[k * 3 + j]? = (pcell (ps.getD k ((0, ⟨#[]⟩), .slice none 0 0)))[j]? := by
  induction ps generalizing k with
  | nil => simp at hk
  | cons p ps ih =>
    have e : pcells (p :: ps) = pcell p ++ pcells ps := by simp [pcells]
    rw [e]
    cases k with
    | zero => rw [Nat.zero_mul, Nat.zero_add, List.getElem?_append_left (by simp [pcell]; exact hj)]; rfl
    | succ k =>
      rw [List.getElem?_append_right (by simp [pcell]; omega), show (pcell p).length = 3 from rfl, show (k + 1) * 3 + j - 3 = k * 3 + j from by omega, ih k (by simpa using hk)]
      rfl
/-- v is a row of the call's own, from block 'base' on, of the parts ps, whose lists vs are the call's own too, each in a block of its own. -/
structure OPtV (w : World) (base : Nat) (v : Value) (ps : List Pt) (vs : List Value) : Prop where
  len : vs.length = ps.length
  row : w.ownsRow base 31 3 v ps.length (pcells ((ps.map phd).zip vs))
  each : ∀ k, k < ps.length → OI w base (vs.getD k (.slice none 0 0)) (ps.getD k zpt).2.2
  apart : ∀ i j, i < j → j < ps.length → ∀ b, (vs.getD i (.slice none 0 0)).ownBlock = some b → (vs.getD j (.slice none 0 0)).ownBlock ≠ some b
def OPt (w : World) (base : Nat) (v : Value) (ps : List Pt) : Prop := ∃ vs, OPtV w base v ps vs
/-- A row of parts and a list of numbers lie in two blocks. -/
theorem pt_oi {w : World} {B B' n : Nat} {v u : Value} {cs : List Value} {ys : List Int} (h : w.ownsRow B 31 3 v n cs) (h' : OI w B' u ys) (b : Nat) (hv : v.ownBlock = some b) : u.ownBlock ≠ some b := by
  rcases h.2 with ⟨rfl, _⟩ | ⟨g, cap, cur, rfl, _, hg, _⟩
  · simp [Value.ownBlock] at hv
  · rcases h'.2 with ⟨rfl, _⟩ | ⟨g', cap', cur', rfl, _, hg', _⟩
    · simp [Value.ownBlock]
    · intro e
      simp [Value.ownBlock] at e hv
      subst hv
      rw [e, hg] at hg'
      simp at hg'
theorem OPtV.below {w w' : World} {base : Nat} {v : Value} {ps : List Pt} {vs : List Value} (h : OPtV w base v ps vs) (hb : Below w.heap.size w w') : OPtV w' base v ps vs :=
  ⟨h.len, World.ownsRow.kept (row := none) h.row ⟨hb.os, hb.tape, hb.output, hb.size, fun k hk _ => hb.block k hk⟩ (by cases v.ownBlock <;> simp), fun k hk => (h.each k hk).below hb, h.apart⟩
theorem OPt.below {w w' : World} {base : Nat} {v : Value} {ps : List Pt} (h : OPt w base v ps) (hb : Below w.heap.size w w') : OPt w' base v ps := by
  obtain ⟨vs, h⟩ := h; exact ⟨vs, h.below hb⟩
/-- A table that nothing turns is kept. -/
theorem OPtV.kp {w w' : World} {base : Nat} {X : Nat → Prop} {v : Value} {ps : List Pt} {vs : List Value} (h : OPtV w base v ps vs) (k : Kp w w' X) (hX : ∀ j, base ≤ j → j < w.heap.size → ¬ X j) : OPtV w' base v ps vs := by
  have rl := World.ownsRow.lt h.row
  refine ⟨h.len, ?_, fun j hj => (h.each j hj).kp k (fun b hb => by have := World.ownsRow.lt (h.each j hj) b hb; exact hX b this.1 this.2), h.apart⟩
  rcases h.row with ⟨h1, ⟨e, h0⟩ | ⟨g, cap, cur, e, hg, hrow, rest⟩⟩
  · exact ⟨h1, .inl ⟨e, h0⟩⟩
  · have hlt := rl g (by rw [e]; rfl)
    exact ⟨h1, .inr ⟨g, cap, cur, e, hg, (k.block g hlt.2 (hX g hlt.1 hlt.2)).trans hrow, rest⟩⟩
theorem OPt.kp {w w' : World} {base : Nat} {X : Nat → Prop} {v : Value} {ps : List Pt} (h : OPt w base v ps) (k : Kp w w' X) (hX : ∀ j, base ≤ j → j < w.heap.size → ¬ X j) : OPt w' base v ps := by
  obtain ⟨vs, h⟩ := h; exact ⟨vs, h.kp k hX⟩
theorem OPtV.mono {w : World} {base base' : Nat} {v : Value} {ps : List Pt} {vs : List Value} (h : OPtV w base v ps vs) (hb : base' ≤ base) : OPtV w base' v ps vs := by
  refine ⟨h.len, ?_, fun k hk => OI.mono (h.each k hk) hb, h.apart⟩
  obtain ⟨h1, h2⟩ := h.row
  refine ⟨h1, ?_⟩
  rcases h2 with h2 | ⟨g, cap, cur, e, hg, rest⟩
  · exact .inl h2
  · exact .inr ⟨g, cap, cur, e, Nat.le_trans hb hg, rest⟩
theorem OPt.mono {w : World} {base base' : Nat} {v : Value} {ps : List Pt} (h : OPt w base v ps) (hb : base' ≤ base) : OPt w base' v ps := by
  obtain ⟨vs, h⟩ := h; exact ⟨vs, h.mono hb⟩
theorem opt_nil (w : World) (base : Nat) : OPt w base (.slice none 0 0) [] := ⟨[], rfl, World.ownsRow_nil _ _ _ _, fun k hk => by simp at hk, fun i j _ hj => by simp at hj⟩
theorem OPt.form {w : World} {base : Nat} {v : Value} {ps : List Pt} (h : OPt w base v ps) : ∃ ao ca, v = .slice ao ps.length ca := by
  obtain ⟨vs, h⟩ := h
  rcases h.row.2 with ⟨rfl, h0⟩ | ⟨g, cap, cur, rfl, _⟩
  · exact ⟨none, 0, by rw [h0]⟩
  · exact ⟨_, _, rfl⟩
/-- v reads as the parts ps, at whatever place. -/
def RPt (w : World) (v : Value) (ps : List Pt) : Prop :=
  ∃ ao cap, v = .slice ao ps.length cap ∧ (ps = [] ∨ ∃ g off, ao = some ⟨g, off, none⟩ ∧ ∀ k, k < ps.length → ∃ u, w.cell? ⟨g, off + k * 3, none⟩ = some (.int .i64 (ps.getD k zpt).1) ∧ w.cell? ⟨g, off + k * 3 + 1, none⟩ = some (.string (ps.getD k zpt).2.1) ∧ w.cell? ⟨g, off + k * 3 + 2, none⟩ = some u ∧ RI w u (ps.getD k zpt).2.2)
theorem pzip_get (ps : List Pt) (vs : List Value) (hl : vs.length = ps.length) (k : Nat) (hk : k < ps.length) : ((ps.map phd).zip vs).getD k ((0, ⟨#[]⟩), .slice none 0 0) = (phd (ps.getD k zpt), vs.getD k (.slice none 0 0)) := by
  rw [List.getD_eq_getElem?_getD, List.getElem?_eq_getElem (by simp; omega)]
  simp [List.getElem?_eq_getElem hk, List.getElem?_eq_getElem (show k < vs.length by omega)]
theorem pt_mem {ps : List Pt} {k : Nat} (hk : k < ps.length) : ps.getD k zpt ∈ ps := by
  rw [List.getD_eq_getElem?_getD, List.getElem?_eq_getElem hk]; exact List.getElem_mem hk
theorem OPt.rpt {w : World} {base : Nat} {v : Value} {ps : List Pt} (h : OPt w base v ps) (hs : ∀ p ∈ ps, p.2.2.length ≤ 4194304) : RPt w v ps := by
  obtain ⟨vs, h⟩ := h
  have hz : ((ps.map phd).zip vs).length = ps.length := by simp [h.len]
  rcases h.row.2 with ⟨rfl, h0⟩ | ⟨g, cap, cur, rfl, _⟩
  · exact ⟨none, 0, by rw [h0], .inl (List.length_eq_zero_iff.1 h0)⟩
  · refine ⟨_, cap, rfl, .inr ⟨g, 0, rfl, fun k hk => ?_⟩⟩
    have c0 := World.ownsRow.cellAt h.row (k * 3 + 0) (by omega)
    have c1 := World.ownsRow.cellAt h.row (k * 3 + 1) (by omega)
    have c2 := World.ownsRow.cellAt h.row (k * 3 + 2) (by omega)
    rw [pcells_get _ k _ (by omega) (by omega), pzip_get ps vs h.len k hk] at c0 c1 c2
    refine ⟨_, ?_, ?_, ?_, (h.each k hk).ri (hs _ (pt_mem hk))⟩
    · rw [Nat.zero_add]; exact c0
    · rw [Nat.zero_add]; exact c1
    · rw [Nat.zero_add]; exact c2
theorem RPt.below {w w' : World} {B : Nat} {v : Value} {ps : List Pt} (h : RPt w v ps) (hb : Below B w w') (hB : w.heap.size ≤ B) : RPt w' v ps := by
  obtain ⟨ao, cap, rfl, h⟩ := h
  refine ⟨ao, cap, rfl, ?_⟩
  rcases h with h | ⟨g, off, rfl, h⟩
  · exact .inl h
  · refine .inr ⟨g, off, rfl, fun k hk => ?_⟩
    obtain ⟨u, c0, c1, c2, r⟩ := h k hk
    have hg : g < B := Nat.lt_of_lt_of_le (cell_lt c0) hB
    exact ⟨u, (hb.cell (p := ⟨g, off + k * 3, none⟩) hg).trans c0, (hb.cell (p := ⟨g, off + k * 3 + 1, none⟩) hg).trans c1, (hb.cell (p := ⟨g, off + k * 3 + 2, none⟩) hg).trans c2, r.below hb hB⟩
theorem RPt.form {w : World} {v : Value} {ps : List Pt} (h : RPt w v ps) : ∃ ao ca, v = .slice ao ps.length ca := by obtain ⟨ao, ca, e, _⟩ := h; exact ⟨ao, ca, e⟩
theorem RPt.at {w : World} {ao : Option Addr} {n ca : Nat} {ps : List Pt} (h : RPt w (.slice ao n ca) ps) (k : Nat) (hk : k < ps.length) : ∃ g off u, ao = some ⟨g, off, none⟩ ∧ w.cell? ⟨g, off + k * 3, none⟩ = some (.int .i64 (ps.getD k zpt).1) ∧ w.cell? ⟨g, off + k * 3 + 1, none⟩ = some (.string (ps.getD k zpt).2.1) ∧ w.cell? ⟨g, off + k * 3 + 2, none⟩ = some u ∧ RI w u (ps.getD k zpt).2.2 := by
  obtain ⟨ao', ca', e, h⟩ := h
  cases e
  rcases h with rfl | ⟨g, off, rfl, h⟩
  · simp at hk
  · obtain ⟨u, h⟩ := h k hk; exact ⟨g, off, u, rfl, h⟩
/-- A table of the call's own in the blocks from lo on, below hi. -/
structure OPR (w : World) (lo hi : Nat) (v : Value) (ps : List Pt) (vs : List Value) : Prop where
  tab : OPtV w lo v ps vs
  top : hi ≤ w.heap.size
  rowHi : ∀ b, v.ownBlock = some b → b < hi
  eachHi : ∀ k, k < ps.length → ∀ b, (vs.getD k (.slice none 0 0)).ownBlock = some b → b < hi
theorem OPtV.opr {w : World} {base : Nat} {v : Value} {ps : List Pt} {vs : List Value} (h : OPtV w base v ps vs) : OPR w base w.heap.size v ps vs :=
  ⟨h, Nat.le_refl _, fun b hb => (World.ownsRow.lt h.row b hb).2, fun k hk b hb => (World.ownsRow.lt (h.each k hk) b hb).2⟩
theorem OPR.kp {w w' : World} {lo hi : Nat} {X : Nat → Prop} {v : Value} {ps : List Pt} {vs : List Value} (h : OPR w lo hi v ps vs) (k : Kp w w' X) (hX : ∀ j, lo ≤ j → j < hi → ¬ X j) : OPR w' lo hi v ps vs := by
  refine ⟨?_, Nat.le_trans h.top k.size, h.rowHi, h.eachHi⟩
  refine ⟨h.tab.len, ?_, fun j hj => (h.tab.each j hj).kp k (fun b hb => hX b (World.ownsRow.lt (h.tab.each j hj) b hb).1 (h.eachHi j hj b hb)), h.tab.apart⟩
  have rl := World.ownsRow.lt h.tab.row
  rcases h.tab.row with ⟨h1, ⟨e, h0⟩ | ⟨g, cap, cur, e, hg, hrow, rest⟩⟩
  · exact ⟨h1, .inl ⟨e, h0⟩⟩
  · have eo : v.ownBlock = some g := by rw [e]; rfl
    exact ⟨h1, .inr ⟨g, cap, cur, e, hg, (k.block g (rl g eo).2 (hX g (rl g eo).1 (h.rowHi g eo))).trans hrow, rest⟩⟩
theorem OPR.below {w w' : World} {lo hi : Nat} {v : Value} {ps : List Pt} {vs : List Value} (h : OPR w lo hi v ps vs) (hb : Below w.heap.size w w') : OPR w' lo hi v ps vs :=
  h.kp (Below.kpOf hb (fun _ => False)) (fun _ _ _ h => h)
theorem OPR.rpt {w : World} {lo hi : Nat} {v : Value} {ps : List Pt} {vs : List Value} (h : OPR w lo hi v ps vs) (hs : ∀ p ∈ ps, p.2.2.length ≤ 4194304) : RPt w v ps := OPt.rpt ⟨vs, h.tab⟩ hs
/-- A list's length is within its capacity. -/
def CapP (v : Value) : Prop := ∃ ao n cap, v = .slice ao n cap ∧ n ≤ cap ∧ cap ≤ maxLen
theorem OPtV.cap {w : World} {base : Nat} {v : Value} {ps : List Pt} {vs : List Value} (h : OPtV w base v ps vs) : CapP v := by
  rcases h.row.2 with ⟨rfl, h0⟩ | ⟨g, cap, cur, rfl, _, _, hca, hcm, _⟩
  · exact ⟨none, 0, 0, rfl, Nat.le_refl _, by unfold maxLen; omega⟩
  · exact ⟨_, _, cap, rfl, hca, hcm⟩
theorem OPt.cap {w : World} {base : Nat} {v : Value} {ps : List Pt} (h : OPt w base v ps) : CapP v := by obtain ⟨vs, h⟩ := h; exact h.cap
theorem OPR.cap {w : World} {lo hi : Nat} {v : Value} {ps : List Pt} {vs : List Value} (h : OPR w lo hi v ps vs) : CapP v := h.tab.cap
/-- One part more behind what is owned. -/
theorem opt_more {w w' : World} {base N : Nat} {v v' : Value} {ps : List Pt} {vs : List Value} {n : Int} {s : ByteArray} {u : Value} {xs : List Int} (h : OPtV w base v ps vs) (hu : OI w N u xs) (hN : ∀ k, k < ps.length → ∀ b, (vs.getD k (.slice none 0 0)).ownBlock = some b → b < N) (hbN : base ≤ N)
    (hr : w'.ownsRow base 31 3 v' (ps.length + 1) (pcells ((ps.map phd).zip vs) ++ pcell ((n, s), u))) (hg : w.grownBy w' v.ownBlock) : OPtV w' base v' (ps ++ [(n, s, xs)]) (vs ++ [u]) := by
  have keep : ∀ (x : Value) (zs : List Int) (B : Nat), OI w B x zs → OI w' B x zs := fun x zs B hx => World.ownsRow.kept hx hg (by
    cases hxo : x.ownBlock with
    | none => exact .inl rfl
    | some b => exact .inr fun e => pt_oi h.row hx b e.symm hxo)
  refine ⟨by simp [h.len], ?_, fun k hk => ?_, fun i j hij hj b hb => ?_⟩
  · have e : ((ps ++ [(n, s, xs)]).map phd).zip (vs ++ [u]) = (ps.map phd).zip vs ++ [((n, s), u)] := by
      rw [List.map_append, List.zip_append (by simp [h.len])]; rfl
    rw [e, pcells_append, List.length_append]
    simpa [pcells] using hr
  · rw [List.length_append, List.length_singleton] at hk
    by_cases e : k < ps.length
    · rw [List.getD_eq_getElem?_getD, List.getElem?_append_left (by rw [h.len]; exact e), ← List.getD_eq_getElem?_getD, List.getD_eq_getElem?_getD (l := ps ++ _), List.getElem?_append_left e, ← List.getD_eq_getElem?_getD]
      exact keep _ _ _ (h.each k e)
    · obtain rfl : k = ps.length := by omega
      have e1 : (vs ++ [u]).getD ps.length (.slice none 0 0) = u := by rw [← h.len]; simp
      have e2 : (ps ++ [(n, s, xs)]).getD ps.length zpt = (n, s, xs) := by simp
      rw [e1, e2]
      exact OI.mono (keep _ _ _ hu) hbN
  · rw [List.length_append, List.length_singleton] at hj
    have hi : i < ps.length := by omega
    rw [List.getD_eq_getElem?_getD, List.getElem?_append_left (by rw [h.len]; exact hi), ← List.getD_eq_getElem?_getD] at hb
    by_cases e : j < ps.length
    · rw [List.getD_eq_getElem?_getD, List.getElem?_append_left (by rw [h.len]; exact e), ← List.getD_eq_getElem?_getD]
      exact h.apart i j hij e b hb
    · obtain rfl : j = ps.length := by omega
      have e1 : (vs ++ [u]).getD ps.length (.slice none 0 0) = u := by rw [← h.len]; simp
      rw [e1]
      intro e3
      have := hN i hi b hb
      have := (World.ownsRow.lt hu b e3).1
      omega
end Go.Proofs.YtehdchpolgihlaaDoor

/- PartPlain: parts and tables of parts as plain words. -/
namespace Go.Proofs.YtehdchpolgihlaaDoor
open Go.RowKit

/-- One stands ahead of another: by view, then by name. -/
def befP (a b : Pt) : Bool := decide (a.1 < b.1) || (decide (a.1 = b.1) && Op.bytesLess a.2.1.toList b.2.1.toList)
/-- They are of one view and name. -/
def samP (a b : Pt) : Bool := decide (a.1 = b.1) && (a.2.1.toList == b.2.1.toList)
def joinP (a b : Pt) : Pt := (a.1, a.2.1, joinL a.2.2 b.2.2)
/-- What TableAdd makes of a table. -/
def addP : List Pt → Pt → List Pt
  | [], p => [p]
  | x :: xs, p => if befP x p then x :: addP xs p else if samP x p then joinP x p :: xs else p :: x :: xs
/-- What TableGet answers. -/
def getP (ps : List Pt) (v : Int) (s : ByteArray) : Pt := (ps.find? fun x => decide (x.1 = v) && (x.2.1.toList == s.toList)).getD (v, s, [])
def dropP (ps : List Pt) (v : Int) : List Pt := ps.filter fun x => decide (v ≤ x.1)
/-- Each stands ahead of the next. -/
def rowP : List Pt → Bool
  | [] => true
  | [_] => true
  | a :: b :: t => befP a b && rowP (b :: t)

theorem less_irrefl (x : List UInt8) : Op.bytesLess x x = false := by
  induction x with
  | nil => rfl
  | cons a x ih => simp [Op.bytesLess, ih]
theorem less_total {x y : List UInt8} (h : Op.bytesLess x y = false) (hn : x ≠ y) : Op.bytesLess y x = true := by
  induction x generalizing y with
  | nil =>
    cases y with
    | nil => exact absurd rfl hn
    | cons b y => simp [Op.bytesLess] at h
  | cons a x ih =>
    cases y with
    | nil => rfl
    | cons b y =>
      simp only [Op.bytesLess, Bool.or_eq_false_iff, decide_eq_false_iff_not, Bool.and_eq_false_imp, beq_iff_eq] at h
      simp only [Op.bytesLess, Bool.or_eq_true, decide_eq_true_eq, Bool.and_eq_true, beq_iff_eq]
      by_cases e : a = b
      · subst e
        exact .inr ⟨rfl, ih (h.2 rfl) (fun e => hn (by rw [e]))⟩
      · left
        have h1 := h.1
        rw [UInt8.lt_iff_toNat_lt] at h1 ⊢
        have : a.toNat ≠ b.toNat := fun e' => e (UInt8.toNat_inj.1 e')
        omega
theorem less_trans {x y z : List UInt8} (h : Op.bytesLess x y = true) (h' : Op.bytesLess y z = true) : Op.bytesLess x z = true := by
  induction x generalizing y z with
  | nil =>
    cases z with
    | nil => cases y <;> simp [Op.bytesLess] at h'
    | cons c z => rfl
  | cons a x ih =>
    cases y with
    | nil => simp [Op.bytesLess] at h
    | cons b y =>
      cases z with
      | nil => simp [Op.bytesLess] at h'
      | cons c z =>
        simp only [Op.bytesLess, Bool.or_eq_true, decide_eq_true_eq, Bool.and_eq_true, beq_iff_eq] at h h' ⊢
        rcases h with h | ⟨rfl, h⟩
        · rcases h' with h' | ⟨rfl, h'⟩
          · left; rw [UInt8.lt_iff_toNat_lt] at *; omega
          · exact .inl h
        · rcases h' with h' | ⟨rfl, h'⟩
          · exact .inl h'
          · exact .inr ⟨rfl, ih h h'⟩
theorem bef_irrefl (a : Pt) : befP a a = false := by simp [befP, less_irrefl]
theorem bef_trans {a b c : Pt} (h : befP a b = true) (h' : befP b c = true) : befP a c = true := by
  simp only [befP, Bool.or_eq_true, decide_eq_true_eq, Bool.and_eq_true] at *
  rcases h with h | ⟨h, hs⟩
  · left
    rcases h' with h' | ⟨h', _⟩ <;> omega
  · rcases h' with h' | ⟨h', hs'⟩
    · left; omega
    · exact .inr ⟨by omega, less_trans hs hs'⟩
/-- Of two that are not of one view and name one stands ahead. -/
theorem bef_total {a b : Pt} (h : befP a b = false) (hs : samP a b = false) : befP b a = true := by
  simp only [befP, samP, Bool.or_eq_false_iff, Bool.or_eq_true, decide_eq_true_eq, decide_eq_false_iff_not, Bool.and_eq_false_imp, Bool.and_eq_true, beq_eq_false_iff_ne] at *
  by_cases e : a.1 = b.1
  · exact .inr ⟨e.symm, less_total (h.2 e) (hs e)⟩
  · left; omega
theorem sam_not_bef {a b : Pt} (h : samP a b = true) : befP a b = false := by
  simp only [samP, Bool.and_eq_true, decide_eq_true_eq, beq_iff_eq] at h
  simp [befP, h.1, h.2, less_irrefl]
theorem addP_len (ps : List Pt) (p : Pt) : (addP ps p).length ≤ ps.length + 1 := by
  induction ps with
  | nil => simp [addP]
  | cons x ps ih => unfold addP; split <;> (try split) <;> simp <;> omega
end Go.Proofs.YtehdchpolgihlaaDoor

/- spec.SetHas, SetOk, SetAdd, SetJoin, Common. -/
namespace Go.Proofs.YtehdchpolgihlaaDoor
open Go.RowKit

theorem itake_more (xs : List Int) (k : Nat) (h : k < xs.length) : xs.take (k + 1) = xs.take k ++ [xs.getD k 0] := by
  rw [List.take_succ_eq_append_getElem h, List.getD_eq_getElem?_getD, List.getElem?_eq_getElem h]; rfl
theorem getD_mem_int {xs : List Int} {k : Nat} (h : k < xs.length) : xs.getD k 0 ∈ xs := by
  rw [List.getD_eq_getElem?_getD, List.getElem?_eq_getElem h]; exact List.getElem_mem h

set_option maxHeartbeats 1600000 in
set_option maxRecDepth 100000 in
theorem specSetHas (v : Value) (xs : List Int) (i : Int) (w : World) (h : RI w v xs) :
    Calls Tryd.prog 48 #[v, .int .i64 i] w fun e w' => e = .returned (.bool (decide (i ∈ xs))) ∧ w' = w := by
  have hl := h.1
  obtain ⟨ao, ca, rfl⟩ := h.form
  have H := hide h
  obtain ⟨n, hn⟩ : ∃ n, xs.length = n := ⟨_, rfl⟩
  have Hn := hide hn
  obtain ⟨r, hr⟩ : ∃ r, decide (i ∈ xs) = r := ⟨_, rfl⟩
  have HR := hide hr
  rw [hn] at hl H ⊢
  rw [hr]
  clear h hn hr
  go_enter Tryd.func48, Tryd.ntmps48
  go_wp2
  go_loopw [5] (fun j wr => ∃ k : Nat, k ≤ n ∧ j = .int .i64 k ∧ Hid (i ∉ xs.take k) ∧ wr = w) (fun j _ => n - (intOf j).toNat)
  case atStart => exact ⟨0, Nat.zero_le _, rfl, hide (by simp), rfl⟩
  case round =>
    obtain ⟨k, hk, rfl, HK, rfl⟩ := hrel
    by_cases hlt : k < n
    · have hkx : k < xs.length := by have := unhide Hn; omega
      obtain ⟨b, off, rfl, c⟩ := (unhide H).at k hkx
      have HT := hide (itake_more xs k hkx)
      have HM := hide (getD_mem_int hkx)
      generalize xs.getD k 0 = d at *
      by_cases e : d = i
      · subst e
        have hrr : r = true := by rw [← unhide HR]; exact decide_eq_true (unhide HM)
        subst hrr
        clear HT HM HK
        go_wp2
        go_ret
        exact ⟨rfl, rfl⟩
      · have HK' : Hid (i ∉ xs.take (k + 1)) := hide (by rw [unhide HT]; simp; exact ⟨unhide HK, fun e2 => e e2.symm⟩)
        have e' : decide (d = i) = false := by simpa using e
        have e2 : (d == i) = false := by simpa using e
        clear HT HM HK
        go_wp2
        go_roundw
        case rel => exact ⟨k + 1, by omega, by go_num, HK', by first | rfl | trivial⟩
        case measure => simp [intOf]; omega
    · have hkn : k = xs.length := by have := unhide Hn; omega
      have hrr : r = false := by
        rw [← unhide HR]
        have := unhide HK
        rw [hkn, List.take_of_length_le (Nat.le_refl _)] at this
        exact decide_eq_false this
      subst hrr
      clear HK
      go_wp2
      go_ret
      exact ⟨rfl, rfl⟩

set_option maxHeartbeats 4000000 in
set_option maxRecDepth 100000 in
theorem specSetAdd (v : Value) (xs : List Int) (i : Int) (w : World) (h : RI w v xs) (hc : Cap v) (hx : xs.length ≤ 4194303) :
    Calls Tryd.prog 36 #[v, .int .i64 i] w fun e w' => ∃ u, e = .returned u ∧ OI w' w.heap.size u (addL xs i) ∧ Below w.heap.size w w' := by
  have SH := hide fun w h => specSetHas v xs i w h
  obtain ⟨ao, ca, rfl⟩ := h.form
  obtain ⟨hcn, hcm⟩ : xs.length ≤ ca ∧ ca ≤ maxLen := by obtain ⟨_, _, _, e, h1, h2⟩ := hc; cases e; exact ⟨h1, h2⟩
  unfold maxLen at hcm
  have H := hide h
  have HP := hide h.pi
  clear h hc
  have O0 : OI (w.alloc (.cells #[] 3)) w.heap.size (.slice (some ⟨w.heap.size, 0, none⟩) 0 0) [] := by
    have := World.ownsRow_lit (base := w.heap.size) (e := 3) (size := 1) w #[] 0 (Nat.le_refl _) (by unfold maxLen; omega) (by simp)
    simpa [OI] using this
  have b0 : Below w.heap.size w (w.alloc (.cells #[] 3)) := (Below.refl _ _).alloc (Nat.le_refl _) _
  have P0 := hide ((unhide HP).below b0)
  by_cases hm : i ∈ xs
  · have ea : addL xs i = xs := if_pos hm
    rw [ea]
    rw [decide_eq_true hm] at SH
    clear hm ea
    go_enter Tryd.func36, Tryd.ntmps36
    go_wp2_with fail
    refine (unhide SH _ (unhide H)).mono ?_
    rintro _ w1 ⟨rfl, rfl⟩
    go_wp2_with (first | (at_builtin; refine append_ints rfl _ _ rfl w1.heap.size (.slice (some ⟨w1.heap.size, 0, none⟩) 0 0) (.slice ao xs.length ca) [] xs rfl rfl O0 (unhide P0) (by simp; omega) (by simp) ?_; intro v' w2 ho' hg' _; have RB := b0.grown hg' (by simp) (fun j e => by simp [Value.ownBlock] at e; omega); clear hg'))
    go_ret
    exact ⟨_, rfl, by simpa using ho', RB⟩
  · have ea : addL xs i = xs.takeWhile (fun x => decide (x < i)) ++ i :: xs.dropWhile (fun x => decide (x < i)) := if_neg hm
    rw [decide_eq_false hm] at SH
    have EA := hide ea
    clear hm ea
    obtain ⟨n, hn⟩ : ∃ n, xs.length = n := ⟨_, rfl⟩
    have Hn := hide hn
    rw [hn] at H P0 hx hcn SH HP ⊢
    clear hn
    go_enter Tryd.func36, Tryd.ntmps36
    go_wp2_with fail
    refine (unhide SH _ (unhide H)).mono ?_
    rintro _ w1 ⟨rfl, rfl⟩
    go_wp2
    go_loopw [5] (fun j wr => ∃ k : Nat, k ≤ n ∧ j = .int .i64 k ∧ Hid (∀ x ∈ xs.take k, x < i) ∧ wr = w1) (fun j _ => n - (intOf j).toNat)
    case atStart => exact ⟨0, Nat.zero_le _, rfl, hide (by simp), rfl⟩
    case round =>
      obtain ⟨k, hk, rfl, HK, rfl⟩ := hrel
      have FIN : Hid ((k < n → ¬ xs.getD k 0 < i) → addL xs i = xs.take k ++ i :: xs.drop k) := hide fun hst => by
        have hkx : k ≤ xs.length := by have := unhide Hn; omega
        have e1 : xs.takeWhile (fun x => decide (x < i)) = xs.take k ∧ xs.dropWhile (fun x => decide (x < i)) = xs.drop k := by
          have hall : ∀ x ∈ xs.take k, (decide (x < i)) = true := fun x hx => by simpa using unhide HK x hx
          have hd : xs.drop k = [] ∨ ∃ c t, xs.drop k = c :: t ∧ ¬ c < i := by
            by_cases hlt : k < xs.length
            · right
              refine ⟨_, _, List.drop_eq_getElem_cons hlt, ?_⟩
              have := hst (by have := unhide Hn; omega)
              rwa [List.getD_eq_getElem?_getD, List.getElem?_eq_getElem hlt] at this
            · left; exact List.drop_of_length_le (by omega)
          conv => lhs; lhs; rw [← List.take_append_drop k xs]
          conv => rhs; lhs; rw [← List.take_append_drop k xs]
          rw [List.takeWhile_append_of_pos hall, List.dropWhile_append_of_pos hall]
          rcases hd with e | ⟨c, t, e, hc⟩
          · rw [e]; simp
          · rw [e]; simp [hc]
        rw [unhide EA, e1.1, e1.2]
      by_cases hgo : k < n ∧ xs.getD k 0 < i
      · obtain ⟨hlt, hd⟩ := hgo
        have hkx : k < xs.length := by have := unhide Hn; omega
        obtain ⟨b, off, rfl, c⟩ := (unhide H).at k hkx
        have HT := hide (itake_more xs k hkx)
        generalize xs.getD k 0 = d at *
        have HK' : Hid (∀ x ∈ xs.take (k + 1), x < i) := hide (by
          rw [unhide HT]; intro x hx
          rcases List.mem_append.1 hx with hx | hx
          · exact unhide HK x hx
          · simp at hx; subst hx; exact hd)
        have hd' : decide (d < i) = true := by simpa using hd
        clear HT HK FIN hd
        go_wp2
        go_roundw
        case rel => exact ⟨k + 1, by omega, by go_num, HK', by first | rfl | trivial⟩
        case measure => simp [intOf]; omega
      · have F := hide (unhide FIN fun hlt hd => hgo ⟨hlt, hd⟩)
        have p1 := (unhide P0).take k hk ca
        have p2 := (unhide HP).drop k (ca - k) (bo := if ca = k then ao else ao.map (·.add (k * 1))) (fun hlt => if_neg (by omega))
        have hs1 : ∀ w, (Instr.slice 24 (.slice ao n ca) none (some (.int .i64 (k : Int))) none).run Tryd.prog w = .ok (.slice ao k ca) w := fun w => icut_to ao n ca k w (by omega)
        have hs2 : ∀ w, (Instr.slice 24 (.slice ao n ca) (some (.int .i64 (k : Int))) none none).run Tryd.prog w = .ok (.slice (if ca = k then ao else ao.map (·.add (k * 1))) (n - k) (ca - k)) w := fun w => icut_from ao n ca k w hk
        generalize (if ca = k then ao else ao.map (·.add (k * 1))) = bo at *
        have P1 := hide p1
        have P2 := hide p2
        have hlk : (xs.take k).length = k := by rw [List.length_take]; have := unhide Hn; omega
        have hld : (xs.drop k).length = n - k := by rw [List.length_drop, unhide Hn]
        have HLK := hide hlk
        have HLD := hide hld
        clear p1 p2 hlk hld FIN HK
        generalize xs.take k = fs at *
        generalize xs.drop k = bs at *
        have sz0 : wr.heap.size + 1 = (wr.alloc (.cells #[] 3)).heap.size := by simp
        have A1 : Hid True := hide trivial
        have A2 : Hid True := hide trivial
        have A3 : Hid True := hide trivial
        have EX : Hid (k < n → ∃ b off d, ao = some ⟨b, off, none⟩ ∧ wr.cell? ⟨b, off + k, none⟩ = some (.int .i64 d) ∧ ¬ d < i) := hide fun hlt => by
          obtain ⟨b, off, e, c⟩ := (unhide H).at k (by have := unhide Hn; omega)
          exact ⟨b, off, _, e, c, fun hd => hgo ⟨hlt, hd⟩⟩
        clear hgo
        by_cases hlt : k < n
        · obtain ⟨b, off, d, rfl, c, hd⟩ := unhide EX hlt
          have hd' : decide (d < i) = false := by simpa using hd
          clear EX hd
          go_wp2_with (first
            | (at_builtin; have hh := A1; refine append_ints rfl _ _ rfl wr.heap.size (.slice (some ⟨wr.heap.size, 0, none⟩) 0 0) (.slice (some ⟨b, off, none⟩) k ca) [] (fs) rfl rfl O0 (unhide P1) (by rw [unhide HLK]; simp; omega) (by simp) ?_; intro v1 w2 ho1 hg1 hb1; have O1 : OI w2 wr.heap.size v1 (fs) := (by simpa using ho1); have B1 := b0.grown hg1 (by simp) (fun j e => by simp [Value.ownBlock] at e; omega); have l1 := World.ownsRow.lt O1; obtain ⟨a1, c1, rfl⟩ := O1.form; have O1' := hide (World.ownsRow.alloc O1 (.cells #[.int .i64 i] 3)); have B1' := B1.trans ((((Below.refl _ w2).alloc (Nat.le_refl _) (.cells #[.int .i64 i] 3))).mono B1.size); clear A1 ho1 hg1 hb1 O1)
            | (at_builtin; have hh := A2; refine append_ints rfl _ _ rfl wr.heap.size (.slice a1 fs.length c1) (.slice (some ⟨w2.heap.size, 0, none⟩) 1 1) (fs) [i] rfl rfl (unhide O1') ⟨_, _, rfl, .inr ⟨_, rfl, cell_one_new _ _ _⟩⟩ (by rw [unhide HLK]; simp; omega) B1'.size ?_; intro v2 w3 ho2 hg2 hb2; have B2 := B1'.grown hg2 B1'.size (fun j e => (l1 j e).1); obtain ⟨a2, c2, hv2⟩ := ho2.form; rw [List.length_append, List.length_singleton] at hv2; subst hv2; have O2 := hide ho2; have l2 := World.ownsRow.lt ho2; have P3 := hide ((unhide P2).below B2); clear A2 ho2 hg2 hb2)
            | (at_builtin; have hh := A3; refine append_ints rfl _ _ rfl wr.heap.size (.slice a2 (fs.length + 1) c2) (.slice bo (n - k) (ca - k)) (fs ++ [i]) (bs) rfl rfl (unhide O2) (unhide P3) (by rw [unhide HLD, List.length_append, unhide HLK]; simp; omega) B2.size ?_; intro v3 w4 ho3 hg3 hb3; have B3 := B2.grown hg3 B2.size (fun j e => (l2 j e).1); clear A3 hg3 hb3))
          go_ret
          exact ⟨_, rfl, by rw [unhide F]; simpa using ho3, B3⟩
        · have hd0 : decide ((k : Int) < (n : Int)) = false := by simp; omega
          clear EX
          go_wp2_with (first
            | (at_builtin; have hh := A1; refine append_ints rfl _ _ rfl wr.heap.size (.slice (some ⟨wr.heap.size, 0, none⟩) 0 0) (.slice ao k ca) [] (fs) rfl rfl O0 (unhide P1) (by rw [unhide HLK]; simp; omega) (by simp) ?_; intro v1 w2 ho1 hg1 hb1; have O1 : OI w2 wr.heap.size v1 (fs) := (by simpa using ho1); have B1 := b0.grown hg1 (by simp) (fun j e => by simp [Value.ownBlock] at e; omega); have l1 := World.ownsRow.lt O1; obtain ⟨a1, c1, rfl⟩ := O1.form; have O1' := hide (World.ownsRow.alloc O1 (.cells #[.int .i64 i] 3)); have B1' := B1.trans ((((Below.refl _ w2).alloc (Nat.le_refl _) (.cells #[.int .i64 i] 3))).mono B1.size); clear A1 ho1 hg1 hb1 O1)
            | (at_builtin; have hh := A2; refine append_ints rfl _ _ rfl wr.heap.size (.slice a1 fs.length c1) (.slice (some ⟨w2.heap.size, 0, none⟩) 1 1) (fs) [i] rfl rfl (unhide O1') ⟨_, _, rfl, .inr ⟨_, rfl, cell_one_new _ _ _⟩⟩ (by rw [unhide HLK]; simp; omega) B1'.size ?_; intro v2 w3 ho2 hg2 hb2; have B2 := B1'.grown hg2 B1'.size (fun j e => (l1 j e).1); obtain ⟨a2, c2, hv2⟩ := ho2.form; rw [List.length_append, List.length_singleton] at hv2; subst hv2; have O2 := hide ho2; have l2 := World.ownsRow.lt ho2; have P3 := hide ((unhide P2).below B2); clear A2 ho2 hg2 hb2)
            | (at_builtin; have hh := A3; refine append_ints rfl _ _ rfl wr.heap.size (.slice a2 (fs.length + 1) c2) (.slice bo (n - k) (ca - k)) (fs ++ [i]) (bs) rfl rfl (unhide O2) (unhide P3) (by rw [unhide HLD, List.length_append, unhide HLK]; simp; omega) B2.size ?_; intro v3 w4 ho3 hg3 hb3; have B3 := B2.grown hg3 B2.size (fun j e => (l2 j e).1); clear A3 hg3 hb3))
          go_ret
          exact ⟨_, rfl, by rw [unhide F]; simpa using ho3, B3⟩

set_option maxHeartbeats 4000000 in
set_option maxRecDepth 100000 in
theorem specSetJoin (va vb : Value) (xs bs : List Int) (w : World) (ha : RI w va xs) (hb : RI w vb bs) (hl : xs.length + bs.length ≤ 4194303) :
    Calls Tryd.prog 27 #[va, vb] w fun e w' => ∃ u, e = .returned u ∧ OI w' w.heap.size u (joinL xs bs) ∧ Below w.heap.size w w' := by
  obtain ⟨aa, ca, rfl⟩ := ha.form
  obtain ⟨ba, cb, rfl⟩ := hb.form
  have HA := hide ha
  have HB := hide hb
  obtain ⟨n, hn⟩ : ∃ n, xs.length = n := ⟨_, rfl⟩
  obtain ⟨m, hm⟩ : ∃ n, bs.length = n := ⟨_, rfl⟩
  have Hn := hide hn
  have Hm := hide hm
  rw [hn] at HA hl ⊢
  rw [hm] at HB hl ⊢
  clear ha hb hn hm
  have O0 : OI (w.alloc (.cells #[] 3)) w.heap.size (.slice (some ⟨w.heap.size, 0, none⟩) 0 0) [] := by
    have := World.ownsRow_lit (base := w.heap.size) (e := 3) (size := 1) w #[] 0 (Nat.le_refl _) (by unfold maxLen; omega) (by simp)
    simpa [OI] using this
  have b0 : Below w.heap.size w (w.alloc (.cells #[] 3)) := (Below.refl _ _).alloc (Nat.le_refl _) _
  go_enter Tryd.func27, Tryd.ntmps27
  go_wp2
  go_loopw [5, 6] (fun out j wr => ∃ k : Nat, k ≤ n ∧ j = .int .i64 k ∧ OI wr w.heap.size out ((xs.take k).foldl addL []) ∧ Below w.heap.size w wr) (fun _ j _ => n - (intOf j).toNat)
  case atStart => exact ⟨0, Nat.zero_le _, rfl, O0, b0⟩
  case round =>
    clear O0 b0
    obtain ⟨k, hk, rfl, ho, br⟩ := hrel
    have hsr := br.size
    by_cases hlt : k < n
    · have hkx : k < xs.length := by have := unhide Hn; omega
      obtain ⟨b, off, rfl, c⟩ := ((unhide HA).below br (Nat.le_refl _)).at k hkx
      have HT := hide (show (xs.take (k + 1)).foldl addL [] = addL ((xs.take k).foldl addL []) (xs.getD k 0) by rw [itake_more xs k hkx, fold_snoc])
      have hfl := fold_len (xs.take k) []
      rw [List.length_take, List.length_nil] at hfl
      generalize xs.getD k 0 = d at *
      generalize (xs.take k).foldl addL [] = acc at *
      have SA := hide (specSetAdd _ acc d _ (ho.ri (by omega)) ho.cap (by omega))
      obtain ⟨oa, oc, rfl⟩ := ho.form
      clear ho hfl
      go_wp2_with fail
      refine (unhide SA).mono ?_
      rintro _ w1 ⟨u, rfl, o1, b1⟩
      obtain ⟨ua, uc, rfl⟩ := o1.form
      have O1 := OI.mono o1 hsr
      have B1 := br.trans (b1.mono hsr)
      clear o1 b1 SA
      go_wp2
      go_roundw
      case rel => exact ⟨k + 1, by omega, by go_num, by rw [unhide HT]; exact O1, B1⟩
      case measure => simp [intOf]; omega
    · have hkn : k = xs.length := by have := unhide Hn; omega
      have e1 : xs.take k = xs := List.take_of_length_le (by omega)
      rw [e1] at ho
      have HO := hide ho
      have hd0 : decide ((k : Int) < (n : Int)) = false := by simp; omega
      clear ho hkn e1
      obtain ⟨oa, oc, ho0⟩ := (unhide HO).form
      go_wp2
      go_loopw [5, 7] (fun out j wq => ∃ k : Nat, k ≤ m ∧ j = .int .i64 k ∧ OI wq w.heap.size out ((xs ++ bs.take k).foldl addL []) ∧ Below w.heap.size w wq) (fun _ j _ => m - (intOf j).toNat)
      case atStart => exact ⟨0, Nat.zero_le _, rfl, by simpa using unhide HO, br⟩
      case round =>
        clear HO br
        obtain ⟨k2, hk2, rfl, ho, br⟩ := hrel
        have hsr2 := br.size
        by_cases hlt2 : k2 < m
        · have hkx : k2 < bs.length := by have := unhide Hm; omega
          obtain ⟨b, off, rfl, c⟩ := ((unhide HB).below br (Nat.le_refl _)).at k2 hkx
          have HT := hide (show (xs ++ bs.take (k2 + 1)).foldl addL [] = addL ((xs ++ bs.take k2).foldl addL []) (bs.getD k2 0) by rw [itake_more bs k2 hkx, ← List.append_assoc, fold_snoc])
          have hfl := fold_len (xs ++ bs.take k2) []
          rw [List.length_append, unhide Hn, List.length_take, List.length_nil] at hfl
          generalize bs.getD k2 0 = d at *
          generalize (xs ++ bs.take k2).foldl addL [] = acc at *
          have SA := hide (specSetAdd _ acc d _ (ho.ri (by omega)) ho.cap (by omega))
          obtain ⟨oa2, oc2, rfl⟩ := ho.form
          clear ho hfl
          go_wp2_with fail
          refine (unhide SA).mono ?_
          rintro _ w1 ⟨u, rfl, o1, b1⟩
          obtain ⟨ua, uc, rfl⟩ := o1.form
          have O1 := OI.mono o1 hsr2
          have B1 := br.trans (b1.mono hsr2)
          clear o1 b1 SA
          go_wp2
          go_roundw
          case rel => exact ⟨k2 + 1, by omega, by go_num, by rw [unhide HT]; exact O1, B1⟩
          case measure => simp [intOf]; omega
        · have hkn : k2 = bs.length := by have := unhide Hm; omega
          have e1 : bs.take k2 = bs := List.take_of_length_le (by omega)
          rw [e1] at ho
          have HO := hide ho
          have hd2 : decide ((k2 : Int) < (m : Int)) = false := by simp; omega
          clear ho hkn e1
          go_wp2
          go_ret
          exact ⟨_, rfl, unhide HO, br⟩

end Go.Proofs.YtehdchpolgihlaaDoor

/- PartJoins: l10Before and PartJoin of the specification. -/
namespace Go.Proofs.YtehdchpolgihlaaDoor
open Go.RowKit

set_option maxHeartbeats 8000000 in
set_option maxRecDepth 100000 in
theorem specPartJoin (m n : Int) (s t : ByteArray) (u v : Value) (xs ys : List Int) (w : World) (hl : xs.length + ys.length ≤ 4194303) (hu : RI w u xs) (hv : RI w v ys) :
    Calls Tryd.prog 11 #[qv m s u, qv n t v] w fun e w' => ∃ r, e = .returned (.tuple #[qv (if samP (m, s, xs) (n, t, ys) then m else 0) (if samP (m, s, xs) (n, t, ys) then s else ⟨#[]⟩) r, .bool (samP (m, s, xs) (n, t, ys))]) ∧ OI w' w.heap.size r (if samP (m, s, xs) (n, t, ys) then joinL xs ys else []) ∧ Below w.heap.size w w' := by
  obtain ⟨ua, uc, rfl⟩ := hu.form
  obtain ⟨va, vc, rfl⟩ := hv.form
  have SJ := hide fun w h h' => specSetJoin (.slice ua xs.length uc) (.slice va ys.length vc) xs ys w h h' hl
  obtain ⟨w0, hw0⟩ : ∃ y, ((w.alloc (.cells #[.int .i64 m, .string s, .slice ua xs.length uc] 31)).alloc (.cells #[.int .i64 n, .string t, .slice va ys.length vc] 31)).alloc zpo = y := ⟨_, rfl⟩
  have B : Below w.heap.size w w0 := hw0 ▸ ((qalloc2 _ _ _).alloc (by simp; omega) _)
  have X : Loc w0 w.heap.size #[.int .i64 m, .string s, .slice ua xs.length uc] := hw0 ▸ ((loc_at w _ _ rfl).alloc _).alloc _
  have Y : Loc w0 (w.heap.size + 1) #[.int .i64 n, .string t, .slice va ys.length vc] := hw0 ▸ (loc_at (w.alloc _) _ _ (by simp)).alloc _
  have R : Loc w0 (w.heap.size + 1 + 1) #[.int .i64 0, .string ⟨#[]⟩, .slice none 0 0] := hw0 ▸ (loc_at ((w.alloc _).alloc _) _ _ (by simp))
  have s0 : w0.heap.size = w.heap.size + 1 + 1 + 1 := by rw [← hw0]; simp
  have RU := hide fun w' (hb : Below w0.heap.size w0 w') => (hu.below B (Nat.le_refl _)).below hb (Nat.le_refl _)
  have RV := hide fun w' (hb : Below w0.heap.size w0 w') => (hv.below B (Nat.le_refl _)).below hb (Nat.le_refl _)
  obtain ⟨k1, hk1⟩ : ∃ k, xs.length = k := ⟨_, rfl⟩
  obtain ⟨k2, hk2⟩ : ∃ k, ys.length = k := ⟨_, rfl⟩
  rw [hk1] at SJ X RU hw0 ⊢
  rw [hk2] at SJ Y RV hw0 ⊢
  have x0 := X.cell 0 rfl
  have x1 := X.cell 1 rfl
  have y0 := Y.cell 0 rfl
  have y1 := Y.cell 1 rfl
  clear hu hv hk1 hk2 hl
  by_cases h : samP (m, s, xs) (n, t, ys) = true
  · rw [h]
    simp only [if_true]
    simp only [samP, Bool.and_eq_true, decide_eq_true_eq] at h
    obtain ⟨h1, h2⟩ := h
    subst h1
    go_enter Tryd.func11, Tryd.ntmps11
    go_upto_region 3 with fail
    clear hw0 x0 x1 y0 y1 h2
    refine wp_region_noPanic ?_
    refine wp_region_held_drew (S := fun w' => (w'.cell? ⟨w.heap.size, 0, none⟩ = some (.int .i64 m) ∧ w'.cell? ⟨w.heap.size, 1, none⟩ = some (.string s) ∧ w'.cell? ⟨w.heap.size, 2, none⟩ = some (.slice ua k1 uc)) ∧ (w'.cell? ⟨w.heap.size + 1, 0, none⟩ = some (.int .i64 m) ∧ w'.cell? ⟨w.heap.size + 1, 1, none⟩ = some (.string t) ∧ w'.cell? ⟨w.heap.size + 1, 2, none⟩ = some (.slice va k2 vc))) (by kernel_rfl) ⟨⟨X.cell 0 rfl, X.cell 1 rfl, X.cell 2 rfl⟩, ⟨Y.cell 0 rfl, Y.cell 1 rfl, Y.cell 2 rfl⟩⟩ (fun hHeld => ?_)
    obtain ⟨wd, hd⟩ : ∃ wd, w0.drew = wd := ⟨_, rfl⟩
    have bd : Below w0.heap.size w0 wd := hd ▸ Below.drew (Below.refl _ _)
    have BD := bd
    have sd : w0.heap.size ≤ wd.heap.size := bd.size
    replace X := X.below bd X.lt
    replace Y := Y.below bd Y.lt
    replace R := R.below bd R.lt
    replace B := B.trans (bd.mono B.size)
    rw [hd] at hHeld ⊢
    clear hd bd
    refine take_at (i := 0) (d := 19) (v := ?_) rfl rfl (by kernel_rfl) (by kernel_rfl) (by kernel_rfl) (fun _ _ _ h => h) (Or.inl ⟨by rfl, ?_⟩) (by assumption) ?_
    rotate_left
    · intro w hSw
      try dsimp only at hSw
      go_simp
      try with_reducible rfl
    simp only [Act.put, List.setIfInBounds_toArray, List.set_cons_zero, List.set_cons_succ]
    refine take_at (i := 1) (d := 20) (v := ?_) rfl rfl (by kernel_rfl) (by kernel_rfl) (by kernel_rfl) (fun _ _ _ h => h) (Or.inl ⟨by rfl, ?_⟩) (by assumption) ?_
    rotate_left
    · intro w hSw
      try dsimp only at hSw
      go_simp
      try with_reducible rfl
    simp only [Act.put, List.setIfInBounds_toArray, List.set_cons_zero, List.set_cons_succ]
    refine take_at (i := 2) (d := 21) (v := ?_) rfl rfl (by kernel_rfl) (by kernel_rfl) (by kernel_rfl) (fun _ _ _ h => h) (Or.inl ⟨by rfl, ?_⟩) (by assumption) ?_
    rotate_left
    · intro w hSw
      try dsimp only at hSw
      go_simp
      try with_reducible rfl
    simp only [Act.put, List.setIfInBounds_toArray, List.set_cons_zero, List.set_cons_succ]
    refine take_at (i := 3) (d := 22) (v := ?_) rfl rfl (by kernel_rfl) (by kernel_rfl) (by kernel_rfl) (fun _ _ _ h => h) (Or.inl ⟨by rfl, ?_⟩) (by assumption) ?_
    rotate_left
    · intro w hSw
      try dsimp only at hSw
      go_simp
      try with_reducible rfl
    simp only [Act.put, List.setIfInBounds_toArray, List.set_cons_zero, List.set_cons_succ]
    refine take_at (i := 4) (d := 23) (v := ?_) rfl rfl (by kernel_rfl) (by kernel_rfl) (by kernel_rfl) (fun _ _ _ h => h) (Or.inl ⟨by rfl, ?_⟩) (by assumption) ?_
    rotate_left
    · intro w hSw
      try dsimp only at hSw
      go_simp
      try with_reducible rfl
    simp only [Act.put, List.setIfInBounds_toArray, List.set_cons_zero, List.set_cons_succ]
    refine take_at (i := 5) (d := 24) (v := ?_) rfl rfl (by kernel_rfl) (by kernel_rfl) (by kernel_rfl) (fun _ _ _ h => h) (Or.inl ⟨by rfl, ?_⟩) (by assumption) ?_
    rotate_left
    · intro w hSw
      try dsimp only at hSw
      go_simp
      try with_reducible rfl
    simp only [Act.put, List.setIfInBounds_toArray, List.set_cons_zero, List.set_cons_succ]
    refine take_at (i := 6) (d := 25) (v := ?_) rfl rfl (by kernel_rfl) (by kernel_rfl) (by kernel_rfl) (fun _ _ _ h => h) (Or.inl ⟨by rfl, ?_⟩) (by assumption) ?_
    rotate_left
    · intro w hSw
      try dsimp only at hSw
      go_simp
      try with_reducible rfl
    simp only [Act.put, List.setIfInBounds_toArray, List.set_cons_zero, List.set_cons_succ]
    refine take_at (i := 7) (d := 26) (v := ?_) rfl rfl (by kernel_rfl) (by kernel_rfl) (by kernel_rfl) (fun _ _ _ h => h) (Or.inl ⟨by rfl, ?_⟩) (by assumption) ?_
    rotate_left
    · intro w hSw
      try dsimp only at hSw
      go_simp
      try with_reducible rfl
    simp only [Act.put, List.setIfInBounds_toArray, List.set_cons_zero, List.set_cons_succ]
    refine ready_at (i := 8) rfl (by kernel_rfl) (fun KK hKK => ?_)
    go_simp
    refine (unhide SJ _ (unhide RU _ BD) (unhide RV _ BD)).mono ?_
    rintro e wk ⟨q, rfl, oq, bk⟩
    have sk := bk.size
    replace X := X.below bk X.lt
    replace Y := Y.below bk Y.lt
    replace R := R.below bk R.lt
    replace B := B.trans (bk.mono B.size)
    have tO := World.ownsRow.lt oq
    obtain ⟨qa, qc, rfl⟩ := oq.form
    have O := oq
    generalize hjl : (joinL xs ys).length = jl at *
    clear bk oq SJ RU RV BD
    clear hHeld
    refine hKK.out _ _ ⟨⟨X.cell 0 rfl, X.cell 1 rfl, X.cell 2 rfl⟩, ⟨Y.cell 0 rfl, Y.cell 1 rfl, Y.cell 2 rfl⟩⟩ (fun hHeld => ?_)
    clear hKK KK
    refine take_at (i := 9) (d := 28) (v := ?_) rfl rfl (by kernel_rfl) (by kernel_rfl) (by kernel_rfl) (fun _ _ _ h => h) (Or.inl ⟨by rfl, ?_⟩) (by assumption) ?_
    rotate_left
    · intro w hSw
      try dsimp only at hSw
      go_simp
      try with_reducible rfl
    simp only [Act.put, List.setIfInBounds_toArray, List.set_cons_zero, List.set_cons_succ]
    have c0 := R.cell 0 rfl
    have c1 := R.cell 1 rfl
    have c2 := R.cell 2 rfl
    have fc := R.frozen
    refine ready_at (i := 10) rfl (by kernel_rfl) (fun KK hKK => ?_)
    go_simp
    obtain ⟨wa, hwa⟩ : ∃ y, (((wk.setCell ⟨w.heap.size + 1 + 1, 0, none⟩ (.int .i64 m)).setCell ⟨w.heap.size + 1 + 1, 1, none⟩ (.string s)).setCell ⟨w.heap.size + 1 + 1, 2, none⟩ (.slice qa jl qc)) = y := ⟨_, rfl⟩
    have kwa : Kp wk wa (fun k => k = w.heap.size + 1 + 1) := hwa ▸ ((set_kp _ _ _ _).trans (set_kp _ _ _ _)).trans (set_kp _ _ _ _)
    replace R : Loc wa (w.heap.size + 1 + 1) #[.int .i64 m, .string s, .slice qa jl qc] := hwa ▸ (((R.set 0 _ rfl).set 1 _ rfl).set 2 _ rfl)
    replace X := X.kp kwa (by omega)
    replace Y := Y.kp kwa (by omega)
    replace O := O.kp kwa (fun j hj e => by have := tO j hj; omega)
    replace B := Below.kp B kwa B.size (fun k hk => by omega)
    have zwa := kwa.size
    rw [hwa]
    clear hwa kwa c0 c1 c2 fc
    clear hHeld
    refine hKK.out _ _ ⟨⟨X.cell 0 rfl, X.cell 1 rfl, X.cell 2 rfl⟩, ⟨Y.cell 0 rfl, Y.cell 1 rfl, Y.cell 2 rfl⟩⟩ (fun hHeld => ?_)
    clear hKK KK
    refine take_at (i := 11) (d := 5) (v := ?_) rfl rfl (by kernel_rfl) (by kernel_rfl) (by kernel_rfl) (fun _ _ _ h => h) (Or.inl ⟨by rfl, ?_⟩) (by assumption) ?_
    rotate_left
    · intro w hSw
      try dsimp only at hSw
      go_simp
      try with_reducible rfl
    simp only [Act.put, List.setIfInBounds_toArray, List.set_cons_zero, List.set_cons_succ]
    clear hHeld
    refine wpAnyH_done (by kernel_rfl) ?_ _
    refine NoPanic.normal ?_
    have r0 := R.cell 0 rfl
    have r1 := R.cell 1 rfl
    have r2 := R.cell 2 rfl
    clear R X Y
    go_wp2
    refine bodyPost_ret (v := .tuple #[qv m s (.slice qa jl qc), .bool true]) (by simp [results, Tryd.results11, go_sem, r0, r1, r2]) rfl ?_
    exact ⟨_, rfl, OI.mono O (by omega), B⟩
  · have h' : samP (m, s, xs) (n, t, ys) = false := by simpa using h
    rw [h']
    simp only [Bool.false_eq_true, if_false]
    clear SJ RU RV
    have r0 := R.cell 0 rfl
    have r1 := R.cell 1 rfl
    have r2 := R.cell 2 rfl
    have fr := R.frozen
    have B' := hide (((B.setCell (p := ⟨w.heap.size + 1 + 1, 0, none⟩) (by show w.heap.size ≤ w.heap.size + 1 + 1; omega) (.int .i64 0)).setCell (p := ⟨w.heap.size + 1 + 1, 1, none⟩) (by show w.heap.size ≤ w.heap.size + 1 + 1; omega) (.string ⟨#[]⟩)).setCell (p := ⟨w.heap.size + 1 + 1, 2, none⟩) (by show w.heap.size ≤ w.heap.size + 1 + 1; omega) (.slice none 0 0))
    clear X Y R
    by_cases h1 : m = n
    · have h2 : (s.toList == t.toList) = false := by
        simp only [samP, h1, decide_true, Bool.true_and] at h'
        exact h'
      subst h1
      clear h h'
      go_enter Tryd.func11, Tryd.ntmps11
      go_wp2
      refine bodyPost_ret (v := .tuple #[qv 0 ⟨#[]⟩ (.slice none 0 0), .bool false]) (by simp [results, Tryd.results11, go_sem, r0, r1, r2]) rfl ?_
      exact ⟨_, rfl, World.ownsRow_nil _ _ _ _, unhide B'⟩
    · have hd1 := decide_eq_false h1
      clear h h'
      go_enter Tryd.func11, Tryd.ntmps11
      go_wp2
      refine bodyPost_ret (v := .tuple #[qv 0 ⟨#[]⟩ (.slice none 0 0), .bool false]) (by simp [results, Tryd.results11, go_sem, r0, r1, r2]) rfl ?_
      exact ⟨_, rfl, World.ownsRow_nil _ _ _ _, unhide B'⟩
end Go.Proofs.YtehdchpolgihlaaDoor
