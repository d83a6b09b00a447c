/- Texts that belong together: PartOkAll, PartRows, PartOpen. -/
import Derived.Test.YtehdchpolgihlaaDoorPoAN
import Derived.Test.YtehdchpolgihlaaDoorPoAR
import Derived.Test.YtehdchpolgihlaaDoorPoAC
import Derived.Test.YtehdchpolgihlaaDoorPoAA
import Derived.OwnWalk
import Derived.Maps.AppendAt
import Derived.Deep.Slices
/- PartOkAll: laws.FnExactPartOk at every argument. -/
namespace Go.Proofs.YtehdchpolgihlaaDoor
open Go.RowKit
set_option linter.unusedSectionVars false
variable [∀ (a b c d : Int), Decidable (Ok4 a b c d)]
variable [∀ (n f : Int), Decidable (COk n f)]
variable [∀ (n : Int) (s : List Int), Decidable (OkL n s)]
variable [∀ (a b c d : Nat), Decidable (okN a b c d)]
variable [∀ (last : Int) (s : St), Decidable (GoodSt last s)]
variable [∀ (x : T4), Decidable (OkT x)]

theorem fnPartOk_walk (n f m : Int) (s : ByteArray) (pa : Option Addr) (pc : Nat) (xs : List Int) (w : World) (hs : s.size ≤ maxLen) (hn : xs.length ≤ maxLen) (hp : AIW w pa xs) (hE : Env w) :
    Calls Tryd.prog 3 #[cv n f, qv m s (.slice pa xs.length pc)] w fun e w' => e = .returned (.bool true) ∧ Below w.heap.size w w' := by
  by_cases h : s.size + xs.length ≤ 1048576
  · exact fnPartOk_short Env (fun w w' h hb => h.below hb) (fun n f m s u xs w hs _ hE hu => implPartOk n f m s u xs w (by omega) hE hu) n f m s pa pc xs w (hp.ri (by omega)) h hE
  · exact fnPartOk_long n f m s pa pc xs.length w (by omega) hs hn
end Go.Proofs.YtehdchpolgihlaaDoor

/- Tables of parts in memory: a row of three cells each, and each part's own list of numbers. -/
namespace Go.Proofs.YtehdchpolgihlaaDoor
open Go.RowKit

/-- A part: its view, its name, who voted. -/
abbrev Pt := Int × ByteArray × List Int
def zpt : Pt := (0, ⟨#[]⟩, [])
def phd (p : Pt) : Int × ByteArray := (p.1, p.2.1)
theorem Tryd.infoPt : (Tryd.prog.info? 31).map (fun i => (i.zero, i.size, i.bytes)) = some (some (.agg #[.int .i64 0, .string ⟨#[]⟩, .slice none 0 0]), 3, 48) := by kernel_rfl
def pcell (p : (Int × ByteArray) × Value) : List Value := [.int .i64 p.1.1, .string p.1.2, p.2]
def pcells (ps : List ((Int × ByteArray) × Value)) : List Value := ps.flatMap pcell
theorem pcells_cons (p : (Int × ByteArray) × Value) (ps : List ((Int × ByteArray) × Value)) : pcells (p :: ps) = .int .i64 p.1.1 :: .string p.1.2 :: p.2 :: pcells ps := by simp [pcells, pcell]
theorem pcells_len (ps : List ((Int × ByteArray) × Value)) : (pcells ps).length = ps.length * 3 := by
  induction ps with
  | nil => rfl
  | cons p ps ih => rw [pcells_cons]; simp only [List.length_cons, ih]; omega
theorem pcells_append (ps qs : List ((Int × ByteArray) × Value)) : pcells (ps ++ qs) = pcells ps ++ pcells qs := by simp [pcells]
theorem pcells_get (ps : List ((Int × ByteArray) × Value)) (k j : Nat) (hk : k < ps.length) (hj : j < 3) : (pcells ps)[k * 3 + j]? = (pcell (ps.getD k ((0, ⟨#[]⟩), .slice none 0 0)))[j]? := by
  induction ps generalizing k with
  | nil => simp at hk
  | cons p ps ih =>
    have e : pcells (p :: ps) = pcell p ++ pcells ps := by simp [pcells]
    rw [e]
    cases k with
    | zero => rw [Nat.zero_mul, Nat.zero_add, List.getElem?_append_left (by simp [pcell]; exact hj)]; rfl
    | succ k =>
      rw [List.getElem?_append_right (by simp [pcell]; omega), show (pcell p).length = 3 from rfl, show (k + 1) * 3 + j - 3 = k * 3 + j from by omega, ih k (by simpa using hk)]
      rfl
/-- v is a row of the call's own, from block 'base' on, of the parts ps, whose lists vs are the call's own too, each in a block of its own. -/
structure OPtV (w : World) (base : Nat) (v : Value) (ps : List Pt) (vs : List Value) : Prop where
  len : vs.length = ps.length
  row : w.ownsRow base 31 3 v ps.length (pcells ((ps.map phd).zip vs))
  each : ∀ k, k < ps.length → OI w base (vs.getD k (.slice none 0 0)) (ps.getD k zpt).2.2
  apart : ∀ i j, i < j → j < ps.length → ∀ b, (vs.getD i (.slice none 0 0)).ownBlock = some b → (vs.getD j (.slice none 0 0)).ownBlock ≠ some b
def OPt (w : World) (base : Nat) (v : Value) (ps : List Pt) : Prop := ∃ vs, OPtV w base v ps vs
/-- A row of parts and a list of numbers lie in two blocks. -/
theorem pt_oi {w : World} {B B' n : Nat} {v u : Value} {cs : List Value} {ys : List Int} (h : w.ownsRow B 31 3 v n cs) (h' : OI w B' u ys) (b : Nat) (hv : v.ownBlock = some b) : u.ownBlock ≠ some b := by
  rcases h.2 with ⟨rfl, _⟩ | ⟨g, cap, cur, rfl, _, hg, _⟩
  · simp [Value.ownBlock] at hv
  · rcases h'.2 with ⟨rfl, _⟩ | ⟨g', cap', cur', rfl, _, hg', _⟩
    · simp [Value.ownBlock]
    · intro e
      simp [Value.ownBlock] at e hv
      subst hv
      rw [e, hg] at hg'
      simp at hg'
theorem OPtV.below {w w' : World} {base : Nat} {v : Value} {ps : List Pt} {vs : List Value} (h : OPtV w base v ps vs) (hb : Below w.heap.size w w') : OPtV w' base v ps vs :=
  ⟨h.len, World.ownsRow.kept (row := none) h.row ⟨hb.os, hb.tape, hb.output, hb.size, fun k hk _ => hb.block k hk⟩ (by cases v.ownBlock <;> simp), fun k hk => (h.each k hk).below hb, h.apart⟩
theorem OPt.below {w w' : World} {base : Nat} {v : Value} {ps : List Pt} (h : OPt w base v ps) (hb : Below w.heap.size w w') : OPt w' base v ps := by
  obtain ⟨vs, h⟩ := h; exact ⟨vs, h.below hb⟩
/-- A table that nothing turns is kept. -/
theorem OPtV.kp {w w' : World} {base : Nat} {X : Nat → Prop} {v : Value} {ps : List Pt} {vs : List Value} (h : OPtV w base v ps vs) (k : Kp w w' X) (hX : ∀ j, base ≤ j → j < w.heap.size → ¬ X j) : OPtV w' base v ps vs := by
  have rl := World.ownsRow.lt h.row
  refine ⟨h.len, ?_, fun j hj => (h.each j hj).kp k (fun b hb => by have := World.ownsRow.lt (h.each j hj) b hb; exact hX b this.1 this.2), h.apart⟩
  rcases h.row with ⟨h1, ⟨e, h0⟩ | ⟨g, cap, cur, e, hg, hrow, rest⟩⟩
  · exact ⟨h1, .inl ⟨e, h0⟩⟩
  · have hlt := rl g (by rw [e]; rfl)
    exact ⟨h1, .inr ⟨g, cap, cur, e, hg, (k.block g hlt.2 (hX g hlt.1 hlt.2)).trans hrow, rest⟩⟩
theorem OPt.kp {w w' : World} {base : Nat} {X : Nat → Prop} {v : Value} {ps : List Pt} (h : OPt w base v ps) (k : Kp w w' X) (hX : ∀ j, base ≤ j → j < w.heap.size → ¬ X j) : OPt w' base v ps := by
  obtain ⟨vs, h⟩ := h; exact ⟨vs, h.kp k hX⟩
theorem OPtV.mono {w : World} {base base' : Nat} {v : Value} {ps : List Pt} {vs : List Value} (h : OPtV w base v ps vs) (hb : base' ≤ base) : OPtV w base' v ps vs := by
  refine ⟨h.len, ?_, fun k hk => OI.mono (h.each k hk) hb, h.apart⟩
  obtain ⟨h1, h2⟩ := h.row
  refine ⟨h1, ?_⟩
  rcases h2 with h2 | ⟨g, cap, cur, e, hg, rest⟩
  · exact .inl h2
  · exact .inr ⟨g, cap, cur, e, Nat.le_trans hb hg, rest⟩
theorem OPt.mono {w : World} {base base' : Nat} {v : Value} {ps : List Pt} (h : OPt w base v ps) (hb : base' ≤ base) : OPt w base' v ps := by
  obtain ⟨vs, h⟩ := h; exact ⟨vs, h.mono hb⟩
theorem opt_nil (w : World) (base : Nat) : OPt w base (.slice none 0 0) [] := ⟨[], rfl, World.ownsRow_nil _ _ _ _, fun k hk => by simp at hk, fun i j _ hj => by simp at hj⟩
theorem OPt.form {w : World} {base : Nat} {v : Value} {ps : List Pt} (h : OPt w base v ps) : ∃ ao ca, v = .slice ao ps.length ca := by
  obtain ⟨vs, h⟩ := h
  rcases h.row.2 with ⟨rfl, h0⟩ | ⟨g, cap, cur, rfl, _⟩
  · exact ⟨none, 0, by rw [h0]⟩
  · exact ⟨_, _, rfl⟩
/-- v reads as the parts ps, at whatever place. -/
def RPt (w : World) (v : Value) (ps : List Pt) : Prop :=
  ∃ ao cap, v = .slice ao ps.length cap ∧ (ps = [] ∨ ∃ g off, ao = some ⟨g, off, none⟩ ∧ ∀ k, k < ps.length → ∃ u, w.cell? ⟨g, off + k * 3, none⟩ = some (.int .i64 (ps.getD k zpt).1) ∧ w.cell? ⟨g, off + k * 3 + 1, none⟩ = some (.string (ps.getD k zpt).2.1) ∧ w.cell? ⟨g, off + k * 3 + 2, none⟩ = some u ∧ RI w u (ps.getD k zpt).2.2)
theorem pzip_get (ps : List Pt) (vs : List Value) (hl : vs.length = ps.length) (k : Nat) (hk : k < ps.length) : ((ps.map phd).zip vs).getD k ((0, ⟨#[]⟩), .slice none 0 0) = (phd (ps.getD k zpt), vs.getD k (.slice none 0 0)) := by
  rw [List.getD_eq_getElem?_getD, List.getElem?_eq_getElem (by simp; omega)]
  simp [List.getElem?_eq_getElem hk, List.getElem?_eq_getElem (show k < vs.length by omega)]
theorem pt_mem {ps : List Pt} {k : Nat} (hk : k < ps.length) : ps.getD k zpt ∈ ps := by
  rw [List.getD_eq_getElem?_getD, List.getElem?_eq_getElem hk]; exact List.getElem_mem hk
theorem OPt.rpt {w : World} {base : Nat} {v : Value} {ps : List Pt} (h : OPt w base v ps) (hs : ∀ p ∈ ps, p.2.2.length ≤ 4194304) : RPt w v ps := by
  obtain ⟨vs, h⟩ := h
  have hz : ((ps.map phd).zip vs).length = ps.length := by simp [h.len]
  rcases h.row.2 with ⟨rfl, h0⟩ | ⟨g, cap, cur, rfl, _⟩
  · exact ⟨none, 0, by rw [h0], .inl (List.length_eq_zero_iff.1 h0)⟩
  · refine ⟨_, cap, rfl, .inr ⟨g, 0, rfl, fun k hk => ?_⟩⟩
    have c0 := World.ownsRow.cellAt h.row (k * 3 + 0) (by omega)
    have c1 := World.ownsRow.cellAt h.row (k * 3 + 1) (by omega)
    have c2 := World.ownsRow.cellAt h.row (k * 3 + 2) (by omega)
    rw [pcells_get _ k _ (by omega) (by omega), pzip_get ps vs h.len k hk] at c0 c1 c2
    refine ⟨_, ?_, ?_, ?_, (h.each k hk).ri (hs _ (pt_mem hk))⟩
    · rw [Nat.zero_add]; exact c0
    · rw [Nat.zero_add]; exact c1
    · rw [Nat.zero_add]; exact c2
theorem RPt.below {w w' : World} {B : Nat} {v : Value} {ps : List Pt} (h : RPt w v ps) (hb : Below B w w') (hB : w.heap.size ≤ B) : RPt w' v ps := by
  obtain ⟨ao, cap, rfl, h⟩ := h
  refine ⟨ao, cap, rfl, ?_⟩
  rcases h with h | ⟨g, off, rfl, h⟩
  · exact .inl h
  · refine .inr ⟨g, off, rfl, fun k hk => ?_⟩
    obtain ⟨u, c0, c1, c2, r⟩ := h k hk
    have hg : g < B := Nat.lt_of_lt_of_le (cell_lt c0) hB
    exact ⟨u, (hb.cell (p := ⟨g, off + k * 3, none⟩) hg).trans c0, (hb.cell (p := ⟨g, off + k * 3 + 1, none⟩) hg).trans c1, (hb.cell (p := ⟨g, off + k * 3 + 2, none⟩) hg).trans c2, r.below hb hB⟩
theorem RPt.form {w : World} {v : Value} {ps : List Pt} (h : RPt w v ps) : ∃ ao ca, v = .slice ao ps.length ca := by obtain ⟨ao, ca, e, _⟩ := h; exact ⟨ao, ca, e⟩
theorem RPt.at {w : World} {ao : Option Addr} {n ca : Nat} {ps : List Pt} (h : RPt w (.slice ao n ca) ps) (k : Nat) (hk : k < ps.length) : ∃ g off u, ao = some ⟨g, off, none⟩ ∧ w.cell? ⟨g, off + k * 3, none⟩ = some (.int .i64 (ps.getD k zpt).1) ∧ w.cell? ⟨g, off + k * 3 + 1, none⟩ = some (.string (ps.getD k zpt).2.1) ∧ w.cell? ⟨g, off + k * 3 + 2, none⟩ = some u ∧ RI w u (ps.getD k zpt).2.2 := by
  obtain ⟨ao', ca', e, h⟩ := h
  cases e
  rcases h with rfl | ⟨g, off, rfl, h⟩
  · simp at hk
  · obtain ⟨u, h⟩ := h k hk; exact ⟨g, off, u, rfl, h⟩
/-- A table of the call's own in the blocks from lo on, below hi. -/
structure OPR (w : World) (lo hi : Nat) (v : Value) (ps : List Pt) (vs : List Value) : Prop where
  tab : OPtV w lo v ps vs
  top : hi ≤ w.heap.size
  rowHi : ∀ b, v.ownBlock = some b → b < hi
  eachHi : ∀ k, k < ps.length → ∀ b, (vs.getD k (.slice none 0 0)).ownBlock = some b → b < hi
theorem OPtV.opr {w : World} {base : Nat} {v : Value} {ps : List Pt} {vs : List Value} (h : OPtV w base v ps vs) : OPR w base w.heap.size v ps vs :=
  ⟨h, Nat.le_refl _, fun b hb => (World.ownsRow.lt h.row b hb).2, fun k hk b hb => (World.ownsRow.lt (h.each k hk) b hb).2⟩
theorem OPR.kp {w w' : World} {lo hi : Nat} {X : Nat → Prop} {v : Value} {ps : List Pt} {vs : List Value} (h : OPR w lo hi v ps vs) (k : Kp w w' X) (hX : ∀ j, lo ≤ j → j < hi → ¬ X j) : OPR w' lo hi v ps vs := by
  refine ⟨?_, Nat.le_trans h.top k.size, h.rowHi, h.eachHi⟩
  refine ⟨h.tab.len, ?_, fun j hj => (h.tab.each j hj).kp k (fun b hb => hX b (World.ownsRow.lt (h.tab.each j hj) b hb).1 (h.eachHi j hj b hb)), h.tab.apart⟩
  have rl := World.ownsRow.lt h.tab.row
  rcases h.tab.row with ⟨h1, ⟨e, h0⟩ | ⟨g, cap, cur, e, hg, hrow, rest⟩⟩
  · exact ⟨h1, .inl ⟨e, h0⟩⟩
  · have eo : v.ownBlock = some g := by rw [e]; rfl
    exact ⟨h1, .inr ⟨g, cap, cur, e, hg, (k.block g (rl g eo).2 (hX g (rl g eo).1 (h.rowHi g eo))).trans hrow, rest⟩⟩
theorem OPR.below {w w' : World} {lo hi : Nat} {v : Value} {ps : List Pt} {vs : List Value} (h : OPR w lo hi v ps vs) (hb : Below w.heap.size w w') : OPR w' lo hi v ps vs :=
  h.kp (Below.kpOf hb (fun _ => False)) (fun _ _ _ h => h)
theorem OPR.rpt {w : World} {lo hi : Nat} {v : Value} {ps : List Pt} {vs : List Value} (h : OPR w lo hi v ps vs) (hs : ∀ p ∈ ps, p.2.2.length ≤ 4194304) : RPt w v ps := OPt.rpt ⟨vs, h.tab⟩ hs
/-- A list's length is within its capacity. -/
def CapP (v : Value) : Prop := ∃ ao n cap, v = .slice ao n cap ∧ n ≤ cap ∧ cap ≤ maxLen
theorem OPtV.cap {w : World} {base : Nat} {v : Value} {ps : List Pt} {vs : List Value} (h : OPtV w base v ps vs) : CapP v := by
  rcases h.row.2 with ⟨rfl, h0⟩ | ⟨g, cap, cur, rfl, _, _, hca, hcm, _⟩
  · exact ⟨none, 0, 0, rfl, Nat.le_refl _, by unfold maxLen; omega⟩
  · exact ⟨_, _, cap, rfl, hca, hcm⟩
theorem OPt.cap {w : World} {base : Nat} {v : Value} {ps : List Pt} (h : OPt w base v ps) : CapP v := by obtain ⟨vs, h⟩ := h; exact h.cap
theorem OPR.cap {w : World} {lo hi : Nat} {v : Value} {ps : List Pt} {vs : List Value} (h : OPR w lo hi v ps vs) : CapP v := h.tab.cap
/-- One part more behind what is owned. -/
theorem opt_more {w w' : World} {base N : Nat} {v v' : Value} {ps : List Pt} {vs : List Value} {n : Int} {s : ByteArray} {u : Value} {xs : List Int} (h : OPtV w base v ps vs) (hu : OI w N u xs) (hN : ∀ k, k < ps.length → ∀ b, (vs.getD k (.slice none 0 0)).ownBlock = some b → b < N) (hbN : base ≤ N)
    (hr : w'.ownsRow base 31 3 v' (ps.length + 1) (pcells ((ps.map phd).zip vs) ++ pcell ((n, s), u))) (hg : w.grownBy w' v.ownBlock) : OPtV w' base v' (ps ++ [(n, s, xs)]) (vs ++ [u]) := by
  have keep : ∀ (x : Value) (zs : List Int) (B : Nat), OI w B x zs → OI w' B x zs := fun x zs B hx => World.ownsRow.kept hx hg (by
    cases hxo : x.ownBlock with
    | none => exact .inl rfl
    | some b => exact .inr fun e => pt_oi h.row hx b e.symm hxo)
  refine ⟨by simp [h.len], ?_, fun k hk => ?_, fun i j hij hj b hb => ?_⟩
  · have e : ((ps ++ [(n, s, xs)]).map phd).zip (vs ++ [u]) = (ps.map phd).zip vs ++ [((n, s), u)] := by
      rw [List.map_append, List.zip_append (by simp [h.len])]; rfl
    rw [e, pcells_append, List.length_append]
    simpa [pcells] using hr
  · rw [List.length_append, List.length_singleton] at hk
    by_cases e : k < ps.length
    · rw [List.getD_eq_getElem?_getD, List.getElem?_append_left (by rw [h.len]; exact e), ← List.getD_eq_getElem?_getD, List.getD_eq_getElem?_getD (l := ps ++ _), List.getElem?_append_left e, ← List.getD_eq_getElem?_getD]
      exact keep _ _ _ (h.each k e)
    · obtain rfl : k = ps.length := by omega
      have e1 : (vs ++ [u]).getD ps.length (.slice none 0 0) = u := by rw [← h.len]; simp
      have e2 : (ps ++ [(n, s, xs)]).getD ps.length zpt = (n, s, xs) := by simp
      rw [e1, e2]
      exact OI.mono (keep _ _ _ hu) hbN
  · rw [List.length_append, List.length_singleton] at hj
    have hi : i < ps.length := by omega
    rw [List.getD_eq_getElem?_getD, List.getElem?_append_left (by rw [h.len]; exact hi), ← List.getD_eq_getElem?_getD] at hb
    by_cases e : j < ps.length
    · rw [List.getD_eq_getElem?_getD, List.getElem?_append_left (by rw [h.len]; exact e), ← List.getD_eq_getElem?_getD]
      exact h.apart i j hij e b hb
    · obtain rfl : j = ps.length := by omega
      have e1 : (vs ++ [u]).getD ps.length (.slice none 0 0) = u := by rw [← h.len]; simp
      rw [e1]
      intro e3
      have := hN i hi b hb
      have := (World.ownsRow.lt hu b e3).1
      omega
end Go.Proofs.YtehdchpolgihlaaDoor

/- A part and a table of parts that came in. -/
namespace Go.Proofs.YtehdchpolgihlaaDoor
open Go.ChangeShapes Go.WideShapes Go.ChangeAt Go.RowKit
open Go.Joins
set_option linter.unusedSectionVars false
variable [∀ (a b c d : Int), Decidable (Ok4 a b c d)]
variable [∀ (n f : Int), Decidable (COk n f)]

set_option maxRecDepth 100000 in
theorem cellsPart : Tryd.prog.cellsOf 26 = 3 := by kernel_rfl
/-- A part as it came: its list at whatever place. -/
abbrev Pr := Int × ByteArray × Option Addr × Nat × List Int
def prz : Pr := (0, ⟨#[]⟩, none, 0, [])
def prp (r : Pr) : Pt := (r.1, r.2.1, r.2.2.2.2)
/-- What is known of a table that came in. -/
def ATab (W : World) (ao : Option Addr) (rs : List Pr) : Prop :=
  rs = [] ∨ ∃ g off, ao = some ⟨g, off, none⟩ ∧ ∀ k, k < rs.length → W.cell? ⟨g, off + k * 3, none⟩ = some (.int .i64 (rs.getD k prz).1) ∧ W.cell? ⟨g, off + k * 3 + 1, none⟩ = some (.string (rs.getD k prz).2.1) ∧ W.cell? ⟨g, off + k * 3 + 2, none⟩ = some (.slice (rs.getD k prz).2.2.1 (rs.getD k prz).2.2.2.2.length (rs.getD k prz).2.2.2.1)
theorem three_list {α : Type} {l : List α} (h : l.length = 3) : ∃ a b c, l = [a, b, c] := by
  match l, h with
  | [a, b, c], _ => exact ⟨a, b, c, rfl⟩
set_option maxRecDepth 100000 in
theorem open_part {H : Type} {enc : TypeId × Value → H} {W : World} {base : Nat} {v : Value} {d : DataW H} {p : List MemPlace} (hv : Value.okWide Tryd.prog W .any base 26 v)
    (h : DataW.Trod enc Tryd.prog W 0 (fun _ => true) true 26 v d p) :
    ∃ n s ao ca, ∃ xs : List Int, v = qv n s (.slice ao xs.length ca) ∧ s.size ≤ maxLen ∧ xs.length ≤ maxLen ∧ AIW W ao xs ∧ WfL xs := by
  obtain ⟨c0, c1, c2, y0, y1, y2, m, rfl, _, _, hy0, hy1, hy2⟩ := open_agg3 Tryd.underlying26 (by kernel_rfl) cellsPart hv h
  obtain ⟨a, e0, _, _⟩ := DataW.trod_int Tryd.underlying3 hy0
  obtain ⟨s, e1, _, hs⟩ := DataW.trod_string Tryd.underlying9 hy1
  obtain ⟨ao, ca, xs, rfl, hx, ax, wx⟩ := open_listW hy2
  simp at e0 e1
  exact ⟨a, s, ao, ca, xs, by rw [e0, e1], hs, hx, ax, wx⟩
theorem ATab.rpt {W : World} {ao : Option Addr} {ca : Nat} {rs : List Pr} (h : ATab W ao rs) (he : ∀ r ∈ rs, AIW W r.2.2.1 r.2.2.2.2) (hl : ∀ r ∈ rs, r.2.2.2.2.length ≤ 4194304) : RPt W (.slice ao rs.length ca) (rs.map prp) := by
  refine ⟨ao, ca, by simp, ?_⟩
  rcases h with rfl | ⟨g, off, rfl, h⟩
  · exact .inl rfl
  · refine .inr ⟨g, off, rfl, fun k hk => ?_⟩
    rw [List.length_map] at hk
    have hm : rs.getD k prz ∈ rs := by rw [List.getD_eq_getElem?_getD, List.getElem?_eq_getElem hk]; exact List.getElem_mem hk
    have e : (rs.map prp).getD k zpt = prp (rs.getD k prz) := by simp [List.getElem?_eq_getElem hk]
    obtain ⟨c0, c1, c2⟩ := h k hk
    rw [e]
    exact ⟨_, c0, c1, c2, (he _ hm).ri (hl _ hm)⟩
end Go.Proofs.YtehdchpolgihlaaDoor
