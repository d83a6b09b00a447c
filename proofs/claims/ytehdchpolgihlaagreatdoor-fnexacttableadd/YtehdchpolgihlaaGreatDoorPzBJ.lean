/- Texts that belong together: PartX, PartPx, PartIs, SetMap, PlacesOf. -/
import Derived.Test.YtehdchpolgihlaaGreatDoorPzBF
import Derived.ArgAppend
import Derived.Laws.Slices
import Derived.Test.YtehdchpolgihlaaGreatDoorPzAA
import Derived.LaidEql
import Derived.RowKitTokens
import Derived.Test.YtehdchpolgihlaaGreatDoorPzAB
import Derived.Maps.OwnSet
import Derived.Maps.RangeWalk
import Derived.Test.YtehdchpolgihlaaGreatDoorPzAO
/- PartX: a row of the call's own of parts whose lists are others'. -/
namespace Go.Proofs.YtehdchpolgihlaaGreatDoor
open Go.RowKit

/-- v is a row of the parts ps, made since the world w0, whose lists us read in w0 as they should. -/
structure XPt (w0 w : World) (v : Value) (ps : List Pt) (us : List Value) : Prop where
  len : us.length = ps.length
  row : w.ownsRow w0.heap.size 26 3 v ps.length (pcells ((ps.map phd).zip us))
  each : ∀ k, k < ps.length → RI w0 (us.getD k (.slice none 0 0)) (ps.getD k zpt).2.2
theorem xpt_nil (w0 w : World) : XPt w0 w (.slice none 0 0) [] [] :=
  ⟨rfl, World.ownsRow_nil _ _ _ _, fun k hk => by simp at hk⟩
theorem XPt.below {w0 w w' : World} {v : Value} {ps : List Pt} {us : List Value} (h : XPt w0 w v ps us) (hb : Below w.heap.size w w') : XPt w0 w' v ps us :=
  ⟨h.len, World.ownsRow.kept (row := none) h.row ⟨hb.os, hb.tape, hb.output, hb.size, fun k hk _ => hb.block k hk⟩ (by cases v.ownBlock <;> simp), h.each⟩
theorem XPt.form {w0 w : World} {v : Value} {ps : List Pt} {us : List Value} (h : XPt w0 w v ps us) : ∃ ao ca, v = .slice ao ps.length ca := by
  rcases h.row.2 with ⟨rfl, h0⟩ | ⟨g, cap, cur, rfl, _⟩
  · exact ⟨none, 0, by rw [h0]⟩
  · exact ⟨_, _, rfl⟩
theorem XPt.rpt {w0 w : World} {v : Value} {ps : List Pt} {us : List Value} (h : XPt w0 w v ps us) (hb : Below w0.heap.size w0 w) : RPt w v ps := by
  have hz : ((ps.map phd).zip us).length = ps.length := by simp [h.len]
  rcases h.row.2 with ⟨rfl, h0⟩ | ⟨g, cap, cur, rfl, _⟩
  · exact ⟨none, 0, by rw [h0], .inl (List.length_eq_zero_iff.1 h0)⟩
  · refine ⟨_, cap, rfl, .inr ⟨g, 0, rfl, fun k hk => ?_⟩⟩
    have c0 := World.ownsRow.cellAt h.row (k * 3 + 0) (by omega)
    have c1 := World.ownsRow.cellAt h.row (k * 3 + 1) (by omega)
    have c2 := World.ownsRow.cellAt h.row (k * 3 + 2) (by omega)
    rw [pcells_get _ k _ (by omega) (by omega), pzip_get ps us h.len k hk] at c0 c1 c2
    refine ⟨_, ?_, ?_, ?_, (h.each k hk).below hb (Nat.le_refl _)⟩
    · rw [Nat.zero_add]; exact c0
    · rw [Nat.zero_add]; exact c1
    · rw [Nat.zero_add]; exact c2
theorem xpt_more {w0 w' : World} {v' : Value} {ps : List Pt} {us : List Value} {m : Int} {s : ByteArray} {u : Value} {xs : List Int} (hl : us.length = ps.length) (he : ∀ k, k < ps.length → RI w0 (us.getD k (.slice none 0 0)) (ps.getD k zpt).2.2) (hu : RI w0 u xs)
    (hr : w'.ownsRow w0.heap.size 26 3 v' (ps.length + 1) (pcells ((ps.map phd).zip us) ++ pcell ((m, s), u))) : XPt w0 w' v' (ps ++ [(m, s, xs)]) (us ++ [u]) := by
  refine ⟨by simp [hl], ?_, fun k hk => ?_⟩
  · have e : ((ps ++ [(m, s, xs)]).map phd).zip (us ++ [u]) = (ps.map phd).zip us ++ [((m, s), u)] := by
      rw [List.map_append, List.zip_append (by simp [hl])]; rfl
    rw [e, pcells_append, List.length_append]
    simpa [pcells] using hr
  · rw [List.length_append, List.length_singleton] at hk
    by_cases e : k < ps.length
    · rw [List.getD_eq_getElem?_getD, List.getElem?_append_left (by rw [hl]; exact e), ← List.getD_eq_getElem?_getD, List.getD_eq_getElem?_getD (l := ps ++ _), List.getElem?_append_left e, ← List.getD_eq_getElem?_getD]
      exact he k e
    · obtain rfl : k = ps.length := by omega
      have e1 : (us ++ [u]).getD ps.length (.slice none 0 0) = u := by rw [← hl]; simp
      have e2 : (ps ++ [(m, s, xs)]).getD ps.length zpt = (m, s, xs) := by simp
      rw [e1, e2]
      exact hu
theorem append_x {ops : Array Oper} {rest : List Oper} {o : Oper} {a : Act} {Q : Exit → Act → World → Prop} {w : World} (hgd : o.guard = none) (s x : Operand)
    (ho : o.op = .call { callee := .builtin .append, args := #[s, x], argTypes := #[33, 33] }) (w0 : World) (v : Value) (ps : List Pt) (us : List Value) (g cp : Nat) (m : Int) (nm : ByteArray) (u : Value) (xs : List Int) (hs : a.eval s = v) (hx : a.eval x = .slice (some ⟨g, 0, none⟩) 1 cp)
    (htab : XPt w0 w v ps us) (c0 : w.cell? ⟨g, 0, none⟩ = some (.int .i64 m)) (c1 : w.cell? ⟨g, 1, none⟩ = some (.string nm)) (c2 : w.cell? ⟨g, 2, none⟩ = some u) (hu : RI w0 u xs)
    (hl : ps.length ≤ 4194304) (hbase : w0.heap.size ≤ w.heap.size)
    (h : ∀ v' w', XPt w0 w' v' (ps ++ [(m, nm, xs)]) (us ++ [u]) → w.grownBy w' v.ownBlock → wpList Tryz.prog ops Q rest (a.put o.dst v') w') :
    wpList Tryz.prog ops Q (o :: rest) a w := by
  obtain ⟨i0, hi, hz0, hz1, hz2⟩ := info_parts Tryz.infoPt
  have hn : ∀ j y, (pcell ((m, nm), u))[j]? = some y → w.cell? ((⟨g, 0, none⟩ : Addr).add j) = some y := by
    intro j y hj
    match j, hj with
    | 0, hj => simp [pcell] at hj; subst hj; simpa [Addr.add] using c0
    | 1, hj => simp [pcell] at hj; subst hj; simpa [Addr.add] using c1
    | 2, hj => simp [pcell] at hj; subst hj; simpa [Addr.add] using c2
    | j + 3, hj => simp [pcell] at hj
  have hp : ∀ y ∈ pcell ((m, nm), u), y.oneCell' = true := by
    intro y hy
    simp [pcell] at hy
    rcases hy with rfl | rfl | rfl
    · rfl
    · rfl
    · obtain ⟨a, c, rfl⟩ := hu.form; rfl
  refine wpList_append_own_at _ hgd s x 33 ho w0.heap.size 26 i0 (qv 0 ⟨#[]⟩ (.slice none 0 0)) 3 48 Tryz.underlying33 hi hz0 hz1 hz2 rfl (by decide) v ps.length (pcells ((ps.map phd).zip us)) hs htab.row ⟨g, 0, none⟩ 1 cp (pcell ((m, nm), u)) hx (by simp [pcell]) hn hp (by unfold maxLen; omega) (by omega) hbase ?_
  intro v' w' ho' hg' _ _
  exact h v' w' (xpt_more htab.len htab.each hu ho') hg'
end Go.Proofs.YtehdchpolgihlaaGreatDoor

/- PartPx: pieces of tables: at whatever place of a row; what an append of one does; what a cut is. -/
namespace Go.Proofs.YtehdchpolgihlaaGreatDoor
open Go.RowKit

/-- v reads as a row of the heads of ps and the list values us, at whatever place. -/
def PX (w : World) (v : Value) (ps : List Pt) (us : List Value) : Prop :=
  us.length = ps.length ∧ ∃ ao cap, v = .slice ao ps.length cap ∧ (ps = [] ∨ ∃ g off, ao = some ⟨g, off, none⟩ ∧ ∀ j u, (pcells ((ps.map phd).zip us))[j]? = some u → w.cell? ⟨g, off + j, none⟩ = some u)
theorem PX.below {w w' : World} {v : Value} {ps : List Pt} {us : List Value} (h : PX w v ps us) (hb : Below w.heap.size w w') : PX w' v ps us := by
  obtain ⟨hl, ao, cap, rfl, h⟩ := h
  refine ⟨hl, ao, cap, rfl, ?_⟩
  rcases h with h | ⟨g, off, rfl, h⟩
  · exact .inl h
  · exact .inr ⟨g, off, rfl, fun j u hj => (hb.cell (cell_lt (h j u hj))).trans (h j u hj)⟩
theorem PX.kp {w w' : World} {X : Nat → Prop} {v : Value} {ps : List Pt} {us : List Value} (h : PX w v ps us) (k : Kp w w' X) (hX : ∀ b, v.ownBlock = some b → ¬ X b) : PX w' v ps us := by
  obtain ⟨hl, ao, cap, rfl, h⟩ := h
  refine ⟨hl, ao, cap, rfl, ?_⟩
  rcases h with h | ⟨g, off, rfl, h⟩
  · exact .inl h
  · exact .inr ⟨g, off, rfl, fun j u hj => (World.cell?_of_block (a := ⟨g, off + j, none⟩) (k.block g (cell_lt (h j u hj)) (hX g rfl))).trans (h j u hj)⟩
theorem pcells_at {l : List ((Int × ByteArray) × Value)} {j : Nat} {u : Value} (h : (pcells l)[j]? = some u) : j / 3 < l.length ∧ j % 3 < 3 ∧ (pcell (l.getD (j / 3) ((0, ⟨#[]⟩), .slice none 0 0)))[j % 3]? = some u := by
  have hj : j < (pcells l).length := (List.getElem?_eq_some_iff.1 h).1
  rw [pcells_len] at hj
  have h1 : j / 3 < l.length := by omega
  refine ⟨h1, by omega, ?_⟩
  rw [← pcells_get l (j / 3) (j % 3) h1 (by omega), show j / 3 * 3 + j % 3 = j by omega]
  exact h
theorem RPt.px {w : World} {v : Value} {ps : List Pt} (h : RPt w v ps) : ∃ us, PX w v ps us ∧ ∀ k, k < ps.length → RI w (us.getD k (.slice none 0 0)) (ps.getD k zpt).2.2 := by
  obtain ⟨ao, cap, rfl, h⟩ := h
  rcases h with rfl | ⟨g, off, rfl, h⟩
  · exact ⟨[], ⟨rfl, _, _, rfl, .inl rfl⟩, fun k hk => by simp at hk⟩
  · let us : List Value := (List.range ps.length).map fun k => if hk : k < ps.length then Classical.choose (h k hk) else .slice none 0 0
    have hlen : us.length = ps.length := by simp [us]
    have hget : ∀ k (hk : k < ps.length), us.getD k (.slice none 0 0) = Classical.choose (h k hk) := fun k hk => by
      simp [us, hk]
    refine ⟨us, ⟨hlen, _, _, rfl, .inr ⟨g, off, rfl, fun j u hj => ?_⟩⟩, fun k hk => ?_⟩
    · obtain ⟨h1, h2, h3⟩ := pcells_at hj
      have hk : j / 3 < ps.length := by simpa [hlen] using h1
      rw [pzip_get ps us hlen _ hk, hget _ hk] at h3
      have hc := Classical.choose_spec (h (j / 3) hk)
      have hj3 : j = j / 3 * 3 + j % 3 := by omega
      generalize j / 3 = q at *
      generalize j % 3 = r at *
      subst hj3
      match r, h2, h3 with
      | 0, _, h3 => simp [pcell, phd] at h3; subst h3; exact hc.1
      | 1, _, h3 => simp [pcell, phd] at h3; subst h3; exact hc.2.1
      | 2, _, h3 => simp [pcell, phd] at h3; subst h3; exact hc.2.2.1
    · rw [hget k hk]
      exact (Classical.choose_spec (h k hk)).2.2.2
theorem pcells_take (l : List ((Int × ByteArray) × Value)) (k j : Nat) (u : Value) (h : (pcells (l.take k))[j]? = some u) : (pcells l)[j]? = some u := by
  have : pcells l = pcells (l.take k) ++ pcells (l.drop k) := by rw [← pcells_append, List.take_append_drop]
  rw [this]
  exact (List.getElem?_append_left (List.getElem?_eq_some_iff.1 h).1).trans h
theorem pcells_drop (l : List ((Int × ByteArray) × Value)) (k j : Nat) (u : Value) (hk : k ≤ l.length) (h : (pcells (l.drop k))[j]? = some u) : (pcells l)[k * 3 + j]? = some u := by
  have e : pcells l = pcells (l.take k) ++ pcells (l.drop k) := by rw [← pcells_append, List.take_append_drop]
  have hl : (pcells (l.take k)).length = k * 3 := by rw [pcells_len, List.length_take]; congr 1; omega
  rw [e, List.getElem?_append_right (by omega), hl, show k * 3 + j - k * 3 = j by omega]
  exact h
theorem PX.drop {w : World} {ao : Option Addr} {n cap : Nat} {ps : List Pt} {us : List Value} (h : PX w (.slice ao n cap) ps us) (k : Nat) (hk : k ≤ n) (cap' : Nat) {bo : Option Addr} (hb : ∀ g off, ao = some ⟨g, off, none⟩ → k < n → bo = some ⟨g, off + k * 3, none⟩) : PX w (.slice bo (n - k) cap') (ps.drop k) (us.drop k) := by
  obtain ⟨hl, ao', cap0, e, h⟩ := h
  cases e
  refine ⟨by simp [hl], bo, cap', by simp, ?_⟩
  rcases h with rfl | ⟨g, off, rfl, h⟩
  · left; simp
  · by_cases hlt : k < ps.length
    · refine .inr ⟨g, off + k * 3, hb g off rfl hlt, fun j u hj => ?_⟩
      have e : ((ps.drop k).map phd).zip (us.drop k) = ((ps.map phd).zip us).drop k := by
        rw [List.zip_eq_zipWith, List.zip_eq_zipWith, List.drop_zipWith, List.map_drop]
      rw [e] at hj
      have := h _ u (pcells_drop _ k j u (by simp [hl]; omega) hj)
      rwa [show off + k * 3 + j = off + (k * 3 + j) by omega]
    · left; simp; omega
/-- The first append: onto a piece that has no room left. -/
theorem append_first {ops : Array Oper} {rest : List Oper} {o : Oper} {a : Act} {Q : Exit → Act → World → Prop} {w : World} (hgd : o.guard = none) (s x : Operand)
    (ho : o.op = .call { callee := .builtin .append, args := #[s, x], argTypes := #[33, 33] }) (w0 : World) (ao : Option Addr) (n ca k : Nat) (ps : List Pt) (us : List Value) (g : Nat) (m : Int) (nm : ByteArray) (u : Value) (xs : List Int) (hs : a.eval s = .slice ao k k) (hx : a.eval x = .slice (some ⟨g, 0, none⟩) 1 1)
    (hp : PX w (.slice ao n ca) ps us) (hk : k ≤ n) (he : ∀ k, k < ps.length → RI w0 (us.getD k (.slice none 0 0)) (ps.getD k zpt).2.2) (c0 : w.cell? ⟨g, 0, none⟩ = some (.int .i64 m)) (c1 : w.cell? ⟨g, 1, none⟩ = some (.string nm)) (c2 : w.cell? ⟨g, 2, none⟩ = some u) (hu : RI w0 u xs)
    (hl : ps.length ≤ 4194304) (hbase : w0.heap.size ≤ w.heap.size)
    (h : ∀ v' w', XPt w0 w' v' (ps.take k ++ [(m, nm, xs)]) (us.take k ++ [u]) → w.grownBy w' none → wpList Tryz.prog ops Q rest (a.put o.dst v') w') :
    wpList Tryz.prog ops Q (o :: rest) a w := by
  obtain ⟨i0, hi, hz0, hz1, hz2⟩ := info_parts Tryz.infoPt
  obtain ⟨hlu, ao', cap0, e, hp⟩ := hp
  cases e
  have hn : ∀ j y, (pcell ((m, nm), u))[j]? = some y → w.cell? ((⟨g, 0, none⟩ : Addr).add j) = some y := by
    intro j y hj
    match j, hj with
    | 0, hj => simp [pcell] at hj; subst hj; simpa [Addr.add] using c0
    | 1, hj => simp [pcell] at hj; subst hj; simpa [Addr.add] using c1
    | 2, hj => simp [pcell] at hj; subst hj; simpa [Addr.add] using c2
    | j + 3, hj => simp [pcell] at hj
  have h1c : ∀ y ∈ pcell ((m, nm), u), y.oneCell' = true := by
    intro y hy
    simp [pcell] at hy
    rcases hy with rfl | rfl | rfl
    · rfl
    · rfl
    · obtain ⟨a, c, rfl⟩ := hu.form; rfl
  have ez : ((ps.take k).map phd).zip (us.take k) = ((ps.map phd).zip us).take k := by rw [List.zip_eq_zipWith, List.zip_eq_zipWith, List.take_zipWith, List.map_take]
  have hlk : (ps.take k).length = k := by simp; omega
  have hlo : (pcells (((ps.take k).map phd).zip (us.take k))).length = k * 3 := by rw [pcells_len]; simp [hlu]; omega
  refine wpList_append_grows (P := Tryz.prog) w hgd s x 33 ho 26 i0 (qv 0 ⟨#[]⟩ (.slice none 0 0)) 3 48 Tryz.underlying33 hi hz0 hz1 hz2 rfl (by decide) ao k k (pcells (((ps.take k).map phd).zip (us.take k))) hs ?_ hlo ?_ ⟨g, 0, none⟩ 1 1 (pcell ((m, nm), u)) hx (by simp [pcell]) hn h1c (by omega) (by unfold maxLen; omega) (by omega) ?_
  · intro e
    rcases hp with rfl | ⟨g', off, e', _⟩
    · simp at hk; omega
    · rw [e] at e'; cases e'
  · intro b hb j y hj
    rcases hp with rfl | ⟨g', off, e', hc⟩
    · simp [pcells] at hj
    · rw [hb] at e'
      cases e'
      rw [ez] at hj
      have e : ((⟨g', off, none⟩ : Addr).add j) = ⟨g', off + j, none⟩ := by unfold Addr.add; split <;> simp_all
      rw [e]
      exact hc j y (pcells_take _ k j y hj)
  · intro v' w' ho' hg'
    refine h v' w' ?_ hg'
    refine xpt_more (by simp [hlu]) (fun j hj => ?_) hu ?_
    · rw [hlk] at hj
      have e1 : (us.take k).getD j (.slice none 0 0) = us.getD j (.slice none 0 0) := by simp [hj]
      have e2 : (ps.take k).getD j zpt = ps.getD j zpt := by simp [hj]
      rw [e1, e2]
      exact he j (by omega)
    · rw [hlk]
      obtain ⟨r1, r2⟩ := ho'
      refine ⟨r1, ?_⟩
      rcases r2 with r2 | ⟨g', cap', cur, e, hg, rest⟩
      · exact .inl r2
      · exact .inr ⟨g', cap', cur, e, Nat.le_trans hbase hg, rest⟩
theorem run_append_nothingP (ty : TypeId) (base cap : Nat) (v : Value) (n : Nat) (xs : List Value) (ao : Option Addr) (w : World) (hown : w.ownsRow base 26 3 v n xs) :
    (Builtin.append_ #[33, 33] ty #[v, .slice ao 0 cap]).run Tryz.prog w = .ok v w := by
  obtain ⟨i0, hi, hz0, hz1, hz2⟩ := info_parts Tryz.infoPt
  have hlc : ∀ a, (loadCells a 0).run Tryz.prog w = .ok #[] w := fun a => run_loadCells_list w a [] (by simp)
  rcases hown.2 with ⟨rfl, rfl⟩ | ⟨g, cp, cur, rfl, _, _, hnc, _⟩
  · cases ao <;> simp [Builtin.append_, run_underlying Tryz.underlying33, sizeOf, typeInfo, hi, Builtin.lenOf, Builtin.firstCells, hlc]
  · cases ao <;> simp [Builtin.append_, run_underlying Tryz.underlying33, sizeOf, typeInfo, hi, Builtin.lenOf, Builtin.firstCells, hnc, storeCells, hlc]
theorem xpt_app {w0 w' : World} {v' : Value} {ps qs : List Pt} {us ws : List Value} (hl : us.length = ps.length) (hl' : ws.length = qs.length) (he : ∀ k, k < ps.length → RI w0 (us.getD k (.slice none 0 0)) (ps.getD k zpt).2.2) (he' : ∀ k, k < qs.length → RI w0 (ws.getD k (.slice none 0 0)) (qs.getD k zpt).2.2)
    (hr : w'.ownsRow w0.heap.size 26 3 v' (ps.length + qs.length) (pcells ((ps.map phd).zip us) ++ pcells ((qs.map phd).zip ws))) : XPt w0 w' v' (ps ++ qs) (us ++ ws) := by
  refine ⟨by simp [hl, hl'], ?_, fun k hk => ?_⟩
  · have e : ((ps ++ qs).map phd).zip (us ++ ws) = (ps.map phd).zip us ++ (qs.map phd).zip ws := by
      rw [List.map_append, List.zip_append (by simp [hl])]
    rw [e, pcells_append, List.length_append]
    exact hr
  · rw [List.length_append] at hk
    by_cases e : k < ps.length
    · rw [List.getD_eq_getElem?_getD, List.getElem?_append_left (by rw [hl]; exact e), ← List.getD_eq_getElem?_getD, List.getD_eq_getElem?_getD (l := ps ++ _), List.getElem?_append_left e, ← List.getD_eq_getElem?_getD]
      exact he k e
    · rw [List.getD_eq_getElem?_getD, List.getElem?_append_right (by rw [hl]; omega), ← List.getD_eq_getElem?_getD, List.getD_eq_getElem?_getD (l := ps ++ _), List.getElem?_append_right (by omega), ← List.getD_eq_getElem?_getD, hl]
      exact he' _ (by omega)
/-- The second append: of a piece onto a row of the call's own. -/
theorem append_xp {ops : Array Oper} {rest : List Oper} {o : Oper} {a : Act} {Q : Exit → Act → World → Prop} {w : World} (hgd : o.guard = none) (s x : Operand)
    (ho : o.op = .call { callee := .builtin .append, args := #[s, x], argTypes := #[33, 33] }) (w0 : World) (v bv : Value) (ps qs : List Pt) (us ws : List Value) (hs : a.eval s = v) (hx : a.eval x = bv)
    (X : XPt w0 w v ps us) (hp : PX w bv qs ws) (he : ∀ k, k < qs.length → RI w0 (ws.getD k (.slice none 0 0)) (qs.getD k zpt).2.2) (hl : ps.length + qs.length ≤ 4194304) (hbase : w0.heap.size ≤ w.heap.size)
    (h : ∀ v' w', XPt w0 w' v' (ps ++ qs) (us ++ ws) → w.grownBy w' v.ownBlock → wpList Tryz.prog ops Q rest (a.put o.dst v') w') :
    wpList Tryz.prog ops Q (o :: rest) a w := by
  obtain ⟨i0, hi, hz0, hz1, hz2⟩ := info_parts Tryz.infoPt
  obtain ⟨hlw, ao, cap, rfl, hp⟩ := hp
  rcases hp with rfl | ⟨g, off, rfl, hc⟩
  · obtain rfl : ws = [] := List.eq_nil_of_length_eq_zero (by simpa using hlw)
    refine wpList_plain hgd fun K hK => ?_
    have hrun := run_append_nothingP o.type w0.heap.size cap v ps.length _ ao w X.row
    unfold Oper.wp
    simp only [List.length_nil] at hx
    simp [execOp, ho, resolve, invoke, builtin, hs, hx, hrun, Result.andThen]
    exact hK _ _ (h v w (by simpa using X) (grown_refl _ _))
  · have hn : ∀ j y, (pcells ((qs.map phd).zip ws))[j]? = some y → w.cell? ((⟨g, off, none⟩ : Addr).add j) = some y := by
      intro j y hj
      have e : ((⟨g, off, none⟩ : Addr).add j) = ⟨g, off + j, none⟩ := by unfold Addr.add; split <;> simp_all
      rw [e]; exact hc j y hj
    have h1c : ∀ y ∈ pcells ((qs.map phd).zip ws), y.oneCell' = true := by
      intro y hy
      obtain ⟨j, hj⟩ := List.getElem?_of_mem hy
      obtain ⟨h1, h2, h3⟩ := pcells_at hj
      have hk : j / 3 < qs.length := by simpa [hlw] using h1
      rw [pzip_get qs ws hlw _ hk] at h3
      obtain ⟨ua, uc, hu⟩ := (he _ hk).form
      rw [hu] at h3
      have hm := List.mem_of_getElem? h3
      simp [pcell] at hm
      rcases hm with rfl | rfl | rfl <;> rfl
    have hln : (pcells ((qs.map phd).zip ws)).length = qs.length * 3 := by rw [pcells_len]; simp [hlw]
    refine wpList_append_own_at _ hgd s x 33 ho w0.heap.size 26 i0 (qv 0 ⟨#[]⟩ (.slice none 0 0)) 3 48 Tryz.underlying33 hi hz0 hz1 hz2 rfl (by decide) v ps.length (pcells ((ps.map phd).zip us)) hs X.row ⟨g, off, none⟩ qs.length cap (pcells ((qs.map phd).zip ws)) hx hln hn h1c (by unfold maxLen; omega) (by omega) hbase ?_
    intro v' w' ho' hg' _ _
    exact h v' w' (xpt_app X.len hlw X.each he ho') hg'
set_option maxRecDepth 100000 in
theorem cut3_to (ao : Option Addr) (n ca k : Nat) (w : World) (hk : k ≤ ca) :
    (Instr.slice 33 (.slice ao n ca) none (some (.int .i64 (k : Int))) (some (.int .i64 (k : Int)))).run Tryz.prog w = .ok (.slice ao k k) w := by
  obtain ⟨i0, hi, hz0, hz1, hz2⟩ := info_parts Tryz.infoPt
  rw [run_slice_hm (ht := Tryz.underlying33) (kh := .i64) (km := .i64) (h := (k : Int)) (m := (k : Int)) (h0 := by omega) (h2 := by omega) (h3 := by omega)]
  have he : Tryz.prog.elem 33 = 26 := by simp [Program.elem, Tryz.underlying33]
  have hs : (sizeOf (Tryz.prog.elem 33)).run Tryz.prog w = .ok 3 w := by rw [he]; simp [sizeOf, typeInfo, hi, hz1]
  rw [hs]
  simp [sliced, Result.andThen]
  intro _; cases ao <;> rfl
set_option maxRecDepth 100000 in
theorem cut3_from (ao : Option Addr) (n ca k : Nat) (w : World) (hk : k ≤ n) :
    (Instr.slice 33 (.slice ao n ca) (some (.int .i64 (k : Int))) none none).run Tryz.prog w = .ok (.slice (if ca = k then ao else ao.map (·.add (k * 3))) (n - k) (ca - k)) w := by
  obtain ⟨i0, hi, hz0, hz1, hz2⟩ := info_parts Tryz.infoPt
  rw [run_slice_l (ht := Tryz.underlying33) (kl := .i64) (l := (k : Int)) (h0 := by omega) (h1 := by omega)]
  have he : Tryz.prog.elem 33 = 26 := by simp [Program.elem, Tryz.underlying33]
  have hs : (sizeOf (Tryz.prog.elem 33)).run Tryz.prog w = .ok 3 w := by rw [he]; simp [sizeOf, typeInfo, hi, hz1]
  rw [hs]
  simp [sliced, Result.andThen]
end Go.Proofs.YtehdchpolgihlaaGreatDoor

/- PartIs: errors.Is where the target is an error of errors.New's make: of nil, and of that error itself. -/
namespace Go.Proofs.YtehdchpolgihlaaGreatDoor
open Go.RowKit Go.Extern

theorem Tryz.isTypeOf (v : Value) (w : World) : (Extern.ReflectliteType.typeOf #[.iface 237 v]).run Tryz.prog w = .ok (.iface 150 (.agg #[.pointer (some ⟨8, 237, none⟩)])) w := by kernel_rfl
theorem Tryz.isComparable (w : World) : ((Extern.ReflectliteType.method fun t => do Go.Extern.Rtype.noPackHeld "Comparable" t; pure (.bool (← typeInfo t).comparable)) #[.agg #[.pointer (some ⟨8, 237, none⟩)]]).run Tryz.prog w = .ok (.bool true) w := by kernel_rfl
theorem Tryz.isMethodComparable (v : Value) (w : World) : (Go.method 387 150 v "Comparable").run Tryz.prog w = .ok (232, v) w := by kernel_rfl
theorem Tryz.isComp : (Tryz.prog.info? 237).map (·.comparable) = some true := by kernel_rfl
theorem Tryz.isSize : (Tryz.prog.info? 239).map (·.size) = some 1 := by kernel_rfl

set_option maxHeartbeats 1600000 in
set_option maxRecDepth 100000 in
/-- errors.is(x, x, true), x a pointer to an errors.errorString. -/
theorem is_same0 (a : Addr) (w : World) :
    Calls Tryz.prog 109 #[.iface 237 (.pointer (some a)), .iface 237 (.pointer (some a)), .bool true] w fun e w' => e = .returned (.bool true) ∧ w' = w := by
  obtain ⟨i, hi, hcmp⟩ := Option.map_eq_some_iff.1 Tryz.isComp
  obtain ⟨j, hj, hjs⟩ := Option.map_eq_some_iff.1 Tryz.isSize
  have heq := run_eql_iface_ptr_same (P := Tryz.prog) w a Tryz.underlying80 Tryz.underlying237 hi hcmp hj
  go_enter Tryz.func109, Tryz.ntmps109
  go_wp2
  refine wp_loop_rounds 1 ?_
  rw [rounds_succ]
  go_wp2
  go_ret
  exact ⟨rfl, rfl⟩

set_option maxHeartbeats 1600000 in
set_option maxRecDepth 100000 in
/-- errors.Is(x, x), x a pointer to an errors.errorString. -/
theorem is_same (a : Addr) (w : World) :
    Calls Tryz.prog 56 #[.iface 237 (.pointer (some a)), .iface 237 (.pointer (some a))] w fun e w' => e = .returned (.bool true) ∧ w' = w := by
  have h8 := @run_callFunc_extern Tryz.prog 108 _ Extern.ReflectliteType.typeOf Tryz.func108 (by kernel_rfl) (by kernel_rfl) (by kernel_rfl) (by kernel_rfl)
  have h32 := @run_callFunc_extern Tryz.prog 232 _ (Extern.ReflectliteType.method fun t => do Go.Extern.Rtype.noPackHeld "Comparable" t; pure (.bool (← typeInfo t).comparable)) Tryz.func232 (by kernel_rfl) (by kernel_rfl) (by kernel_rfl) (by kernel_rfl)
  have tT := Tryz.isTypeOf
  have cT := Tryz.isComparable
  have mR := Tryz.isMethodComparable
  generalize (Extern.ReflectliteType.method fun t => do Go.Extern.Rtype.noPackHeld "Comparable" t; pure (.bool (← typeInfo t).comparable)) = CE at h32 cT
  have IS := hide (is_same0 a)
  go_enter Tryz.func56, Tryz.ntmps56
  go_wp2_with (first | (go_at_call 109; refine (unhide IS _).mono ?_; rintro e w' ⟨rfl, rfl⟩))
  go_ret
  exact ⟨rfl, rfl⟩

set_option maxHeartbeats 1600000 in
set_option maxRecDepth 100000 in
/-- errors.Is(nil, x). -/
theorem is_nil (b : Addr) (w : World) :
    Calls Tryz.prog 56 #[.nilIface, .iface 237 (.pointer (some b))] w fun e w' => e = .returned (.bool false) ∧ w' = w := by
  have hn := run_eql_iface_nil_left (P := Tryz.prog) w 237 (.pointer (some b)) Tryz.underlying80
  go_enter Tryz.func56, Tryz.ntmps56
  go_wp2
  go_ret
  exact ⟨rfl, rfl⟩
end Go.Proofs.YtehdchpolgihlaaGreatDoor

/- A map of numbers to how many: plain mathematics. -/
namespace Go.Proofs.YtehdchpolgihlaaGreatDoor
open Go.RowKit

abbrev kl (x : Int) : Lit := .int .i64 x
abbrev nl (x : Int) : DataW Unit := .lit (.int .i64 x)
theorem kl_key (x : Int) : WideAt.IsKeyLit (kl x) := trivial
theorem kl_ne {x y : Int} (h : y ≠ x) : kl y ≠ kl x := fun e => h (by injection e)
theorem kl_same (x y : Int) : (kl y).sameKey (kl x) = decide (y = x) := by
  by_cases h : y = x
  · subst h; simp [Lit.sameKey]
  · simp [Lit.sameKey, h]
/-- The map D holds of each number at how many places of L it stands. -/
def Counts (D : DataW Unit) (L : List Int) : Prop :=
  Maps.IsMap D ∧ ∀ x : Int, Maps.has D (kl x) = decide (x ∈ L) ∧ D.atKey (kl x) (nl 0) = nl ((L.count x : Nat) : Int)
theorem Counts.start : Counts (.map []) [] := ⟨Maps.isMap_empty, fun x => ⟨by simp [Maps.has], by simp [DataW.atKey]⟩⟩
theorem Counts.put {D : DataW Unit} {L : List Int} (h : Counts D L) (x : Int) : Counts (D.put (kl x) (nl (((L.count x : Nat) : Int) + 1))) (L ++ [x]) := by
  refine ⟨h.1.put _ _, fun y => ?_⟩
  by_cases hy : y = x
  · subst hy
    rw [Maps.has_put_same h.1 (kl_key _), Maps.atKey_put_same h.1 (kl_key _)]
    simp [List.count_append]
  · rw [Maps.has_put_other (kl_ne hy), Maps.atKey_put_other (kl_ne hy), (h.2 y).1, (h.2 y).2]
    have hyx : ¬ x = y := fun e => hy e.symm
    simp [List.count_append, hy, hyx]
theorem Counts.del {D : DataW Unit} {L : List Int} (h : Counts D L) (x : Int) : Counts (D.del (kl x)) (L.filter fun y => decide (y ≠ x)) := by
  refine ⟨h.1.del _, fun y => ?_⟩
  by_cases hy : y = x
  · subst hy
    rw [Maps.has_del_same, Maps.atKey_del_same]
    have hc : (L.filter fun z => decide (z ≠ y)).count y = 0 := List.count_eq_zero.2 (by simp)
    rw [hc]
    exact ⟨by simp, rfl⟩
  · rw [Maps.has_del_other (kl_ne hy), Maps.atKey_del_other (kl_ne hy), (h.2 y).1, (h.2 y).2]
    have hc : (L.filter fun z => decide (z ≠ x)).count y = L.count y := List.count_filter (by simpa using hy)
    rw [hc]
    exact ⟨by simp [hy], rfl⟩
/-- Those of a that are in none of the first of b. -/
def loneL (a b : List Int) : List Int := a.filter fun x => decide (x ∉ b)
theorem lone_nil (a : List Int) : loneL a [] = a := by unfold loneL; simp
theorem lone_snoc (a b : List Int) (x : Int) : (loneL a b).filter (fun y => decide (y ≠ x)) = loneL a (b ++ [x]) := by
  unfold loneL
  rw [List.filter_filter]
  congr 1
  funext y
  by_cases h1 : y ∈ b <;> by_cases h2 : y = x <;> simp [h1, h2]
theorem lone_len (a b : List Int) : (a.length : Int) - ((loneL a b).length : Int) = (comL a b : Int) := by
  have := com_split a b
  unfold loneL
  omega
/-- How many places of L hold a number that has come. -/
def cameL (L : List Int) (left : Lit → Bool) : Nat := (L.filter fun y => !left (kl y)).length
theorem came_start {D : DataW Unit} {L : List Int} (h : Counts D L) : cameL L (Maps.has D) = 0 := by
  unfold cameL
  rw [List.length_eq_zero_iff, List.filter_eq_nil_iff]
  intro y hy
  simp [(h.2 y).1, hy]
theorem came_step (L : List Int) (left : Lit → Bool) (x : Int) (hx : left (kl x) = true) : cameL L (fun z => left z && !z.sameKey (kl x)) = cameL L left + L.count x := by
  unfold cameL
  induction L with
  | nil => rfl
  | cons c L ih =>
    rw [List.filter_cons, List.filter_cons, List.count_cons]
    by_cases hc : c = x
    · subst hc
      simp only [kl_same, hx, beq_self_eq_true]
      simp
      simp [kl_same] at ih
      omega
    · simp only [kl_same, decide_eq_false hc, Bool.not_false, Bool.and_true]
      have : (c == x) = false := by simpa using hc
      simp only [this]
      simp only [kl_same] at ih
      split <;> simp_all <;> omega
theorem came_end (L : List Int) (left : Lit → Bool) (h : ∀ z, left z = false) : cameL L left = L.length := by
  unfold cameL
  simp [h]
theorem came_le (L : List Int) (left : Lit → Bool) : cameL L left ≤ L.length := List.length_filter_le _ _
theorem Counts.count {D : DataW Unit} {L : List Int} (h : Counts D L) {x c : Int} (hat : ∀ zd, D.atKey (kl x) zd = nl c) : c = ((L.count x : Nat) : Int) := by
  have := (h.2 x).2
  rw [hat] at this
  simpa using this
/-- The keys that have come. -/
def Coll (D : DataW Unit) (left : Lit → Bool) (ss : List Int) : Prop := ss.Nodup ∧ ∀ x, x ∈ ss ↔ (Maps.has D (kl x) = true ∧ left (kl x) = false)
theorem Coll.start (D : DataW Unit) : Coll D (Maps.has D) [] := ⟨List.nodup_nil, fun x => by cases Maps.has D (kl x) <;> simp⟩
theorem Coll.step {D : DataW Unit} {left : Lit → Bool} {ss : List Int} (h : Coll D left ss) {x c : Int} (hlk : left (kl x) = true) (hat : ∀ zd, D.atKey (kl x) zd = nl c) : Coll D (fun z => left z && !z.sameKey (kl x)) (ss ++ [x]) := by
  have hhas : Maps.has D (kl x) = true := Maps.has_true_of_atKey hat
  have hnew : x ∉ ss := fun hx => by have := ((h.2 x).1 hx).2; rw [hlk] at this; cases this
  refine ⟨List.nodup_append.2 ⟨h.1, by simp, fun a ha b hb => by simp at hb; subst hb; exact fun e => hnew (e ▸ ha)⟩, fun y => ?_⟩
  by_cases hy : y = x
  · subst hy; simp [hhas, kl_same]
  · simp [h.2 y, hy, kl_same]
theorem sorted_asc {ss : List Int} (h : ss.Nodup) : (ss.mergeSort fun x y => decide (x ≤ y)).Pairwise (· < ·) := by
  have p1 : (ss.mergeSort fun x y => decide (x ≤ y)).Pairwise (fun x y => decide (x ≤ y) = true) := List.pairwise_mergeSort (fun a b c h1 h2 => by simp at *; omega) (fun a b => by simp; omega) ss
  have p2 : (ss.mergeSort fun x y => decide (x ≤ y)).Nodup := ((List.mergeSort_perm ss _).nodup_iff).2 h
  have := List.Pairwise.and p1 p2
  exact this.imp fun {a b} hh => by
    have h1 := hh.1
    have h2 := hh.2
    simp at h1
    omega
theorem Coll.joined {D : DataW Unit} {left : Lit → Bool} {ss a b : List Int} (h : Coll D left ss) (hc : Counts D (a ++ b)) (hl : ∀ z, left z = false) : (ss.mergeSort fun x y => decide (x ≤ y)) = joinL a b := by
  refine join_is (sorted_asc h.1) fun x => ?_
  rw [(List.mergeSort_perm ss _).mem_iff, h.2 x, (hc.2 x).1, hl]
  simp
end Go.Proofs.YtehdchpolgihlaaGreatDoor

/- impl.placesOf. -/
namespace Go.Proofs.YtehdchpolgihlaaGreatDoor
open Go.RowKit

theorem klaw : Maps.Keyed Tryz.prog 3 := Maps.int_keyed Tryz.underlying3
theorem kzero (w : World) : (zeroValue 3).run Tryz.prog w = .ok (.int .i64 0) w := by kernel_rfl
/-- Block b is a map that counts L. -/
def MC (w : World) (b : Nat) (L : List Int) : Prop := ∃ D, w.ownsMap Tryz.prog 3 (plainElem (H := Unit) Tryz.prog 3) b L.length D ∧ Counts D L
theorem MC.kept {w w' : World} {b : Nat} {row : Option Nat} {L : List Int} (h : MC w b L) (hg : w.grownBy w' row) (hne : some b ≠ row) : MC w' b L := by
  obtain ⟨D, h1, h2⟩ := h; exact ⟨D, h1.kept hg hne, h2⟩
/-- The first k lists, one behind the other. -/
def catL (ls : Nat → List Int) : Nat → List Int
  | 0 => []
  | k + 1 => catL ls k ++ ls k
theorem cat_le (ls : Nat → List Int) {k n : Nat} (h : k ≤ n) : (catL ls k).length ≤ (catL ls n).length := by
  induction n with
  | zero => obtain rfl : k = 0 := by omega
            exact Nat.le_refl _
  | succ n ih =>
    by_cases e : k = n + 1
    · subst e; exact Nat.le_refl _
    · have := ih (by omega)
      show _ ≤ (catL ls n ++ ls n).length
      rw [List.length_append]; omega
theorem cat_step (ls : Nat → List Int) {k n : Nat} (h : k < n) : (catL ls k).length + (ls k).length ≤ (catL ls n).length := by
  have := cat_le ls (show k + 1 ≤ n from h)
  have e : (catL ls (k + 1)).length = (catL ls k).length + (ls k).length := by show (catL ls k ++ ls k).length = _; rw [List.length_append]
  omega

set_option maxHeartbeats 4000000 in
set_option maxRecDepth 100000 in
theorem placesOf_any (g n : Nat) (vs : Nat → Value) (ls : Nat → List Int) (w : World) (hc : ∀ k, k < n → w.cell? ⟨g, k, none⟩ = some (vs k)) (hr : ∀ k, k < n → RI w (vs k) (ls k)) (hw : ∀ k, k < n → WfL (ls k)) (hn : n ≤ 4) (hl : (catL ls n).length ≤ 8388608) :
    Calls Tryz.prog 94 #[.slice (some ⟨g, 0, none⟩) n n] w fun e w' => e = .returned (.map (some w.heap.size)) ∧ MC w' w.heap.size (catL ls n) ∧ Below w.heap.size w w' := by
  have hmm := @run_makeMap Tryz.prog
  have HC := hide hc
  have HR := hide hr
  have HW := hide hw
  have M0 : MC (w.alloc (.map #[] 0)) w.heap.size [] := ⟨_, World.ownsMap_made _ _ _ _, Counts.start⟩
  have B0 : Below w.heap.size w (w.alloc (.map #[] 0)) := (Below.refl _ _).alloc (Nat.le_refl _) _
  clear hc hr hw
  go_enter Tryz.func94, Tryz.ntmps94
  go_wp2
  go_loopw [11] (fun j wr => ∃ k : Nat, k ≤ n ∧ j = .int .i64 k ∧ MC wr w.heap.size (catL ls k) ∧ Below w.heap.size w wr) (fun j _ => n - (intOf j).toNat)
  case atStart => exact ⟨0, Nat.zero_le _, rfl, M0, B0⟩
  case round =>
    clear M0 B0
    obtain ⟨k, hk, rfl, M, br⟩ := hrel
    by_cases hlt : k < n
    · have cg := unhide HC k hlt
      have HV := hide (unhide HR k hlt)
      have HX := hide (unhide HW k hlt)
      have hst := cat_step ls hlt
      have cgr := br.cell (p := ⟨g, k, none⟩) (cell_lt cg)
      rw [cg] at cgr
      have HE : Hid (catL ls (k + 1) = catL ls k ++ ls k) := hide rfl
      obtain ⟨ao, ca, hv⟩ := (unhide HV).form
      rw [hv] at cgr HV
      clear cg hv
      generalize catL ls k = L0 at *
      generalize ls k = xs at *
      have HM := hide M
      have HB := hide br
      obtain ⟨m, hm⟩ : ∃ m, xs.length = m := ⟨_, rfl⟩
      have Hm := hide hm
      rw [hm] at HV hst cgr
      clear hm M
      go_wp2
      go_loopw [17] (fun j wq => ∃ q : Nat, q ≤ m ∧ j = .int .i64 q ∧ MC wq w.heap.size (L0 ++ xs.take q) ∧ Below w.heap.size w wq) (fun j _ => m - (intOf j).toNat)
      case atStart => exact ⟨0, Nat.zero_le _, rfl, by simpa using unhide HM, unhide HB⟩
      case round =>
        clear HM br cgr
        obtain ⟨q, hq, rfl, M, bq⟩ := hrel
        by_cases hlt2 : q < m
        · have hqx : q < xs.length := by have := unhide Hm; omega
          obtain ⟨b, off, rfl, c⟩ := ((unhide HV).below bq (Nat.le_refl _)).at q hqx
          have hkey : keyOf Tryz.prog 3 (.int .i64 (xs.getD q 0)) = some (.int .i64 (xs.getD q 0)) := Maps.keyOf_int_mk Tryz.underlying3 ((unhide HX).at q hqx)
          have HT := hide (show L0 ++ xs.take (q + 1) = (L0 ++ xs.take q) ++ [xs.getD q 0] by rw [itake_more xs q hqx, List.append_assoc])
          have hql : (L0 ++ xs.take q).length ≤ 8388607 := by rw [List.length_append, List.length_take]; have := unhide Hm; omega
          generalize xs.getD q 0 = x at *
          generalize L0 ++ xs.take q = L at *
          obtain ⟨D, hown, hcnt⟩ := M
          have CN := hide hcnt
          clear hcnt
          go_wp2_with (first
            | (at_lookup; refine wpList_lookup_own_int _ rfl _ _ 114 rfl 3 3 .i64 klaw Tryz.underlying114 Tryz.underlying3 (kzero _) w.heap.size L.length D rfl hown _ _ rfl hkey ?_; intro c hat hwc)
            | (at_mapUpdate; refine wpList_mapUpdate_own _ rfl _ _ _ 114 rfl 3 3 klaw Tryz.underlying114 _ w.heap.size L.length D rfl hown (by unfold maxLen; omega) _ _ _ rfl rfl hkey _ [] (plainElem_int Tryz.underlying3 (wrap64_wf _)) ?_; intro w1 hown1 hgrow1)
            | go_in)
          have hcl : L.count x ≤ L.length := List.count_le_length
          have hce : c = ((L.count x : Nat) : Int) := by have := (unhide CN).2 x; have h2 := this.2.symm.trans hat; simpa using h2.symm
          have hwr : wrap64 (c + 1) = ((L.count x : Nat) : Int) + 1 := by unfold wrap64; omega
          have M1 : MC w1 w.heap.size (L ++ [x]) := ⟨_, by rw [List.length_append, List.length_singleton]; exact hwr ▸ hown1, (unhide CN).put x⟩
          have BQ := bq.grown hgrow1 bq.size (fun j hj => by cases hj; exact Nat.le_refl _)
          clear hown1 hgrow1 hown
          go_roundw
          case rel => exact ⟨q + 1, by omega, by go_num, by rw [unhide HT]; exact M1, BQ⟩
          case measure => simp [intOf]; omega
        · have hqm : q = xs.length := by have := unhide Hm; omega
          have M1 : MC wr w.heap.size (catL ls (k + 1)) := by rw [unhide HE]; rw [hqm, List.take_length] at M; exact M
          have hd2 : decide ((q : Int) < (m : Int)) = false := by simp; omega
          clear M hqm
          go_wp2
          go_roundw
          case rel => exact ⟨k + 1, by omega, by go_num, M1, bq⟩
          case measure => simp [intOf]; omega
    · have hkn : k = n := by omega
      rw [hkn] at M
      have hd2 : decide ((k : Int) < (n : Int)) = false := by simp; omega
      clear hkn
      go_wp2
      go_ret
      exact ⟨rfl, M, br⟩
end Go.Proofs.YtehdchpolgihlaaGreatDoor
