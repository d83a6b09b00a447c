/- PartPx: pieces of tables: at whatever place of a row; what an append of one does; what a cut is. -/
import Derived.Test.YtmpmedbojfjnaaaGreatDoorFPBM
import Derived.ArgAppend
import Derived.Laws.Slices
namespace Go.Proofs.YtmpmedbojfjnaaaGreatDoor
open Go.RowKit

def PX (w : World) (v : Value) (ps : List Pt) (us : List Value) : Prop :=
 us.length = ps.length ∧ ∃ ao cap, v = .slice ao ps.length cap ∧ (ps = [] ∨ ∃ g off, ao = some ⟨g, off, none⟩ ∧ ∀ j u, (pcells ((ps.map phd).zip us))[j]? = some u → w.cell? ⟨g, off + j, none⟩ = some u)
theorem PX.below {w w' : World} {v : Value} {ps : List Pt} {us : List Value} (h : PX w v ps us) (hb : Below w.heap.size w w') : PX w' v ps us := by
 obtain ⟨hl, ao, cap, rfl, h⟩ := h
 refine ⟨hl, ao, cap, rfl, ?_⟩
 rcases h with h | ⟨g, off, rfl, h⟩
 ·exact .inl h
 ·exact .inr ⟨g, off, rfl, fun j u hj => (hb.cell (cell_lt (h j u hj))).trans (h j u hj)⟩
theorem PX.kp {w w' : World} {X : Nat → Prop} {v : Value} {ps : List Pt} {us : List Value} (h : PX w v ps us) (k : Kp w w' X) (hX : ∀ b, v.ownBlock = some b → ¬ X b) : PX w' v ps us := by
 obtain ⟨hl, ao, cap, rfl, h⟩ := h
 refine ⟨hl, ao, cap, rfl, ?_⟩
 rcases h with h | ⟨g, off, rfl, h⟩
 ·exact .inl h
 ·exact .inr ⟨g, off, rfl, fun j u hj => (World.cell?_of_block (a := ⟨g, off + j, none⟩) (k.block g (cell_lt (h j u hj)) (hX g rfl))).trans (h j u hj)⟩
theorem pcells_at {l : List ((Int × ByteArray) × Value)} {j : Nat} {u : Value} (h : (pcells l)[j]? = some u) : j / 3 < l.length ∧ j % 3 < 3 ∧ (pcell (l.getD (j / 3) ((0, ⟨#[]⟩), .slice none 0 0)))[j % 3]? = some u := by
 have hj : j < (pcells l).length := (List.getElem?_eq_some_iff.1 h).1
 rw [pcells_len] at hj
 have h1 : j / 3 < l.length := by omega
 refine ⟨h1, by omega, ?_⟩
 rw [← pcells_get l (j / 3) (j % 3) h1 (by omega), show j / 3 * 3 + j % 3 = j by omega]
 exact h
theorem RPt.px {w : World} {v : Value} {ps : List Pt} (h : RPt w v ps) : ∃ us, PX w v ps us ∧ ∀ k, k < ps.length → RI w (us.getD k (.slice none 0 0)) (ps.getD k zpt).2.2 := by
 obtain ⟨ao, cap, rfl, h⟩ := h
 rcases h with rfl | ⟨g, off, rfl, h⟩
 ·exact ⟨[], ⟨rfl, _, _, rfl, .inl rfl⟩, fun k hk => by simp at hk⟩
 ·let us : List Value := (List.range ps.length).map fun k => if hk : k < ps.length then Classical.choose (h k hk) else .slice none 0 0
  have hlen : us.length = ps.length := by simp [us]
  have hget : ∀ k (hk : k < ps.length), us.getD k (.slice none 0 0) = Classical.choose (h k hk) := fun k hk => by
   simp [us, hk]
  refine ⟨us, ⟨hlen, _, _, rfl, .inr ⟨g, off, rfl, fun j u hj => ?_⟩⟩, fun k hk => ?_⟩
  ·obtain ⟨h1, h2, h3⟩ := pcells_at hj
   have hk : j / 3 < ps.length := by simpa [hlen] using h1
   rw [pzip_get ps us hlen _ hk, hget _ hk] at h3
   have hc := Classical.choose_spec (h (j / 3) hk)
   have hj3 : j = j / 3 * 3 + j % 3 := by omega
   generalize j / 3 = q at *
   generalize j % 3 = r at *
   subst hj3
   match r, h2, h3 with
   | 0, _, h3 => simp [pcell, phd] at h3; subst h3; exact hc.1
   | 1, _, h3 => simp [pcell, phd] at h3; subst h3; exact hc.2.1
   | 2, _, h3 => simp [pcell, phd] at h3; subst h3; exact hc.2.2.1
  ·rw [hget k hk]
   exact (Classical.choose_spec (h k hk)).2.2.2
theorem pcells_take (l : List ((Int × ByteArray) × Value)) (k j : Nat) (u : Value) (h : (pcells (l.take k))[j]? = some u) : (pcells l)[j]? = some u := by
 have : pcells l = pcells (l.take k) ++ pcells (l.drop k) := by rw [← pcells_append, List.take_append_drop]
 rw [this]
 exact (List.getElem?_append_left (List.getElem?_eq_some_iff.1 h).1).trans h
theorem pcells_drop (l : List ((Int × ByteArray) × Value)) (k j : Nat) (u : Value) (hk : k ≤ l.length) (h : (pcells (l.drop k))[j]? = some u) : (pcells l)[k * 3 + j]? = some u := by
 have e : pcells l = pcells (l.take k) ++ pcells (l.drop k) := by rw [← pcells_append, List.take_append_drop]
 have hl : (pcells (l.take k)).length = k * 3 := by rw [pcells_len, List.length_take]; congr 1; omega
 rw [e, List.getElem?_append_right (by omega), hl, show k * 3 + j - k * 3 = j by omega]
 exact h
theorem PX.drop {w : World} {ao : Option Addr} {n cap : Nat} {ps : List Pt} {us : List Value} (h : PX w (.slice ao n cap) ps us) (k : Nat) (hk : k ≤ n) (cap' : Nat) {bo : Option Addr} (hb : ∀ g off, ao = some ⟨g, off, none⟩ → k < n → bo = some ⟨g, off + k * 3, none⟩) : PX w (.slice bo (n - k) cap') (ps.drop k) (us.drop k) := by
 obtain ⟨hl, ao', cap0, e, h⟩ := h
 cases e
 refine ⟨by simp [hl], bo, cap', by simp, ?_⟩
 rcases h with rfl | ⟨g, off, rfl, h⟩
 ·left; simp
 ·by_cases hlt : k < ps.length
  ·refine .inr ⟨g, off + k * 3, hb g off rfl hlt, fun j u hj => ?_⟩
   have e : ((ps.drop k).map phd).zip (us.drop k) = ((ps.map phd).zip us).drop k := by
    rw [List.zip_eq_zipWith, List.zip_eq_zipWith, List.drop_zipWith, List.map_drop]
   rw [e] at hj
   have := h _ u (pcells_drop _ k j u (by simp [hl]; omega) hj)
   rwa [show off + k * 3 + j = off + (k * 3 + j) by omega]
  ·left; simp; omega
theorem append_first {ops : Array Oper} {rest : List Oper} {o : Oper} {a : Act} {Q : Exit → Act → World → Prop} {w : World} (hgd : o.guard = none) (s x : Operand)
 (ho : o.op = .call { callee := .builtin .append, args := #[s, x], argTypes := #[57, 57] }) (w0 : World) (ao : Option Addr) (n ca k : Nat) (ps : List Pt) (us : List Value) (g : Nat) (m : Int) (nm : ByteArray) (u : Value) (xs : List Int) (hs : a.eval s = .slice ao k k) (hx : a.eval x = .slice (some ⟨g, 0, none⟩) 1 1)
 (hp : PX w (.slice ao n ca) ps us) (hk : k ≤ n) (he : ∀ k, k < ps.length → RI w0 (us.getD k (.slice none 0 0)) (ps.getD k zpt).2.2) (c0 : w.cell? ⟨g, 0, none⟩ = some (.int .i64 m)) (c1 : w.cell? ⟨g, 1, none⟩ = some (.string nm)) (c2 : w.cell? ⟨g, 2, none⟩ = some u) (hu : RI w0 u xs)
 (hl : ps.length ≤ 4194304) (hbase : w0.heap.size ≤ w.heap.size)
 (h : ∀ v' w', XPt w0 w' v' (ps.take k ++ [(m, nm, xs)]) (us.take k ++ [u]) → w.grownBy w' none → wpList Tryz.prog ops Q rest (a.put o.dst v') w') :
 wpList Tryz.prog ops Q (o :: rest) a w := by
 obtain ⟨i0, hi, hz0, hz1, hz2⟩ := info_parts Tryz.infoPt
 obtain ⟨hlu, ao', cap0, e, hp⟩ := hp
 cases e
 have hn : ∀ j y, (pcell ((m, nm), u))[j]? = some y → w.cell? ((⟨g, 0, none⟩ : Addr).add j) = some y := by
  intro j y hj
  match j, hj with
  | 0, hj => simp [pcell] at hj; subst hj; simpa [Addr.add] using c0
  | 1, hj => simp [pcell] at hj; subst hj; simpa [Addr.add] using c1
  | 2, hj => simp [pcell] at hj; subst hj; simpa [Addr.add] using c2
  | j + 3, hj => simp [pcell] at hj
 have h1c : ∀ y ∈ pcell ((m, nm), u), y.oneCell' = true := by
  intro y hy
  simp [pcell] at hy
  rcases hy with rfl | rfl | rfl
  ·rfl
  ·rfl
  ·obtain ⟨a, c, rfl⟩ := hu.form; rfl
 have ez : ((ps.take k).map phd).zip (us.take k) = ((ps.map phd).zip us).take k := by rw [List.zip_eq_zipWith, List.zip_eq_zipWith, List.take_zipWith, List.map_take]
 have hlk : (ps.take k).length = k := by simp; omega
 have hlo : (pcells (((ps.take k).map phd).zip (us.take k))).length = k * 3 := by rw [pcells_len]; simp [hlu]; omega
 refine wpList_append_grows (P := Tryz.prog) w hgd s x 57 ho 52 i0 (qv 0 ⟨#[]⟩ (.slice none 0 0)) 3 48 Tryz.underlying57 hi hz0 hz1 hz2 rfl (by decide) ao k k (pcells (((ps.take k).map phd).zip (us.take k))) hs ?_ hlo ?_ ⟨g, 0, none⟩ 1 1 (pcell ((m, nm), u)) hx (by simp [pcell]) hn h1c (by omega) (by unfold maxLen; omega) (by omega) ?_
 ·intro e
  rcases hp with rfl | ⟨g', off, e', _⟩
  ·simp at hk; omega
  ·rw [e] at e'; cases e'
 ·intro b hb j y hj
  rcases hp with rfl | ⟨g', off, e', hc⟩
  ·simp [pcells] at hj
  ·rw [hb] at e'
   cases e'
   rw [ez] at hj
   have e : ((⟨g', off, none⟩ : Addr).add j) = ⟨g', off + j, none⟩ := by unfold Addr.add; split <;> simp_all
   rw [e]
   exact hc j y (pcells_take _ k j y hj)
 ·intro v' w' ho' hg'
  refine h v' w' ?_ hg'
  refine xpt_more (by simp [hlu]) (fun j hj => ?_) hu ?_
  ·rw [hlk] at hj
   have e1 : (us.take k).getD j (.slice none 0 0) = us.getD j (.slice none 0 0) := by simp [hj]
   have e2 : (ps.take k).getD j zpt = ps.getD j zpt := by simp [hj]
   rw [e1, e2]
   exact he j (by omega)
  ·rw [hlk]
   obtain ⟨r1, r2⟩ := ho'
   refine ⟨r1, ?_⟩
   rcases r2 with r2 | ⟨g', cap', cur, e, hg, rest⟩
   ·exact .inl r2
   ·exact .inr ⟨g', cap', cur, e, Nat.le_trans hbase hg, rest⟩
theorem run_append_nothingP (ty : TypeId) (base cap : Nat) (v : Value) (n : Nat) (xs : List Value) (ao : Option Addr) (w : World) (hown : w.ownsRow base 52 3 v n xs) :
 (Builtin.append_ #[57, 57] ty #[v, .slice ao 0 cap]).run Tryz.prog w = .ok v w := by
 obtain ⟨i0, hi, hz0, hz1, hz2⟩ := info_parts Tryz.infoPt
 have hlc : ∀ a, (loadCells a 0).run Tryz.prog w = .ok #[] w := fun a => run_loadCells_list w a [] (by simp)
 rcases hown.2 with ⟨rfl, rfl⟩ | ⟨g, cp, cur, rfl, _, _, hnc, _⟩
 ·cases ao <;> simp [Builtin.append_, run_underlying Tryz.underlying57, sizeOf, typeInfo, hi, Builtin.lenOf, Builtin.firstCells, hlc]
 ·cases ao <;> simp [Builtin.append_, run_underlying Tryz.underlying57, sizeOf, typeInfo, hi, Builtin.lenOf, Builtin.firstCells, hnc, storeCells, hlc]
theorem xpt_app {w0 w' : World} {v' : Value} {ps qs : List Pt} {us ws : List Value} (hl : us.length = ps.length) (hl' : ws.length = qs.length) (he : ∀ k, k < ps.length → RI w0 (us.getD k (.slice none 0 0)) (ps.getD k zpt).2.2) (he' : ∀ k, k < qs.length → RI w0 (ws.getD k (.slice none 0 0)) (qs.getD k zpt).2.2)
 (hr : w'.ownsRow w0.heap.size 52 3 v' (ps.length + qs.length) (pcells ((ps.map phd).zip us) ++ pcells ((qs.map phd).zip ws))) : XPt w0 w' v' (ps ++ qs) (us ++ ws) := by
 refine ⟨by simp [hl, hl'], ?_, fun k hk => ?_⟩
 ·have e : ((ps ++ qs).map phd).zip (us ++ ws) = (ps.map phd).zip us ++ (qs.map phd).zip ws := by
   rw [List.map_append, List.zip_append (by simp [hl])]
  rw [e, pcells_append, List.length_append]
  exact hr
 ·rw [List.length_append] at hk
  by_cases e : k < ps.length
  ·rw [List.getD_eq_getElem?_getD, List.getElem?_append_left (by rw [hl]; exact e), ← List.getD_eq_getElem?_getD, List.getD_eq_getElem?_getD (l := ps ++ _), List.getElem?_append_left e, ← List.getD_eq_getElem?_getD]
   exact he k e
  ·rw [List.getD_eq_getElem?_getD, List.getElem?_append_right (by rw [hl]; omega), ← List.getD_eq_getElem?_getD, List.getD_eq_getElem?_getD (l := ps ++ _), List.getElem?_append_right (by omega), ← List.getD_eq_getElem?_getD, hl]
   exact he' _ (by omega)
theorem append_xp {ops : Array Oper} {rest : List Oper} {o : Oper} {a : Act} {Q : Exit → Act → World → Prop} {w : World} (hgd : o.guard = none) (s x : Operand)
 (ho : o.op = .call { callee := .builtin .append, args := #[s, x], argTypes := #[57, 57] }) (w0 : World) (v bv : Value) (ps qs : List Pt) (us ws : List Value) (hs : a.eval s = v) (hx : a.eval x = bv)
 (X : XPt w0 w v ps us) (hp : PX w bv qs ws) (he : ∀ k, k < qs.length → RI w0 (ws.getD k (.slice none 0 0)) (qs.getD k zpt).2.2) (hl : ps.length + qs.length ≤ 4194304) (hbase : w0.heap.size ≤ w.heap.size)
 (h : ∀ v' w', XPt w0 w' v' (ps ++ qs) (us ++ ws) → w.grownBy w' v.ownBlock → wpList Tryz.prog ops Q rest (a.put o.dst v') w') :
 wpList Tryz.prog ops Q (o :: rest) a w := by
 obtain ⟨i0, hi, hz0, hz1, hz2⟩ := info_parts Tryz.infoPt
 obtain ⟨hlw, ao, cap, rfl, hp⟩ := hp
 rcases hp with rfl | ⟨g, off, rfl, hc⟩
 ·obtain rfl : ws = [] := List.eq_nil_of_length_eq_zero (by simpa using hlw)
  refine wpList_plain hgd fun K hK => ?_
  have hrun := run_append_nothingP o.type w0.heap.size cap v ps.length _ ao w X.row
  unfold Oper.wp
  simp only [List.length_nil] at hx
  simp [execOp, ho, resolve, invoke, builtin, hs, hx, hrun, Result.andThen]
  exact hK _ _ (h v w (by simpa using X) (grown_refl _ _))
 ·have hn : ∀ j y, (pcells ((qs.map phd).zip ws))[j]? = some y → w.cell? ((⟨g, off, none⟩ : Addr).add j) = some y := by
   intro j y hj
   have e : ((⟨g, off, none⟩ : Addr).add j) = ⟨g, off + j, none⟩ := by unfold Addr.add; split <;> simp_all
   rw [e]; exact hc j y hj
  have h1c : ∀ y ∈ pcells ((qs.map phd).zip ws), y.oneCell' = true := by
   intro y hy
   obtain ⟨j, hj⟩ := List.getElem?_of_mem hy
   obtain ⟨h1, h2, h3⟩ := pcells_at hj
   have hk : j / 3 < qs.length := by simpa [hlw] using h1
   rw [pzip_get qs ws hlw _ hk] at h3
   obtain ⟨ua, uc, hu⟩ := (he _ hk).form
   rw [hu] at h3
   have hm := List.mem_of_getElem? h3
   simp [pcell] at hm
   rcases hm with rfl | rfl | rfl <;> rfl
  have hln : (pcells ((qs.map phd).zip ws)).length = qs.length * 3 := by rw [pcells_len]; simp [hlw]
  refine wpList_append_own_at _ hgd s x 57 ho w0.heap.size 52 i0 (qv 0 ⟨#[]⟩ (.slice none 0 0)) 3 48 Tryz.underlying57 hi hz0 hz1 hz2 rfl (by decide) v ps.length (pcells ((ps.map phd).zip us)) hs X.row ⟨g, off, none⟩ qs.length cap (pcells ((qs.map phd).zip ws)) hx hln hn h1c (by unfold maxLen; omega) (by omega) hbase ?_
  intro v' w' ho' hg' _ _
  exact h v' w' (xpt_app X.len hlw X.each he ho') hg'
set_option maxRecDepth 100000 in
theorem cut3_to (ao : Option Addr) (n ca k : Nat) (w : World) (hk : k ≤ ca) :
 (Instr.slice 57 (.slice ao n ca) none (some (.int .i64 (k : Int))) (some (.int .i64 (k : Int)))).run Tryz.prog w = .ok (.slice ao k k) w := by
 obtain ⟨i0, hi, hz0, hz1, hz2⟩ := info_parts Tryz.infoPt
 rw [run_slice_hm (ht := Tryz.underlying57) (kh := .i64) (km := .i64) (h := (k : Int)) (m := (k : Int)) (h0 := by omega) (h2 := by omega) (h3 := by omega)]
 have he : Tryz.prog.elem 57 = 52 := by simp [Program.elem, Tryz.underlying57]
 have hs : (sizeOf (Tryz.prog.elem 57)).run Tryz.prog w = .ok 3 w := by rw [he]; simp [sizeOf, typeInfo, hi, hz1]
 rw [hs]
 simp [sliced, Result.andThen]
 intro _; cases ao <;> rfl
set_option maxRecDepth 100000 in
theorem cut3_from (ao : Option Addr) (n ca k : Nat) (w : World) (hk : k ≤ n) :
 (Instr.slice 57 (.slice ao n ca) (some (.int .i64 (k : Int))) none none).run Tryz.prog w = .ok (.slice (if ca = k then ao else ao.map (·.add (k * 3))) (n - k) (ca - k)) w := by
 obtain ⟨i0, hi, hz0, hz1, hz2⟩ := info_parts Tryz.infoPt
 rw [run_slice_l (ht := Tryz.underlying57) (kl := .i64) (l := (k : Int)) (h0 := by omega) (h1 := by omega)]
 have he : Tryz.prog.elem 57 = 52 := by simp [Program.elem, Tryz.underlying57]
 have hs : (sizeOf (Tryz.prog.elem 57)).run Tryz.prog w = .ok 3 w := by rw [he]; simp [sizeOf, typeInfo, hi, hz1]
 rw [hs]
 simp [sliced, Result.andThen]
end Go.Proofs.YtmpmedbojfjnaaaGreatDoor
