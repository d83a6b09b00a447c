/- Texts that belong together: PartX, PartDropImpl, DropsBelowWalk, IntsOpen. -/
import Derived.Test.YtehdchpolgihlaaDbAM
import Derived.Test.YtehdchpolgihlaaDbAQ
import Derived.Test.YtehdchpolgihlaaDbAO
import Derived.Deep.RegionHeld3
import Derived.Test.YtehdchpolgihlaaDbAP
import Derived.Test.YtehdchpolgihlaaDbAG
import Derived.WalkKit
import Derived.ProofKit
import Derived.OpenShut
import Derived.ShutString
import Derived.ChangeOld
import Derived.Below
import Derived.Lib.SmallJoins
/- PartX: a row of the call's own of parts whose lists are others'. -/
namespace Go.Proofs.Ytehdchpolgihlaa
open Go.RowKit

/-- v is a row of the parts ps, made since the world w0, whose lists us read in w0 as they should. -/
structure XPt (w0 w : World) (v : Value) (ps : List Pt) (us : List Value) : Prop where
  len : us.length = ps.length
  row : w.ownsRow w0.heap.size 31 3 v ps.length (pcells ((ps.map phd).zip us))
  each : ∀ k, k < ps.length → RI w0 (us.getD k (.slice none 0 0)) (ps.getD k zpt).2.2
theorem xpt_nil (w0 w : World) : XPt w0 w (.slice none 0 0) [] [] :=
  ⟨rfl, World.ownsRow_nil _ _ _ _, fun k hk => by simp at hk⟩
theorem XPt.below {w0 w w' : World} {v : Value} {ps : List Pt} {us : List Value} (h : XPt w0 w v ps us) (hb : Below w.heap.size w w') : XPt w0 w' v ps us :=
  ⟨h.len, World.ownsRow.kept (row := none) h.row ⟨hb.os, hb.tape, hb.output, hb.size, fun k hk _ => hb.block k hk⟩ (by cases v.ownBlock <;> simp), h.each⟩
theorem XPt.form {w0 w : World} {v : Value} {ps : List Pt} {us : List Value} (h : XPt w0 w v ps us) : ∃ ao ca, v = .slice ao ps.length ca := by
  rcases h.row.2 with ⟨rfl, h0⟩ | ⟨g, cap, cur, rfl, _⟩
  · exact ⟨none, 0, by rw [h0]⟩
  · exact ⟨_, _, rfl⟩
theorem XPt.rpt {w0 w : World} {v : Value} {ps : List Pt} {us : List Value} (h : XPt w0 w v ps us) (hb : Below w0.heap.size w0 w) : RPt w v ps := by
  have hz : ((ps.map phd).zip us).length = ps.length := by simp [h.len]
  rcases h.row.2 with ⟨rfl, h0⟩ | ⟨g, cap, cur, rfl, _⟩
  · exact ⟨none, 0, by rw [h0], .inl (List.length_eq_zero_iff.1 h0)⟩
  · refine ⟨_, cap, rfl, .inr ⟨g, 0, rfl, fun k hk => ?_⟩⟩
    have c0 := World.ownsRow.cellAt h.row (k * 3 + 0) (by omega)
    have c1 := World.ownsRow.cellAt h.row (k * 3 + 1) (by omega)
    have c2 := World.ownsRow.cellAt h.row (k * 3 + 2) (by omega)
    rw [pcells_get _ k _ (by omega) (by omega), pzip_get ps us h.len k hk] at c0 c1 c2
    refine ⟨_, ?_, ?_, ?_, (h.each k hk).below hb (Nat.le_refl _)⟩
    · rw [Nat.zero_add]; exact c0
    · rw [Nat.zero_add]; exact c1
    · rw [Nat.zero_add]; exact c2
theorem xpt_more {w0 w' : World} {v' : Value} {ps : List Pt} {us : List Value} {m : Int} {s : ByteArray} {u : Value} {xs : List Int} (hl : us.length = ps.length) (he : ∀ k, k < ps.length → RI w0 (us.getD k (.slice none 0 0)) (ps.getD k zpt).2.2) (hu : RI w0 u xs)
    (hr : w'.ownsRow w0.heap.size 31 3 v' (ps.length + 1) (pcells ((ps.map phd).zip us) ++ pcell ((m, s), u))) : XPt w0 w' v' (ps ++ [(m, s, xs)]) (us ++ [u]) := by
  refine ⟨by simp [hl], ?_, fun k hk => ?_⟩
  · have e : ((ps ++ [(m, s, xs)]).map phd).zip (us ++ [u]) = (ps.map phd).zip us ++ [((m, s), u)] := by
      rw [List.map_append, List.zip_append (by simp [hl])]; rfl
    rw [e, pcells_append, List.length_append]
    simpa [pcells] using hr
  · rw [List.length_append, List.length_singleton] at hk
    by_cases e : k < ps.length
    · rw [List.getD_eq_getElem?_getD, List.getElem?_append_left (by rw [hl]; exact e), ← List.getD_eq_getElem?_getD, List.getD_eq_getElem?_getD (l := ps ++ _), List.getElem?_append_left e, ← List.getD_eq_getElem?_getD]
      exact he k e
    · obtain rfl : k = ps.length := by omega
      have e1 : (us ++ [u]).getD ps.length (.slice none 0 0) = u := by rw [← hl]; simp
      have e2 : (ps ++ [(m, s, xs)]).getD ps.length zpt = (m, s, xs) := by simp
      rw [e1, e2]
      exact hu
theorem append_x {ops : Array Oper} {rest : List Oper} {o : Oper} {a : Act} {Q : Exit → Act → World → Prop} {w : World} (hgd : o.guard = none) (s x : Operand)
    (ho : o.op = .call { callee := .builtin .append, args := #[s, x], argTypes := #[24, 24] }) (w0 : World) (v : Value) (ps : List Pt) (us : List Value) (g cp : Nat) (m : Int) (nm : ByteArray) (u : Value) (xs : List Int) (hs : a.eval s = v) (hx : a.eval x = .slice (some ⟨g, 0, none⟩) 1 cp)
    (htab : XPt w0 w v ps us) (c0 : w.cell? ⟨g, 0, none⟩ = some (.int .i64 m)) (c1 : w.cell? ⟨g, 1, none⟩ = some (.string nm)) (c2 : w.cell? ⟨g, 2, none⟩ = some u) (hu : RI w0 u xs)
    (hl : ps.length ≤ 4194304) (hbase : w0.heap.size ≤ w.heap.size)
    (h : ∀ v' w', XPt w0 w' v' (ps ++ [(m, nm, xs)]) (us ++ [u]) → w.grownBy w' v.ownBlock → wpList Try.prog ops Q rest (a.put o.dst v') w') :
    wpList Try.prog ops Q (o :: rest) a w := by
  obtain ⟨i0, hi, hz0, hz1, hz2⟩ := info_parts Try.infoPt
  have hn : ∀ j y, (pcell ((m, nm), u))[j]? = some y → w.cell? ((⟨g, 0, none⟩ : Addr).add j) = some y := by
    intro j y hj
    match j, hj with
    | 0, hj => simp [pcell] at hj; subst hj; simpa [Addr.add] using c0
    | 1, hj => simp [pcell] at hj; subst hj; simpa [Addr.add] using c1
    | 2, hj => simp [pcell] at hj; subst hj; simpa [Addr.add] using c2
    | j + 3, hj => simp [pcell] at hj
  have hp : ∀ y ∈ pcell ((m, nm), u), y.oneCell' = true := by
    intro y hy
    simp [pcell] at hy
    rcases hy with rfl | rfl | rfl
    · rfl
    · rfl
    · obtain ⟨a, c, rfl⟩ := hu.form; rfl
  refine wpList_append_own_at _ hgd s x 24 ho w0.heap.size 31 i0 (qv 0 ⟨#[]⟩ (.slice none 0 0)) 3 48 Try.underlying24 hi hz0 hz1 hz2 rfl (by decide) v ps.length (pcells ((ps.map phd).zip us)) hs htab.row ⟨g, 0, none⟩ 1 cp (pcell ((m, nm), u)) hx (by simp [pcell]) hn hp (by unfold maxLen; omega) (by omega) hbase ?_
  intro v' w' ho' hg' _ _
  exact h v' w' (xpt_more htab.len htab.each hu ho') hg'
end Go.Proofs.Ytehdchpolgihlaa

/- PartDropImpl: impl.TableDrop. -/
namespace Go.Proofs.Ytehdchpolgihlaa
open Go.RowKit
set_option linter.unusedSectionVars false
variable [∀ (a b c d : Int), Decidable (Ok4 a b c d)]
variable [∀ (n f : Int), Decidable (COk n f)]

set_option maxHeartbeats 1600000 in
set_option maxRecDepth 100000 in
theorem dropClo (m : Int) (s : ByteArray) (u : Value) (view : Int) (g : Nat) (w : World) (hg : w.cell? ⟨g, 0, none⟩ = some (.int .i64 view)) :
    Calls Try.prog 29 #[qv m s u, .pointer (some ⟨g, 0, none⟩)] w fun e w' => e = .returned (.bool (decide (view ≤ m))) ∧ Below w.heap.size w w' := by
  obtain ⟨w0, hw0⟩ : ∃ y, w.alloc (.cells #[.int .i64 m, .string s, u] 31) = y := ⟨_, rfl⟩
  have B0 : Below w.heap.size w w0 := hw0 ▸ qalloc _ _
  have L0 : Loc w0 w.heap.size #[.int .i64 m, .string s, u] := hw0 ▸ loc_at w _ _ rfl
  have hg0 := (B0.cell (p := ⟨g, 0, none⟩) (cell_lt hg)).trans hg
  have a0 := L0.cell 0 rfl
  clear L0 hg
  go_enter Try.func29, Try.ntmps29
  go_wp2_with fail
  go_ret
  exact ⟨by simp, B0⟩

set_option maxHeartbeats 4000000 in
set_option maxRecDepth 100000 in
theorem pick_parts (v : Value) (ps : List Pt) (view : Int) (g : Nat) (fv : Value) (w : World) (hl : ps.length ≤ 4194304) (h : RPt w v ps) (hg : w.cell? ⟨g, 0, none⟩ = some (.int .i64 view)) :
    Calls Try.prog 28 #[.agg #[v, fv], .int .i64 ps.length, .func (.func 29) #[] #[.pointer (some ⟨g, 0, none⟩)]] w fun e w' => ∃ u us, e = .returned u ∧ XPt w w' u (dropP ps view) us ∧ Below w.heap.size w w' := by
  obtain ⟨ao, ca, rfl⟩ := h.form
  obtain ⟨n, hn⟩ : ∃ n, ps.length = n := ⟨_, rfl⟩
  have Hn := hide hn
  obtain ⟨rs, HRS⟩ : ∃ r, Hid (dropP ps view = r) := ⟨_, hide rfl⟩
  rw [unhide HRS]
  obtain ⟨w0, hw0⟩ : ∃ y, w.alloc (.cells #[.slice ao n ca, fv] 51) = y := ⟨_, rfl⟩
  have B0 : Below w.heap.size w w0 := hw0 ▸ qalloc _ _
  have L0 : Loc w0 w.heap.size #[.slice ao n ca, fv] := hw0 ▸ loc_at w _ _ rfl
  have q0 := L0.cell 0 rfl
  have H := hide h
  have HG := hide hg
  rw [hn] at hl H ⊢
  clear h hn hg L0
  go_enter Try.func28, Try.ntmps28
  go_wp2
  clear hw0
  go_loopw [7, 13] (fun t i wr => ∃ (k : Nat) (ds : List Pt) (us : List Value) (ta : Option Addr) (tc : Nat), k ≤ n ∧ i = .int .i64 k ∧ t = .slice ta ds.length tc ∧ ds.length ≤ k ∧ Hid (dropP (ps.take k) view = ds) ∧ XPt w wr (.slice ta ds.length tc) ds us ∧ Below w.heap.size w wr) (fun _ i _ => n - (intOf i).toNat)
  case atStart => exact ⟨0, [], [], none, 0, Nat.zero_le _, rfl, rfl, Nat.le_refl _, hide (by simp [dropP]), xpt_nil _ _, B0⟩
  case round =>
    clear B0 q0
    obtain ⟨k, ds, us, ta, tc, hk, rfl, rfl, hdl, HD, T, br⟩ := hrel
    by_cases hlt : k < n
    · have hkx : k < ps.length := by have := unhide Hn; omega
      have HT := hide (drop_take ps k view hkx)
      rw [unhide HD] at HT
      obtain ⟨b, off, u, rfl, c0, c1, c2, ru⟩ := (unhide H).at k hkx
      have lb := cell_lt c0
      have c0 := (br.cell (p := ⟨b, off + k * 3, none⟩) lb).trans c0
      have c1 := (br.cell (p := ⟨b, off + k * 3 + 1, none⟩) lb).trans c1
      have c2 := (br.cell (p := ⟨b, off + k * 3 + 2, none⟩) lb).trans c2
      obtain ⟨x, hx⟩ : ∃ x, ps.getD k zpt = x := ⟨_, rfl⟩
      rw [hx] at c0 c1 ru HT
      clear hx
      obtain ⟨m, s, xs⟩ := x
      simp only at c0 c1 ru
      obtain ⟨ua, uc, rfl⟩ := ru.form
      have RU := hide ru
      obtain ⟨w1, hw1⟩ : ∃ y, wr.alloc (.cells #[.int .i64 m, .string s, .slice ua xs.length uc] 31) = y := ⟨_, rfl⟩
      have b1 : Below wr.heap.size wr w1 := hw1 ▸ qalloc _ _
      have L1 : Loc w1 wr.heap.size #[.int .i64 m, .string s, .slice ua xs.length uc] := hw1 ▸ loc_at wr _ _ rfl
      have p0 := L1.cell 0 rfl
      have p1 := L1.cell 1 rfl
      have p2 := L1.cell 2 rfl
      have TT := hide (T.below b1)
      replace br := br.trans (b1.mono br.size)
      have cg := (br.cell (p := ⟨g, 0, none⟩) (cell_lt (unhide HG))).trans (unhide HG)
      have DC := hide (dropClo m s (.slice ua xs.length uc) view g w1 cg)
      have hne : ((ds.length : Int) == (n : Int)) = false := by simp; omega
      obtain ⟨dl, hdl2⟩ : ∃ l, ds.length = l := ⟨_, rfl⟩
      replace hdl2 := hide hdl2
      generalize xs.length = xl at *
      clear ru T H b1 cg lb
      by_cases hv : view ≤ m
      · rw [decide_eq_true hv] at DC
        rw [if_pos hv] at HT
        clear hv
        go_wp2_with fail
        clear hw1 p0 p1 p2 c0 c1 c2
        refine (unhide DC).mono ?_
        rintro e w2 ⟨rfl, b2⟩
        have L2 := L1.below b2 L1.lt
        have p0 := L2.cell 0 rfl
        have p1 := L2.cell 1 rfl
        have p2 := L2.cell 2 rfl
        obtain ⟨w3, hw3⟩ : ∃ y, w2.alloc (.cells #[.int .i64 m, .string s, .slice ua xl uc] 31) = y := ⟨_, rfl⟩
        have b3 : Below w2.heap.size w2 w3 := hw3 ▸ qalloc _ _
        have L3 : Loc w3 w2.heap.size #[.int .i64 m, .string s, .slice ua xl uc] := hw3 ▸ loc_at w2 _ _ rfl
        have d0 := L3.cell 0 rfl
        have d1 := L3.cell 1 rfl
        have d2 := L3.cell 2 rfl
        have T3 := hide (((unhide TT).below b2).below b3)
        have B3 := (br.trans (b2.mono br.size)).trans (b3.mono (Nat.le_trans br.size b2.size))
        have s3 := B3.size
        clear L1 L2 L3 b2 b3 TT DC
        go_wp2_with (first
          | (at_builtin; clear hw3 p0 p1 p2; refine append_x rfl _ _ rfl w (.slice ta ds.length tc) ds us w2.heap.size 1 m s _ xs rfl rfl (unhide T3) d0 d1 d2 (unhide RU) (by omega) s3 ?_; intro v4 w4 ho4 hg4
             have r4 := World.ownsRow.lt (unhide T3).row
             have B4 := B3.grown hg4 s3 (fun j e => (r4 j e).1)
             obtain ⟨a4, c4, hv4⟩ := ho4.form
             have hl4 : (ds ++ [(m, s, xs)]).length ≤ k + 1 := by simp; omega
             have HT4 := hide (unhide HT)
             generalize ds ++ [(m, s, xs)] = es at *
             subst hv4
             have O4 := hide ho4
             clear T3 B3 ho4 hg4 r4 d0 d1 d2 HD hdl2))
        go_roundw
        case rel => exact ⟨k + 1, _, _, a4, c4, by omega, by go_num, rfl, hl4, HT4, unhide O4, B4⟩
        case measure => simp [intOf]; omega
      · rw [decide_eq_false hv] at DC
        rw [if_neg hv, List.append_nil] at HT
        clear hv
        go_wp2_with fail
        clear hw1 p0 p1 p2 c0 c1 c2
        refine (unhide DC).mono ?_
        rintro e w2 ⟨rfl, b2⟩
        have T2 := hide ((unhide TT).below b2)
        have B2 := br.trans (b2.mono br.size)
        clear L1 TT DC b2
        go_wp2
        go_roundw
        case rel => exact ⟨k + 1, ds, us, ta, tc, by omega, by go_num, rfl, by omega, HT, unhide T2, B2⟩
        case measure => simp [intOf]; omega
    · have hkn : ps.take k = ps := List.take_of_length_le (by have := unhide Hn; omega)
      rw [hkn] at HD
      have hd2 : decide ((k : Int) < (n : Int)) = false := by simp; omega
      obtain rfl : rs = ds := (unhide HRS).symm.trans (unhide HD)
      have T' := hide T
      clear T hkn H HD hdl HRS
      go_wp2
      go_ret
      exact ⟨_, us, rfl, unhide T', br⟩

set_option maxHeartbeats 4000000 in
set_option maxRecDepth 100000 in
theorem implTableDrop (v : Value) (ps : List Pt) (view : Int) (w : World) (hl : ps.length ≤ 4194304) (hs : ∀ p ∈ ps, p.2.1.size ≤ 281474976710656) (h : RPt w v ps) :
    Calls Try.prog 8 #[v, .int .i64 view] w fun e w' => ∃ u, e = .returned u ∧ OPt w' w.heap.size u (dropP ps view) ∧ Below w.heap.size w w' := by
  obtain ⟨ao, ca, rfl⟩ := h.form
  obtain ⟨w0, hw0⟩ : ∃ y, w.alloc (.cells #[.int .i64 view] 3) = y := ⟨_, rfl⟩
  have B0 : Below w.heap.size w w0 := hw0 ▸ qalloc _ _
  have L0 : Loc w0 w.heap.size #[.int .i64 view] := hw0 ▸ loc_at w _ _ rfl
  have c0 := L0.cell 0 rfl
  have hlen : (dropP ps view).length ≤ ps.length := List.length_filter_le _ _
  have hs2 : ∀ p ∈ dropP ps view, p.2.1.size ≤ 281474976710656 := fun p hp => hs p (List.mem_filter.1 hp).1
  have PK := hide fun g fv w h hg => pick_parts (.slice ao ps.length ca) ps view g fv w hl h hg
  have TP := hide fun u w h => toldParts_any u (dropP ps view) w (by omega) hs2 h
  have TO := hide fun w => tableOf_any ao ps.length ca w
  have HR := hide (h.below B0 (Nat.le_refl _))
  generalize dropP ps view = ds at *
  generalize ps.length = n at *
  clear h hs hs2 L0
  go_enter Try.func8, Try.ntmps8
  go_wp2_with fail
  clear hw0
  refine (unhide TO _).mono ?_
  rintro e w1 ⟨rfl, b1⟩
  have R1 := (unhide HR).below b1 (Nat.le_refl _)
  have g1 := (b1.cell (p := ⟨w.heap.size, 0, none⟩) (cell_lt c0)).trans c0
  have B1 := B0.trans (b1.mono B0.size)
  clear b1 c0 TO HR
  go_wp2_with fail
  refine (unhide PK _ _ _ R1 g1).mono ?_
  rintro e w2 ⟨u, us, rfl, X, b2⟩
  have B2 := B1.trans (b2.mono B1.size)
  have R2 := X.rpt b2
  have s2 := B2.size
  obtain ⟨ua, uc, rfl⟩ := X.form
  clear X b2 PK R1 g1
  go_wp2_with fail
  refine (unhide TP _ _ R2).mono ?_
  rintro e w3 ⟨t, rfl, o3, b3⟩
  have B3 := B2.trans (b3.mono s2)
  obtain ⟨ta, tc, rfl⟩ := o3.form
  go_wp2
  go_ret
  exact ⟨_, rfl, o3.mono s2, B3⟩
end Go.Proofs.Ytehdchpolgihlaa

/- The walk of laws.FnDropsBelow. -/
namespace Go.Proofs.Ytehdchpolgihlaa
open Go.RowKit
set_option linter.unusedSectionVars false
variable [∀ (a b c d : Int), Decidable (Ok4 a b c d)]
variable [∀ (a b c d : Nat), Decidable (okN a b c d)]
variable [∀ (x : T4), Decidable (OkT x)]
variable [∀ (last : Int) (s : St), Decidable (GoodSt last s)]
variable [∀ (n f : Int), Decidable (COk n f)]
variable [∀ (n : Int) (s : List Int), Decidable (OkL n s)]

theorem drop_place {ps : List Pt} {view : Int} {i : Nat} (hi : i < ps.length) (hv : view ≤ (ps.getD i zpt).1) : (dropP (ps.take i) view).length < (dropP ps view).length ∧ (dropP ps view).getD (dropP (ps.take i) view).length zpt = ps.getD i zpt := by
  have e : ps = ps.take i ++ ps.getD i zpt :: ps.drop (i + 1) := by
    conv => lhs; rw [← List.take_append_drop i ps]
    congr 1
    rw [List.drop_eq_getElem_cons hi]
    simp [List.getElem?_eq_getElem hi]
  have e2 : dropP ps view = dropP (ps.take i) view ++ ps.getD i zpt :: dropP (ps.drop (i + 1)) view := by
    conv => lhs; rw [e]
    unfold dropP
    rw [List.filter_append, List.filter_cons, if_pos (by simpa using hv)]
  rw [e2]
  constructor
  · simp
  · simp
set_option maxHeartbeats 8000000 in
set_option maxRecDepth 100000 in
theorem fnDropsBelow_short (ao : Option Addr) (ca : Nat) (zs : List Int) (w : World) (h : DCode w ao zs) :
    Calls Try.prog 3 #[.slice ao zs.length ca] w fun e w' => e = .returned (.bool true) ∧ Below w.heap.size w w' := by
  have hz := h.len
  have BG := hide fun w => big_any ao zs.length ca w (by omega)
  rw [decide_eq_false (show ¬ 1048576 < zs.length by omega)] at BG
  have DT := hide fun w' (hb : Below w.heap.size w w') => drawTableDrop ao ca zs w' (h.below hb (Nat.le_refl _))
  generalize zs.length = zl at *
  clear h
  go_enter Try.func3, Try.ntmps3
  go_wp2_with fail
  refine (unhide BG _).mono ?_
  rintro e w1 ⟨rfl, B1⟩
  clear BG
  go_wp2_with fail
  refine (unhide DT _ B1).mono ?_
  rintro e w2 ⟨t, ps, view, rfl, hl, SM, TB, b2⟩
  have B2 := B1.trans (b2.mono B1.size)
  have hsm : ∀ q ∈ ps, q.2.1.size ≤ 1048576 ∧ q.2.2.length ≤ 1048576 := fun q hq => by have := unhide SM q hq; omega
  have R2 := TB.rpt (fun q hq => by have := hsm q hq; omega)
  have ID := hide fun w' (hb : Below w2.heap.size w2 w') => implTableDrop t ps view w' (by omega) (fun q hq => by have := hsm q hq; omega) (R2.below hb (Nat.le_refl _))
  have SD := hide fun w' (hb : Below w2.heap.size w2 w') => specTableDrop t ps view w' (by omega) (R2.below hb (Nat.le_refl _))
  have RB := hide fun w' (hb : Below w2.heap.size w2 w') => R2.below hb (Nat.le_refl _)
  obtain ⟨ta, tc, ht⟩ := TB.form
  have hdl : (dropP ps view).length ≤ ps.length := List.length_filter_le _ _
  have hds : Hid (∀ q ∈ dropP ps view, q.2.2.length ≤ 4194304) := hide fun q hq => by have := hsm q (List.mem_filter.1 hq).1; omega
  have PL := hide fun i hi hv => drop_place (ps := ps) (view := view) (i := i) hi hv
  have DK := hide fun i hi => drop_take ps i view hi
  have DN := hide (show dropP (ps.take ps.length) view = dropP ps view by rw [List.take_length])
  obtain ⟨n, hn⟩ : ∃ l, ps.length = l := ⟨_, rfl⟩
  obtain ⟨dl, hdle⟩ : ∃ l, (dropP ps view).length = l := ⟨_, rfl⟩
  rw [hn] at ht hl hdl DN
  rw [hdle] at hdl
  subst ht
  replace hn := hide hn
  replace hdle := hide hdle
  clear TB b2 B1 DT hsm SM
  go_wp2_with fail
  refine (unhide ID _ (Below.refl _ _)).mono ?_
  rintro e w3 ⟨a, rfl, TA, b3⟩
  have B3 := B2.trans (b3.mono B2.size)
  obtain ⟨aa, ac, ha⟩ := TA.form
  rw [unhide hdle] at ha
  subst ha
  have RA := hide fun w' (hb : Below w3.heap.size w3 w') => (TA.below hb).rpt (unhide hds)
  clear ID TA
  go_wp2_with fail
  refine (unhide SD _ b3).mono ?_
  rintro e w4 ⟨c, rfl, TC, b4⟩
  have B4 := B3.trans (b4.mono B3.size)
  have b34 := b4
  have ST := hide (sameTable_yes (.slice aa dl ac) c (dropP ps view) w4 (by rw [unhide hdle]; omega) (unhide RA _ b4) (TC.rpt (unhide hds)))
  obtain ⟨ta4, tc4, hc⟩ := TC.form
  rw [unhide hdle] at hc
  subst hc
  clear TC SD
  go_wp2_with fail
  refine (unhide ST).mono ?_
  rintro e w5 ⟨rfl, b5⟩
  have B5 := B4.trans (b5.mono B4.size)
  have R5 := hide (unhide RB w5 (b3.trans ((b4.trans (b5.mono b4.size)).mono b3.size)))
  have A5 := hide (unhide RA w5 (b4.trans (b5.mono b4.size)))
  clear ST b5 b4 b34 b3 RA RB B4 B3 B2
  go_wp2
  go_loopw [6, 7] (fun x y wr => ∃ (i k : Nat), i ≤ n ∧ k ≤ dl ∧ x = .int .i64 k ∧ y = .int .i64 i ∧ Hid ((dropP (ps.take i) view).length = k) ∧ Below w5.heap.size w5 wr) (fun _ y _ => n - (intOf y).toNat)
  case atStart => exact ⟨0, 0, by omega, by omega, rfl, rfl, hide (by simp [dropP]), Below.refl _ _⟩
  case round =>
    obtain ⟨i, k, hi, hk, rfl, rfl, HK, br⟩ := hrel
    by_cases hlt : i < n
    · have hix : i < ps.length := by have := unhide hn; omega
      obtain ⟨g, off, u, rfl, c0, c1, c2, ru⟩ := ((unhide R5).below br (Nat.le_refl _)).at i hix
      have D1 := hide (unhide DK i hix)
      have P1 := hide (unhide PL i hix)
      by_cases hv : view ≤ (ps.getD i zpt).1
      · obtain ⟨q1, q2⟩ := unhide P1 hv
        have D2 := unhide D1
        rw [if_pos hv] at D2
        have HK2 : Hid ((dropP (ps.take (i + 1)) view).length = k + 1) := hide (by rw [D2, List.length_append, unhide HK]; rfl)
        rw [unhide HK] at q1 q2
        have q3 : k < dl := by have := unhide hdle; omega
        obtain ⟨g', off', u', hao, d0, d1, d2, ru'⟩ := ((unhide A5).below br (Nat.le_refl _)).at k q1
        cases hao
        rw [q2] at d0 d1 ru'
        have hd : decide ((ps.getD i zpt).1 < view) = false := decide_eq_false (by omega)
        have SP : Hid (∀ w', Below wr.heap.size wr w' → Calls Try.prog 11 #[qv (ps.getD i zpt).1 (ps.getD i zpt).2.1 u', qv (ps.getD i zpt).1 (ps.getD i zpt).2.1 u] w' fun e w'' => e = .returned (.bool true) ∧ Below w'.heap.size w' w'') := hide fun w' hb => samePart_yes _ _ u' u (ps.getD i zpt).2.2 w' (ru'.below hb (Nat.le_refl _)) (ru.below hb (Nat.le_refl _))
        obtain ⟨xa, xc, rfl⟩ := ru.form
        obtain ⟨ya, yc, rfl⟩ := ru'.form
        have hge : decide ((k : Int) ≥ (dl : Int)) = false := by simp; omega
        have hge3 : decide (dl ≤ k) = false := by simp; omega
        clear D1 D2 P1 q1 q2 HK ru ru' hv PL DK
        generalize (ps.getD i zpt).1 = m at *
        generalize (ps.getD i zpt).2.1 = s at *
        generalize (ps.getD i zpt).2.2.length = xl at *
        have lg := cell_lt c0
        have lg' := cell_lt d0
        have K : Hid (∀ w', Below wr.heap.size wr w' → (fun w' => (w'.cell? ⟨g, off + i * 3, none⟩ = some (.int .i64 m) ∧ w'.cell? ⟨g, off + i * 3 + 1, none⟩ = some (.string s) ∧ w'.cell? ⟨g, off + i * 3 + 2, none⟩ = some (.slice xa xl xc)) ∧ (w'.cell? ⟨g', off' + k * 3, none⟩ = some (.int .i64 m) ∧ w'.cell? ⟨g', off' + k * 3 + 1, none⟩ = some (.string s) ∧ w'.cell? ⟨g', off' + k * 3 + 2, none⟩ = some (.slice ya xl yc))) w') := hide fun w' hb => ⟨⟨(hb.cell (p := ⟨g, off + i * 3, none⟩) lg).trans c0, (hb.cell (p := ⟨g, off + i * 3 + 1, none⟩) lg).trans c1, (hb.cell (p := ⟨g, off + i * 3 + 2, none⟩) lg).trans c2⟩, ⟨(hb.cell (p := ⟨g', off' + k * 3, none⟩) lg').trans d0, (hb.cell (p := ⟨g', off' + k * 3 + 1, none⟩) lg').trans d1, (hb.cell (p := ⟨g', off' + k * 3 + 2, none⟩) lg').trans d2⟩⟩
        have bA : Below wr.heap.size wr wr.drew := Below.drew (Below.refl _ _)
        go_upto_region 12 with fail
        refine wp_region_noPanic ?_
        refine wp_region_held_drew (S := (fun w' => (w'.cell? ⟨g, off + i * 3, none⟩ = some (.int .i64 m) ∧ w'.cell? ⟨g, off + i * 3 + 1, none⟩ = some (.string s) ∧ w'.cell? ⟨g, off + i * 3 + 2, none⟩ = some (.slice xa xl xc)) ∧ (w'.cell? ⟨g', off' + k * 3, none⟩ = some (.int .i64 m) ∧ w'.cell? ⟨g', off' + k * 3 + 1, none⟩ = some (.string s) ∧ w'.cell? ⟨g', off' + k * 3 + 2, none⟩ = some (.slice ya xl yc)))) (by kernel_rfl) (unhide K _ bA) (fun hHeld => ?_)
        refine take_at (i := 0) (d := 37) (v := ?_) rfl rfl (by kernel_rfl) (by kernel_rfl) (by kernel_rfl) (fun _ _ _ h => h) (Or.inl ⟨by rfl, ?_⟩) (by assumption) ?_
        rotate_left
        · intro w hSw
          try dsimp only at hSw
          go_simp
          try with_reducible rfl
        simp only [Act.put, List.setIfInBounds_toArray, List.set_cons_zero, List.set_cons_succ]
        refine take_at (i := 1) (d := 38) (v := ?_) rfl rfl (by kernel_rfl) (by kernel_rfl) (by kernel_rfl) (fun _ _ _ h => h) (Or.inl ⟨by rfl, ?_⟩) (by assumption) ?_
        rotate_left
        · intro w hSw
          try dsimp only at hSw
          go_simp
          try with_reducible rfl
        simp only [Act.put, List.setIfInBounds_toArray, List.set_cons_zero, List.set_cons_succ]
        refine take_at (i := 2) (d := 39) (v := ?_) rfl rfl (by kernel_rfl) (by kernel_rfl) (by kernel_rfl) (fun _ _ _ h => h) (Or.inl ⟨by rfl, ?_⟩) (by assumption) ?_
        rotate_left
        · intro w hSw
          try dsimp only at hSw
          go_simp
          try with_reducible rfl
        simp only [Act.put, List.setIfInBounds_toArray, List.set_cons_zero, List.set_cons_succ]
        refine take_at (i := 3) (d := 40) (v := ?_) rfl rfl (by kernel_rfl) (by kernel_rfl) (by kernel_rfl) (fun _ _ _ h => h) (Or.inl ⟨by rfl, ?_⟩) (by assumption) ?_
        rotate_left
        · intro w hSw
          try dsimp only at hSw
          go_simp
          try with_reducible rfl
        simp only [Act.put, List.setIfInBounds_toArray, List.set_cons_zero, List.set_cons_succ]
        refine take_at (i := 4) (d := 41) (v := ?_) rfl rfl (by kernel_rfl) (by kernel_rfl) (by kernel_rfl) (fun _ _ _ h => h) (Or.inl ⟨by rfl, ?_⟩) (by assumption) ?_
        rotate_left
        · intro w hSw
          try dsimp only at hSw
          go_simp
          try with_reducible rfl
        simp only [Act.put, List.setIfInBounds_toArray, List.set_cons_zero, List.set_cons_succ]
        refine take_at (i := 5) (d := 42) (v := ?_) rfl rfl (by kernel_rfl) (by kernel_rfl) (by kernel_rfl) (fun _ _ _ h => h) (Or.inl ⟨by rfl, ?_⟩) (by assumption) ?_
        rotate_left
        · intro w hSw
          try dsimp only at hSw
          go_simp
          try with_reducible rfl
        simp only [Act.put, List.setIfInBounds_toArray, List.set_cons_zero, List.set_cons_succ]
        refine take_at (i := 6) (d := 43) (v := ?_) rfl rfl (by kernel_rfl) (by kernel_rfl) (by kernel_rfl) (fun _ _ _ h => h) (Or.inl ⟨by rfl, ?_⟩) (by assumption) ?_
        rotate_left
        · intro w hSw
          try dsimp only at hSw
          go_simp
          try with_reducible rfl
        simp only [Act.put, List.setIfInBounds_toArray, List.set_cons_zero, List.set_cons_succ]
        refine take_at (i := 9) (d := 46) (v := ?_) rfl rfl (by kernel_rfl) (by kernel_rfl) (by kernel_rfl) (fun _ _ _ h => h) (Or.inl ⟨by rfl, ?_⟩) (by assumption) ?_
        rotate_left
        · intro w hSw
          try dsimp only at hSw
          go_simp
          try with_reducible rfl
        simp only [Act.put, List.setIfInBounds_toArray, List.set_cons_zero, List.set_cons_succ]
        refine take_at (i := 10) (d := 47) (v := ?_) rfl rfl (by kernel_rfl) (by kernel_rfl) (by kernel_rfl) (fun _ _ _ h => h) (Or.inl ⟨by rfl, ?_⟩) (by assumption) ?_
        rotate_left
        · intro w hSw
          try dsimp only at hSw
          go_simp
          try with_reducible rfl
        simp only [Act.put, List.setIfInBounds_toArray, List.set_cons_zero, List.set_cons_succ]
        refine take_at (i := 7) (d := 44) (v := ?_) rfl rfl (by kernel_rfl) (by kernel_rfl) (by kernel_rfl) (fun _ _ _ h => h) (Or.inl ⟨by rfl, ?_⟩) (by assumption) ?_
        rotate_left
        · intro w hSw
          try dsimp only at hSw
          go_simp
          try with_reducible rfl
        simp only [Act.put, List.setIfInBounds_toArray, List.set_cons_zero, List.set_cons_succ]
        refine take_at (i := 11) (d := 48) (v := ?_) rfl rfl (by kernel_rfl) (by kernel_rfl) (by kernel_rfl) (fun _ _ _ h => h) (Or.inl ⟨by rfl, ?_⟩) (by assumption) ?_
        rotate_left
        · intro w hSw
          try dsimp only at hSw
          go_simp
          try with_reducible rfl
        simp only [Act.put, List.setIfInBounds_toArray, List.set_cons_zero, List.set_cons_succ]
        refine take_at (i := 8) (d := 45) (v := ?_) rfl rfl (by kernel_rfl) (by kernel_rfl) (by kernel_rfl) (fun _ _ _ h => h) (Or.inl ⟨by rfl, ?_⟩) (by assumption) ?_
        rotate_left
        · intro w hSw
          try dsimp only at hSw
          go_simp
          try with_reducible rfl
        simp only [Act.put, List.setIfInBounds_toArray, List.set_cons_zero, List.set_cons_succ]
        refine take_at (i := 12) (d := 49) (v := ?_) rfl rfl (by kernel_rfl) (by kernel_rfl) (by kernel_rfl) (fun _ _ _ h => h) (Or.inl ⟨by rfl, ?_⟩) (by assumption) ?_
        rotate_left
        · intro w hSw
          try dsimp only at hSw
          go_simp
          try with_reducible rfl
        simp only [Act.put, List.setIfInBounds_toArray, List.set_cons_zero, List.set_cons_succ]
        refine ready_at (i := 13) rfl (by kernel_rfl) (fun KK hKK => ?_)
        go_simp
        refine (unhide SP _ bA).mono ?_
        rintro _ wa ⟨rfl, ba⟩
        have bB : Below wr.heap.size wr wa := bA.trans (ba.mono bA.size)
        clear hHeld
        refine hKK.out _ _ (unhide K _ bB) (fun hHeld => ?_)
        clear hKK KK
        refine take_at (i := 14) (d := 51) (v := ?_) rfl rfl (by kernel_rfl) (by kernel_rfl) (by kernel_rfl) (fun _ _ _ h => h) (Or.inl ⟨by rfl, ?_⟩) (by assumption) ?_
        rotate_left
        · intro w hSw
          try dsimp only at hSw
          go_simp
          try with_reducible rfl
        simp only [Act.put, List.setIfInBounds_toArray, List.set_cons_zero, List.set_cons_succ]
        refine take_at (i := 15) (d := 52) (v := ?_) rfl rfl (by kernel_rfl) (by kernel_rfl) (by kernel_rfl) (fun _ _ _ h => h) (Or.inl ⟨by rfl, ?_⟩) (by assumption) ?_
        rotate_left
        · intro w hSw
          try dsimp only at hSw
          go_simp
          try with_reducible rfl
        simp only [Act.put, List.setIfInBounds_toArray, List.set_cons_zero, List.set_cons_succ]
        clear hHeld
        refine wpAnyH_done (by kernel_rfl) ?_ _
        refine NoPanic.normal ?_
        have BB := br.trans (bB.mono br.size)
        clear c0 c1 c2 d0 d1 d2 K SP
        go_wp2
        go_roundw
        case rel => exact ⟨i + 1, k + 1, by omega, by omega, by go_num, by go_num, HK2, BB⟩
        case measure => simp [intOf]; omega
      · have D2 := unhide D1
        rw [if_neg hv, List.append_nil] at D2
        have HK2 : Hid ((dropP (ps.take (i + 1)) view).length = k) := hide (by rw [D2]; exact unhide HK)
        have hd : decide ((ps.getD i zpt).1 < view) = true := decide_eq_true (by omega)
        obtain ⟨xa, xc, rfl⟩ := ru.form
        clear D1 D2 P1 HK ru hv PL DK
        generalize (ps.getD i zpt).1 = m at *
        generalize (ps.getD i zpt).2.1 = s at *
        generalize (ps.getD i zpt).2.2.length = xl at *
        go_wp2
        go_roundw
        case rel => exact ⟨i + 1, k, by omega, by omega, rfl, by go_num, HK2, br⟩
        case measure => simp [intOf]; omega
    · obtain rfl : i = n := by omega
      have hkd : k = dl := by have := unhide HK; rw [unhide DN, unhide hdle] at this; exact this.symm
      subst hkd
      clear HK PL DK
      have BB := B5.trans (br.mono B5.size)
      go_wp2
      go_ret
      exact ⟨by simp, BB⟩

set_option maxHeartbeats 8000000 in
set_option maxRecDepth 100000 in
theorem fnDropsBelow_long (ao : Option Addr) (n ca : Nat) (w : World) (h : 1048576 < n) (hm : n ≤ maxLen) :
    Calls Try.prog 3 #[.slice ao n ca] w fun e w' => e = .returned (.bool true) ∧ Below w.heap.size w w' := by
  have BG := hide fun w => big_any ao n ca w (by unfold maxLen at hm; omega)
  rw [decide_eq_true h] at BG
  go_enter Try.func3, Try.ntmps3
  go_wp2_with fail
  refine (unhide BG _).mono ?_
  rintro _ w1 ⟨rfl, b1⟩
  go_wp2
  go_ret
  exact ⟨rfl, b1⟩
theorem fnDropsBelow_walk (ao : Option Addr) (ca : Nat) (zs : List Int) (w : World) (hm : zs.length ≤ maxLen) (hx : zs = [] ∨ ∃ b off, ao = some ⟨b, off, none⟩ ∧ ∀ k, k < zs.length → w.cell? ⟨b, off + k, none⟩ = some (.int .u8 (zs.getD k 0))) (hb : ∀ k, k < zs.length → 0 ≤ zs.getD k 0 ∧ zs.getD k 0 ≤ 255) :
    Calls Try.prog 3 #[.slice ao zs.length ca] w fun e w' => e = .returned (.bool true) ∧ Below w.heap.size w w' := by
  by_cases h : zs.length ≤ 1048576
  · exact fnDropsBelow_short ao ca zs w ⟨h, hx, hb⟩
  · exact fnDropsBelow_long ao zs.length ca w (by omega) hm
end Go.Proofs.Ytehdchpolgihlaa

/- Lists of numbers, and bytes, that came in. -/
namespace Go.Proofs.Ytehdchpolgihlaa
open Go.ChangeShapes Go.WideShapes Go.ChangeAt Go.RowKit
open Go.Joins
set_option linter.unusedSectionVars false
variable [∀ (a b c d : Int), Decidable (Ok4 a b c d)]
variable [∀ (n f : Int), Decidable (COk n f)]

set_option maxRecDepth 100000 in
theorem open_intlistW {H : Type} {enc : TypeId × Value → H} {W : World} {base : Nat} {v : Value} {d : DataW H} {p : List MemPlace} (hv : Value.okWide Try.prog W .any base 29 v)
    (h : DataW.Trod enc Try.prog W 0 (fun _ => true) true 29 v d p) :
    ∃ ao ca, ∃ xs : List Int, v = .slice ao xs.length ca ∧ xs.length ≤ maxLen ∧ (xs = [] ∨ ∃ b off, ao = some ⟨b, off, none⟩ ∧ ∀ k, k < xs.length → W.cell? ⟨b, off + k, none⟩ = some (.int .i64 (xs.getD k 0))) ∧ WfL xs := by
  obtain ⟨a, len, cap, rfl⟩ := okWide_slice Try.underlying29 hv
  obtain ⟨fuel, hf⟩ := h
  obtain ⟨ao, ca, xs, e, hx, hr⟩ := open_listW (c := .slice a len cap) (by simpa [Value.cells] using hf)
  exact ⟨ao, ca, xs, e, hx, hr⟩
set_option maxRecDepth 100000 in
theorem open_intlist {H : Type} {enc : TypeId × Value → H} {W : World} {base : Nat} {v : Value} {d : DataW H} {p : List MemPlace} (hv : Value.okWide Try.prog W .any base 29 v)
    (h : DataW.Trod enc Try.prog W 0 (fun _ => true) true 29 v d p) :
    ∃ ao ca, ∃ xs : List Int, v = .slice ao xs.length ca ∧ xs.length ≤ maxLen ∧ (xs = [] ∨ ∃ b off, ao = some ⟨b, off, none⟩ ∧ ∀ k, k < xs.length → W.cell? ⟨b, off + k, none⟩ = some (.int .i64 (xs.getD k 0))) := by
  obtain ⟨ao, ca, xs, e, hx, hr, _⟩ := open_intlistW hv h
  exact ⟨ao, ca, xs, e, hx, hr⟩
set_option maxRecDepth 100000 in
theorem code_fit {zs : List Int} {len : Nat} (h : ∀ n ∈ zs, (Lit.int .u8 n).wf = true) : ∀ k, k < (zs.take len).length → 0 ≤ (zs.take len).getD k 0 ∧ (zs.take len).getD k 0 ≤ 255 := by
  intro k hk
  have hm : (zs.take len).getD k 0 ∈ zs := by
    rw [List.getD_eq_getElem?_getD, List.getElem?_eq_getElem hk]
    exact List.mem_of_mem_take (List.getElem_mem hk)
  have := bounds_u8 (h _ hm)
  omega
set_option maxRecDepth 100000 in
theorem open_code {H : Type} {enc : TypeId × Value → H} {W : World} {base : Nat} {v : Value} {d : DataW H} {p : List MemPlace} (hv : Value.okWide Try.prog W .any base 22 v)
    (h : DataW.Trod enc Try.prog W 0 (fun _ => true) true 22 v d p) :
    ∃ ao ca, ∃ zs : List Int, v = .slice ao zs.length ca ∧ zs.length ≤ maxLen ∧ (zs = [] ∨ ∃ b off, ao = some ⟨b, off, none⟩ ∧ ∀ k, k < zs.length → W.cell? ⟨b, off + k, none⟩ = some (.int .u8 (zs.getD k 0))) ∧ ∀ k, k < zs.length → 0 ≤ zs.getD k 0 ∧ zs.getD k 0 ≤ 255 := by
  obtain ⟨a, len, cap, rfl⟩ := okWide_slice Try.underlying22 hv
  obtain ⟨fuel, hf⟩ := h
  rcases open_ints Try.underlying22 Try.underlying5 (by kernel_rfl) hf with ⟨hcs, _⟩ | ⟨x, l, c, zs, hcs, _, hl, hm, hz, _, hcell, hwz⟩
  · simp [Value.cells] at hcs
    obtain ⟨rfl, rfl, rfl⟩ := hcs
    exact ⟨none, 0, [], rfl, by simp, .inl rfl, fun k hk => by simp at hk⟩
  · simp [Value.cells] at hcs
    obtain ⟨rfl, rfl, rfl⟩ := hcs
    have hz' : zs.length = cap := by simpa using hz
    have e : (zs.take len).length = len := by simp; omega
    refine ⟨some x, cap, zs.take len, by rw [e], by rw [e]; omega, ?_, code_fit hwz⟩
    by_cases h0 : len = 0
    · left; simp [h0]
    · right
      obtain ⟨b, off, spot⟩ := x
      have hc := hcell 0 (by omega)
      have hspot : spot = none := by simpa [Addr.add] using World.cell?_spot hc
      subst hspot
      refine ⟨b, off, rfl, fun k hk => ?_⟩
      rw [e] at hk
      have hk' := hcell k (by omega)
      rw [show ((⟨b, off, none⟩ : Addr).add k) = ⟨b, off + k, none⟩ from by unfold Addr.add; split <;> simp_all] at hk'
      rw [hk']
      simp [hk]
end Go.Proofs.Ytehdchpolgihlaa
