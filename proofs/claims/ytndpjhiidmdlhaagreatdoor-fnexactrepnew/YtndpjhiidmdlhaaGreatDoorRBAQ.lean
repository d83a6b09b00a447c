/- Texts that belong together: TxsTextWalk, BlockTx, RepOne, PartHeld, PartSum, RepEq. -/
import Derived.Test.YtndpjhiidmdlhaaGreatDoorRBAP
import Derived.Test.YtndpjhiidmdlhaaGreatDoorRBAF
import Derived.OwnWalk
import Derived.Test.YtndpjhiidmdlhaaGreatDoorRBAM
import Derived.Test.YtndpjhiidmdlhaaGreatDoorRBAA
import Derived.Test.YtndpjhiidmdlhaaGreatDoorRBAK
import Derived.Test.YtndpjhiidmdlhaaGreatDoorRBAL
set_option maxRecDepth 100000
set_option maxHeartbeats 16000000
namespace Go.Proofs.YtndpjhiidmdlhaaGreatDoor
open Go.RowKit
set_option linter.unusedSectionVars false
variable [∀ (a b c d : Int), Decidable (Ok4 a b c d)]
variable [∀ (a b c d : Nat), Decidable (okN a b c d)]
variable [∀ (x : T4), Decidable (OkT x)]

def AR (w : World) (ao : Option Addr) (xs : List T4) : Prop :=
 xs = [] ∨ ∃ b off, ao = some ⟨b, off, none⟩ ∧ ∀ k, k < xs.length → w.cell? ⟨b, off + k * 4, none⟩ = some (.int .i64 (xs.getD k (0, 0, 0, 0)).1) ∧ w.cell? ⟨b, off + k * 4 + 1, none⟩ = some (.int .i64 (xs.getD k (0, 0, 0, 0)).2.1) ∧ w.cell? ⟨b, off + k * 4 + 2, none⟩ = some (.int .i64 (xs.getD k (0, 0, 0, 0)).2.2.1) ∧ w.cell? ⟨b, off + k * 4 + 3, none⟩ = some (.int .i64 (xs.getD k (0, 0, 0, 0)).2.2.2)
theorem AR.below {w w' : World} {ao : Option Addr} {xs : List T4} (h : AR w ao xs) (hb : Below w.heap.size w w') : AR w' ao xs := by
 rcases h with h | ⟨b, off, rfl, h⟩
 ·exact .inl h
 ·refine .inr ⟨b, off, rfl, fun k hk => ?_⟩
  obtain ⟨c0, c1, c2, c3⟩ := h k hk
  have hg : b < w.heap.size := cell_lt c0
  exact ⟨(hb.cell (p := ⟨b, off + k * 4, none⟩) hg).trans c0, (hb.cell (p := ⟨b, off + k * 4 + 1, none⟩) hg).trans c1, (hb.cell (p := ⟨b, off + k * 4 + 2, none⟩) hg).trans c2, (hb.cell (p := ⟨b, off + k * 4 + 3, none⟩) hg).trans c3⟩
def part4 (xs : List T4) (cs : List Value) (k : Nat) : List Value := tcells (xs.take k) ++ cs.drop (k * 4)
theorem part4_set (xs : List T4) (cs : List Value) (k : Nat) (hk : k < xs.length) (hc : cs.length = xs.length * 4) (x : T4) (hx : xs.getD k (0, 0, 0, 0) = x) :
 ((((part4 xs cs k).set (k * 4) (.int .i64 x.1)).set (k * 4 + 1) (.int .i64 x.2.1)).set (k * 4 + 2) (.int .i64 x.2.2.1)).set (k * 4 + 3) (.int .i64 x.2.2.2) = part4 xs cs (k + 1) := by
 unfold part4
 have hp : (tcells (xs.take k)).length = k * 4 := by rw [tcells_len, List.length_take]; omega
 have ht : xs.take (k + 1) = xs.take k ++ [x] := by
  rw [List.take_succ_eq_append_getElem hk, ← hx, List.getD_eq_getElem?_getD, List.getElem?_eq_getElem hk]; rfl
 rw [ht, tcells_append]
 generalize tcells (xs.take k) = P at *
 have hr : 4 ≤ (cs.drop (k * 4)).length := by rw [List.length_drop]; omega
 have hd : cs.drop ((k + 1) * 4) = (cs.drop (k * 4)).drop 4 := by rw [List.drop_drop]; congr 1; omega
 rw [hd]
 match cs.drop (k * 4), hr with
 | r0 :: r1 :: r2 :: r3 :: R, _ =>
  rw [← hp]
  simp [List.set_append_right, tcells, tcell]
theorem part4_zero (xs : List T4) (cs : List Value) : part4 xs cs 0 = cs := by simp [part4, tcells]
theorem part4_all (xs : List T4) (cs : List Value) (hc : cs.length = xs.length * 4) : part4 xs cs xs.length = tcells xs := by
 unfold part4; rw [List.take_of_length_le (Nat.le_refl _), List.drop_of_length_le (by omega)]; simp

theorem toTxS_any (ao : Option Addr) (ca : Nat) (xs : List T4) (w : World) (hl : xs.length ≤ 1048577) (h : AR w ao xs) :
 Calls Tryz.prog 45 #[.slice ao xs.length ca] w fun e w' => ∃ v, e = .returned v ∧ OT w' w.heap.size v xs ∧ Below w.heap.size w w' := by
 obtain ⟨i0, hi, hz0, hz1, hz2⟩ := info_parts Tryz.infoTx
 go_enter Tryz.func45, Tryz.ntmps45
 go_wp2_with (first | (at_make; refine wpList_make_full _ rfl _ _ 44 rfl w.heap.size 84 i0 (txv 0 0 0 0) 4 Tryz.underlying44 hi hz0 hz1 .i64 .i64 _ _ xs.length rfl rfl rfl rfl (by rw [hz2]; omega) (by unfold maxLen; omega) (Nat.le_refl _) ?_; intro w0 ho0 hg0))
 have hcs : (madeCells (txv 0 0 0 0).cells (xs.length * 4)).toList.length = xs.length * 4 := by rw [Array.length_toList, size_madeCells]
 generalize (madeCells (txv 0 0 0 0).cells (xs.length * 4)).toList = cs at *
 go_loopw [4] (fun i wr => ∃ k : Nat, k ≤ xs.length ∧ i = .int .i64 k ∧ wr.ownsRow w.heap.size 84 4 (.slice (some ⟨w.heap.size, 0, none⟩) xs.length xs.length) xs.length (part4 xs cs k) ∧ Below w.heap.size w wr) (fun i _ => xs.length - (intOf i).toNat)
 case atStart => exact ⟨0, Nat.zero_le _, rfl, by rw [part4_zero]; exact ho0, (Below.refl _ _).grown hg0 (Nat.le_refl _) (by simp)⟩
 case round =>
  clear ho0 hg0
  obtain ⟨k, hk, rfl, ho, br⟩ := hrel
  by_cases hlt : k < xs.length
  ·rcases h with h | ⟨b, off, rfl, h⟩
   ·subst h; simp at hlt
   obtain ⟨a0, a1, a2, a3⟩ := h k hlt
   have hg : b < w.heap.size := cell_lt a0
   have c0 := (br.cell (p := ⟨b, off + k * 4, none⟩) hg).trans a0
   have c1 := (br.cell (p := ⟨b, off + k * 4 + 1, none⟩) hg).trans a1
   have c2 := (br.cell (p := ⟨b, off + k * 4 + 2, none⟩) hg).trans a2
   have c3 := (br.cell (p := ⟨b, off + k * 4 + 3, none⟩) hg).trans a3
   clear a0 a1 a2 a3 h
   have hsr := br.size
   obtain ⟨x, hxk⟩ : ∃ x, xs.getD k (0, 0, 0, 0) = x := ⟨_, rfl⟩
   rw [hxk] at c0 c1 c2 c3
   have HP := hide (part4_set xs cs k hlt hcs x hxk)
   clear hxk
   obtain ⟨xa, xb, xc, xd⟩ := x
   simp only at c0 c1 c2 c3
   have hplen : (part4 xs cs k).length = xs.length * 4 := by
    unfold part4; rw [List.length_append, tcells_len, List.length_take, List.length_drop, hcs]; omega
   have HO := hide ho
   clear ho
   go_wp2_with fail
   refine (toTx_any xa xb xc xd _).mono ?_
   rintro e w2 ⟨rfl, b2⟩
   have s2 := b2.size
   have ho2 := World.ownsRow.kept (row := none) HO.out ⟨b2.os, b2.tape, b2.output, b2.size, fun k hk _ => b2.block k hk⟩ (by simp [Value.ownBlock])
   have bw2 := br.trans (b2.mono hsr)
   obtain ⟨y0, y1, y2, y3⟩ : (∃ u, w2.cell? ⟨w.heap.size, k * 4, none⟩ = some u) ∧ (∃ u, w2.cell? ⟨w.heap.size, k * 4 + 1, none⟩ = some u) ∧ (∃ u, w2.cell? ⟨w.heap.size, k * 4 + 2, none⟩ = some u) ∧ (∃ u, w2.cell? ⟨w.heap.size, k * 4 + 3, none⟩ = some u) := by
    have gt : ∀ j, j < xs.length * 4 → ∃ u, w2.cell? ⟨w.heap.size, j, none⟩ = some u := fun j hj => ⟨_, (ho2.cellAt j hj).trans (List.getElem?_eq_getElem (by rw [hplen]; exact hj))⟩
    exact ⟨gt _ (by omega), gt _ (by omega), gt _ (by omega), gt _ (by omega)⟩
   obtain ⟨u0, y0⟩ := y0
   obtain ⟨u1, y1⟩ := y1
   obtain ⟨u2, y2⟩ := y2
   obtain ⟨u3, y3⟩ := y3
   have hfr := ho2.frozenAt
   have t0 := ho2.stored (k * 4) (.int .i64 xa)
   have t1 := t0.1.stored (k * 4 + 1) (.int .i64 xb)
   have t2 := t1.1.stored (k * 4 + 2) (.int .i64 xc)
   have t3 := t2.1.stored (k * 4 + 3) (.int .i64 xd)
   have H3 := hide t3.1
   clear t0 t1 t2 t3 ho2 c0 c1 c2 c3
   go_wp2
   go_roundw
   case rel => exact ⟨k + 1, by omega, by go_num, by rw [← HP.out]; exact H3.out, (((bw2.setCell (Nat.le_refl _) _).setCell (Nat.le_refl _) _).setCell (Nat.le_refl _) _).setCell (Nat.le_refl _) _⟩
   case measure => simp [intOf]; omega
  ·have hkn : k = xs.length := by omega
   have HO : Hid (OT wr w.heap.size (.slice (some ⟨w.heap.size, 0, none⟩) xs.length xs.length) xs) := by
    show OT _ _ _ _
    unfold OT
    rw [← part4_all xs cs hcs, ← hkn]; rw [← hkn] at ho; exact ho
   clear ho h
   go_wp2
   go_ret
   exact ⟨_, rfl, HO.out, br⟩

theorem OT.kp {w w' : World} {base : Nat} {X : Nat → Prop} {v : Value} {xs : List T4} (h : OT w base v xs) (k : Kp w w' X) (hv : ∀ k, v.ownBlock = some k → ¬ X k) : OT w' base v xs := by
 refine ⟨h.1, ?_⟩
 rcases h.2 with hn | ⟨g, cap, cur, rfl, hb, hgg, rest⟩
 ·exact .inl hn
 ·refine .inr ⟨g, cap, cur, rfl, hb, ?_, rest⟩
  rw [k.block g (Array.getElem?_eq_some_iff.1 hgg).1 (hv g rfl)]
  exact hgg
theorem szL_yes (ao : Option Addr) (n ca : Nat) (left : Int) (w : World) (hn : (n : Int) ≤ left) (hl : left ≤ 1048576) :
 Calls Tryz.prog 34 #[.slice ao n ca, .int .i64 left] w fun e w' => e = .returned (.int .i64 (left - n)) ∧ w' = w := by
 have hd : decide ((left : Int) - (n : Int) < 0) = false := by simp; omega
 go_enter Tryz.func34, Tryz.ntmps34
 go_wp2
 go_ret
 exact ⟨rfl, rfl⟩
theorem szL_no (ao : Option Addr) (n ca : Nat) (left : Int) (w : World) (h0 : 0 ≤ left) (hn : left < (n : Int)) (hm : n ≤ 9223372036854775807) (hl : left ≤ 1048576) :
 Calls Tryz.prog 34 #[.slice ao n ca, .int .i64 left] w fun e w' => e = .returned (.int .i64 (-1)) ∧ w' = w := by
 have hd : decide ((left : Int) - (n : Int) < 0) = true := by simp; omega
 go_enter Tryz.func34, Tryz.ntmps34
 go_wp2
 go_ret
 exact ⟨rfl, rfl⟩
end Go.Proofs.YtndpjhiidmdlhaaGreatDoor
namespace Go.Proofs.YtndpjhiidmdlhaaGreatDoor
open Go.RowKit
set_option linter.unusedSectionVars false
variable [∀ (a b c d : Int), Decidable (Ok4 a b c d)]
variable [∀ (n f : Int), Decidable (COk n f)]
variable [∀ (a b c d : Nat), Decidable (okN a b c d)]
variable [∀ (x : T4), Decidable (OkT x)]

structure RpT where
 id : Int
 vw : Int
 ak : Int
 vo : Int
 lo : Int
 n : Int
 s : ByteArray
 qw : List Int
 d : ByteArray
 pool : List T4
 tab : List Pt
 dsk : List Int
 su : Int
 held : List PoT
abbrev rpv (t : RpT) (a b c d e : Value) : Value := .agg #[.int .i64 t.id, .int .i64 t.vw, .int .i64 t.ak, .int .i64 t.vo, .int .i64 t.lo, .int .i64 t.n, .string t.s, a, .string t.d, b, c, d, .int .i64 t.su, e]
structure RRep (w : World) (t : RpT) (a b c d e : Value) : Prop where
 q : RI w a t.qw
 p : RT w b t.pool
 tb : RPt w c t.tab
 d : RB w d t.dsk
 h : RPo w e t.held
structure IRep (w : World) (t : RpT) (a : Value) (bo : Option Addr) (c d e : Value) : Prop where
 q : RI w a t.qw
 p : AR w bo t.pool
 tb : RPt w c t.tab
 d : RB w d t.dsk
 h : RPo w e t.held
theorem IRep.below {w w' : World} {t : RpT} {a : Value} {bo : Option Addr} {c d e : Value} (h : IRep w t a bo c d e) (hb : Below w.heap.size w w') : IRep w' t a bo c d e :=
 ⟨h.q.below hb, h.p.below hb, h.tb.below hb, h.d.below hb, h.h.below hb⟩
def ORep (w : World) (lo : Nat) (t : RpT) (a b c d e : Value) : Prop := ∃ s1 s2 s3 s4 vs, (lo ≤ s1 ∧ s1 ≤ s2 ∧ s2 ≤ s3 ∧ s3 ≤ s4 ∧ s4 ≤ w.heap.size) ∧ (OI w lo a t.qw ∧ ∀ j, a.ownBlock = some j → j < s1) ∧ (OT w s1 b t.pool ∧ ∀ j, b.ownBlock = some j → j < s2) ∧ OPR w s2 s3 c t.tab vs ∧ (OB w s3 d t.dsk ∧ ∀ j, d.ownBlock = some j → j < s4) ∧ OPo w s4 e t.held
theorem ORep.below {w w' : World} {lo : Nat} {t : RpT} {a b c d e : Value} (h : ORep w lo t a b c d e) (hb : Below w.heap.size w w') : ORep w' lo t a b c d e := by
 obtain ⟨s1, s2, s3, s4, vs, hs, ⟨a1, a2⟩, ⟨b1, b2⟩, c1, ⟨d1, d2⟩, e1⟩ := h
 have := hb.size
 exact ⟨s1, s2, s3, s4, vs, by omega, ⟨a1.below hb, a2⟩, ⟨b1.below hb, b2⟩, c1.below hb, ⟨d1.below hb, d2⟩, e1.below hb⟩
theorem ORep.mono {w : World} {lo lo' : Nat} {t : RpT} {a b c d e : Value} (h : ORep w lo t a b c d e) (hl : lo' ≤ lo) : ORep w lo' t a b c d e := by
 obtain ⟨s1, s2, s3, s4, vs, hs, ⟨a1, a2⟩, r⟩ := h
 exact ⟨s1, s2, s3, s4, vs, by omega, ⟨a1.mono hl, a2⟩, r⟩
theorem OT.form1 {w : World} {base : Nat} {v : Value} {xs : List T4} (h : OT w base v xs) : ∃ ao ca, v = .slice ao xs.length ca := by
 rcases h.2 with ⟨rfl, h0⟩ | ⟨g, cap, cur, rfl, _⟩
 ·exact ⟨none, 0, by rw [h0]⟩
 ·exact ⟨_, _, rfl⟩
theorem ORep.form {w : World} {lo : Nat} {t : RpT} {a b c d e : Value} (h : ORep w lo t a b c d e) : ∃ ao ca bo cb co cc od cd oe ce, a = .slice ao t.qw.length ca ∧ b = .slice bo t.pool.length cb ∧ c = .slice co t.tab.length cc ∧ d = .slice od t.dsk.length cd ∧ e = .slice oe t.held.length ce := by
 obtain ⟨s1, s2, s3, s4, vs, hs, ⟨a1, a2⟩, ⟨b1, b2⟩, c1, ⟨d1, d2⟩, e1⟩ := h
 obtain ⟨ao, ca, rfl⟩ := a1.form
 obtain ⟨bo, cb, rfl⟩ := OT.form1 b1
 obtain ⟨co, cc, rfl⟩ := OPt.form ⟨vs, c1.tab⟩
 obtain ⟨od, cd, rfl⟩ := d1.form
 obtain ⟨oe, ce, rfl⟩ := e1.form
 exact ⟨_, _, _, _, _, _, _, _, _, _, rfl, rfl, rfl, rfl, rfl⟩
structure RSm (t : RpT) : Prop where
 q : t.qw.length ≤ 1048577
 p : t.pool.length ≤ 1048577
 tb : t.tab.length ≤ 1048577
 d : t.dsk.length ≤ 1048577
 h : t.held.length ≤ 1048577
 tt : ∀ p ∈ t.tab, p.2.2.length ≤ 4194304
 hh : ∀ j, j < t.held.length → (t.held.getD j zpost).2.bw.length ≤ 4194304 ∧ (t.held.getD j zpost).2.pw.length ≤ 4194304 ∧ (t.held.getD j zpost).2.qw.length ≤ 4194304
theorem ORep.rrep {w : World} {lo : Nat} {t : RpT} {a b c d e : Value} (h : ORep w lo t a b c d e) (hs : RSm t) : RRep w t a b c d e := by
 obtain ⟨s1, s2, s3, s4, vs, _, ⟨a1, _⟩, ⟨b1, _⟩, c1, ⟨d1, _⟩, e1⟩ := h
 exact ⟨a1.ri (by have := hs.q; omega), b1.rt (by have := hs.p; omega), c1.rpt hs.tt, d1.rb (by have := hs.d; omega), e1.rpo hs.hh⟩
theorem RB.form1 {w : World} {v : Value} {xs : List Int} (h : RB w v xs) : ∃ ao ca, v = .slice ao xs.length ca := by obtain ⟨_, ao, ca, e, _⟩ := h; exact ⟨ao, ca, e⟩
theorem toRep_any (t : RpT) (a : Value) (bo : Option Addr) (cb : Nat) (c d e : Value) (w : World) (hs : RSm t) (h : IRep w t a bo c d e) :
 Calls Tryz.prog 12 #[rpv t a (.slice bo t.pool.length cb) c d e] w fun r w' => ∃ a' b' c' d' e', r = .returned (rpv t a' b' c' d' e') ∧ ORep w' w.heap.size t a' b' c' d' e' ∧ Below w.heap.size w w' := by
 have HI := hide h
 have T1 := hide fun w h => toSafe_any t.vo t.lo t.n t.s a t.qw t.d w h
 have T2 := hide fun w h => toTxS_any bo cb t.pool w hs.p h
 have T3 := hide fun v w h => toPartS_any v t.tab w hs.tb h
 have T4_ := hide fun v w h => toDisk_any v t.dsk t.su w h
 have T5 := hide fun v w h => toPostS_any v t.held w hs.h h
 obtain ⟨oa, ka, rfl⟩ := h.q.form
 obtain ⟨oc, kc, rfl⟩ := h.tb.form
 obtain ⟨od, kd, rfl⟩ := RB.form1 h.d
 obtain ⟨oe, ke, rfl⟩ := h.h.form
 clear h hs
 obtain ⟨w0, hw0⟩ : ∃ w0, (((w.alloc (.cells #[.int .i64 t.id, .int .i64 t.vw, .int .i64 t.ak, .int .i64 t.vo, .int .i64 t.lo, .int .i64 t.n, .string t.s, .slice oa t.qw.length ka, .string t.d, .slice bo t.pool.length cb, .slice oc t.tab.length kc, .slice od t.dsk.length kd, .int .i64 t.su, .slice oe t.held.length ke] 36)).alloc (.cells #[.int .i64 0, .int .i64 0, .int .i64 0, .int .i64 0, .int .i64 0, .int .i64 0, .string ⟨#[]⟩, .slice none 0 0, .string ⟨#[]⟩, .slice none 0 0, .slice none 0 0, .slice none 0 0, .int .i64 0, .slice none 0 0] 49)).alloc (.cells #[.int .i64 0, .int .i64 0, .int .i64 0, .int .i64 0, .int .i64 0, .int .i64 0, .string ⟨#[]⟩, .slice none 0 0, .string ⟨#[]⟩, .slice none 0 0, .slice none 0 0, .slice none 0 0, .int .i64 0, .slice none 0 0] 49)) = w0 := ⟨_, rfl⟩
 have Bw0 : Below w.heap.size w w0 := hw0 ▸ (((Below.refl _ _).alloc (Nat.le_refl _) _).alloc (by simp) _).alloc (by simp; omega) _
 have P : Loc w0 (w.heap.size) #[.int .i64 t.id, .int .i64 t.vw, .int .i64 t.ak, .int .i64 t.vo, .int .i64 t.lo, .int .i64 t.n, .string t.s, .slice oa t.qw.length ka, .string t.d, .slice bo t.pool.length cb, .slice oc t.tab.length kc, .slice od t.dsk.length kd, .int .i64 t.su, .slice oe t.held.length ke] := hw0 ▸ ((loc_at (w) _ _ rfl).alloc _).alloc _
 have R : Loc w0 (w.heap.size + 1) #[.int .i64 0, .int .i64 0, .int .i64 0, .int .i64 0, .int .i64 0, .int .i64 0, .string ⟨#[]⟩, .slice none 0 0, .string ⟨#[]⟩, .slice none 0 0, .slice none 0 0, .slice none 0 0, .int .i64 0, .slice none 0 0] := hw0 ▸ (loc_at (w.alloc _) _ _ (by simp)).alloc _
 have O : Loc w0 (w.heap.size + 1 + 1) #[.int .i64 0, .int .i64 0, .int .i64 0, .int .i64 0, .int .i64 0, .int .i64 0, .string ⟨#[]⟩, .slice none 0 0, .string ⟨#[]⟩, .slice none 0 0, .slice none 0 0, .slice none 0 0, .int .i64 0, .slice none 0 0] := hw0 ▸ loc_at ((w.alloc _).alloc _) _ _ (by simp)
 have zw0 : w.heap.size + 1 + 1 + 1 ≤ w0.heap.size := by rw [← hw0]; simp
 go_enter Tryz.func12, Tryz.ntmps12
 have cP0 := P.cell 0 rfl
 have cP1 := P.cell 1 rfl
 have cP2 := P.cell 2 rfl
 have cO0 := O.cell 0 rfl
 have cO1 := O.cell 1 rfl
 have cO2 := O.cell 2 rfl
 have fO := O.frozen
 go_upto_region 5 with fail
 clear hw0
 clear cP0 cP1 cP2 cO0 cO1 cO2
 clear fO
 obtain ⟨w1, hw1⟩ : ∃ w9_, (((w0.setCell ⟨w.heap.size + 1 + 1, 0, none⟩ (.int .i64 t.id)).setCell ⟨w.heap.size + 1 + 1, 1, none⟩ (.int .i64 t.vw)).setCell ⟨w.heap.size + 1 + 1, 2, none⟩ (.int .i64 t.ak)) = w9_ := ⟨_, rfl⟩
 have kN : Kp w0 w1 (fun k => k = w.heap.size + 1 + 1) := hw1 ▸ ((set_kp _ _ _ _).trans (set_kp _ _ _ _)).trans (set_kp _ _ _ _)
 replace O : Loc w1 (w.heap.size + 1 + 1) #[.int .i64 t.id, .int .i64 t.vw, .int .i64 t.ak, .int .i64 0, .int .i64 0, .int .i64 0, .string ⟨#[]⟩, .slice none 0 0, .string ⟨#[]⟩, .slice none 0 0, .slice none 0 0, .slice none 0 0, .int .i64 0, .slice none 0 0] := hw1 ▸ (((O.set 0 _ rfl).set 1 _ rfl).set 2 _ rfl)
 replace P := P.kp kN (by omega)
 replace R := R.kp kN (by omega)
 have Bw1 := Below.kp Bw0 kN Bw0.size (fun k hk => by omega)
 have sw1 := kN.size
 rw [hw1]
 clear hw1 kN Bw0
 go_wp2_with (first | (refine wloadM [.int .i64 t.vo, .int .i64 t.lo, .int .i64 t.n, .string t.s, .slice oa t.qw.length ka, .string t.d] (P.range 3 6 rfl) 28 _ rfl _ rfl rfl Tryz.underlying28 rfl (by kernel_rfl) ?_))
 refine (T1.out _ (HI.out.q.below Bw1)).mono ?_
 rintro _ w2 ⟨uA, rfl, oA, bb⟩
 have Bw2 := bu Bw1 bb
 have sw2 := bb.size
 replace P := P.up bb
 replace R := R.up bb
 replace O := O.up bb
 clear Bw1
 clear bb
 have toA := World.ownsRow.lt oA
 obtain ⟨aoA, koA, rfl⟩ := oA.form
 go_upto_region 6 with (refine wstoreM #[.int .i64 t.vo, .int .i64 t.lo, .int .i64 t.n, .string t.s, .slice aoA t.qw.length koA, .string t.d] (O.there 3 6 (by simp)) 43 rfl _ _ rfl rfl rfl (by kernel_rfl) (by simp [Value.oneCell']) ?_)
 obtain ⟨w3, hw3⟩ : ∃ y, w2.setCells (w.heap.size + 1 + 1) 3 [.int .i64 t.vo, .int .i64 t.lo, .int .i64 t.n, .string t.s, .slice aoA t.qw.length koA, .string t.d] = y := ⟨_, rfl⟩
 rw [hw3]
 have kN : Kp w2 w3 (fun k => k = w.heap.size + 1 + 1) := hw3 ▸ setCells_kp _ _ _ _
 replace O : Loc w3 (w.heap.size + 1 + 1) #[.int .i64 t.id, .int .i64 t.vw, .int .i64 t.ak, .int .i64 t.vo, .int .i64 t.lo, .int .i64 t.n, .string t.s, .slice aoA t.qw.length koA, .string t.d, .slice none 0 0, .slice none 0 0, .slice none 0 0, .int .i64 0, .slice none 0 0] := hw3 ▸ O.setCells _ _ rfl
 replace P := P.kp kN (by omega)
 replace R := R.kp kN (by omega)
 replace oA := oA.kp kN (fun j hj e => by have := toA j hj; omega)
 have Bw3 := Below.kp Bw2 kN Bw2.size (fun k hk => by omega)
 have sw3 := kN.size
 clear hw3 kN Bw2
 have cP9 := P.cell 9 rfl
 go_wp2_with fail
 refine (T2.out _ (HI.out.p.below Bw3)).mono ?_
 rintro _ w4 ⟨uB, rfl, oB, bb⟩
 clear cP9
 have Bw4 := bu Bw3 bb
 have sw4 := bb.size
 replace P := P.up bb
 replace R := R.up bb
 replace O := O.up bb
 replace oA := oA.below bb
 clear Bw3
 clear bb
 have toB := World.ownsRow.lt oB
 obtain ⟨aoB, koB, rfl⟩ := OT.form1 oB
 have cO9 := O.cell 9 rfl
 have fO := O.frozen
 go_upto_region 7 with fail
 clear cO9
 clear fO
 obtain ⟨w5, hw5⟩ : ∃ w9_, (w4.setCell ⟨w.heap.size + 1 + 1, 9, none⟩ (.slice aoB t.pool.length koB)) = w9_ := ⟨_, rfl⟩
 have kN : Kp w4 w5 (fun k => k = w.heap.size + 1 + 1) := hw5 ▸ set_kp _ _ _ _
 replace O : Loc w5 (w.heap.size + 1 + 1) #[.int .i64 t.id, .int .i64 t.vw, .int .i64 t.ak, .int .i64 t.vo, .int .i64 t.lo, .int .i64 t.n, .string t.s, .slice aoA t.qw.length koA, .string t.d, .slice aoB t.pool.length koB, .slice none 0 0, .slice none 0 0, .int .i64 0, .slice none 0 0] := hw5 ▸ (O.set 9 _ rfl)
 replace P := P.kp kN (by omega)
 replace R := R.kp kN (by omega)
 replace oA := oA.kp kN (fun j hj e => by have := toA j hj; omega)
 replace oB := oB.kp kN (fun j hj e => by have := toB j hj; omega)
 have Bw5 := Below.kp Bw4 kN Bw4.size (fun k hk => by omega)
 have sw5 := kN.size
 rw [hw5]
 clear hw5 kN Bw4
 have cP10 := P.cell 10 rfl
 go_wp2_with fail
 refine (T3.out _ _ (HI.out.tb.below Bw5)).mono ?_
 rintro _ w6 ⟨uC, rfl, oC, bb⟩
 clear cP10
 have Bw6 := bu Bw5 bb
 have sw6 := bb.size
 replace P := P.up bb
 replace R := R.up bb
 replace O := O.up bb
 replace oA := oA.below bb
 replace oB := oB.below bb
 clear Bw5
 clear bb
 obtain ⟨aoC, koC, rfl⟩ := oC.form
 obtain ⟨vs, oC⟩ := oC
 replace oC := oC.opr
 obtain ⟨s3, hs3⟩ : ∃ x, w6.heap.size = x := ⟨_, rfl⟩
 rw [hs3] at oC
 have cO10 := O.cell 10 rfl
 have fO := O.frozen
 go_upto_region 8 with fail
 clear cO10
 clear fO
 obtain ⟨w7, hw7⟩ : ∃ w9_, (w6.setCell ⟨w.heap.size + 1 + 1, 10, none⟩ (.slice aoC t.tab.length koC)) = w9_ := ⟨_, rfl⟩
 have kN : Kp w6 w7 (fun k => k = w.heap.size + 1 + 1) := hw7 ▸ set_kp _ _ _ _
 replace O : Loc w7 (w.heap.size + 1 + 1) #[.int .i64 t.id, .int .i64 t.vw, .int .i64 t.ak, .int .i64 t.vo, .int .i64 t.lo, .int .i64 t.n, .string t.s, .slice aoA t.qw.length koA, .string t.d, .slice aoB t.pool.length koB, .slice aoC t.tab.length koC, .slice none 0 0, .int .i64 0, .slice none 0 0] := hw7 ▸ (O.set 10 _ rfl)
 replace P := P.kp kN (by omega)
 replace R := R.kp kN (by omega)
 replace oA := oA.kp kN (fun j hj e => by have := toA j hj; omega)
 replace oB := oB.kp kN (fun j hj e => by have := toB j hj; omega)
 replace oC := oC.kp kN (fun j h1 h2 e => by omega)
 have Bw7 := Below.kp Bw6 kN Bw6.size (fun k hk => by omega)
 have sw7 := kN.size
 rw [hw7]
 clear hw7 kN Bw6
 go_wp2_with (first | (refine wloadM [.slice od t.dsk.length kd, .int .i64 t.su] (P.range 11 2 rfl) 33 _ rfl _ rfl rfl Tryz.underlying33 rfl (by kernel_rfl) ?_))
 refine (T4_.out _ _ (HI.out.d.below Bw7)).mono ?_
 rintro _ w8 ⟨uD, rfl, oD, bb⟩
 have Bw8 := bu Bw7 bb
 have sw8 := bb.size
 replace P := P.up bb
 replace R := R.up bb
 replace O := O.up bb
 replace oA := oA.below bb
 replace oB := oB.below bb
 clear Bw7
 replace oC := oC.below bb
 clear bb
 have toD := World.ownsRow.lt oD
 obtain ⟨aoD, koD, rfl⟩ := oD.form
 go_upto_region 9 with (refine wstoreM #[.slice aoD t.dsk.length koD, .int .i64 t.su] (O.there 11 2 (by simp)) 46 rfl _ _ rfl rfl rfl (by kernel_rfl) (by simp [Value.oneCell']) ?_)
 obtain ⟨w9, hw9⟩ : ∃ y, w8.setCells (w.heap.size + 1 + 1) 11 [.slice aoD t.dsk.length koD, .int .i64 t.su] = y := ⟨_, rfl⟩
 rw [hw9]
 have kN : Kp w8 w9 (fun k => k = w.heap.size + 1 + 1) := hw9 ▸ setCells_kp _ _ _ _
 replace O : Loc w9 (w.heap.size + 1 + 1) #[.int .i64 t.id, .int .i64 t.vw, .int .i64 t.ak, .int .i64 t.vo, .int .i64 t.lo, .int .i64 t.n, .string t.s, .slice aoA t.qw.length koA, .string t.d, .slice aoB t.pool.length koB, .slice aoC t.tab.length koC, .slice aoD t.dsk.length koD, .int .i64 t.su, .slice none 0 0] := hw9 ▸ O.setCells _ _ rfl
 replace P := P.kp kN (by omega)
 replace R := R.kp kN (by omega)
 replace oA := oA.kp kN (fun j hj e => by have := toA j hj; omega)
 replace oB := oB.kp kN (fun j hj e => by have := toB j hj; omega)
 replace oD := oD.kp kN (fun j hj e => by have := toD j hj; omega)
 replace oC := oC.kp kN (fun j h1 h2 e => by omega)
 have Bw9 := Below.kp Bw8 kN Bw8.size (fun k hk => by omega)
 have sw9 := kN.size
 clear hw9 kN Bw8
 have cP13 := P.cell 13 rfl
 go_wp2_with fail
 refine (T5.out _ _ (HI.out.h.below Bw9)).mono ?_
 rintro _ w10 ⟨uE, rfl, oE, bb⟩
 clear cP13
 have Bw10 := bu Bw9 bb
 have sw10 := bb.size
 replace P := P.up bb
 replace R := R.up bb
 replace O := O.up bb
 replace oA := oA.below bb
 replace oB := oB.below bb
 replace oD := oD.below bb
 clear Bw9
 replace oC := oC.below bb
 clear bb
 obtain ⟨aoE, koE, rfl⟩ := oE.form
 have cO13 := O.cell 13 rfl
 have fO := O.frozen
 go_upto_region 10 with fail
 clear cO13
 clear fO
 obtain ⟨w11, hw11⟩ : ∃ w9_, (w10.setCell ⟨w.heap.size + 1 + 1, 13, none⟩ (.slice aoE t.held.length koE)) = w9_ := ⟨_, rfl⟩
 have kN : Kp w10 w11 (fun k => k = w.heap.size + 1 + 1) := hw11 ▸ set_kp _ _ _ _
 replace O : Loc w11 (w.heap.size + 1 + 1) #[.int .i64 t.id, .int .i64 t.vw, .int .i64 t.ak, .int .i64 t.vo, .int .i64 t.lo, .int .i64 t.n, .string t.s, .slice aoA t.qw.length koA, .string t.d, .slice aoB t.pool.length koB, .slice aoC t.tab.length koC, .slice aoD t.dsk.length koD, .int .i64 t.su, .slice aoE t.held.length koE] := hw11 ▸ (O.set 13 _ rfl)
 replace P := P.kp kN (by omega)
 replace R := R.kp kN (by omega)
 replace oA := oA.kp kN (fun j hj e => by have := toA j hj; omega)
 replace oB := oB.kp kN (fun j hj e => by have := toB j hj; omega)
 replace oD := oD.kp kN (fun j hj e => by have := toD j hj; omega)
 replace oC := oC.kp kN (fun j h1 h2 e => by omega)
 replace oE := oE.kp kN (fun j h1 e => by omega)
 have Bw11 := Below.kp Bw10 kN Bw10.size (fun k hk => by omega)
 have sw11 := kN.size
 rw [hw11]
 clear hw11 kN Bw10
 go_wp2_with (first | (refine wload O 49 _ rfl _ rfl rfl Tryz.underlying49 rfl (by kernel_rfl) ?_) | (refine wstore R 49 #[.int .i64 t.id, .int .i64 t.vw, .int .i64 t.ak, .int .i64 t.vo, .int .i64 t.lo, .int .i64 t.n, .string t.s, .slice aoA t.qw.length koA, .string t.d, .slice aoB t.pool.length koB, .slice aoC t.tab.length koC, .slice aoD t.dsk.length koD, .int .i64 t.su, .slice aoE t.held.length koE] rfl _ _ rfl rfl rfl (by kernel_rfl) rfl (by simp [Value.oneCell']) ?_))
 obtain ⟨wE, hwE⟩ : ∃ w9_, w11.setRow (w.heap.size + 1) #[.int .i64 t.id, .int .i64 t.vw, .int .i64 t.ak, .int .i64 t.vo, .int .i64 t.lo, .int .i64 t.n, .string t.s, .slice aoA t.qw.length koA, .string t.d, .slice aoB t.pool.length koB, .slice aoC t.tab.length koC, .slice aoD t.dsk.length koD, .int .i64 t.su, .slice aoE t.held.length koE] = w9_ := ⟨_, rfl⟩
 have kN : Kp w11 wE (fun k => k = w.heap.size + 1) := hwE ▸ row_kp _ _ _
 replace R : Loc wE (w.heap.size + 1) #[.int .i64 t.id, .int .i64 t.vw, .int .i64 t.ak, .int .i64 t.vo, .int .i64 t.lo, .int .i64 t.n, .string t.s, .slice aoA t.qw.length koA, .string t.d, .slice aoB t.pool.length koB, .slice aoC t.tab.length koC, .slice aoD t.dsk.length koD, .int .i64 t.su, .slice aoE t.held.length koE] := hwE ▸ R.row
 replace P := P.kp kN (by omega)
 replace O := O.kp kN (by omega)
 replace oA := oA.kp kN (fun j hj e => by have := toA j hj; omega)
 replace oB := oB.kp kN (fun j hj e => by have := toB j hj; omega)
 replace oD := oD.kp kN (fun j hj e => by have := toD j hj; omega)
 replace oC := oC.kp kN (fun j h1 h2 e => by omega)
 replace oE := oE.kp kN (fun j h1 e => by omega)
 have BwE := Below.kp Bw11 kN Bw11.size (fun k hk => by omega)
 have swE := kN.size
 rw [hwE]
 clear hwE kN Bw11
 refine bodyPost_ret (v := rpv t (.slice aoA t.qw.length koA) (.slice aoB t.pool.length koB) (.slice aoC t.tab.length koC) (.slice aoD t.dsk.length koD) (.slice aoE t.held.length koE)) (res_row Tryz.results12 _ R rfl Tryz.underlying49 rfl (by kernel_rfl)) rfl ?_
 exact ⟨_, _, _, _, _, rfl, ⟨w3.heap.size, w5.heap.size, s3, w9.heap.size, vs, by omega, ⟨oA.mono (by omega), fun j hj => by have := toA j hj; omega⟩, ⟨oB, fun j hj => by have := toB j hj; omega⟩, oC, ⟨oD.mono (by omega), fun j hj => by have := toD j hj; omega⟩, oE⟩, BwE⟩
end Go.Proofs.YtndpjhiidmdlhaaGreatDoor
namespace Go.Proofs.YtndpjhiidmdlhaaGreatDoor
open Go.RowKit
set_option linter.unusedSectionVars false
variable [∀ (a b c d : Int), Decidable (Ok4 a b c d)]
variable [∀ (n f : Int), Decidable (COk n f)]

theorem szPartS_no (al : Option Addr) (cl : Nat) (rs : List Pr) (left : Int) (w : World) (h : ATab w al rs) (hb : ∀ r ∈ rs, r.2.1.size ≤ maxLen ∧ r.2.2.2.2.length ≤ maxLen) (h0 : 0 ≤ left) (hm : rs.length ≤ maxLen) (hs : left < (rs.length : Int) + psum rs) (hl : left ≤ 1048576) :
 Calls Tryz.prog 35 #[.slice al rs.length cl, .int .i64 left] w fun e w' => e = .returned (.int .i64 (-1)) ∧ Below w.heap.size w w' := by
 obtain ⟨n, hn⟩ : ∃ n, rs.length = n := ⟨_, rfl⟩
 have Hn := hide hn
 have H := hide h
 have HB := hide hb
 unfold maxLen at hm
 rw [hn] at hs hm ⊢
 clear hn h hb
 by_cases h1 : left < n
 ·have hd0 : decide (left - (n : Int) < 0) = true := by simp; omega
  clear H HB
  go_enter Tryz.func35, Tryz.ntmps35
  go_wp2
  go_ret
  exact ⟨rfl, Below.refl _ _⟩
 have hd0 : decide (left - (n : Int) < 0) = false := by simp; omega
 go_enter Tryz.func35, Tryz.ntmps35
 go_wp2
 go_loopw [1, 5] (fun a i wr => ∃ k : Nat, k ≤ n ∧ i = .int .i64 k ∧ a = .int .i64 (left - n - (psum (rs.take k) : Nat)) ∧ (psum (rs.take k) : Int) ≤ left - n ∧ Below w.heap.size w wr) (fun _ i _ => n - (intOf i).toNat)
 case atStart => exact ⟨0, Nat.zero_le _, rfl, by simp [psum], by simp [psum]; omega, Below.refl _ _⟩
 case round =>
  obtain ⟨k, hk, rfl, rfl, hp, br⟩ := hrel
  by_cases hlt : k < n
  ·have hkx : k < rs.length := by have := Hn.out; omega
   have HP1 := hide (psum_take rs k hkx)
   have hbk := HB.out (rs.getD k prz) (by rw [List.getD_eq_getElem?_getD, List.getElem?_eq_getElem hkx]; exact List.getElem_mem hkx)
   rcases H.out with h | ⟨g, off, rfl, h⟩
   ·subst h; simp at hkx
   obtain ⟨c0, c1, c2⟩ := h k hkx
   have hg : g < w.heap.size := cell_lt c0
   replace c0 := (br.cell (p := ⟨g, off + k * 3, none⟩) hg).trans c0
   replace c1 := (br.cell (p := ⟨g, off + k * 3 + 1, none⟩) hg).trans c1
   replace c2 := (br.cell (p := ⟨g, off + k * 3 + 2, none⟩) hg).trans c2
   clear h H HB
   generalize (rs.getD k prz).1 = m at *
   generalize (rs.getD k prz).2.1 = s at *
   generalize (rs.getD k prz).2.2.2.2.length = x at *
   generalize (rs.getD k prz).2.2.1 = ao at *
   generalize (rs.getD k prz).2.2.2.1 = ca at *
   generalize psum (rs.take k) = q at *
   obtain ⟨hb1, hb2⟩ := hbk
   unfold maxLen at hb1 hb2
   by_cases hfit : (s.size : Int) + x ≤ left - n - q
   ·have SZ := hide fun w => szPart_yes m s ao x ca (left - n - q) w hfit (by omega)
    have hd1 : decide (left - (n : Int) - (q : Int) - (s.size : Int) - (x : Int) < 0) = false := by simp; omega
    go_wp2_with fail
    refine (SZ.out _).mono ?_
    rintro e w1 ⟨rfl, b1⟩
    have B1 := bu br b1
    clear c0 c1 c2 SZ b1
    go_wp2
    go_roundw
    case rel => exact ⟨k + 1, by omega, by go_num, by rw [HP1.out]; simp; omega, by rw [HP1.out]; simp; omega, B1⟩
    case measure => simp [intOf]; omega
   ·have SZ := hide fun w => szPart_no m s ao x ca (left - n - q) w (by omega) (by omega) (by omega) (by omega) (by omega)
    go_wp2_with fail
    refine (SZ.out _).mono ?_
    rintro e w1 ⟨rfl, b1⟩
    have B1 := bu br b1
    clear c0 c1 c2 SZ b1
    go_wp2
    go_ret
    exact ⟨rfl, B1⟩
  ·have hkn : rs.take k = rs := List.take_of_length_le (by have := Hn.out; omega)
   rw [hkn] at hp
   omega

theorem psum_each {rs : List Pr} {r : Pr} (h : r ∈ rs) : r.2.1.size + r.2.2.2.2.length ≤ psum rs := by
 induction rs with
 | nil => simp at h
 | cons x rs ih =>
  rcases List.mem_cons.1 h with rfl | h
  ·simp only [psum]; omega
  ·have := ih h; simp only [psum]; omega
theorem prp_mem {rs : List Pr} {p : Pt} (h : p ∈ rs.map prp) : p.2.1.size + p.2.2.length ≤ psum rs := by
 obtain ⟨r, hr, rfl⟩ := List.mem_map.1 h
 exact psum_each hr
theorem ATab.below {W W' : World} {ao : Option Addr} {rs : List Pr} (h : ATab W ao rs) (hb : Below W.heap.size W W') : ATab W' ao rs := by
 rcases h with h | ⟨g, off, rfl, h⟩
 ·exact .inl h
 ·refine .inr ⟨g, off, rfl, fun k hk => ?_⟩
  obtain ⟨c0, c1, c2⟩ := h k hk
  have hg := cell_lt c0
  exact ⟨(hb.cell (p := ⟨g, off + k * 3, none⟩) hg).trans c0, (hb.cell (p := ⟨g, off + k * 3 + 1, none⟩) hg).trans c1, (hb.cell (p := ⟨g, off + k * 3 + 2, none⟩) hg).trans c2⟩
end Go.Proofs.YtndpjhiidmdlhaaGreatDoor
namespace Go.Proofs.YtndpjhiidmdlhaaGreatDoor
open Go.RowKit
set_option linter.unusedSectionVars false
variable [∀ (a b c d : Int), Decidable (Ok4 a b c d)]
variable [∀ (n f : Int), Decidable (COk n f)]
variable [∀ (a b c d : Nat), Decidable (okN a b c d)]
variable [∀ (x : T4), Decidable (OkT x)]

theorem RT.form1 {w : World} {v : Value} {xs : List T4} (h : RT w v xs) : ∃ ao ca, v = .slice ao xs.length ca := by obtain ⟨_, ao, ca, e, _⟩ := h; exact ⟨ao, ca, e⟩
theorem eqRep_yes (t : RpT) (a b c d e a' b' c' d' e' : Value) (w : World) (hs : RSm t) (h : RRep w t a b c d e) (h' : RRep w t a' b' c' d' e') :
 Calls Tryz.prog 14 #[rpv t a b c d e, rpv t a' b' c' d' e'] w fun r w' => r = .returned (.bool true) ∧ Below w.heap.size w w' := by
 have HX := hide h
 have HY := hide h'
 have T1 := hide fun w h h' => eqSafe_yes t.vo t.lo t.n t.s a a' t.qw t.d w h h'
 have T2 := hide fun w h h' => eqTxS_yes b b' t.pool w h h'
 have T3 := hide fun w h h' => eqPartS_yes c c' t.tab w (by have := hs.tb; omega) h h'
 have T4_ := hide fun w h h' => eqDisk_yes d d' t.dsk t.su w h h'
 have T5 := hide fun w h h' => eqPostS_yes e e' t.held w (by have := hs.h; omega) h h'
 obtain ⟨oa, ka, rfl⟩ := h.q.form
 obtain ⟨ob, kb, rfl⟩ := RT.form1 h.p
 obtain ⟨oc, kc, rfl⟩ := h.tb.form
 obtain ⟨od, kd, rfl⟩ := RB.form1 h.d
 obtain ⟨oe, ke, rfl⟩ := h.h.form
 obtain ⟨oa', ka', rfl⟩ := h'.q.form
 obtain ⟨ob', kb', rfl⟩ := RT.form1 h'.p
 obtain ⟨oc', kc', rfl⟩ := h'.tb.form
 obtain ⟨od', kd', rfl⟩ := RB.form1 h'.d
 obtain ⟨oe', ke', rfl⟩ := h'.h.form
 clear h h' hs
 obtain ⟨w0, hw0⟩ : ∃ w0, ((w.alloc (.cells #[.int .i64 t.id, .int .i64 t.vw, .int .i64 t.ak, .int .i64 t.vo, .int .i64 t.lo, .int .i64 t.n, .string t.s, .slice oa t.qw.length ka, .string t.d, .slice ob t.pool.length kb, .slice oc t.tab.length kc, .slice od t.dsk.length kd, .int .i64 t.su, .slice oe t.held.length ke] 49)).alloc (.cells #[.int .i64 t.id, .int .i64 t.vw, .int .i64 t.ak, .int .i64 t.vo, .int .i64 t.lo, .int .i64 t.n, .string t.s, .slice oa' t.qw.length ka', .string t.d, .slice ob' t.pool.length kb', .slice oc' t.tab.length kc', .slice od' t.dsk.length kd', .int .i64 t.su, .slice oe' t.held.length ke'] 49)) = w0 := ⟨_, rfl⟩
 have Bw0 : Below w.heap.size w w0 := hw0 ▸ ((Below.refl _ _).alloc (Nat.le_refl _) _).alloc (by simp) _
 have A : Loc w0 (w.heap.size) #[.int .i64 t.id, .int .i64 t.vw, .int .i64 t.ak, .int .i64 t.vo, .int .i64 t.lo, .int .i64 t.n, .string t.s, .slice oa t.qw.length ka, .string t.d, .slice ob t.pool.length kb, .slice oc t.tab.length kc, .slice od t.dsk.length kd, .int .i64 t.su, .slice oe t.held.length ke] := hw0 ▸ (loc_at (w) _ _ rfl).alloc _
 have B : Loc w0 (w.heap.size + 1) #[.int .i64 t.id, .int .i64 t.vw, .int .i64 t.ak, .int .i64 t.vo, .int .i64 t.lo, .int .i64 t.n, .string t.s, .slice oa' t.qw.length ka', .string t.d, .slice ob' t.pool.length kb', .slice oc' t.tab.length kc', .slice od' t.dsk.length kd', .int .i64 t.su, .slice oe' t.held.length ke'] := hw0 ▸ loc_at (w.alloc _) _ _ (by simp)
 have zw0 : w.heap.size + 1 + 1 ≤ w0.heap.size := by rw [← hw0]; simp
 go_enter Tryz.func14, Tryz.ntmps14
 have cA0 := A.cell 0 rfl
 have cA1 := A.cell 1 rfl
 have cA2 := A.cell 2 rfl
 have cB0 := B.cell 0 rfl
 have cB1 := B.cell 1 rfl
 have cB2 := B.cell 2 rfl
 go_wp2_with (first | (refine wloadM [.int .i64 t.vo, .int .i64 t.lo, .int .i64 t.n, .string t.s, .slice oa t.qw.length ka, .string t.d] (A.range 3 6 rfl) 43 _ rfl _ rfl rfl Tryz.underlying43 rfl (by kernel_rfl) ?_) | (refine wloadM [.int .i64 t.vo, .int .i64 t.lo, .int .i64 t.n, .string t.s, .slice oa' t.qw.length ka', .string t.d] (B.range 3 6 rfl) 43 _ rfl _ rfl rfl Tryz.underlying43 rfl (by kernel_rfl) ?_))
 clear hw0
 refine (T1.out _ (HX.out.q.below Bw0) (HY.out.q.below Bw0)).mono ?_
 rintro _ w1 ⟨rfl, bb⟩
 clear cA0 cA1 cA2 cB0 cB1 cB2
 have Bw1 := bu Bw0 bb
 have sw1 := bb.size
 replace A := A.up bb
 replace B := B.up bb
 clear Bw0
 clear bb
 have cA9 := A.cell 9 rfl
 have cB9 := B.cell 9 rfl
 go_wp2_with fail
 refine (T2.out _ (HX.out.p.below Bw1) (HY.out.p.below Bw1)).mono ?_
 rintro _ w2 ⟨rfl, bb⟩
 clear cA9 cB9
 have Bw2 := bu Bw1 bb
 have sw2 := bb.size
 replace A := A.up bb
 replace B := B.up bb
 clear Bw1
 clear bb
 have cA10 := A.cell 10 rfl
 have cB10 := B.cell 10 rfl
 go_wp2_with fail
 refine (T3.out _ (HX.out.tb.below Bw2) (HY.out.tb.below Bw2)).mono ?_
 rintro _ w3 ⟨rfl, bb⟩
 clear cA10 cB10
 have Bw3 := bu Bw2 bb
 have sw3 := bb.size
 replace A := A.up bb
 replace B := B.up bb
 clear Bw2
 clear bb
 go_wp2_with (first | (refine wloadM [.slice od t.dsk.length kd, .int .i64 t.su] (A.range 11 2 rfl) 46 _ rfl _ rfl rfl Tryz.underlying46 rfl (by kernel_rfl) ?_) | (refine wloadM [.slice od' t.dsk.length kd', .int .i64 t.su] (B.range 11 2 rfl) 46 _ rfl _ rfl rfl Tryz.underlying46 rfl (by kernel_rfl) ?_))
 refine (T4_.out _ (HX.out.d.below Bw3) (HY.out.d.below Bw3)).mono ?_
 rintro _ w4 ⟨rfl, bb⟩
 have Bw4 := bu Bw3 bb
 have sw4 := bb.size
 replace A := A.up bb
 replace B := B.up bb
 clear Bw3
 clear bb
 have cA13 := A.cell 13 rfl
 have cB13 := B.cell 13 rfl
 go_wp2_with fail
 refine (T5.out _ (HX.out.h.below Bw4) (HY.out.h.below Bw4)).mono ?_
 rintro _ w5 ⟨rfl, bb⟩
 clear cA13 cB13
 have Bw5 := bu Bw4 bb
 have sw5 := bb.size
 replace A := A.up bb
 replace B := B.up bb
 clear Bw4
 clear bb
 go_wp2
 go_ret
 exact ⟨rfl, Bw5⟩
end Go.Proofs.YtndpjhiidmdlhaaGreatDoor
