/- Texts that belong together: MsgSames, ShelfClone, Clone, QcLater, MsgSameI, MsgOpen, MsgBox. -/
import Derived.Test.YtndpjhiidmdlhaaGreatDoorRBAE
import Derived.Test.YtndpjhiidmdlhaaGreatDoorRBAG
import Derived.Laws.StructEq
import Derived.Shelf.Strings.Builder1
import Derived.Shelf.Small.Wraps
import Derived.Shelf.Strconv.Atoi
import Derived.Shelf.Strconv.Itoa0
import Derived.Shelf.Strconv.Itoa1
import Derived.Shelf.LaysM
import Derived.Shelf.Strconv.Itoa2
import Derived.Shelf.Strconv.Itoa3
import Derived.Shelf.Strconv.AtoiErrFast
import Derived.Shelf.Strconv.ParseIntEmpty
import Derived.Shelf.Strconv.AtoiFail
import Derived.Shelf.Strconv.Clone
import Derived.Shelf.Strconv.SyntaxError
import Derived.Shelf.LaysC
import Derived.Shelf.Strconv.ToError
import Derived.Shelf.Strconv.Lower
import Derived.Shelf.Strconv.ParseUint10
import Derived.Shelf.Strconv.ParseUint10Empty
import Derived.Shelf.Strconv.ParseUint10Any
import Derived.Shelf.Strconv.ParseInt10
import Derived.Shelf.Strconv.AtoiLong
import Derived.Shelf.Strconv.AtoiInnerAll
import Derived.Shelf.Strconv.RangeError
import Derived.Shelf.Strconv.ToErrorRange
import Derived.Shelf.Strconv.AtoiAll
import Derived.Shelf.Strconv.ErrVarAll
import Derived.Shelf.Strings.Search1
import Derived.Shelf.Strings.Search2
import Derived.Shelf.Strings.Search3
import Derived.Shelf.Strings.Cut
import Derived.Shelf.Strings.Shaped
import Derived.Shelf.Strings.LastIndex
import Derived.Shelf.Strings.Prefix
import Derived.Ground.Names2Prog
import Derived.Shelf.Slices.SearchI
import Derived.Test.YtndpjhiidmdlhaaGreatDoorProg
import Derived.Test.YtndpjhiidmdlhaaGreatDoorRBAA
import Derived.Deep.RegionWith
import Derived.Deep.RegionLaw
import Derived.Deep.DeepCutAuto
import Derived.Laws.CopyOwn
import Derived.Laws.Rows
set_option maxRecDepth 100000
set_option maxHeartbeats 16000000
namespace Go.Proofs.YtndpjhiidmdlhaaGreatDoor
open Go.RowKit
set_option linter.unusedSectionVars false
variable [∀ (a b c d : Int), Decidable (Ok4 a b c d)]

theorem eq_tx (a b c d a' b' c' d' : Int) (w : World) :
 (binOp .eql 84 (txv a b c d) (txv a' b' c' d')).run Tryz.prog w = .ok (.bool (decide (a = a' ∧ b = b' ∧ c = c' ∧ d = d'))) w := by
 have hS : Tryz.prog.underlying 84 = some (.struct (Tryz.prog.fieldsOf 84)) := by kernel_rfl
 have hp : Tryz.prog.stoodInHeld 84 = false := by kernel_rfl
 rw [run_eql_struct, show (10000 : Nat) = 9999 + 1 from rfl, run_equalIn_struct w 9999 84 _ _ hS hp]
 simp only [Program.fieldsOf, Tryz.underlying84]
 go_simp
 by_cases h1 : a = a' <;> by_cases h2 : b = b' <;> by_cases h3 : c = c' <;> by_cases h4 : d = d' <;> simp [h1, h2, h3, h4]
theorem guard_tx (x y : Operand) (xs ys : Array Value) (w : World) : (eqGuard .eql 84 x y (.agg xs) (.agg ys)).run Tryz.prog w = .ok () w := run_eqGuard_agg w .eql _ x y xs ys (by kernel_rfl)
def txB (t t' : MT) : Bool := decide (t.fr = t'.fr ∧ t.tu = t'.tu ∧ t.am = t'.am ∧ t.no = t'.no)
def msamB (t t' : MT) : Bool := decide (t.k = t'.k) && (decide (t.vw = t'.vw) && (bsamB t.bn t'.bn t.bv t'.bv t.bs t'.bs t.bw t'.bw && (alikeB t.pv t'.pv t.ps t'.ps t.pw t'.pw && (alikeB t.qv t'.qv t.qs t'.qs t.qw t'.qw && (decide (t.wh = t'.wh) && txB t t')))))
theorem l14Part_any (n m : Int) (s t : ByteArray) (a b : Value) (xs ys : List Int) (w : World) (ha : RI w a xs) (hb : RI w b ys) :
 Calls Tryz.prog 209 #[qv n s a, qv m t b] w fun e w' => e = .returned (.bool (alikeB n m s t xs ys)) ∧ Below w.heap.size w w' := by
 have LI : Hid (∀ w, RI w a xs → RI w b ys → Calls Tryz.prog 182 #[a, b] w fun e w' => e = .returned (.bool (decide (xs = ys))) ∧ Below w.heap.size w w') := hide fun w h h' => by
  refine (l7Ints_any a b xs ys w h h').mono ?_
  rintro e w' ⟨h1, n, rfl⟩
  exact ⟨h1, below_drewN (Below.refl _ _) n⟩
 have HA := hide ha
 have HB := hide hb
 clear ha hb
 obtain ⟨w0, hw0⟩ : ∃ w0, ((w.alloc (.cells #[.int .i64 n, .string s, a] 82)).alloc (.cells #[.int .i64 m, .string t, b] 82)) = w0 := ⟨_, rfl⟩
 have Bw0 : Below w.heap.size w w0 := hw0 ▸ ((Below.refl _ _).alloc (Nat.le_refl _) _).alloc (by simp) _
 have A : Loc w0 (w.heap.size) #[.int .i64 n, .string s, a] := hw0 ▸ (loc_at (w) _ _ rfl).alloc _
 have B : Loc w0 (w.heap.size + 1) #[.int .i64 m, .string t, b] := hw0 ▸ loc_at (w.alloc _) _ _ (by simp)
 have zw0 : w.heap.size + 1 + 1 ≤ w0.heap.size := by rw [← hw0]; simp
 go_enter Tryz.func209, Tryz.ntmps209
 by_cases h1 : n = m
 ·have d1 : decide (n = m) = true := by simpa using h1
  have H1 := hide h1
  clear h1
  by_cases h2 : s = t
  ·have d2 : (s.toList == t.toList) = true := str_same h2
   have H2 := hide h2
   clear h2
   have cA0 := A.cell 0 rfl
   have cA1 := A.cell 1 rfl
   have cA2 := A.cell 2 rfl
   have cB0 := B.cell 0 rfl
   have cB1 := B.cell 1 rfl
   have cB2 := B.cell 2 rfl
   go_wp2_with fail
   clear hw0
   refine (LI.out _ (HA.out.below Bw0) (HB.out.below Bw0)).mono ?_
   rintro _ w1 ⟨rfl, bb⟩
   clear cA0 cA1 cA2 cB0 cB1 cB2
   have Bw1 := bu Bw0 bb
   have sw1 := bb.size
   replace A := A.up bb
   replace B := B.up bb
   clear Bw0
   clear bb
   go_wp2
   go_ret
   exact ⟨by simp [alikeB, H1.out, H2.out], Bw1⟩
  ·have d2 : (s.toList == t.toList) = false := str_other h2
   have cA0 := A.cell 0 rfl
   have cA1 := A.cell 1 rfl
   have cA2 := A.cell 2 rfl
   have cB0 := B.cell 0 rfl
   have cB1 := B.cell 1 rfl
   have cB2 := B.cell 2 rfl
   go_wp2
   go_ret
   exact ⟨by simp [alikeB, h2], Bw0⟩
 ·have d1 : decide (n = m) = false := by simpa using h1
  have cA0 := A.cell 0 rfl
  have cA1 := A.cell 1 rfl
  have cA2 := A.cell 2 rfl
  have cB0 := B.cell 0 rfl
  have cB1 := B.cell 1 rfl
  have cB2 := B.cell 2 rfl
  go_wp2
  go_ret
  exact ⟨by simp [alikeB, h1], Bw0⟩
theorem specMsgSame (t t' : MT) (ao bo co ao' bo' co' : Option Addr) (ca cb cc ca' cb' cc' : Nat) (w : World) (ha : RI w (.slice ao t.bw.length ca) t.bw) (hb : RI w (.slice bo t.pw.length cb) t.pw) (hc : RI w (.slice co t.qw.length cc) t.qw) (ha' : RI w (.slice ao' t'.bw.length ca') t'.bw) (hb' : RI w (.slice bo' t'.pw.length cb') t'.pw) (hc' : RI w (.slice co' t'.qw.length cc') t'.qw) :
 Calls Tryz.prog 162 #[mgv t (.slice ao t.bw.length ca) (.slice bo t.pw.length cb) (.slice co t.qw.length cc), mgv t' (.slice ao' t'.bw.length ca') (.slice bo' t'.pw.length cb') (.slice co' t'.qw.length cc')] w fun e w' => e = .returned (.bool (msamB t t')) ∧ Below w.heap.size w w' := by
 have C1 := hide fun w h h' => specBlockSame t.bn t'.bn t.bv t'.bv t.bs t'.bs ao ao' ca ca' t.bw t'.bw w h h'
 have C2 := hide fun w h h' => l14Part_any t.pv t'.pv t.ps t'.ps (.slice bo t.pw.length cb) (.slice bo' t'.pw.length cb') t.pw t'.pw w h h'
 have C3 := hide fun w h h' => specQcSame t.qv t'.qv t.qs t'.qs (.slice co t.qw.length cc) (.slice co' t'.qw.length cc') t.qw t'.qw w h h'
 have E4 := fun w => eq_tx t.fr t.tu t.am t.no t'.fr t'.tu t'.am t'.no w
 have GU := guard_tx
 have ha1 := hide ha
 have hb1 := hide hb
 have hc1 := hide hc
 have ha2 := hide ha'
 have hb2 := hide hb'
 have hc2 := hide hc'
 clear ha hb hc ha' hb' hc'
 unfold msamB
 generalize bsamB t.bn t'.bn t.bv t'.bv t.bs t'.bs t.bw t'.bw = b1 at *
 generalize alikeB t.pv t'.pv t.ps t'.ps t.pw t'.pw = b2 at *
 generalize alikeB t.qv t'.qv t.qs t'.qs t.qw t'.qw = b3 at *
 have HT : Hid (decide (t.fr = t'.fr ∧ t.tu = t'.tu ∧ t.am = t'.am ∧ t.no = t'.no) = txB t t') := hide rfl
 rw [HT.out] at E4
 generalize txB t t' = b4 at *
 clear HT
 obtain ⟨w0, hw0⟩ : ∃ w0, ((w.alloc (.cells #[.int .i64 t.k, .int .i64 t.vw, .string t.bn, .int .i64 t.bv, .string t.bs, .slice ao t.bw.length ca, .int .i64 t.pv, .string t.ps, .slice bo t.pw.length cb, .int .i64 t.qv, .string t.qs, .slice co t.qw.length cc, .int .i64 t.wh, .int .i64 t.fr, .int .i64 t.tu, .int .i64 t.am, .int .i64 t.no] 86)).alloc (.cells #[.int .i64 t'.k, .int .i64 t'.vw, .string t'.bn, .int .i64 t'.bv, .string t'.bs, .slice ao' t'.bw.length ca', .int .i64 t'.pv, .string t'.ps, .slice bo' t'.pw.length cb', .int .i64 t'.qv, .string t'.qs, .slice co' t'.qw.length cc', .int .i64 t'.wh, .int .i64 t'.fr, .int .i64 t'.tu, .int .i64 t'.am, .int .i64 t'.no] 86)) = w0 := ⟨_, rfl⟩
 have Bw0 : Below w.heap.size w w0 := hw0 ▸ ((Below.refl _ _).alloc (Nat.le_refl _) _).alloc (by simp) _
 have A : Loc w0 (w.heap.size) #[.int .i64 t.k, .int .i64 t.vw, .string t.bn, .int .i64 t.bv, .string t.bs, .slice ao t.bw.length ca, .int .i64 t.pv, .string t.ps, .slice bo t.pw.length cb, .int .i64 t.qv, .string t.qs, .slice co t.qw.length cc, .int .i64 t.wh, .int .i64 t.fr, .int .i64 t.tu, .int .i64 t.am, .int .i64 t.no] := hw0 ▸ (loc_at (w) _ _ rfl).alloc _
 have B : Loc w0 (w.heap.size + 1) #[.int .i64 t'.k, .int .i64 t'.vw, .string t'.bn, .int .i64 t'.bv, .string t'.bs, .slice ao' t'.bw.length ca', .int .i64 t'.pv, .string t'.ps, .slice bo' t'.pw.length cb', .int .i64 t'.qv, .string t'.qs, .slice co' t'.qw.length cc', .int .i64 t'.wh, .int .i64 t'.fr, .int .i64 t'.tu, .int .i64 t'.am, .int .i64 t'.no] := hw0 ▸ loc_at (w.alloc _) _ _ (by simp)
 have zw0 : w.heap.size + 1 + 1 ≤ w0.heap.size := by rw [← hw0]; simp
 go_enter Tryz.func162, Tryz.ntmps162
 by_cases h1 : t.k = t'.k
 ·have dh1 : decide (t.k = t'.k) = true := by simpa using h1
  have Hh1 := hide h1
  clear h1
  by_cases h2 : t.vw = t'.vw
  ·have dh2 : decide (t.vw = t'.vw) = true := by simpa using h2
   have Hh2 := hide h2
   clear h2
   have cA0 := A.cell 0 rfl
   have cA1 := A.cell 1 rfl
   have cA2 := A.cell 2 rfl
   have cA3 := A.cell 3 rfl
   have cA4 := A.cell 4 rfl
   have cA5 := A.cell 5 rfl
   have cA6 := A.cell 6 rfl
   have cA7 := A.cell 7 rfl
   have cA8 := A.cell 8 rfl
   have cA9 := A.cell 9 rfl
   have cA10 := A.cell 10 rfl
   have cA11 := A.cell 11 rfl
   have cA12 := A.cell 12 rfl
   have cA13 := A.cell 13 rfl
   have cA14 := A.cell 14 rfl
   have cA15 := A.cell 15 rfl
   have cA16 := A.cell 16 rfl
   have cB0 := B.cell 0 rfl
   have cB1 := B.cell 1 rfl
   have cB2 := B.cell 2 rfl
   have cB3 := B.cell 3 rfl
   have cB4 := B.cell 4 rfl
   have cB5 := B.cell 5 rfl
   have cB6 := B.cell 6 rfl
   have cB7 := B.cell 7 rfl
   have cB8 := B.cell 8 rfl
   have cB9 := B.cell 9 rfl
   have cB10 := B.cell 10 rfl
   have cB11 := B.cell 11 rfl
   have cB12 := B.cell 12 rfl
   have cB13 := B.cell 13 rfl
   have cB14 := B.cell 14 rfl
   have cB15 := B.cell 15 rfl
   have cB16 := B.cell 16 rfl
   go_wp2_with fail
   clear hw0
   refine (C1.out _ (ha1.out.below Bw0) (ha2.out.below Bw0)).mono ?_
   rintro _ w1 ⟨rfl, bb⟩
   clear cA0 cA1 cA2 cA3 cA4 cA5 cA6 cA7 cA8 cA9 cA10 cA11 cA12 cA13 cA14 cA15 cA16 cB0 cB1 cB2 cB3 cB4 cB5 cB6 cB7 cB8 cB9 cB10 cB11 cB12 cB13 cB14 cB15 cB16
   have Bw1 := bu Bw0 bb
   have sw1 := bb.size
   replace A := A.up bb
   replace B := B.up bb
   clear Bw0
   clear bb
   cases b1
   ·have cA0 := A.cell 0 rfl
    have cA1 := A.cell 1 rfl
    have cA2 := A.cell 2 rfl
    have cA3 := A.cell 3 rfl
    have cA4 := A.cell 4 rfl
    have cA5 := A.cell 5 rfl
    have cA6 := A.cell 6 rfl
    have cA7 := A.cell 7 rfl
    have cA8 := A.cell 8 rfl
    have cA9 := A.cell 9 rfl
    have cA10 := A.cell 10 rfl
    have cA11 := A.cell 11 rfl
    have cA12 := A.cell 12 rfl
    have cA13 := A.cell 13 rfl
    have cA14 := A.cell 14 rfl
    have cA15 := A.cell 15 rfl
    have cA16 := A.cell 16 rfl
    have cB0 := B.cell 0 rfl
    have cB1 := B.cell 1 rfl
    have cB2 := B.cell 2 rfl
    have cB3 := B.cell 3 rfl
    have cB4 := B.cell 4 rfl
    have cB5 := B.cell 5 rfl
    have cB6 := B.cell 6 rfl
    have cB7 := B.cell 7 rfl
    have cB8 := B.cell 8 rfl
    have cB9 := B.cell 9 rfl
    have cB10 := B.cell 10 rfl
    have cB11 := B.cell 11 rfl
    have cB12 := B.cell 12 rfl
    have cB13 := B.cell 13 rfl
    have cB14 := B.cell 14 rfl
    have cB15 := B.cell 15 rfl
    have cB16 := B.cell 16 rfl
    go_wp2
    go_ret
    exact ⟨by simp [Hh1.out, Hh2.out], Bw1⟩
   ·have cA0 := A.cell 0 rfl
    have cA1 := A.cell 1 rfl
    have cA2 := A.cell 2 rfl
    have cA3 := A.cell 3 rfl
    have cA4 := A.cell 4 rfl
    have cA5 := A.cell 5 rfl
    have cA6 := A.cell 6 rfl
    have cA7 := A.cell 7 rfl
    have cA8 := A.cell 8 rfl
    have cA9 := A.cell 9 rfl
    have cA10 := A.cell 10 rfl
    have cA11 := A.cell 11 rfl
    have cA12 := A.cell 12 rfl
    have cA13 := A.cell 13 rfl
    have cA14 := A.cell 14 rfl
    have cA15 := A.cell 15 rfl
    have cA16 := A.cell 16 rfl
    have cB0 := B.cell 0 rfl
    have cB1 := B.cell 1 rfl
    have cB2 := B.cell 2 rfl
    have cB3 := B.cell 3 rfl
    have cB4 := B.cell 4 rfl
    have cB5 := B.cell 5 rfl
    have cB6 := B.cell 6 rfl
    have cB7 := B.cell 7 rfl
    have cB8 := B.cell 8 rfl
    have cB9 := B.cell 9 rfl
    have cB10 := B.cell 10 rfl
    have cB11 := B.cell 11 rfl
    have cB12 := B.cell 12 rfl
    have cB13 := B.cell 13 rfl
    have cB14 := B.cell 14 rfl
    have cB15 := B.cell 15 rfl
    have cB16 := B.cell 16 rfl
    go_wp2_with fail
    refine (C2.out _ (hb1.out.below Bw1) (hb2.out.below Bw1)).mono ?_
    rintro _ w2 ⟨rfl, bb⟩
    clear cA0 cA1 cA2 cA3 cA4 cA5 cA6 cA7 cA8 cA9 cA10 cA11 cA12 cA13 cA14 cA15 cA16 cB0 cB1 cB2 cB3 cB4 cB5 cB6 cB7 cB8 cB9 cB10 cB11 cB12 cB13 cB14 cB15 cB16
    have Bw2 := bu Bw1 bb
    have sw2 := bb.size
    replace A := A.up bb
    replace B := B.up bb
    clear Bw1
    clear bb
    cases b2
    ·have cA0 := A.cell 0 rfl
     have cA1 := A.cell 1 rfl
     have cA2 := A.cell 2 rfl
     have cA3 := A.cell 3 rfl
     have cA4 := A.cell 4 rfl
     have cA5 := A.cell 5 rfl
     have cA6 := A.cell 6 rfl
     have cA7 := A.cell 7 rfl
     have cA8 := A.cell 8 rfl
     have cA9 := A.cell 9 rfl
     have cA10 := A.cell 10 rfl
     have cA11 := A.cell 11 rfl
     have cA12 := A.cell 12 rfl
     have cA13 := A.cell 13 rfl
     have cA14 := A.cell 14 rfl
     have cA15 := A.cell 15 rfl
     have cA16 := A.cell 16 rfl
     have cB0 := B.cell 0 rfl
     have cB1 := B.cell 1 rfl
     have cB2 := B.cell 2 rfl
     have cB3 := B.cell 3 rfl
     have cB4 := B.cell 4 rfl
     have cB5 := B.cell 5 rfl
     have cB6 := B.cell 6 rfl
     have cB7 := B.cell 7 rfl
     have cB8 := B.cell 8 rfl
     have cB9 := B.cell 9 rfl
     have cB10 := B.cell 10 rfl
     have cB11 := B.cell 11 rfl
     have cB12 := B.cell 12 rfl
     have cB13 := B.cell 13 rfl
     have cB14 := B.cell 14 rfl
     have cB15 := B.cell 15 rfl
     have cB16 := B.cell 16 rfl
     go_wp2
     go_ret
     exact ⟨by simp [Hh1.out, Hh2.out], Bw2⟩
    ·have cA0 := A.cell 0 rfl
     have cA1 := A.cell 1 rfl
     have cA2 := A.cell 2 rfl
     have cA3 := A.cell 3 rfl
     have cA4 := A.cell 4 rfl
     have cA5 := A.cell 5 rfl
     have cA6 := A.cell 6 rfl
     have cA7 := A.cell 7 rfl
     have cA8 := A.cell 8 rfl
     have cA9 := A.cell 9 rfl
     have cA10 := A.cell 10 rfl
     have cA11 := A.cell 11 rfl
     have cA12 := A.cell 12 rfl
     have cA13 := A.cell 13 rfl
     have cA14 := A.cell 14 rfl
     have cA15 := A.cell 15 rfl
     have cA16 := A.cell 16 rfl
     have cB0 := B.cell 0 rfl
     have cB1 := B.cell 1 rfl
     have cB2 := B.cell 2 rfl
     have cB3 := B.cell 3 rfl
     have cB4 := B.cell 4 rfl
     have cB5 := B.cell 5 rfl
     have cB6 := B.cell 6 rfl
     have cB7 := B.cell 7 rfl
     have cB8 := B.cell 8 rfl
     have cB9 := B.cell 9 rfl
     have cB10 := B.cell 10 rfl
     have cB11 := B.cell 11 rfl
     have cB12 := B.cell 12 rfl
     have cB13 := B.cell 13 rfl
     have cB14 := B.cell 14 rfl
     have cB15 := B.cell 15 rfl
     have cB16 := B.cell 16 rfl
     go_wp2_with fail
     refine (C3.out _ (hc1.out.below Bw2) (hc2.out.below Bw2)).mono ?_
     rintro _ w3 ⟨rfl, bb⟩
     clear cA0 cA1 cA2 cA3 cA4 cA5 cA6 cA7 cA8 cA9 cA10 cA11 cA12 cA13 cA14 cA15 cA16 cB0 cB1 cB2 cB3 cB4 cB5 cB6 cB7 cB8 cB9 cB10 cB11 cB12 cB13 cB14 cB15 cB16
     have Bw3 := bu Bw2 bb
     have sw3 := bb.size
     replace A := A.up bb
     replace B := B.up bb
     clear Bw2
     clear bb
     cases b3
     ·have cA0 := A.cell 0 rfl
      have cA1 := A.cell 1 rfl
      have cA2 := A.cell 2 rfl
      have cA3 := A.cell 3 rfl
      have cA4 := A.cell 4 rfl
      have cA5 := A.cell 5 rfl
      have cA6 := A.cell 6 rfl
      have cA7 := A.cell 7 rfl
      have cA8 := A.cell 8 rfl
      have cA9 := A.cell 9 rfl
      have cA10 := A.cell 10 rfl
      have cA11 := A.cell 11 rfl
      have cA12 := A.cell 12 rfl
      have cA13 := A.cell 13 rfl
      have cA14 := A.cell 14 rfl
      have cA15 := A.cell 15 rfl
      have cA16 := A.cell 16 rfl
      have cB0 := B.cell 0 rfl
      have cB1 := B.cell 1 rfl
      have cB2 := B.cell 2 rfl
      have cB3 := B.cell 3 rfl
      have cB4 := B.cell 4 rfl
      have cB5 := B.cell 5 rfl
      have cB6 := B.cell 6 rfl
      have cB7 := B.cell 7 rfl
      have cB8 := B.cell 8 rfl
      have cB9 := B.cell 9 rfl
      have cB10 := B.cell 10 rfl
      have cB11 := B.cell 11 rfl
      have cB12 := B.cell 12 rfl
      have cB13 := B.cell 13 rfl
      have cB14 := B.cell 14 rfl
      have cB15 := B.cell 15 rfl
      have cB16 := B.cell 16 rfl
      go_wp2
      go_ret
      exact ⟨by simp [Hh1.out, Hh2.out], Bw3⟩
     ·by_cases h3 : t.wh = t'.wh
      ·have dh3 : decide (t.wh = t'.wh) = true := by simpa using h3
       have Hh3 := hide h3
       clear h3
       have cA0 := A.cell 0 rfl
       have cA1 := A.cell 1 rfl
       have cA2 := A.cell 2 rfl
       have cA3 := A.cell 3 rfl
       have cA4 := A.cell 4 rfl
       have cA5 := A.cell 5 rfl
       have cA6 := A.cell 6 rfl
       have cA7 := A.cell 7 rfl
       have cA8 := A.cell 8 rfl
       have cA9 := A.cell 9 rfl
       have cA10 := A.cell 10 rfl
       have cA11 := A.cell 11 rfl
       have cA12 := A.cell 12 rfl
       have cA13 := A.cell 13 rfl
       have cA14 := A.cell 14 rfl
       have cA15 := A.cell 15 rfl
       have cA16 := A.cell 16 rfl
       have cB0 := B.cell 0 rfl
       have cB1 := B.cell 1 rfl
       have cB2 := B.cell 2 rfl
       have cB3 := B.cell 3 rfl
       have cB4 := B.cell 4 rfl
       have cB5 := B.cell 5 rfl
       have cB6 := B.cell 6 rfl
       have cB7 := B.cell 7 rfl
       have cB8 := B.cell 8 rfl
       have cB9 := B.cell 9 rfl
       have cB10 := B.cell 10 rfl
       have cB11 := B.cell 11 rfl
       have cB12 := B.cell 12 rfl
       have cB13 := B.cell 13 rfl
       have cB14 := B.cell 14 rfl
       have cB15 := B.cell 15 rfl
       have cB16 := B.cell 16 rfl
       go_wp2
       go_ret
       exact ⟨by simp [Hh1.out, Hh2.out, Hh3.out], Bw3⟩
      ·have dh3 : decide (t.wh = t'.wh) = false := by simpa using h3
       have cA0 := A.cell 0 rfl
       have cA1 := A.cell 1 rfl
       have cA2 := A.cell 2 rfl
       have cA3 := A.cell 3 rfl
       have cA4 := A.cell 4 rfl
       have cA5 := A.cell 5 rfl
       have cA6 := A.cell 6 rfl
       have cA7 := A.cell 7 rfl
       have cA8 := A.cell 8 rfl
       have cA9 := A.cell 9 rfl
       have cA10 := A.cell 10 rfl
       have cA11 := A.cell 11 rfl
       have cA12 := A.cell 12 rfl
       have cA13 := A.cell 13 rfl
       have cA14 := A.cell 14 rfl
       have cA15 := A.cell 15 rfl
       have cA16 := A.cell 16 rfl
       have cB0 := B.cell 0 rfl
       have cB1 := B.cell 1 rfl
       have cB2 := B.cell 2 rfl
       have cB3 := B.cell 3 rfl
       have cB4 := B.cell 4 rfl
       have cB5 := B.cell 5 rfl
       have cB6 := B.cell 6 rfl
       have cB7 := B.cell 7 rfl
       have cB8 := B.cell 8 rfl
       have cB9 := B.cell 9 rfl
       have cB10 := B.cell 10 rfl
       have cB11 := B.cell 11 rfl
       have cB12 := B.cell 12 rfl
       have cB13 := B.cell 13 rfl
       have cB14 := B.cell 14 rfl
       have cB15 := B.cell 15 rfl
       have cB16 := B.cell 16 rfl
       go_wp2
       go_ret
       exact ⟨by simp [Hh1.out, Hh2.out, h3], Bw3⟩
  ·have dh2 : decide (t.vw = t'.vw) = false := by simpa using h2
   have cA0 := A.cell 0 rfl
   have cA1 := A.cell 1 rfl
   have cA2 := A.cell 2 rfl
   have cA3 := A.cell 3 rfl
   have cA4 := A.cell 4 rfl
   have cA5 := A.cell 5 rfl
   have cA6 := A.cell 6 rfl
   have cA7 := A.cell 7 rfl
   have cA8 := A.cell 8 rfl
   have cA9 := A.cell 9 rfl
   have cA10 := A.cell 10 rfl
   have cA11 := A.cell 11 rfl
   have cA12 := A.cell 12 rfl
   have cA13 := A.cell 13 rfl
   have cA14 := A.cell 14 rfl
   have cA15 := A.cell 15 rfl
   have cA16 := A.cell 16 rfl
   have cB0 := B.cell 0 rfl
   have cB1 := B.cell 1 rfl
   have cB2 := B.cell 2 rfl
   have cB3 := B.cell 3 rfl
   have cB4 := B.cell 4 rfl
   have cB5 := B.cell 5 rfl
   have cB6 := B.cell 6 rfl
   have cB7 := B.cell 7 rfl
   have cB8 := B.cell 8 rfl
   have cB9 := B.cell 9 rfl
   have cB10 := B.cell 10 rfl
   have cB11 := B.cell 11 rfl
   have cB12 := B.cell 12 rfl
   have cB13 := B.cell 13 rfl
   have cB14 := B.cell 14 rfl
   have cB15 := B.cell 15 rfl
   have cB16 := B.cell 16 rfl
   go_wp2
   go_ret
   exact ⟨by simp [Hh1.out, h2], Bw0⟩
 ·have dh1 : decide (t.k = t'.k) = false := by simpa using h1
  have cA0 := A.cell 0 rfl
  have cA1 := A.cell 1 rfl
  have cA2 := A.cell 2 rfl
  have cA3 := A.cell 3 rfl
  have cA4 := A.cell 4 rfl
  have cA5 := A.cell 5 rfl
  have cA6 := A.cell 6 rfl
  have cA7 := A.cell 7 rfl
  have cA8 := A.cell 8 rfl
  have cA9 := A.cell 9 rfl
  have cA10 := A.cell 10 rfl
  have cA11 := A.cell 11 rfl
  have cA12 := A.cell 12 rfl
  have cA13 := A.cell 13 rfl
  have cA14 := A.cell 14 rfl
  have cA15 := A.cell 15 rfl
  have cA16 := A.cell 16 rfl
  have cB0 := B.cell 0 rfl
  have cB1 := B.cell 1 rfl
  have cB2 := B.cell 2 rfl
  have cB3 := B.cell 3 rfl
  have cB4 := B.cell 4 rfl
  have cB5 := B.cell 5 rfl
  have cB6 := B.cell 6 rfl
  have cB7 := B.cell 7 rfl
  have cB8 := B.cell 8 rfl
  have cB9 := B.cell 9 rfl
  have cB10 := B.cell 10 rfl
  have cB11 := B.cell 11 rfl
  have cB12 := B.cell 12 rfl
  have cB13 := B.cell 13 rfl
  have cB14 := B.cell 14 rfl
  have cB15 := B.cell 15 rfl
  have cB16 := B.cell 16 rfl
  go_wp2
  go_ret
  exact ⟨by simp [h1], Bw0⟩
end Go.Proofs.YtndpjhiidmdlhaaGreatDoor
namespace Go.Proofs
open Go.Shelf
def Tryz.laysM316_ren : Go.Shelf.Ren := ⟨fun | 316 => 227 | n => n, fun | 9 => 9 | 3 => 3 | 4 => 4 | 37 => 31 | 0 => 0 | 127 => 311 | 5 => 5 | n => n, fun | n => n⟩
theorem Tryz.laysM316 : Go.Proofs.LaysM.n316 Tryz.prog Tryz.laysM316_ren := {
 mixed := by kernel_rfl
 f316 := Tryz.func227.trans (congrArg some (by kernel_rfl))
 t0 := Tryz.underlying0
 a0 := Tryz.isAgg0
 z0 := Tryz.sizeOf0
 v0 := Tryz.zeroValue0
 t3 := Tryz.underlying3
 a3 := Tryz.isAgg3
 z3 := Tryz.sizeOf3
 v3 := Tryz.zeroValue3
 t4 := Tryz.underlying4
 a4 := Tryz.isAgg4
 z4 := Tryz.sizeOf4
 v4 := Tryz.zeroValue4
 t9 := Tryz.underlying9
 a9 := Tryz.isAgg9
 z9 := Tryz.sizeOf9
 v9 := Tryz.zeroValue9
 t37 := Tryz.underlying31
 a37 := Tryz.isAgg31
 z37 := Tryz.sizeOf31
 v37 := Tryz.zeroValue31
 t127 := Tryz.underlying311
 a127 := Tryz.isAgg311
 z127 := Tryz.sizeOf311
 v127 := Tryz.zeroValue311
 t5 := Tryz.underlying5
 a5 := Tryz.isAgg5
 z5 := Tryz.sizeOf5
 v5 := Tryz.zeroValue5
 i0 := by kernel_rfl
 i3 := by kernel_rfl
 i4 := by kernel_rfl
 i5 := by kernel_rfl
 i9 := by kernel_rfl
 i37 := by kernel_rfl
 i127 := by kernel_rfl }
open Go.RowKit in
theorem Tryz.stringslite_Clone (s : ByteArray) (w : World) (hlim : s.size ≤ 281474976710656) :
 Calls Tryz.prog 227 #[.string s] w fun e w' => e = .returned (.string s) ∧ Below w.heap.size w w' := Any.stringslite_Clone Tryz.laysM316 s w hlim
end Go.Proofs
namespace Go.Proofs.YtndpjhiidmdlhaaGreatDoor
open Go.RowKit

def OS (w : World) (base : Nat) (v : Value) (xs : List ByteArray) : Prop := w.ownsRow base 9 1 v xs.length (xs.map Value.string)
theorem OS.below {w w' : World} {base : Nat} {v : Value} {xs : List ByteArray} (h : OS w base v xs) (hb : Below w.heap.size w w') : OS w' base v xs :=
 World.ownsRow.kept (row := none) h ⟨hb.os, hb.tape, hb.output, hb.size, fun k hk _ => hb.block k hk⟩ (by cases v.ownBlock <;> simp)

theorem clone_any (s : ByteArray) (w : World) (hs : s.size ≤ 281474976710656) :
 Calls Tryz.prog 190 #[.string s] w fun e w' => e = .returned (.string s) ∧ Below w.heap.size w w' := by
 go_enter Tryz.func190, Tryz.ntmps190
 go_wp2_with fail
 refine (Tryz.stringslite_Clone s _ hs).mono ?_
 rintro e w' ⟨rfl, b⟩
 go_wp2
 go_ret
 exact ⟨rfl, b⟩

theorem implQcSame (n m : Int) (s t : ByteArray) (va vb : Value) (xs ys : List Int) (w : World) (ha : RI w va xs) (hb : RI w vb ys) :
 Calls Tryz.prog 136 #[qv n s va, qv m t vb] w fun e w' => e = .returned (.bool (alikeB n m s t xs ys)) ∧ Below w.heap.size w w' := by
 have B := hide (qalloc2 w (.cells #[.int .i64 n, .string s, va] 41) (.cells #[.int .i64 m, .string t, vb] 41))
 have SM := hide (qsame_any w.heap.size (w.heap.size + 1) n m s t va vb xs ys _ ((loc_at w #[.int .i64 n, .string s, va] 41 rfl).alloc _) (loc_at (w.alloc _) #[.int .i64 m, .string t, vb] 41 (by simp)) (ha.below B.out (Nat.le_refl _)) (hb.below B.out (Nat.le_refl _)))
 clear ha hb
 go_enter Tryz.func136, Tryz.ntmps136
 go_wp2_with fail
 refine SM.out.mono ?_
 rintro e w1 ⟨rfl, d, rfl⟩
 go_wp2
 go_ret
 exact ⟨rfl, below_drewN' B.out _⟩

abbrev zq : Obj := .cells #[.int .i64 0, .string ⟨#[]⟩, .slice none 0 0] 41
end Go.Proofs.YtndpjhiidmdlhaaGreatDoor
namespace Go.Proofs.YtndpjhiidmdlhaaGreatDoor
open Go.RowKit
set_option linter.unusedSectionVars false
variable [∀ (a b c d : Int), Decidable (Ok4 a b c d)]

def MI (t : MT) : Prop := (-9223372036854775808 ≤ t.bv ∧ t.bv ≤ 9223372036854775807) ∧ In64 t.bw
theorem implMsgSame (t t' : MT) (ao bo co ao' bo' co' : Option Addr) (ca cb cc ca' cb' cc' : Nat) (w : World) (hm : MI t) (hm' : MI t') (hP : Pow w) (ha : RI w (.slice ao t.bw.length ca) t.bw) (hb : RI w (.slice bo t.pw.length cb) t.pw) (hc : RI w (.slice co t.qw.length cc) t.qw) (ha' : RI w (.slice ao' t'.bw.length ca') t'.bw) (hb' : RI w (.slice bo' t'.pw.length cb') t'.pw) (hc' : RI w (.slice co' t'.qw.length cc') t'.qw) :
 Calls Tryz.prog 175 #[mgv t (.slice ao t.bw.length ca) (.slice bo t.pw.length cb) (.slice co t.qw.length cc), mgv t' (.slice ao' t'.bw.length ca') (.slice bo' t'.pw.length cb') (.slice co' t'.qw.length cc')] w fun e w' => e = .returned (.bool (msamB t t')) ∧ Below w.heap.size w w' := by
 have C1 := hide fun w hP h h' => implBlockSame t.bn t'.bn t.bv t'.bv t.bs t'.bs ao ao' ca ca' t.bw t'.bw w hm.1.1 hm.1.2 hm'.1.1 hm'.1.2 hm.2 hm'.2 hP h h'
 have C2 := hide fun w h h' => implQcSame t.pv t'.pv t.ps t'.ps (.slice bo t.pw.length cb) (.slice bo' t'.pw.length cb') t.pw t'.pw w h h'
 have C3 := hide fun w h h' => implQcSame t.qv t'.qv t.qs t'.qs (.slice co t.qw.length cc) (.slice co' t'.qw.length cc') t.qw t'.qw w h h'
 have E4 := fun w => eq_tx t.fr t.tu t.am t.no t'.fr t'.tu t'.am t'.no w
 have GU := guard_tx
 have hP1 := hide hP
 have ha1 := hide ha
 have hb1 := hide hb
 have hc1 := hide hc
 have ha2 := hide ha'
 have hb2 := hide hb'
 have hc2 := hide hc'
 clear ha hb hc ha' hb' hc' hm hm' hP
 unfold msamB
 generalize bsamB t.bn t'.bn t.bv t'.bv t.bs t'.bs t.bw t'.bw = b1 at *
 generalize alikeB t.pv t'.pv t.ps t'.ps t.pw t'.pw = b2 at *
 generalize alikeB t.qv t'.qv t.qs t'.qs t.qw t'.qw = b3 at *
 have HT : Hid (decide (t.fr = t'.fr ∧ t.tu = t'.tu ∧ t.am = t'.am ∧ t.no = t'.no) = txB t t') := hide rfl
 rw [HT.out] at E4
 generalize txB t t' = b4 at *
 clear HT
 obtain ⟨w0, hw0⟩ : ∃ w0, ((w.alloc (.cells #[.int .i64 t.k, .int .i64 t.vw, .string t.bn, .int .i64 t.bv, .string t.bs, .slice ao t.bw.length ca, .int .i64 t.pv, .string t.ps, .slice bo t.pw.length cb, .int .i64 t.qv, .string t.qs, .slice co t.qw.length cc, .int .i64 t.wh, .int .i64 t.fr, .int .i64 t.tu, .int .i64 t.am, .int .i64 t.no] 86)).alloc (.cells #[.int .i64 t'.k, .int .i64 t'.vw, .string t'.bn, .int .i64 t'.bv, .string t'.bs, .slice ao' t'.bw.length ca', .int .i64 t'.pv, .string t'.ps, .slice bo' t'.pw.length cb', .int .i64 t'.qv, .string t'.qs, .slice co' t'.qw.length cc', .int .i64 t'.wh, .int .i64 t'.fr, .int .i64 t'.tu, .int .i64 t'.am, .int .i64 t'.no] 86)) = w0 := ⟨_, rfl⟩
 have Bw0 : Below w.heap.size w w0 := hw0 ▸ ((Below.refl _ _).alloc (Nat.le_refl _) _).alloc (by simp) _
 have A : Loc w0 (w.heap.size) #[.int .i64 t.k, .int .i64 t.vw, .string t.bn, .int .i64 t.bv, .string t.bs, .slice ao t.bw.length ca, .int .i64 t.pv, .string t.ps, .slice bo t.pw.length cb, .int .i64 t.qv, .string t.qs, .slice co t.qw.length cc, .int .i64 t.wh, .int .i64 t.fr, .int .i64 t.tu, .int .i64 t.am, .int .i64 t.no] := hw0 ▸ (loc_at (w) _ _ rfl).alloc _
 have B : Loc w0 (w.heap.size + 1) #[.int .i64 t'.k, .int .i64 t'.vw, .string t'.bn, .int .i64 t'.bv, .string t'.bs, .slice ao' t'.bw.length ca', .int .i64 t'.pv, .string t'.ps, .slice bo' t'.pw.length cb', .int .i64 t'.qv, .string t'.qs, .slice co' t'.qw.length cc', .int .i64 t'.wh, .int .i64 t'.fr, .int .i64 t'.tu, .int .i64 t'.am, .int .i64 t'.no] := hw0 ▸ loc_at (w.alloc _) _ _ (by simp)
 have zw0 : w.heap.size + 1 + 1 ≤ w0.heap.size := by rw [← hw0]; simp
 go_enter Tryz.func175, Tryz.ntmps175
 by_cases h1 : t.k = t'.k
 ·have dh1 : decide (t.k = t'.k) = true := by simpa using h1
  have Hh1 := hide h1
  clear h1
  by_cases h2 : t.vw = t'.vw
  ·have dh2 : decide (t.vw = t'.vw) = true := by simpa using h2
   have Hh2 := hide h2
   clear h2
   have hPx := hP1.out.below Bw0
   have cA0 := A.cell 0 rfl
   have cA1 := A.cell 1 rfl
   have cA2 := A.cell 2 rfl
   have cA3 := A.cell 3 rfl
   have cA4 := A.cell 4 rfl
   have cA5 := A.cell 5 rfl
   have cB0 := B.cell 0 rfl
   have cB1 := B.cell 1 rfl
   have cB2 := B.cell 2 rfl
   have cB3 := B.cell 3 rfl
   have cB4 := B.cell 4 rfl
   have cB5 := B.cell 5 rfl
   go_wp2_with fail
   clear hw0
   refine (C1.out _ hPx (ha1.out.below Bw0) (ha2.out.below Bw0)).mono ?_
   rintro _ w1 ⟨rfl, bb⟩
   clear cA0 cA1 cA2 cA3 cA4 cA5 cB0 cB1 cB2 cB3 cB4 cB5
   have Bw1 := bu Bw0 bb
   have sw1 := bb.size
   replace A := A.up bb
   replace B := B.up bb
   clear Bw0
   clear bb
   cases b1
   ·go_wp2
    go_ret
    exact ⟨by simp [Hh1.out, Hh2.out], Bw1⟩
   ·have cA6 := A.cell 6 rfl
    have cA7 := A.cell 7 rfl
    have cA8 := A.cell 8 rfl
    have cB6 := B.cell 6 rfl
    have cB7 := B.cell 7 rfl
    have cB8 := B.cell 8 rfl
    go_wp2_with fail
    refine (C2.out _ (hb1.out.below Bw1) (hb2.out.below Bw1)).mono ?_
    rintro _ w2 ⟨rfl, bb⟩
    clear cA6 cA7 cA8 cB6 cB7 cB8
    have Bw2 := bu Bw1 bb
    have sw2 := bb.size
    replace A := A.up bb
    replace B := B.up bb
    clear Bw1
    clear bb
    cases b2
    ·go_wp2
     go_ret
     exact ⟨by simp [Hh1.out, Hh2.out], Bw2⟩
    ·have cA9 := A.cell 9 rfl
     have cA10 := A.cell 10 rfl
     have cA11 := A.cell 11 rfl
     have cB9 := B.cell 9 rfl
     have cB10 := B.cell 10 rfl
     have cB11 := B.cell 11 rfl
     go_wp2_with fail
     refine (C3.out _ (hc1.out.below Bw2) (hc2.out.below Bw2)).mono ?_
     rintro _ w3 ⟨rfl, bb⟩
     clear cA9 cA10 cA11 cB9 cB10 cB11
     have Bw3 := bu Bw2 bb
     have sw3 := bb.size
     replace A := A.up bb
     replace B := B.up bb
     clear Bw2
     clear bb
     cases b3
     ·go_wp2
      go_ret
      exact ⟨by simp [Hh1.out, Hh2.out], Bw3⟩
     ·by_cases h3 : t.wh = t'.wh
      ·have dh3 : decide (t.wh = t'.wh) = true := by simpa using h3
       have Hh3 := hide h3
       clear h3
       have cA12 := A.cell 12 rfl
       have cA13 := A.cell 13 rfl
       have cA14 := A.cell 14 rfl
       have cA15 := A.cell 15 rfl
       have cA16 := A.cell 16 rfl
       have cB12 := B.cell 12 rfl
       have cB13 := B.cell 13 rfl
       have cB14 := B.cell 14 rfl
       have cB15 := B.cell 15 rfl
       have cB16 := B.cell 16 rfl
       go_wp2
       go_ret
       exact ⟨by simp [Hh1.out, Hh2.out, Hh3.out], Bw3⟩
      ·have dh3 : decide (t.wh = t'.wh) = false := by simpa using h3
       have cA12 := A.cell 12 rfl
       have cB12 := B.cell 12 rfl
       go_wp2
       go_ret
       exact ⟨by simp [Hh1.out, Hh2.out, h3], Bw3⟩
  ·have dh2 : decide (t.vw = t'.vw) = false := by simpa using h2
   have cA0 := A.cell 0 rfl
   have cA1 := A.cell 1 rfl
   have cB0 := B.cell 0 rfl
   have cB1 := B.cell 1 rfl
   go_wp2
   go_ret
   exact ⟨by simp [Hh1.out, h2], Bw0⟩
 ·have dh1 : decide (t.k = t'.k) = false := by simpa using h1
  have cA0 := A.cell 0 rfl
  have cB0 := B.cell 0 rfl
  go_wp2
  go_ret
  exact ⟨by simp [h1], Bw0⟩
end Go.Proofs.YtndpjhiidmdlhaaGreatDoor
namespace Go.Proofs.YtndpjhiidmdlhaaGreatDoor
open Go.ChangeShapes Go.WideShapes Go.ChangeAt Go.RowKit
open Go.Joins
set_option linter.unusedSectionVars false
variable [∀ (a b c d : Int), Decidable (Ok4 a b c d)]
variable [∀ (n f : Int), Decidable (COk n f)]

section
variable {H : Type} {enc : TypeId × Value → H} {P : Program} {w : World} {base : Nat} {spare : Bool}
theorem trod_struct7 {held : TypeId → Bool} {t : TypeId} {f0 f1 f2 f3 f4 f5 f6 : Field} {fuel : Nat} {cs : List Value} {x : DataW H × List MemPlace} (ht : P.underlying t = some (.struct #[f0, f1, f2, f3, f4, f5, f6])) (h : DataW.trod enc P w base held spare fuel t cs = some x) :
 ∃ y0 y1 y2 y3 y4 y5 y6 n, DataW.trod enc P w base held spare n f0.type ((cs.drop f0.offset).take (P.cellsOf f0.type)) = some y0 ∧ DataW.trod enc P w base held spare n f1.type ((cs.drop f1.offset).take (P.cellsOf f1.type)) = some y1 ∧ DataW.trod enc P w base held spare n f2.type ((cs.drop f2.offset).take (P.cellsOf f2.type)) = some y2 ∧ DataW.trod enc P w base held spare n f3.type ((cs.drop f3.offset).take (P.cellsOf f3.type)) = some y3 ∧ DataW.trod enc P w base held spare n f4.type ((cs.drop f4.offset).take (P.cellsOf f4.type)) = some y4 ∧ DataW.trod enc P w base held spare n f5.type ((cs.drop f5.offset).take (P.cellsOf f5.type)) = some y5 ∧ DataW.trod enc P w base held spare n f6.type ((cs.drop f6.offset).take (P.cellsOf f6.type)) = some y6 := by
 obtain ⟨xs, n, _, rfl, hl, hlen, hf⟩ := DataW.trod_struct ht h
 match xs, hlen with
 | [y0, y1, y2, y3, y4, y5, y6], _ => exact ⟨y0, y1, y2, y3, y4, y5, y6, n, by simpa using hf 0 f0 rfl, by simpa using hf 1 f1 rfl, by simpa using hf 2 f2 rfl, by simpa using hf 3 f3 rfl, by simpa using hf 4 f4 rfl, by simpa using hf 5 f5 rfl, by simpa using hf 6 f6 rfl⟩
end
theorem array17 {cs : Array Value} (h : cs.size = 17) : ∃ c0 c1 c2 c3 c4 c5 c6 c7 c8 c9 c10 c11 c12 c13 c14 c15 c16, cs = #[c0, c1, c2, c3, c4, c5, c6, c7, c8, c9, c10, c11, c12, c13, c14, c15, c16] := by
 obtain ⟨l⟩ := cs
 match l, h with
 | [c0, c1, c2, c3, c4, c5, c6, c7, c8, c9, c10, c11, c12, c13, c14, c15, c16], _ => exact ⟨c0, c1, c2, c3, c4, c5, c6, c7, c8, c9, c10, c11, c12, c13, c14, c15, c16, rfl⟩
theorem cellsMsg : Tryz.prog.cellsOf 130 = 17 := by kernel_rfl
theorem cellsPartL : Tryz.prog.cellsOf 123 = 3 := by kernel_rfl
theorem cellsTxL : Tryz.prog.cellsOf 128 = 4 := by kernel_rfl
def MB (t : MT) : Prop := t.bn.size ≤ maxLen ∧ t.bs.size ≤ maxLen ∧ t.bw.length ≤ maxLen ∧ t.ps.size ≤ maxLen ∧ t.pw.length ≤ maxLen ∧ t.qs.size ≤ maxLen ∧ t.qw.length ≤ maxLen
end Go.Proofs.YtndpjhiidmdlhaaGreatDoor
namespace Go.Proofs.YtndpjhiidmdlhaaGreatDoor
open Go Go.RowKit

theorem Loc.row {w : World} {g : Nat} {cs cs' : Array Value} (h : Loc w g cs) : Loc (w.setRow g cs') g cs' := by obtain ⟨t, h⟩ := h; exact ⟨t, setRow_heap w g cs cs' t (0, 0) h⟩
theorem row_kp (w : World) (g : Nat) (cs : Array Value) : Kp w (w.setRow g cs) (fun k => k = g) := ⟨rfl, rfl, rfl, by simp, fun k _ hk => setRow_other w g k cs hk⟩
abbrev isRow : TypeDesc → Bool
 | .struct _ | .array _ _ => true
 | _ => false
section
variable {P : Program} {ops : Array Oper} {rest : List Oper} {o : Oper} {a : Act} {Q : Exit → Act → World → Prop}
theorem wload {w : World} {g : Nat} {cs : Array Value} (L : Loc w g cs) (ty : TypeId) (d : TypeDesc) (hgd : Region.wanted o (yielded ops a.tmps) = true) (x : Operand) (ho : o.op = .load ty x) (hx : a.eval x = .pointer (some ⟨g, 0, none⟩))
 (hu : P.underlying ty = some d) (hd : isRow d = true) (hi : (P.info? ty).map (·.size) = some cs.size) (h : wpList P ops Q rest (a.put o.dst (.agg cs)) w) : wpList P ops Q (o :: rest) a w := by
 obtain ⟨t, hg⟩ := L
 exact wpList_step fun K hK => by rw [if_pos hgd]; exact wp_load_row ty x ho g hx t cs (0, 0) d hg hu (by cases d <;> first | rfl | (simp [isRow] at hd)) hi (hK _ _ h)
theorem wstore {w : World} {g : Nat} {cs : Array Value} (L : Loc w g cs) (ty : TypeId) (cs' : Array Value) (hgd : o.guard = none) (x y : Operand) (ho : o.op = .store ty x y) (hx : a.eval x = .pointer (some ⟨g, 0, none⟩)) (hy : a.eval y = .agg cs')
 (hi : (P.info? ty).map (·.size) = some cs'.size) (hold : cs.size = cs'.size) (h1 : cs'.all (·.oneCell') = true) (h : wpList P ops Q rest (a.put o.dst undef) (w.setRow g cs')) : wpList P ops Q (o :: rest) a w := by
 obtain ⟨t, hg⟩ := L
 exact wpList_store_row hgd ty x y ho g cs' hx hy t cs hg hi hold h1 h
theorem res_row {fn : Func} {p : Tmp} {ty : TypeId} (h : fn.results = #[.cell p ty]) {tmps : Array Value} {w : World} {g : Nat} {cs : Array Value} (d : TypeDesc) (L : Loc w g cs) (hp : tmps.getD p undef = .pointer (some ⟨g, 0, none⟩))
 (hu : P.underlying ty = some d) (hd : isRow d = true) (hi : (P.info? ty).map (·.size) = some cs.size) : (results fn tmps).run P w = .ok (.agg cs) w := by
 obtain ⟨t, hg⟩ := L
 exact results_cell_row h tmps w g t cs (0, 0) d hp hg hu (by cases d <;> first | rfl | (simp [isRow] at hd)) hi
theorem load_row {w : World} {g : Nat} {cs : Array Value} (L : Loc w g cs) (ty : TypeId) (d : TypeDesc) (hu : P.underlying ty = some d) (hd : isRow d = true) (hi : (P.info? ty).map (·.size) = some cs.size) :
 (loadVar ty ⟨g, 0, none⟩).run P w = .ok (.agg cs) w := by
 obtain ⟨t, hg⟩ := L
 exact run_loadVar_row w g t ty cs (0, 0) d hg hu (by cases d <;> first | rfl | (simp [isRow] at hd)) hi
theorem yields_row {S : World → Prop} {op : Oper} (hw : Region.wanted op (yielded ops a.tmps) = true) (ty : TypeId) (x : Operand) (ho : op.op = .load ty x) {g : Nat} (hx : a.eval x = .pointer (some ⟨g, 0, none⟩)) {cs : Array Value} (d : TypeDesc)
 (hS : ∀ w, S w → Loc w g cs) (hu : P.underlying ty = some d) (hd : isRow d = true) (hi : (P.info? ty).map (·.size) = some cs.size) : YieldsIf P ops S op (.agg cs) a :=
 .inl ⟨hw, fun w hw' => by
  unfold execOp
  simp only [ho, hx, Instr.loadAt, Instr.sureAddr, Sem.run_bind, Sem.run_pure, Result.andThen_ok, load_row (hS w hw') ty d hu hd hi]⟩
end
theorem box_loc (w : World) (Z C : Array Value) (T : TypeId) : Loc ((w.alloc (.cells Z T)).setRow w.heap.size C) w.heap.size C := (loc_at w Z T rfl).row
theorem box_below (w : World) (Z C : Array Value) (T : TypeId) : Below w.heap.size w ((w.alloc (.cells Z T)).setRow w.heap.size C) := Below.kp ((Below.refl _ _).alloc (Nat.le_refl _) _) (row_kp _ _ _) (by simp) (fun k hk => by omega)
theorem box_size (w : World) (Z C : Array Value) (T : TypeId) : ((w.alloc (.cells Z T)).setRow w.heap.size C).heap.size = w.heap.size + 1 := by simp
end Go.Proofs.YtndpjhiidmdlhaaGreatDoor
