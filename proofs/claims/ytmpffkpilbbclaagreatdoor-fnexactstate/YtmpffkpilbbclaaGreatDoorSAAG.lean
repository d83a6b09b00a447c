/- Lemmas; their conditions stand in each statement. -/
import Derived.Test.YtmpffkpilbbclaaGreatDoorSAAF
import Derived.Laws.CopyOwn
set_option maxRecDepth 100000
set_option maxHeartbeats 16000000
set_option linter.unusedSectionVars false
namespace Go.Proofs.YtmpffkpilbbclaaGreatDoor
section
open Go.RowKit
def bsamB (m m' : ByteArray) (v v' : Int) (s s' : ByteArray) (xs ys : List Int) : Bool := decide (m = m' ∧ v = v' ∧ s = s' ∧ xs = ys)
theorem str_same {s t : ByteArray} (h : s = t) : (s.toList == t.toList) = true := by simp [h]
theorem str_other {t s : ByteArray} (h : t ≠ s) : (t.toList == s.toList) = false := by
 rw [beq_eq_false_iff_ne]
 intro e
 rw [ByteArray.toList_eq, ByteArray.toList_eq] at e
 exact h (ByteArray.ext (Array.toList_inj.1 e))
def xt (xs : List Int) : ByteArray := ⟨(digL xs).toArray⟩
theorem xt_inj {xs ys : List Int} (h : xt xs = xt ys) : xs = ys := by
 have:=congrArg (fun s : ByteArray => s.data.toList) h
 exact digL_inj (by simpa [xt] using this)
theorem dgt_inj {n m : Int} (h : dgt n = dgt m) : n = m := by
 have:=congrArg (fun s : ByteArray => s.data.toList) h
 exact itoa_inj (by simpa [dgt] using this)
theorem str_dec (s t : ByteArray) : (s.toList == t.toList) = decide (s = t) := by
 by_cases h : s = t
 ·rw [str_same h]; simp [h]
 rw [str_other h]; simp [h]
theorem bsame_eq (m m' : ByteArray) (v v' : Int) (s s' : ByteArray) (xs ys : List Int) : (m.toList == m'.toList && ((dgt v).toList == (dgt v').toList && (s.toList == s'.toList && (xt xs).toList == (xt ys).toList))) = bsamB m m' v v' s s' xs ys := by
 rw [str_dec, str_dec, str_dec, str_dec]
 have e1 : (dgt v = dgt v') ↔ v = v':=⟨dgt_inj, fun h => by rw [h]⟩
 have e2 : (xt xs = xt ys) ↔ xs = ys:=⟨xt_inj, fun h => by rw [h]⟩
 simp [bsamB, e1, e2]

theorem text_any (m : ByteArray) (v : Int) (s : ByteArray) (ao : Option Addr) (ca : Nat) (xs : List Int) (w : World) (h0 : -9223372036854775808 ≤ v) (h1 : v ≤ 9223372036854775807) (hw : In64 xs) (hP : Pow w) (ha : RI w (.slice ao xs.length ca) xs) :
 Calls Tryz.prog 215 #[bv m v s (.slice ao xs.length ca)] w fun e w' => e = .returned (tv m (dgt v) s (xt xs)) ∧ Below w.heap.size w w' := by
 obtain ⟨w0, hw0, Bw0, LB, LT, _⟩:=bx2 w #[.string m,.int .i64 v,.string s,.slice ao xs.length ca] 40 #[.string ⟨#[]⟩,.string ⟨#[]⟩,.string ⟨#[]⟩,.string ⟨#[]⟩] 247
 have DI:=hide fun w' (b : Below w0.heap.size w0 w') => implDigits_any v w' h0 h1 ((hP.below Bw0).below b)
 have DO:=hide fun w' (b : Below w0.heap.size w0 w') => digitsOf_any (.slice ao xs.length ca) xs w' ((ha.below Bw0).below b) hw ((hP.below Bw0).below b)
 have e1 : (⟨(Lib.itoa v).toArray⟩ : ByteArray) = dgt v:=rfl
 have e2 : (⟨(digL xs).toArray⟩ : ByteArray) = xt xs:=rfl
 rw [e1] at DI
 rw [e2] at DO
 clear e1 e2 ha hw hP
 generalize dgt v = d at *
 generalize xt xs = x at *
 go_enter Tryz.func215, Tryz.ntmps215
 have K:=hide (ka (kc1 LB 0) (ka (kc1 LB 1) (ka (kc1 LB 2) (kc1 LB 3))))
 go_upto_region 1 with fail
 clear hw0
 refine wra K (fun bA hHeld => ?_)
 refine tx 0 3 ?_
 refine tx 2 5 ?_
 refine tx 6 9 ?_
 refine tx 9 12 ?_
 refine tx 1 4 ?_
 refine tx 3 6 ?_
 refine tx 7 10 ?_
 refine tx 10 13 ?_
 refine tx 4 7 ?_
 refine tx 8 11 ?_
 refine tx 11 14 ?_
 refine rd 5 rfl (fun KK hKK => ?_)
 go_simp
 have hgo:=bA
 refine (DI.out _ hgo).mono ?_
 rintro e wz1 ⟨rfl, bb⟩
 have bz1 : Below w0.heap.size w0 wz1:=bu bA bb
 clear bA hgo bb hHeld
 refine hKK.out _ _ (K.out _ bz1) (fun hHeld => ?_)
 clear hKK KK
 refine rd 12 rfl (fun KK hKK => ?_)
 go_simp
 have hgo:=bz1
 refine (DO.out _ hgo).mono ?_
 rintro e wz2 ⟨rfl, bb⟩
 have bz2 : Below w0.heap.size w0 wz2:=bu bz1 bb
 clear bz1 hgo bb hHeld
 refine hKK.out _ _ (K.out _ bz2) (fun hHeld => ?_)
 clear hKK KK
 refine tx 13 16 ?_
 have LT2:=LT.up bz2
 have q0:=LT2.cell 0 rfl
 have q1:=LT2.cell 1 rfl
 have q2:=LT2.cell 2 rfl
 have q3:=LT2.cell 3 rfl
 have fq:=LT2.frozen
 have hl:=LT.lt
 have ll:=bz2.size
 have LB2:=LB.up bz2
 have k4:=kp4 wz2 (w.heap.size + 1) (.string m) (.string d) (.string s) (.string x)
 have LB3:=LB2.kp k4 (by omega)
 refine rd 14 rfl (fun KK hKK => ?_)
 go_simp
 clear hHeld
 refine hKK.out _ _ ⟨LB3.cell 0 rfl, LB3.cell 1 rfl, LB3.cell 2 rfl, LB3.cell 3 rfl⟩ (fun hHeld => ?_)
 clear hKK KK hHeld
 refine wdn ?_
 go_wp2
 refine bodyPost_ret (v := tv m d s x) (by simp [results, Tryz.results215, go_sem, q0, q1, q2, q3]) rfl ?_
 exact ⟨rfl, Below.kp (bu Bw0 bz2) k4 (by have := Bw0.size; omega) (fun k hk => by omega)⟩

theorem implBlockSame (m m' : ByteArray) (v v' : Int) (s s' : ByteArray) (ao bo : Option Addr) (ca cb : Nat) (xs ys : List Int) (w : World) (h0 : -9223372036854775808 ≤ v) (h1 : v ≤ 9223372036854775807) (h0' : -9223372036854775808 ≤ v') (h1' : v' ≤ 9223372036854775807) (hw : In64 xs) (hw' : In64 ys) (hP : Pow w) (ha : RI w (.slice ao xs.length ca) xs) (hb : RI w (.slice bo ys.length cb) ys) :
 Calls Tryz.prog 201 #[bv m v s (.slice ao xs.length ca), bv m' v' s' (.slice bo ys.length cb)] w fun e w' => e = .returned (.bool (bsamB m m' v v' s s' xs ys)) ∧ Below w.heap.size w w' := by
 obtain ⟨w0, hw0, Bw0, LA, LB, _⟩:=bx2 w #[.string m,.int .i64 v,.string s,.slice ao xs.length ca] 40 #[.string m',.int .i64 v',.string s',.slice bo ys.length cb] 40
 have TA:=hide fun w' (b : Below w0.heap.size w0 w') => text_any m v s ao ca xs w' h0 h1 hw ((hP.below Bw0).below b) ((ha.below Bw0).below b)
 have TB:=hide fun w' (b : Below w0.heap.size w0 w') => text_any m' v' s' bo cb ys w' h0' h1' hw' ((hP.below Bw0).below b) ((hb.below Bw0).below b)
 have hEQ : ∀ w, (binOp .eql 247 (tv m (dgt v) s (xt xs)) (tv m' (dgt v') s' (xt ys))).run Tryz.prog w = .ok (.bool (bsamB m m' v v' s s' xs ys)) w:=fun w => by rw [eq_text, bsame_eq]
 have hG : ∀ x y w, (eqGuard .eql 247 x y (tv m (dgt v) s (xt xs)) (tv m' (dgt v') s' (xt ys))).run Tryz.prog w = .ok () w:=fun x y w => guard_text x y _ _ w
 clear ha hb hw hw' hP
 generalize tv m (dgt v) s (xt xs) = A at *
 generalize tv m' (dgt v') s' (xt ys) = C at *
 generalize bsamB m m' v v' s s' xs ys = q at *
 go_enter Tryz.func201, Tryz.ntmps201
 have K:=kw (ka (kc4 LA 0 1 2 3) (kc4 LB 0 1 2 3))
 go_upto_region 1 with fail
 clear hw0
 refine wra K (fun bA hHeld => ?_)
 refine tx 0 5 ?_
 refine tx 2 7 ?_
 refine rd 1 rfl (fun KK hKK => ?_)
 go_simp
 have hgo:=bA
 refine (TA.out _ hgo).mono ?_
 rintro e wz1_1 ⟨rfl, bb⟩
 have bz1 : Below w0.heap.size w0 wz1_1:=bu bA bb
 clear bA hgo bb hHeld
 refine hKK.out _ _ (K.out _ bz1) (fun hHeld => ?_)
 clear hKK KK
 refine rd 3 rfl (fun KK hKK => ?_)
 go_simp
 have hgo:=bz1
 refine (TB.out _ hgo).mono ?_
 rintro e wz1_2 ⟨rfl, bb⟩
 have bz2 : Below w0.heap.size w0 wz1_2:=bu bz1 bb
 clear bz1 hgo bb hHeld
 refine hKK.out _ _ (K.out _ bz2) (fun hHeld => ?_)
 clear hKK KK
 refine tx 4 9 ?_
 refine tx 5 4 ?_
 clear hHeld
 refine wdn ?_
 have bb:=bz2
 have Bwz1_2:=bu Bw0 bb
 have swz1_2:=bb.size
 replace LA:=LA.up bb
 replace LB:=LB.up bb
 clear Bw0 bb bz2 K
 go_wp2
 go_ret
 exact ⟨rfl, Bwz1_2⟩

theorem specBlockSame (m m' : ByteArray) (v v' : Int) (s s' : ByteArray) (ao bo : Option Addr) (ca cb : Nat) (xs ys : List Int) (w : World) (ha : RI w (.slice ao xs.length ca) xs) (hb : RI w (.slice bo ys.length cb) ys) :
 Calls Tryz.prog 196 #[bv m v s (.slice ao xs.length ca), bv m' v' s' (.slice bo ys.length cb)] w fun e w' => e = .returned (.bool (bsamB m m' v v' s s' xs ys)) ∧ Below w.heap.size w w' := by
 obtain ⟨w0, hw0, Bw0, LA, LB, _⟩:=bx2 w #[.string m,.int .i64 v,.string s,.slice ao xs.length ca] 40 #[.string m',.int .i64 v',.string s',.slice bo ys.length cb] 40
 have QS:=hide (specQcSame v v' s s' (.slice ao xs.length ca) (.slice bo ys.length cb) xs ys w0 (ha.below Bw0) (hb.below Bw0))
 have hB : bsamB m m' v v' s s' xs ys = (decide (m = m') && alikeB v v' s s' xs ys):=by simp [bsamB, alikeB]
 rw [hB]
 clear hB ha hb
 generalize alikeB v v' s s' xs ys = q at *
 obtain ⟨cLA0,cLA1,cLA2,cLA3⟩:=cc4 LA 0 1 2 3
 obtain ⟨cLB0,cLB1,cLB2,cLB3⟩:=cc4 LB 0 1 2 3
 by_cases hm : m = m'
 ·have hy:=str_same hm
  have hd : decide (m = m') = true:=by simpa using hm
  rw [hd, Bool.true_and]
  clear hm hd
  go_enter Tryz.func196, Tryz.ntmps196
  go_wp2_with fail
  clear hw0
  refine QS.out.mono ?_
  rintro e w1 ⟨rfl, b1⟩
  have B1:=bu Bw0 b1
  go_wp2
  go_ret
  exact ⟨rfl, B1⟩
 have hy:=str_other hm
 have hd : decide (m = m') = false:=by simpa using hm
 rw [hd, Bool.false_and]
 clear hm hd
 go_enter Tryz.func196, Tryz.ntmps196
 go_wp2
 go_ret
 exact ⟨rfl, Bw0⟩
end
section
open Go.RowKit
variable [∀ (a b c d : Int), Decidable (Ok4 a b c d)]
theorem eq_tx (a b c d a' b' c' d' : Int) (w : World) :
 (binOp .eql 119 (txv a b c d) (txv a' b' c' d')).run Tryz.prog w = .ok (.bool (decide (a = a' ∧ b = b' ∧ c = c' ∧ d = d'))) w := by
 have hS : Tryz.prog.underlying 119 = some (.struct (Tryz.prog.fieldsOf 119)):=by kernel_rfl
 have hp : Tryz.prog.stoodInHeld 119 = false:=by kernel_rfl
 rw [run_eql_struct, show (10000 : Nat) = 9999 + 1 from rfl, run_equalIn_struct w 9999 119 _ _ hS hp]
 simp only [Program.fieldsOf, Tryz.underlying119]
 go_simp
 by_cases h1 : a = a' <;> by_cases h2 : b = b' <;> by_cases h3 : c = c' <;> by_cases h4 : d = d' <;> simp [h1, h2, h3, h4]
theorem guard_tx (x y : Operand) (xs ys : Array Value) (w : World) : (eqGuard .eql 119 x y (.agg xs) (.agg ys)).run Tryz.prog w = .ok () w := run_eqGuard_agg w .eql _ x y xs ys (by kernel_rfl)
def txB (t t' : MT) : Bool := decide (t.fr = t'.fr ∧ t.tu = t'.tu ∧ t.am = t'.am ∧ t.no = t'.no)
def msamB (t t' : MT) : Bool := decide (t.k = t'.k) && (decide (t.vw = t'.vw) && (bsamB t.bn t'.bn t.bv t'.bv t.bs t'.bs t.bw t'.bw && (alikeB t.pv t'.pv t.ps t'.ps t.pw t'.pw && (alikeB t.qv t'.qv t.qs t'.qs t.qw t'.qw && (decide (t.wh = t'.wh) && txB t t')))))
theorem l14Part_any (n m : Int) (s t : ByteArray) (a b : Value) (xs ys : List Int) (w : World) (ha : RI w a xs) (hb : RI w b ys) :
 Calls Tryz.prog 197 #[qv n s a, qv m t b] w fun e w' => e = .returned (.bool (alikeB n m s t xs ys)) ∧ Below w.heap.size w w' := by
 have LI : Hid (∀ w, RI w a xs → RI w b ys → Calls Tryz.prog 213 #[a, b] w fun e w' => e = .returned (.bool (decide (xs = ys))) ∧ Below w.heap.size w w'):=hide fun w h h' => by
  refine (l7Ints_any a b xs ys w h h').mono ?_
  rintro e w' ⟨h1, n, rfl⟩
  exact ⟨h1, below_drewN (Below.refl _ _) n⟩
 have HA:=hide ha
 have HB:=hide hb
 clear ha hb
 obtain ⟨w0, hw0, Bw0, A, B, zw0⟩:=bx2 w #[.int .i64 n,.string s, a] 71 #[.int .i64 m,.string t, b] 71
 go_enter Tryz.func197, Tryz.ntmps197
 by_cases h1 : n = m
 ·have d1 : decide (n = m) = true:=by simpa using h1
  have H1:=hide h1
  clear h1
  by_cases h2 : s = t
  ·have d2 : (s.toList == t.toList) = true:=str_same h2
   have H2:=hide h2
   clear h2
   obtain ⟨cA0,cA1,cA2⟩:=cc3 A 0 1 2
   obtain ⟨cB0,cB1,cB2⟩:=cc3 B 0 1 2
   go_wp2_with fail
   clear hw0
   refine (LI.out _ (HA.out.below Bw0) (HB.out.below Bw0)).mono ?_
   rintro _ w1 ⟨rfl, bb⟩
   clear cA0 cA1 cA2 cB0 cB1 cB2
   have Bw1:=bu Bw0 bb
   have sw1:=bb.size
   replace A:=A.up bb
   replace B:=B.up bb
   clear Bw0 bb
   go_wp2
   go_ret
   exact ⟨by simp [alikeB, H1.out, H2.out], Bw1⟩
  have d2 : (s.toList == t.toList) = false:=str_other h2
  obtain ⟨cA0,cA1,cA2⟩:=cc3 A 0 1 2
  obtain ⟨cB0,cB1,cB2⟩:=cc3 B 0 1 2
  go_wp2
  go_ret
  exact ⟨by simp [alikeB, h2], Bw0⟩
 have d1 : decide (n = m) = false:=by simpa using h1
 obtain ⟨cA0,cA1,cA2⟩:=cc3 A 0 1 2
 obtain ⟨cB0,cB1,cB2⟩:=cc3 B 0 1 2
 go_wp2
 go_ret
 exact ⟨by simp [alikeB, h1], Bw0⟩
theorem specMsgSame (t t' : MT) (ao bo co ao' bo' co' : Option Addr) (ca cb cc ca' cb' cc' : Nat) (w : World) (ha : RI w (.slice ao t.bw.length ca) t.bw) (hb : RI w (.slice bo t.pw.length cb) t.pw) (hc : RI w (.slice co t.qw.length cc) t.qw) (ha' : RI w (.slice ao' t'.bw.length ca') t'.bw) (hb' : RI w (.slice bo' t'.pw.length cb') t'.pw) (hc' : RI w (.slice co' t'.qw.length cc') t'.qw) :
 Calls Tryz.prog 166 #[mgv t (.slice ao t.bw.length ca) (.slice bo t.pw.length cb) (.slice co t.qw.length cc), mgv t' (.slice ao' t'.bw.length ca') (.slice bo' t'.pw.length cb') (.slice co' t'.qw.length cc')] w fun e w' => e = .returned (.bool (msamB t t')) ∧ Below w.heap.size w w' := by
 have C1:=hide fun w h h' => specBlockSame t.bn t'.bn t.bv t'.bv t.bs t'.bs ao ao' ca ca' t.bw t'.bw w h h'
 have C2:=hide fun w h h' => l14Part_any t.pv t'.pv t.ps t'.ps (.slice bo t.pw.length cb) (.slice bo' t'.pw.length cb') t.pw t'.pw w h h'
 have C3:=hide fun w h h' => specQcSame t.qv t'.qv t.qs t'.qs (.slice co t.qw.length cc) (.slice co' t'.qw.length cc') t.qw t'.qw w h h'
 have E4:=fun w => eq_tx t.fr t.tu t.am t.no t'.fr t'.tu t'.am t'.no w
 have GU:=guard_tx
 have ha1:=hide ha
 have hb1:=hide hb
 have hc1:=hide hc
 have ha2:=hide ha'
 have hb2:=hide hb'
 have hc2:=hide hc'
 clear ha hb hc ha' hb' hc'
 unfold msamB
 generalize bsamB t.bn t'.bn t.bv t'.bv t.bs t'.bs t.bw t'.bw = b1 at *
 generalize alikeB t.pv t'.pv t.ps t'.ps t.pw t'.pw = b2 at *
 generalize alikeB t.qv t'.qv t.qs t'.qs t.qw t'.qw = b3 at *
 have HT : Hid (decide (t.fr = t'.fr ∧ t.tu = t'.tu ∧ t.am = t'.am ∧ t.no = t'.no) = txB t t'):=hide rfl
 rw [HT.out] at E4
 generalize txB t t' = b4 at *
 clear HT
 obtain ⟨w0, hw0, Bw0, A, B, zw0⟩:=bx2 w #[.int .i64 t.k,.int .i64 t.vw,.string t.bn,.int .i64 t.bv,.string t.bs,.slice ao t.bw.length ca,.int .i64 t.pv,.string t.ps,.slice bo t.pw.length cb,.int .i64 t.qv,.string t.qs,.slice co t.qw.length cc,.int .i64 t.wh,.int .i64 t.fr,.int .i64 t.tu,.int .i64 t.am,.int .i64 t.no] 121 #[.int .i64 t'.k,.int .i64 t'.vw,.string t'.bn,.int .i64 t'.bv,.string t'.bs,.slice ao' t'.bw.length ca',.int .i64 t'.pv,.string t'.ps,.slice bo' t'.pw.length cb',.int .i64 t'.qv,.string t'.qs,.slice co' t'.qw.length cc',.int .i64 t'.wh,.int .i64 t'.fr,.int .i64 t'.tu,.int .i64 t'.am,.int .i64 t'.no] 121
 go_enter Tryz.func166, Tryz.ntmps166
 by_cases h1 : t.k = t'.k
 ·have dh1 : decide (t.k = t'.k) = true:=by simpa using h1
  have Hh1:=hide h1
  clear h1
  by_cases h2 : t.vw = t'.vw
  ·have dh2 : decide (t.vw = t'.vw) = true:=by simpa using h2
   have Hh2:=hide h2
   clear h2
   obtain ⟨cA0,cA1,cA2,cA3,cA4,cA5,cA6,cA7,cA8,cA9,cA10,cA11,cA12,cA13⟩:=cc14 A 0 1 2 3 4 5 6 7 8 9 10 11 12 13
   obtain ⟨cA14,cA15,cA16⟩:=cc3 A 14 15 16
   obtain ⟨cB0,cB1,cB2,cB3,cB4,cB5,cB6,cB7,cB8,cB9,cB10,cB11,cB12,cB13⟩:=cc14 B 0 1 2 3 4 5 6 7 8 9 10 11 12 13
   obtain ⟨cB14,cB15,cB16⟩:=cc3 B 14 15 16
   go_wp2_with fail
   clear hw0
   refine (C1.out _ (ha1.out.below Bw0) (ha2.out.below Bw0)).mono ?_
   rintro _ w1 ⟨rfl, bb⟩
   clear cA0 cA1 cA2 cA3 cA4 cA5 cA6 cA7 cA8 cA9 cA10 cA11 cA12 cA13 cA14 cA15 cA16 cB0 cB1 cB2 cB3 cB4 cB5 cB6 cB7 cB8 cB9 cB10 cB11 cB12 cB13 cB14 cB15 cB16
   have Bw1:=bu Bw0 bb
   have sw1:=bb.size
   replace A:=A.up bb
   replace B:=B.up bb
   clear Bw0 bb
   cases b1
   ·obtain ⟨cA0,cA1,cA2,cA3,cA4,cA5,cA6,cA7,cA8,cA9,cA10,cA11,cA12,cA13⟩:=cc14 A 0 1 2 3 4 5 6 7 8 9 10 11 12 13
    obtain ⟨cA14,cA15,cA16⟩:=cc3 A 14 15 16
    obtain ⟨cB0,cB1,cB2,cB3,cB4,cB5,cB6,cB7,cB8,cB9,cB10,cB11,cB12,cB13⟩:=cc14 B 0 1 2 3 4 5 6 7 8 9 10 11 12 13
    obtain ⟨cB14,cB15,cB16⟩:=cc3 B 14 15 16
    go_wp2
    go_ret
    exact ⟨by simp [Hh1.out, Hh2.out], Bw1⟩
   obtain ⟨cA0,cA1,cA2,cA3,cA4,cA5,cA6,cA7,cA8,cA9,cA10,cA11,cA12,cA13⟩:=cc14 A 0 1 2 3 4 5 6 7 8 9 10 11 12 13
   obtain ⟨cA14,cA15,cA16⟩:=cc3 A 14 15 16
   obtain ⟨cB0,cB1,cB2,cB3,cB4,cB5,cB6,cB7,cB8,cB9,cB10,cB11,cB12,cB13⟩:=cc14 B 0 1 2 3 4 5 6 7 8 9 10 11 12 13
   obtain ⟨cB14,cB15,cB16⟩:=cc3 B 14 15 16
   go_wp2_with fail
   refine (C2.out _ (hb1.out.below Bw1) (hb2.out.below Bw1)).mono ?_
   rintro _ w2 ⟨rfl, bb⟩
   clear cA0 cA1 cA2 cA3 cA4 cA5 cA6 cA7 cA8 cA9 cA10 cA11 cA12 cA13 cA14 cA15 cA16 cB0 cB1 cB2 cB3 cB4 cB5 cB6 cB7 cB8 cB9 cB10 cB11 cB12 cB13 cB14 cB15 cB16
   have Bw2:=bu Bw1 bb
   have sw2:=bb.size
   replace A:=A.up bb
   replace B:=B.up bb
   clear Bw1 bb
   cases b2
   ·obtain ⟨cA0,cA1,cA2,cA3,cA4,cA5,cA6,cA7,cA8,cA9,cA10,cA11,cA12,cA13⟩:=cc14 A 0 1 2 3 4 5 6 7 8 9 10 11 12 13
    obtain ⟨cA14,cA15,cA16⟩:=cc3 A 14 15 16
    obtain ⟨cB0,cB1,cB2,cB3,cB4,cB5,cB6,cB7,cB8,cB9,cB10,cB11,cB12,cB13⟩:=cc14 B 0 1 2 3 4 5 6 7 8 9 10 11 12 13
    obtain ⟨cB14,cB15,cB16⟩:=cc3 B 14 15 16
    go_wp2
    go_ret
    exact ⟨by simp [Hh1.out, Hh2.out], Bw2⟩
   obtain ⟨cA0,cA1,cA2,cA3,cA4,cA5,cA6,cA7,cA8,cA9,cA10,cA11,cA12,cA13⟩:=cc14 A 0 1 2 3 4 5 6 7 8 9 10 11 12 13
   obtain ⟨cA14,cA15,cA16⟩:=cc3 A 14 15 16
   obtain ⟨cB0,cB1,cB2,cB3,cB4,cB5,cB6,cB7,cB8,cB9,cB10,cB11,cB12,cB13⟩:=cc14 B 0 1 2 3 4 5 6 7 8 9 10 11 12 13
   obtain ⟨cB14,cB15,cB16⟩:=cc3 B 14 15 16
   go_wp2_with fail
   refine (C3.out _ (hc1.out.below Bw2) (hc2.out.below Bw2)).mono ?_
   rintro _ w3 ⟨rfl, bb⟩
   clear cA0 cA1 cA2 cA3 cA4 cA5 cA6 cA7 cA8 cA9 cA10 cA11 cA12 cA13 cA14 cA15 cA16 cB0 cB1 cB2 cB3 cB4 cB5 cB6 cB7 cB8 cB9 cB10 cB11 cB12 cB13 cB14 cB15 cB16
   have Bw3:=bu Bw2 bb
   have sw3:=bb.size
   replace A:=A.up bb
   replace B:=B.up bb
   clear Bw2 bb
   cases b3
   ·obtain ⟨cA0,cA1,cA2,cA3,cA4,cA5,cA6,cA7,cA8,cA9,cA10,cA11,cA12,cA13⟩:=cc14 A 0 1 2 3 4 5 6 7 8 9 10 11 12 13
    obtain ⟨cA14,cA15,cA16⟩:=cc3 A 14 15 16
    obtain ⟨cB0,cB1,cB2,cB3,cB4,cB5,cB6,cB7,cB8,cB9,cB10,cB11,cB12,cB13⟩:=cc14 B 0 1 2 3 4 5 6 7 8 9 10 11 12 13
    obtain ⟨cB14,cB15,cB16⟩:=cc3 B 14 15 16
    go_wp2
    go_ret
    exact ⟨by simp [Hh1.out, Hh2.out], Bw3⟩
   by_cases h3 : t.wh = t'.wh
   ·have dh3 : decide (t.wh = t'.wh) = true:=by simpa using h3
    have Hh3:=hide h3
    clear h3
    obtain ⟨cA0,cA1,cA2,cA3,cA4,cA5,cA6,cA7,cA8,cA9,cA10,cA11,cA12,cA13⟩:=cc14 A 0 1 2 3 4 5 6 7 8 9 10 11 12 13
    obtain ⟨cA14,cA15,cA16⟩:=cc3 A 14 15 16
    obtain ⟨cB0,cB1,cB2,cB3,cB4,cB5,cB6,cB7,cB8,cB9,cB10,cB11,cB12,cB13⟩:=cc14 B 0 1 2 3 4 5 6 7 8 9 10 11 12 13
    obtain ⟨cB14,cB15,cB16⟩:=cc3 B 14 15 16
    go_wp2
    go_ret
    exact ⟨by simp [Hh1.out, Hh2.out, Hh3.out], Bw3⟩
   have dh3 : decide (t.wh = t'.wh) = false:=by simpa using h3
   obtain ⟨cA0,cA1,cA2,cA3,cA4,cA5,cA6,cA7,cA8,cA9,cA10,cA11,cA12,cA13⟩:=cc14 A 0 1 2 3 4 5 6 7 8 9 10 11 12 13
   obtain ⟨cA14,cA15,cA16⟩:=cc3 A 14 15 16
   obtain ⟨cB0,cB1,cB2,cB3,cB4,cB5,cB6,cB7,cB8,cB9,cB10,cB11,cB12,cB13⟩:=cc14 B 0 1 2 3 4 5 6 7 8 9 10 11 12 13
   obtain ⟨cB14,cB15,cB16⟩:=cc3 B 14 15 16
   go_wp2
   go_ret
   exact ⟨by simp [Hh1.out, Hh2.out, h3], Bw3⟩
  have dh2 : decide (t.vw = t'.vw) = false:=by simpa using h2
  obtain ⟨cA0,cA1,cA2,cA3,cA4,cA5,cA6,cA7,cA8,cA9,cA10,cA11,cA12,cA13⟩:=cc14 A 0 1 2 3 4 5 6 7 8 9 10 11 12 13
  obtain ⟨cA14,cA15,cA16⟩:=cc3 A 14 15 16
  obtain ⟨cB0,cB1,cB2,cB3,cB4,cB5,cB6,cB7,cB8,cB9,cB10,cB11,cB12,cB13⟩:=cc14 B 0 1 2 3 4 5 6 7 8 9 10 11 12 13
  obtain ⟨cB14,cB15,cB16⟩:=cc3 B 14 15 16
  go_wp2
  go_ret
  exact ⟨by simp [Hh1.out, h2], Bw0⟩
 have dh1 : decide (t.k = t'.k) = false:=by simpa using h1
 obtain ⟨cA0,cA1,cA2,cA3,cA4,cA5,cA6,cA7,cA8,cA9,cA10,cA11,cA12,cA13⟩:=cc14 A 0 1 2 3 4 5 6 7 8 9 10 11 12 13
 obtain ⟨cA14,cA15,cA16⟩:=cc3 A 14 15 16
 obtain ⟨cB0,cB1,cB2,cB3,cB4,cB5,cB6,cB7,cB8,cB9,cB10,cB11,cB12,cB13⟩:=cc14 B 0 1 2 3 4 5 6 7 8 9 10 11 12 13
 obtain ⟨cB14,cB15,cB16⟩:=cc3 B 14 15 16
 go_wp2
 go_ret
 exact ⟨by simp [h1], Bw0⟩
end
end Go.Proofs.YtmpffkpilbbclaaGreatDoor
namespace Go.Proofs
open Go.Shelf
def Tryz.laysM316_ren : Go.Shelf.Ren := ⟨fun | 316 => 194 | n => n, fun | 9 => 9 | 3 => 3 | 4 => 4 | 37 => 31 | 0 => 0 | 127 => 244 | 5 => 5 | n => n, fun | n => n⟩
theorem Tryz.laysM316 : Go.Proofs.LaysM.n316 Tryz.prog Tryz.laysM316_ren := {
 mixed := by kernel_rfl
 f316 := Tryz.func194.trans (congrArg some (by kernel_rfl))
 t0 := Tryz.underlying0
 a0 := Tryz.isAgg0
 z0 := Tryz.sizeOf0
 v0 := Tryz.zeroValue0
 t3 := Tryz.underlying3
 a3 := Tryz.isAgg3
 z3 := Tryz.sizeOf3
 v3 := Tryz.zeroValue3
 t4 := Tryz.underlying4
 a4 := Tryz.isAgg4
 z4 := Tryz.sizeOf4
 v4 := Tryz.zeroValue4
 t9 := Tryz.underlying9
 a9 := Tryz.isAgg9
 z9 := Tryz.sizeOf9
 v9 := Tryz.zeroValue9
 t37 := Tryz.underlying31
 a37 := Tryz.isAgg31
 z37 := Tryz.sizeOf31
 v37 := Tryz.zeroValue31
 t127 := Tryz.underlying244
 a127 := Tryz.isAgg244
 z127 := Tryz.sizeOf244
 v127 := Tryz.zeroValue244
 t5 := Tryz.underlying5
 a5 := Tryz.isAgg5
 z5 := Tryz.sizeOf5
 v5 := Tryz.zeroValue5
 i0 := by kernel_rfl
 i3 := by kernel_rfl
 i4 := by kernel_rfl
 i5 := by kernel_rfl
 i9 := by kernel_rfl
 i37 := by kernel_rfl
 i127 := by kernel_rfl }
open Go.RowKit in
theorem Tryz.stringslite_Clone (s : ByteArray) (w : World) (hlim : s.size ≤ 281474976710656) :
 Calls Tryz.prog 194 #[.string s] w fun e w' => e = .returned (.string s) ∧ Below w.heap.size w w' := Any.stringslite_Clone Tryz.laysM316 s w hlim
end Go.Proofs
namespace Go.Proofs.YtmpffkpilbbclaaGreatDoor
section
open Go.RowKit
def OS (w : World) (base : Nat) (v : Value) (xs : List ByteArray) : Prop := w.ownsRow base 9 1 v xs.length (xs.map Value.string)
theorem OS.below {w w' : World} {base : Nat} {v : Value} {xs : List ByteArray} (h : OS w base v xs) (hb : Below w.heap.size w w') : OS w' base v xs :=
 World.ownsRow.kept (row := none) h ⟨hb.os, hb.tape, hb.output, hb.size, fun k hk _ => hb.block k hk⟩ (by cases v.ownBlock <;> simp)

theorem clone_any (s : ByteArray) (w : World) (hs : s.size ≤ 281474976710656) :
 Calls Tryz.prog 159 #[.string s] w fun e w' => e = .returned (.string s) ∧ Below w.heap.size w w' := by
 go_enter Tryz.func159, Tryz.ntmps159
 go_wp2_with fail
 refine (Tryz.stringslite_Clone s _ hs).mono ?_
 rintro e w' ⟨rfl, b⟩
 go_wp2
 go_ret
 exact ⟨rfl, b⟩
theorem implQcSame (n m : Int) (s t : ByteArray) (va vb : Value) (xs ys : List Int) (w : World) (ha : RI w va xs) (hb : RI w vb ys) :
 Calls Tryz.prog 171 #[qv n s va, qv m t vb] w fun e w' => e = .returned (.bool (alikeB n m s t xs ys)) ∧ Below w.heap.size w w' := by
 have B:=hide (qalloc2 w (.cells #[.int .i64 n,.string s, va] 38) (.cells #[.int .i64 m,.string t, vb] 38))
 have SM:=hide (qsame_any w.heap.size (w.heap.size + 1) n m s t va vb xs ys _ ((loc_at w #[.int .i64 n,.string s, va] 38 rfl).alloc _) (loc_at (w.alloc _) #[.int .i64 m,.string t, vb] 38 (by simp)) (ha.below B.out (Nat.le_refl _)) (hb.below B.out (Nat.le_refl _)))
 clear ha hb
 go_enter Tryz.func171, Tryz.ntmps171
 go_wp2_with fail
 refine SM.out.mono ?_
 rintro e w1 ⟨rfl, d, rfl⟩
 go_wp2
 go_ret
 exact ⟨rfl, below_drewN' B.out _⟩

abbrev zq : Obj := .cells #[.int .i64 0,.string ⟨#[]⟩,.slice none 0 0] 38
end
section
open Go.RowKit
variable [∀ (a b c d : Int), Decidable (Ok4 a b c d)]
def MI (t : MT) : Prop := (-9223372036854775808 ≤ t.bv ∧ t.bv ≤ 9223372036854775807) ∧ In64 t.bw
theorem implMsgSame (t t' : MT) (ao bo co ao' bo' co' : Option Addr) (ca cb cc ca' cb' cc' : Nat) (w : World) (hm : MI t) (hm' : MI t') (hP : Pow w) (ha : RI w (.slice ao t.bw.length ca) t.bw) (hb : RI w (.slice bo t.pw.length cb) t.pw) (hc : RI w (.slice co t.qw.length cc) t.qw) (ha' : RI w (.slice ao' t'.bw.length ca') t'.bw) (hb' : RI w (.slice bo' t'.pw.length cb') t'.pw) (hc' : RI w (.slice co' t'.qw.length cc') t'.qw) :
 Calls Tryz.prog 178 #[mgv t (.slice ao t.bw.length ca) (.slice bo t.pw.length cb) (.slice co t.qw.length cc), mgv t' (.slice ao' t'.bw.length ca') (.slice bo' t'.pw.length cb') (.slice co' t'.qw.length cc')] w fun e w' => e = .returned (.bool (msamB t t')) ∧ Below w.heap.size w w' := by
 have C1:=hide fun w hP h h' => implBlockSame t.bn t'.bn t.bv t'.bv t.bs t'.bs ao ao' ca ca' t.bw t'.bw w hm.1.1 hm.1.2 hm'.1.1 hm'.1.2 hm.2 hm'.2 hP h h'
 have C2:=hide fun w h h' => implQcSame t.pv t'.pv t.ps t'.ps (.slice bo t.pw.length cb) (.slice bo' t'.pw.length cb') t.pw t'.pw w h h'
 have C3:=hide fun w h h' => implQcSame t.qv t'.qv t.qs t'.qs (.slice co t.qw.length cc) (.slice co' t'.qw.length cc') t.qw t'.qw w h h'
 have E4:=fun w => eq_tx t.fr t.tu t.am t.no t'.fr t'.tu t'.am t'.no w
 have GU:=guard_tx
 have hP1:=hide hP
 have ha1:=hide ha
 have hb1:=hide hb
 have hc1:=hide hc
 have ha2:=hide ha'
 have hb2:=hide hb'
 have hc2:=hide hc'
 clear ha hb hc ha' hb' hc' hm hm' hP
 unfold msamB
 generalize bsamB t.bn t'.bn t.bv t'.bv t.bs t'.bs t.bw t'.bw = b1 at *
 generalize alikeB t.pv t'.pv t.ps t'.ps t.pw t'.pw = b2 at *
 generalize alikeB t.qv t'.qv t.qs t'.qs t.qw t'.qw = b3 at *
 have HT : Hid (decide (t.fr = t'.fr ∧ t.tu = t'.tu ∧ t.am = t'.am ∧ t.no = t'.no) = txB t t'):=hide rfl
 rw [HT.out] at E4
 generalize txB t t' = b4 at *
 clear HT
 obtain ⟨w0, hw0, Bw0, A, B, zw0⟩:=bx2 w #[.int .i64 t.k,.int .i64 t.vw,.string t.bn,.int .i64 t.bv,.string t.bs,.slice ao t.bw.length ca,.int .i64 t.pv,.string t.ps,.slice bo t.pw.length cb,.int .i64 t.qv,.string t.qs,.slice co t.qw.length cc,.int .i64 t.wh,.int .i64 t.fr,.int .i64 t.tu,.int .i64 t.am,.int .i64 t.no] 121 #[.int .i64 t'.k,.int .i64 t'.vw,.string t'.bn,.int .i64 t'.bv,.string t'.bs,.slice ao' t'.bw.length ca',.int .i64 t'.pv,.string t'.ps,.slice bo' t'.pw.length cb',.int .i64 t'.qv,.string t'.qs,.slice co' t'.qw.length cc',.int .i64 t'.wh,.int .i64 t'.fr,.int .i64 t'.tu,.int .i64 t'.am,.int .i64 t'.no] 121
 go_enter Tryz.func178, Tryz.ntmps178
 by_cases h1 : t.k = t'.k
 ·have dh1 : decide (t.k = t'.k) = true:=by simpa using h1
  have Hh1:=hide h1
  clear h1
  by_cases h2 : t.vw = t'.vw
  ·have dh2 : decide (t.vw = t'.vw) = true:=by simpa using h2
   have Hh2:=hide h2
   clear h2
   have hPx:=hP1.out.below Bw0
   obtain ⟨cA0,cA1,cA2,cA3,cA4,cA5⟩:=cc6 A 0 1 2 3 4 5
   obtain ⟨cB0,cB1,cB2,cB3,cB4,cB5⟩:=cc6 B 0 1 2 3 4 5
   go_wp2_with fail
   clear hw0
   refine (C1.out _ hPx (ha1.out.below Bw0) (ha2.out.below Bw0)).mono ?_
   rintro _ w1 ⟨rfl, bb⟩
   clear cA0 cA1 cA2 cA3 cA4 cA5 cB0 cB1 cB2 cB3 cB4 cB5
   have Bw1:=bu Bw0 bb
   have sw1:=bb.size
   replace A:=A.up bb
   replace B:=B.up bb
   clear Bw0 bb
   cases b1
   ·go_wp2
    go_ret
    exact ⟨by simp [Hh1.out, Hh2.out], Bw1⟩
   obtain ⟨cA6,cA7,cA8⟩:=cc3 A 6 7 8
   obtain ⟨cB6,cB7,cB8⟩:=cc3 B 6 7 8
   go_wp2_with fail
   refine (C2.out _ (hb1.out.below Bw1) (hb2.out.below Bw1)).mono ?_
   rintro _ w2 ⟨rfl, bb⟩
   clear cA6 cA7 cA8 cB6 cB7 cB8
   have Bw2:=bu Bw1 bb
   have sw2:=bb.size
   replace A:=A.up bb
   replace B:=B.up bb
   clear Bw1 bb
   cases b2
   ·go_wp2
    go_ret
    exact ⟨by simp [Hh1.out, Hh2.out], Bw2⟩
   obtain ⟨cA9,cA10,cA11⟩:=cc3 A 9 10 11
   obtain ⟨cB9,cB10,cB11⟩:=cc3 B 9 10 11
   go_wp2_with fail
   refine (C3.out _ (hc1.out.below Bw2) (hc2.out.below Bw2)).mono ?_
   rintro _ w3 ⟨rfl, bb⟩
   clear cA9 cA10 cA11 cB9 cB10 cB11
   have Bw3:=bu Bw2 bb
   have sw3:=bb.size
   replace A:=A.up bb
   replace B:=B.up bb
   clear Bw2 bb
   cases b3
   ·go_wp2
    go_ret
    exact ⟨by simp [Hh1.out, Hh2.out], Bw3⟩
   by_cases h3 : t.wh = t'.wh
   ·have dh3 : decide (t.wh = t'.wh) = true:=by simpa using h3
    have Hh3:=hide h3
    clear h3
    obtain ⟨cA12,cA13,cA14,cA15,cA16⟩:=cc5 A 12 13 14 15 16
    obtain ⟨cB12,cB13,cB14,cB15,cB16⟩:=cc5 B 12 13 14 15 16
    go_wp2
    go_ret
    exact ⟨by simp [Hh1.out, Hh2.out, Hh3.out], Bw3⟩
   have dh3 : decide (t.wh = t'.wh) = false:=by simpa using h3
   have cA12:=A.cell 12 rfl
   have cB12:=B.cell 12 rfl
   go_wp2
   go_ret
   exact ⟨by simp [Hh1.out, Hh2.out, h3], Bw3⟩
  have dh2 : decide (t.vw = t'.vw) = false:=by simpa using h2
  obtain ⟨cA0,cA1⟩:=cc2 A 0 1
  obtain ⟨cB0,cB1⟩:=cc2 B 0 1
  go_wp2
  go_ret
  exact ⟨by simp [Hh1.out, h2], Bw0⟩
 have dh1 : decide (t.k = t'.k) = false:=by simpa using h1
 have cA0:=A.cell 0 rfl
 have cB0:=B.cell 0 rfl
 go_wp2
 go_ret
 exact ⟨by simp [h1], Bw0⟩
end
section
open Go.ChangeShapes Go.WideShapes Go.ChangeAt Go.RowKit
open Go.Joins
variable [∀ (a b c d : Int), Decidable (Ok4 a b c d)]
variable [∀ (n f : Int), Decidable (COk n f)]
section
variable {H : Type} {enc : TypeId × Value → H} {P : Program} {w : World} {base : Nat} {spare : Bool}
theorem trod_struct7 {held : TypeId → Bool} {t : TypeId} {f0 f1 f2 f3 f4 f5 f6 : Field} {fuel : Nat} {cs : List Value} {x : DataW H × List MemPlace} (ht : P.underlying t = some (.struct #[f0, f1, f2, f3, f4, f5, f6])) (h : DataW.trod enc P w base held spare fuel t cs = some x) :
 ∃ y0 y1 y2 y3 y4 y5 y6 n, DataW.trod enc P w base held spare n f0.type ((cs.drop f0.offset).take (P.cellsOf f0.type)) = some y0 ∧ DataW.trod enc P w base held spare n f1.type ((cs.drop f1.offset).take (P.cellsOf f1.type)) = some y1 ∧ DataW.trod enc P w base held spare n f2.type ((cs.drop f2.offset).take (P.cellsOf f2.type)) = some y2 ∧ DataW.trod enc P w base held spare n f3.type ((cs.drop f3.offset).take (P.cellsOf f3.type)) = some y3 ∧ DataW.trod enc P w base held spare n f4.type ((cs.drop f4.offset).take (P.cellsOf f4.type)) = some y4 ∧ DataW.trod enc P w base held spare n f5.type ((cs.drop f5.offset).take (P.cellsOf f5.type)) = some y5 ∧ DataW.trod enc P w base held spare n f6.type ((cs.drop f6.offset).take (P.cellsOf f6.type)) = some y6 := by
 obtain ⟨xs, n, _, rfl, hl, hlen, hf⟩:=DataW.trod_struct ht h
 match xs, hlen with
 | [y0, y1, y2, y3, y4, y5, y6], _ => exact ⟨y0, y1, y2, y3, y4, y5, y6, n, by simpa using hf 0 f0 rfl, by simpa using hf 1 f1 rfl, by simpa using hf 2 f2 rfl, by simpa using hf 3 f3 rfl, by simpa using hf 4 f4 rfl, by simpa using hf 5 f5 rfl, by simpa using hf 6 f6 rfl⟩
end
theorem array17 {cs : Array Value} (h : cs.size = 17) : ∃ c0 c1 c2 c3 c4 c5 c6 c7 c8 c9 c10 c11 c12 c13 c14 c15 c16, cs = #[c0, c1, c2, c3, c4, c5, c6, c7, c8, c9, c10, c11, c12, c13, c14, c15, c16] := by
 obtain ⟨l⟩:=cs
 match l, h with
 | [c0, c1, c2, c3, c4, c5, c6, c7, c8, c9, c10, c11, c12, c13, c14, c15, c16], _ => exact ⟨c0, c1, c2, c3, c4, c5, c6, c7, c8, c9, c10, c11, c12, c13, c14, c15, c16, rfl⟩
theorem cellsMsg : Tryz.prog.cellsOf 110 = 17 := by kernel_rfl
theorem cellsPartL : Tryz.prog.cellsOf 102 = 3 := by kernel_rfl
theorem cellsTxL : Tryz.prog.cellsOf 108 = 4 := by kernel_rfl
def MB (t : MT) : Prop := t.bn.size ≤ maxLen ∧ t.bs.size ≤ maxLen ∧ t.bw.length ≤ maxLen ∧ t.ps.size ≤ maxLen ∧ t.pw.length ≤ maxLen ∧ t.qs.size ≤ maxLen ∧ t.qw.length ≤ maxLen
end
section
open Go Go.RowKit
theorem Loc.row {w : World} {g : Nat} {cs cs' : Array Value} (h : Loc w g cs) : Loc (w.setRow g cs') g cs' := by obtain ⟨t, h⟩ := h; exact ⟨t, setRow_heap w g cs cs' t (0, 0) h⟩
theorem row_kp (w : World) (g : Nat) (cs : Array Value) : Kp w (w.setRow g cs) (fun k => k = g) := ⟨rfl, rfl, rfl, by simp, fun k _ hk => setRow_other w g k cs hk⟩
abbrev isRow : TypeDesc → Bool
 | .struct _ | .array _ _ => true
 | _ => false
section
variable {P : Program} {ops : Array Oper} {rest : List Oper} {o : Oper} {a : Act} {Q : Exit → Act → World → Prop}
theorem wload {w : World} {g : Nat} {cs : Array Value} (L : Loc w g cs) (ty : TypeId) (d : TypeDesc) (hgd : Region.wanted o (yielded ops a.tmps) = true) (x : Operand) (ho : o.op = .load ty x) (hx : a.eval x = .pointer (some ⟨g, 0, none⟩))
 (hu : P.underlying ty = some d) (hd : isRow d = true) (hi : (P.info? ty).map (·.size) = some cs.size) (h : wpList P ops Q rest (a.put o.dst (.agg cs)) w) : wpList P ops Q (o :: rest) a w := by
 obtain ⟨t, hg⟩:=L
 exact wpList_step fun K hK => by rw [if_pos hgd]; exact wp_load_row ty x ho g hx t cs (0, 0) d hg hu (by cases d <;> first | rfl | (simp [isRow] at hd)) hi (hK _ _ h)
theorem wstore {w : World} {g : Nat} {cs : Array Value} (L : Loc w g cs) (ty : TypeId) (cs' : Array Value) (hgd : o.guard = none) (x y : Operand) (ho : o.op = .store ty x y) (hx : a.eval x = .pointer (some ⟨g, 0, none⟩)) (hy : a.eval y = .agg cs')
 (hi : (P.info? ty).map (·.size) = some cs'.size) (hold : cs.size = cs'.size) (h1 : cs'.all (·.oneCell') = true) (h : wpList P ops Q rest (a.put o.dst undef) (w.setRow g cs')) : wpList P ops Q (o :: rest) a w := by
 obtain ⟨t, hg⟩:=L
 exact wpList_store_row hgd ty x y ho g cs' hx hy t cs hg hi hold h1 h
theorem res_row {fn : Func} {p : Tmp} {ty : TypeId} (h : fn.results = #[.cell p ty]) {tmps : Array Value} {w : World} {g : Nat} {cs : Array Value} (d : TypeDesc) (L : Loc w g cs) (hp : tmps.getD p undef = .pointer (some ⟨g, 0, none⟩))
 (hu : P.underlying ty = some d) (hd : isRow d = true) (hi : (P.info? ty).map (·.size) = some cs.size) : (results fn tmps).run P w = .ok (.agg cs) w := by
 obtain ⟨t, hg⟩:=L
 exact results_cell_row h tmps w g t cs (0, 0) d hp hg hu (by cases d <;> first | rfl | (simp [isRow] at hd)) hi
theorem load_row {w : World} {g : Nat} {cs : Array Value} (L : Loc w g cs) (ty : TypeId) (d : TypeDesc) (hu : P.underlying ty = some d) (hd : isRow d = true) (hi : (P.info? ty).map (·.size) = some cs.size) :
 (loadVar ty ⟨g, 0, none⟩).run P w = .ok (.agg cs) w := by
 obtain ⟨t, hg⟩:=L
 exact run_loadVar_row w g t ty cs (0, 0) d hg hu (by cases d <;> first | rfl | (simp [isRow] at hd)) hi
theorem yields_row {S : World → Prop} {op : Oper} (hw : Region.wanted op (yielded ops a.tmps) = true) (ty : TypeId) (x : Operand) (ho : op.op = .load ty x) {g : Nat} (hx : a.eval x = .pointer (some ⟨g, 0, none⟩)) {cs : Array Value} (d : TypeDesc)
 (hS : ∀ w, S w → Loc w g cs) (hu : P.underlying ty = some d) (hd : isRow d = true) (hi : (P.info? ty).map (·.size) = some cs.size) : YieldsIf P ops S op (.agg cs) a :=
 .inl ⟨hw, fun w hw' => by
  unfold execOp
  simp only [ho, hx, Instr.loadAt, Instr.sureAddr, Sem.run_bind, Sem.run_pure, Result.andThen_ok, load_row (hS w hw') ty d hu hd hi]⟩
end
theorem box_loc (w : World) (Z C : Array Value) (T : TypeId) : Loc ((w.alloc (.cells Z T)).setRow w.heap.size C) w.heap.size C := (loc_at w Z T rfl).row
theorem box_below (w : World) (Z C : Array Value) (T : TypeId) : Below w.heap.size w ((w.alloc (.cells Z T)).setRow w.heap.size C) := Below.kp ((Below.refl _ _).alloc (Nat.le_refl _) _) (row_kp _ _ _) (by simp) (fun k hk => by omega)
theorem box_size (w : World) (Z C : Array Value) (T : TypeId) : ((w.alloc (.cells Z T)).setRow w.heap.size C).heap.size = w.heap.size + 1 := by simp
end
end Go.Proofs.YtmpffkpilbbclaaGreatDoor
