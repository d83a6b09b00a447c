/- Lemmas, as stated. -/
import Derived.Test.YtjdchloechcclaaGreatDoorSNAF
import Derived.Laws.CopyOwn
set_option maxRecDepth 100000
set_option maxHeartbeats 16000000
set_option linter.unusedSectionVars false
namespace Go.Proofs.YtjdchloechcclaaGreatDoor
section
open Go.RowKit
theorem list_end {xs ys : List Int} {k : Nat} (h1 : k ≤ xs.length) (h2 : k ≤ ys.length) (h : ¬ (k < xs.length ∧ k < ys.length)) (he : ∀ j, j < k → xs.getD j 0 = ys.getD j 0) : xs.length = ys.length ↔ xs = ys := by
 constructor
 ·intro e
  apply List.ext_getElem e
  intro i p q
  have:=he i (by omega)
  simpa [List.getD_eq_getElem?_getD, p, q] using this
 rintro rfl; rfl
theorem str_ne {t s : ByteArray} (h : t ≠ s) : (t.toList == s.toList) = false := by
 rw [beq_eq_false_iff_ne]
 intro e
 rw [ByteArray.toList_eq, ByteArray.toList_eq] at e
 exact h (ByteArray.ext (Array.toList_inj.1 e))
theorem list_off {xs ys : List Int} {k : Nat} (h : xs.getD k 0 ≠ ys.getD k 0) : xs ≠ ys := fun e => h (e ▸ rfl)

theorem l7Ints_any (va vb : Value) (xs ys : List Int) (w : World) (ha : RI w va xs) (hb : RI w vb ys) :
 Calls Tryz.prog 222 #[va, vb] w fun e w' => e = .returned (.bool (decide (xs = ys))) ∧ ∃ n, w' = w.drewN n := by
 obtain ⟨hl, ao, ca, rfl, ha⟩:=ha
 obtain ⟨hl', bo, cb, rfl, hb⟩:=hb
 have EN:=hide fun k h1 h2 h he => list_end (xs:=xs) (ys:=ys) (k:=k) h1 h2 h he
 have OF:=hide fun k h => list_off (xs:=xs) (ys:=ys) (k:=k) h
 have HE : Hid (∀ b, (xs = ys ↔ b = true) → decide (xs = ys) = b):=hide fun b h => by
  cases b
  ·simpa using h
  simpa using h
 obtain ⟨n, hn⟩ : ∃ n, xs.length = n:=⟨_, rfl⟩
 obtain ⟨m, hm⟩ : ∃ m, ys.length = m:=⟨_, rfl⟩
 rw [hn] at ha EN hl ⊢
 rw [hm] at hb EN hl' ⊢
 have Hn : Hid (xs.length = n):=hn
 have Hm : Hid (ys.length = m):=hm
 clear hn hm
 generalize decide (xs = ys) = q at *
 go_enter Tryz.func222, Tryz.ntmps222
 go_wp2
 go_loopw [5] (fun i wr => ∃ k : Nat, k ≤ n ∧ k ≤ m ∧ i = .int .i64 k ∧ (∀ j, j < k → xs.getD j 0 = ys.getD j 0) ∧ ∃ d, wr = w.drewN d) (fun i _ => n - (intOf i).toNat)
 case atStart => exact ⟨0, Nat.zero_le _, Nat.zero_le _, rfl, fun j hj => by omega, 0, rfl⟩
 case round =>
  obtain ⟨k, hk, hk', rfl, he, d, rfl⟩:=hrel
  have he:=hide he
  by_cases hlt : k < n
  ·by_cases hlt' : k < m
   ·rcases ha with ha | ⟨b, off, rfl, ha⟩
    ·subst ha; have := Hn.out; simp at this; omega
    rcases hb with hb | ⟨b', off', rfl, hb⟩
    ·subst hb; have := Hm.out; simp at this; omega
    have ha':=ha k hlt
    have hb':=hb k hlt'
    have ER:=hide fun (e : xs.getD k 0 = ys.getD k 0) j (hj : j < k + 1) => (by
     by_cases h : j = k
     ·subst h; exact e
     exact he.out j (by omega) : xs.getD j 0 = ys.getD j 0)
    have OK:=hide fun h => OF.out k h
    clear ha hb
    generalize xs.getD k 0 = x at *
    generalize ys.getD k 0 = y at *
    by_cases hxy : x = y
    ·subst hxy
     replace ER:=hide (ER.out rfl)
     clear OK
     go_wp2_with fail
     go_quiet (fail)
     go_wp2
     go_roundw
     case rel => exact ⟨k + 1, by omega, by omega, by go_num, ER.out, _, rfl⟩
     case measure => simp [intOf]; omega
    have hq : q = false:=HE.out false (by simp; exact OK.out hxy)
    subst hq
    have hx : (x == y) = false:=by simpa using hxy
    go_wp2_with fail
    go_quiet (fail)
    go_wp2
    go_ret
    exact ⟨rfl, d + nq, by simp [World.drewN, Nat.add_assoc]⟩
   have hnm:=EN.out k hk hk' (by omega) he.out
   have hq : q = false:=HE.out false (by simp; intro e; have:=hnm.2 e; omega)
   have hd : ((n : Int) == (m : Int)) = false:=by simp; omega
   have hc : decide ((k : Int) < (m : Int)) = false:=by simp; omega
   subst hq
   clear ha hb
   go_wp2
   go_ret
   exact ⟨rfl, _, rfl⟩
  have hnm:=EN.out k hk hk' (by omega) he.out
  have hq : q = decide ((n : Int) = (m : Int)):=HE.out _ (by rw [← hnm, decide_eq_true_eq]; omega)
  have hd : ((n : Int) == (m : Int)) = q:=by rw [hq]; rfl
  have hc : decide ((k : Int) < (n : Int)) = false:=by simp; omega
  clear ha hb
  go_wp2
  go_ret
  exact ⟨by show Ending.returned (Value.bool ((n : Int) == (m : Int))) = _; rw [hd], _, rfl⟩

theorem sEqual_any (va vb : Value) (xs ys : List Int) (w : World) (ha : RI w va xs) (hb : RI w vb ys) :
 Calls Tryz.prog 223 #[va, vb] w fun e w' => e = .returned (.bool (decide (xs = ys))) ∧ ∃ n, w' = w.drewN n := by
 obtain ⟨hl, ao, ca, rfl, ha⟩:=ha
 obtain ⟨hl', bo, cb, rfl, hb⟩:=hb
 have EN:=hide fun k h1 h2 h he => list_end (xs:=xs) (ys:=ys) (k:=k) h1 h2 h he
 have OF:=hide fun k h => list_off (xs:=xs) (ys:=ys) (k:=k) h
 have HE : Hid (∀ b, (xs = ys ↔ b = true) → decide (xs = ys) = b):=hide fun b h => by
  cases b
  ·simpa using h
  simpa using h
 have HL : Hid (xs = ys → xs.length = ys.length):=hide fun h => h ▸ rfl
 obtain ⟨n, hn⟩ : ∃ n, xs.length = n:=⟨_, rfl⟩
 obtain ⟨m, hm⟩ : ∃ m, ys.length = m:=⟨_, rfl⟩
 rw [hn] at ha EN hl HL ⊢
 rw [hm] at hb EN hl' HL ⊢
 have Hn : Hid (xs.length = n):=hn
 have Hm : Hid (ys.length = m):=hm
 clear hn hm
 generalize decide (xs = ys) = q at *
 by_cases hnm : n = m
 ·subst hnm
  go_enter Tryz.func223, Tryz.ntmps223
  go_wp2
  go_loopw [13] (fun i wr => ∃ k : Nat, k ≤ n ∧ i = .int .i64 k ∧ (∀ j, j < k → xs.getD j 0 = ys.getD j 0) ∧ ∃ d, wr = w.drewN d) (fun i _ => n - (intOf i).toNat)
  case atStart => exact ⟨0, Nat.zero_le _, rfl, fun j hj => by omega, 0, rfl⟩
  case round =>
   obtain ⟨k, hk, rfl, he, d, rfl⟩:=hrel
   have he:=hide he
   by_cases hlt : k < n
   ·rcases ha with ha | ⟨b, off, rfl, ha⟩
    ·subst ha; have := Hn.out; simp at this; omega
    rcases hb with hb | ⟨b', off', rfl, hb⟩
    ·subst hb; have := Hm.out; simp at this; omega
    have ha':=ha k hlt
    have hb':=hb k hlt
    have ER:=hide fun (e : xs.getD k 0 = ys.getD k 0) j (hj : j < k + 1) => (by
     by_cases h : j = k
     ·subst h; exact e
     exact he.out j (by omega) : xs.getD j 0 = ys.getD j 0)
    have OK:=hide fun h => OF.out k h
    clear ha hb
    generalize xs.getD k 0 = x at *
    generalize ys.getD k 0 = y at *
    by_cases hxy : x = y
    ·subst hxy
     replace ER:=hide (ER.out rfl)
     clear OK
     go_wp2_with fail
     go_quiet (fail)
     go_wp2
     go_roundw
     case rel => exact ⟨k + 1, by omega, by go_num, ER.out, _, rfl⟩
     case measure => simp [intOf]; omega
    have hq : q = false:=HE.out false (by simp; exact OK.out hxy)
    subst hq
    have hx : (x == y) = false:=by simpa using hxy
    go_wp2_with fail
    go_quiet (fail)
    go_wp2
    go_ret
    exact ⟨rfl, d + nq, by simp [World.drewN, Nat.add_assoc]⟩
   have hnm:=EN.out k hk hk (by omega) he.out
   have hq : q = true:=HE.out true (by simpa using hnm)
   have hc : decide ((k : Int) < (n : Int)) = false:=by simp; omega
   subst hq
   clear ha hb
   go_wp2
   go_ret
   exact ⟨rfl, _, rfl⟩
 have hq : q = false:=HE.out false (by simp; intro e; exact hnm (HL.out e))
 have hd : ((n : Int) == (m : Int)) = false:=by simp; omega
 subst hq
 clear ha hb
 go_enter Tryz.func223, Tryz.ntmps223
 go_wp2
 go_ret
 exact ⟨rfl, 0, rfl⟩

def alikeB (n m : Int) (s t : ByteArray) (xs ys : List Int) : Bool := decide (n = m ∧ s = t ∧ xs = ys)

theorem specQcSame (n m : Int) (s t : ByteArray) (va vb : Value) (xs ys : List Int) (w : World) (ha : RI w va xs) (hb : RI w vb ys) :
 Calls Tryz.prog 197 #[qv n s va, qv m t vb] w fun e w' => e = .returned (.bool (alikeB n m s t xs ys)) ∧ Below w.heap.size w w' := by
 have R1:=hide ha
 have R2:=hide hb
 have B:=hide (qalloc2 w (.cells #[.int .i64 n,.string s, va] 38) (.cells #[.int .i64 m,.string t, vb] 38))
 clear ha hb
 by_cases h1 : n = m
 ·by_cases h2 : s = t
  ·have hq : alikeB n m s t xs ys = decide (xs = ys):=by simp [alikeB, h1, h2]
   rw [hq]
   subst h1 h2
   clear hq
   go_enter Tryz.func197, Tryz.ntmps197
   go_wp2_with fail
   refine (l7Ints_any va vb xs ys _ (R1.out.below B.out (Nat.le_refl _)) (R2.out.below B.out (Nat.le_refl _))).mono ?_
   rintro e w1 ⟨rfl, d, rfl⟩
   go_wp2
   go_ret
   exact ⟨rfl, below_drewN' B.out _⟩
  have hq : alikeB n m s t xs ys = false:=by simp [alikeB, h2]
  rw [hq]
  subst h1
  have hd:=str_ne h2
  clear hq
  go_enter Tryz.func197, Tryz.ntmps197
  go_wp2
  go_ret
  exact ⟨rfl, B.out⟩
 have hq : alikeB n m s t xs ys = false:=by simp [alikeB, h1]
 rw [hq]
 have hd : (n == m) = false:=by simpa using h1
 clear hq
 go_enter Tryz.func197, Tryz.ntmps197
 go_wp2
 go_ret
 exact ⟨rfl, B.out⟩

theorem qsame_any (g g' : Nat) (n m : Int) (s t : ByteArray) (va vb : Value) (xs ys : List Int) (w : World) (hg : Loc w g #[.int .i64 n,.string s, va]) (hg' : Loc w g' #[.int .i64 m,.string t, vb]) (ha : RI w va xs) (hb : RI w vb ys) :
 Calls Tryz.prog 199 #[.pointer (some ⟨g, 0, none⟩),.pointer (some ⟨g', 0, none⟩)] w fun e w' => e = .returned (.bool (alikeB n m s t xs ys)) ∧ ∃ d, w' = w.drewN d := by
 have EQ:=hide fun d => sEqual_any va vb xs ys (w.drewN d) (ha) (hb)
 have x0:=hg.cell 0 rfl
 have x1:=hg.cell 1 rfl
 have x2:=hg.cell 2 rfl
 have y0:=hg'.cell 0 rfl
 have y1:=hg'.cell 1 rfl
 have y2:=hg'.cell 2 rfl
 clear ha hb hg hg'
 by_cases h1 : n = m
 ·by_cases h2 : s = t
  ·have hq : alikeB n m s t xs ys = decide (xs = ys):=by simp [alikeB, h1, h2]
   rw [hq]
   subst h1 h2
   clear hq
   go_enter Tryz.func199, Tryz.ntmps199
   go_wp2_with fail
   go_quiet (first | (go_at_call 223; exact Calls.quiet_of (EQ.out _)))
   go_wp2
   go_ret
   exact ⟨rfl, _, rfl⟩
  have hq : alikeB n m s t xs ys = false:=by simp [alikeB, h2]
  rw [hq]
  subst h1
  have hd:=str_ne h2
  clear hq
  go_enter Tryz.func199, Tryz.ntmps199
  go_wp2_with fail
  go_quiet (fail)
  go_wp2
  go_ret
  exact ⟨rfl, _, rfl⟩
 have hq : alikeB n m s t xs ys = false:=by simp [alikeB, h1]
 rw [hq]
 have hd : (n == m) = false:=by simpa using h1
 clear hq
 go_enter Tryz.func199, Tryz.ntmps199
 go_wp2_with fail
 go_quiet (fail)
 go_wp2
 go_ret
 exact ⟨rfl, _, rfl⟩
def bsamB (m m' : ByteArray) (v v' : Int) (s s' : ByteArray) (xs ys : List Int) : Bool := decide (m = m' ∧ v = v' ∧ s = s' ∧ xs = ys)
theorem str_same {s t : ByteArray} (h : s = t) : (s.toList == t.toList) = true := by simp [h]
theorem str_other {t s : ByteArray} (h : t ≠ s) : (t.toList == s.toList) = false := by
 rw [beq_eq_false_iff_ne]
 intro e
 rw [ByteArray.toList_eq, ByteArray.toList_eq] at e
 exact h (ByteArray.ext (Array.toList_inj.1 e))
def xt (xs : List Int) : ByteArray := ⟨(digL xs).toArray⟩
theorem xt_inj {xs ys : List Int} (h : xt xs = xt ys) : xs = ys := by
 have:=congrArg (fun s : ByteArray => s.data.toList) h
 exact digL_inj (by simpa [xt] using this)
theorem dgt_inj {n m : Int} (h : dgt n = dgt m) : n = m := by
 have:=congrArg (fun s : ByteArray => s.data.toList) h
 exact itoa_inj (by simpa [dgt] using this)
theorem str_dec (s t : ByteArray) : (s.toList == t.toList) = decide (s = t) := by
 by_cases h : s = t
 ·rw [str_same h]; simp [h]
 rw [str_other h]; simp [h]
theorem bsame_eq (m m' : ByteArray) (v v' : Int) (s s' : ByteArray) (xs ys : List Int) : (m.toList == m'.toList && ((dgt v).toList == (dgt v').toList && (s.toList == s'.toList && (xt xs).toList == (xt ys).toList))) = bsamB m m' v v' s s' xs ys := by
 rw [str_dec, str_dec, str_dec, str_dec]
 have e1 : (dgt v = dgt v') ↔ v = v':=⟨dgt_inj, fun h => by rw [h]⟩
 have e2 : (xt xs = xt ys) ↔ xs = ys:=⟨xt_inj, fun h => by rw [h]⟩
 simp [bsamB, e1, e2]

theorem text_any (m : ByteArray) (v : Int) (s : ByteArray) (ao : Option Addr) (ca : Nat) (xs : List Int) (w : World) (h0 : -9223372036854775808 ≤ v) (h1 : v ≤ 9223372036854775807) (hw : In64 xs) (hP : Pow w) (ha : RI w (.slice ao xs.length ca) xs) :
 Calls Tryz.prog 230 #[bv m v s (.slice ao xs.length ca)] w fun e w' => e = .returned (tv m (dgt v) s (xt xs)) ∧ Below w.heap.size w w' := by
 obtain ⟨w0, hw0, Bw0, LB, LT, _⟩:=bx2 w #[.string m,.int .i64 v,.string s,.slice ao xs.length ca] 68 #[.string ⟨#[]⟩,.string ⟨#[]⟩,.string ⟨#[]⟩,.string ⟨#[]⟩] 277
 have DI:=hide fun w' (b : Below w0.heap.size w0 w') => implDigits_any v w' h0 h1 ((hP.below Bw0).below b)
 have DO:=hide fun w' (b : Below w0.heap.size w0 w') => digitsOf_any (.slice ao xs.length ca) xs w' ((ha.below Bw0).below b) hw ((hP.below Bw0).below b)
 have e1 : (⟨(Lib.itoa v).toArray⟩ : ByteArray) = dgt v:=rfl
 have e2 : (⟨(digL xs).toArray⟩ : ByteArray) = xt xs:=rfl
 rw [e1] at DI
 rw [e2] at DO
 clear e1 e2 ha hw hP
 generalize dgt v = d at *
 generalize xt xs = x at *
 go_enter Tryz.func230, Tryz.ntmps230
 have K:=hide (ka (kc1 LB 0) (ka (kc1 LB 1) (ka (kc1 LB 2) (kc1 LB 3))))
 go_upto_region 1 with fail
 clear hw0
 refine wra K (fun bA hHeld => ?_)
 refine tx 0 3 ?_
 refine tx 2 5 ?_
 refine tx 6 9 ?_
 refine tx 9 12 ?_
 refine tx 1 4 ?_
 refine tx 3 6 ?_
 refine tx 7 10 ?_
 refine tx 10 13 ?_
 refine tx 4 7 ?_
 refine tx 8 11 ?_
 refine tx 11 14 ?_
 refine rd 5 rfl (fun KK hKK => ?_)
 go_simp
 have hgo:=bA
 refine (DI.out _ hgo).mono ?_
 rintro e wz1 ⟨rfl, bb⟩
 have bz1 : Below w0.heap.size w0 wz1:=bu bA bb
 clear bA hgo bb hHeld
 refine hKK.out _ _ (K.out _ bz1) (fun hHeld => ?_)
 clear hKK KK
 refine rd 12 rfl (fun KK hKK => ?_)
 go_simp
 have hgo:=bz1
 refine (DO.out _ hgo).mono ?_
 rintro e wz2 ⟨rfl, bb⟩
 have bz2 : Below w0.heap.size w0 wz2:=bu bz1 bb
 clear bz1 hgo bb hHeld
 refine hKK.out _ _ (K.out _ bz2) (fun hHeld => ?_)
 clear hKK KK
 refine tx 13 16 ?_
 have LT2:=LT.up bz2
 have q0:=LT2.cell 0 rfl
 have q1:=LT2.cell 1 rfl
 have q2:=LT2.cell 2 rfl
 have q3:=LT2.cell 3 rfl
 have fq:=LT2.frozen
 have hl:=LT.lt
 have ll:=bz2.size
 have LB2:=LB.up bz2
 have k4:=kp4 wz2 (w.heap.size + 1) (.string m) (.string d) (.string s) (.string x)
 have LB3:=LB2.kp k4 (by omega)
 refine rd 14 rfl (fun KK hKK => ?_)
 go_simp
 clear hHeld
 refine hKK.out _ _ ⟨LB3.cell 0 rfl, LB3.cell 1 rfl, LB3.cell 2 rfl, LB3.cell 3 rfl⟩ (fun hHeld => ?_)
 clear hKK KK hHeld
 refine wdn ?_
 go_wp2
 refine bodyPost_ret (v := tv m d s x) (by simp [results, Tryz.results230, go_sem, q0, q1, q2, q3]) rfl ?_
 exact ⟨rfl, Below.kp (bu Bw0 bz2) k4 (by have := Bw0.size; omega) (fun k hk => by omega)⟩

theorem implBlockSame (m m' : ByteArray) (v v' : Int) (s s' : ByteArray) (ao bo : Option Addr) (ca cb : Nat) (xs ys : List Int) (w : World) (h0 : -9223372036854775808 ≤ v) (h1 : v ≤ 9223372036854775807) (h0' : -9223372036854775808 ≤ v') (h1' : v' ≤ 9223372036854775807) (hw : In64 xs) (hw' : In64 ys) (hP : Pow w) (ha : RI w (.slice ao xs.length ca) xs) (hb : RI w (.slice bo ys.length cb) ys) :
 Calls Tryz.prog 207 #[bv m v s (.slice ao xs.length ca), bv m' v' s' (.slice bo ys.length cb)] w fun e w' => e = .returned (.bool (bsamB m m' v v' s s' xs ys)) ∧ Below w.heap.size w w' := by
 obtain ⟨w0, hw0, Bw0, LA, LB, _⟩:=bx2 w #[.string m,.int .i64 v,.string s,.slice ao xs.length ca] 68 #[.string m',.int .i64 v',.string s',.slice bo ys.length cb] 68
 have TA:=hide fun w' (b : Below w0.heap.size w0 w') => text_any m v s ao ca xs w' h0 h1 hw ((hP.below Bw0).below b) ((ha.below Bw0).below b)
 have TB:=hide fun w' (b : Below w0.heap.size w0 w') => text_any m' v' s' bo cb ys w' h0' h1' hw' ((hP.below Bw0).below b) ((hb.below Bw0).below b)
 have hEQ : ∀ w, (binOp .eql 277 (tv m (dgt v) s (xt xs)) (tv m' (dgt v') s' (xt ys))).run Tryz.prog w = .ok (.bool (bsamB m m' v v' s s' xs ys)) w:=fun w => by rw [eq_text, bsame_eq]
 have hG : ∀ x y w, (eqGuard .eql 277 x y (tv m (dgt v) s (xt xs)) (tv m' (dgt v') s' (xt ys))).run Tryz.prog w = .ok () w:=fun x y w => guard_text x y _ _ w
 clear ha hb hw hw' hP
 generalize tv m (dgt v) s (xt xs) = A at *
 generalize tv m' (dgt v') s' (xt ys) = C at *
 generalize bsamB m m' v v' s s' xs ys = q at *
 go_enter Tryz.func207, Tryz.ntmps207
 have K:=kw (ka (kc4 LA 0 1 2 3) (kc4 LB 0 1 2 3))
 go_upto_region 1 with fail
 clear hw0
 refine wra K (fun bA hHeld => ?_)
 refine tx 0 5 ?_
 refine tx 2 7 ?_
 refine rd 1 rfl (fun KK hKK => ?_)
 go_simp
 have hgo:=bA
 refine (TA.out _ hgo).mono ?_
 rintro e wz1_1 ⟨rfl, bb⟩
 have bz1 : Below w0.heap.size w0 wz1_1:=bu bA bb
 clear bA hgo bb hHeld
 refine hKK.out _ _ (K.out _ bz1) (fun hHeld => ?_)
 clear hKK KK
 refine rd 3 rfl (fun KK hKK => ?_)
 go_simp
 have hgo:=bz1
 refine (TB.out _ hgo).mono ?_
 rintro e wz1_2 ⟨rfl, bb⟩
 have bz2 : Below w0.heap.size w0 wz1_2:=bu bz1 bb
 clear bz1 hgo bb hHeld
 refine hKK.out _ _ (K.out _ bz2) (fun hHeld => ?_)
 clear hKK KK
 refine tx 4 9 ?_
 refine tx 5 4 ?_
 clear hHeld
 refine wdn ?_
 have bb:=bz2
 have Bwz1_2:=bu Bw0 bb
 have swz1_2:=bb.size
 replace LA:=LA.up bb
 replace LB:=LB.up bb
 clear Bw0 bb bz2 K
 go_wp2
 go_ret
 exact ⟨rfl, Bwz1_2⟩

theorem specBlockSame (m m' : ByteArray) (v v' : Int) (s s' : ByteArray) (ao bo : Option Addr) (ca cb : Nat) (xs ys : List Int) (w : World) (ha : RI w (.slice ao xs.length ca) xs) (hb : RI w (.slice bo ys.length cb) ys) :
 Calls Tryz.prog 195 #[bv m v s (.slice ao xs.length ca), bv m' v' s' (.slice bo ys.length cb)] w fun e w' => e = .returned (.bool (bsamB m m' v v' s s' xs ys)) ∧ Below w.heap.size w w' := by
 obtain ⟨w0, hw0, Bw0, LA, LB, _⟩:=bx2 w #[.string m,.int .i64 v,.string s,.slice ao xs.length ca] 68 #[.string m',.int .i64 v',.string s',.slice bo ys.length cb] 68
 have QS:=hide (specQcSame v v' s s' (.slice ao xs.length ca) (.slice bo ys.length cb) xs ys w0 (ha.below Bw0) (hb.below Bw0))
 have hB : bsamB m m' v v' s s' xs ys = (decide (m = m') && alikeB v v' s s' xs ys):=by simp [bsamB, alikeB]
 rw [hB]
 clear hB ha hb
 generalize alikeB v v' s s' xs ys = q at *
 obtain ⟨cLA0,cLA1,cLA2,cLA3⟩:=cc4 LA 0 1 2 3
 obtain ⟨cLB0,cLB1,cLB2,cLB3⟩:=cc4 LB 0 1 2 3
 by_cases hm : m = m'
 ·have hy:=str_same hm
  have hd : decide (m = m') = true:=by simpa using hm
  rw [hd, Bool.true_and]
  clear hm hd
  go_enter Tryz.func195, Tryz.ntmps195
  go_wp2_with fail
  clear hw0
  refine QS.out.mono ?_
  rintro e w1 ⟨rfl, b1⟩
  have B1:=bu Bw0 b1
  go_wp2
  go_ret
  exact ⟨rfl, B1⟩
 have hy:=str_other hm
 have hd : decide (m = m') = false:=by simpa using hm
 rw [hd, Bool.false_and]
 clear hm hd
 go_enter Tryz.func195, Tryz.ntmps195
 go_wp2
 go_ret
 exact ⟨rfl, Bw0⟩
end
section
open Go.RowKit
variable [∀ (a b c d : Int), Decidable (Ok4 a b c d)]
theorem eq_tx (a b c d a' b' c' d' : Int) (w : World) :
 (binOp .eql 70 (txv a b c d) (txv a' b' c' d')).run Tryz.prog w = .ok (.bool (decide (a = a' ∧ b = b' ∧ c = c' ∧ d = d'))) w := by
 have hS : Tryz.prog.underlying 70 = some (.struct (Tryz.prog.fieldsOf 70)):=by kernel_rfl
 have hp : Tryz.prog.stoodInHeld 70 = false:=by kernel_rfl
 rw [run_eql_struct, show (10000 : Nat) = 9999 + 1 from rfl, run_equalIn_struct w 9999 70 _ _ hS hp]
 simp only [Program.fieldsOf, Tryz.underlying70]
 go_simp
 by_cases h1 : a = a' <;> by_cases h2 : b = b' <;> by_cases h3 : c = c' <;> by_cases h4 : d = d' <;> simp [h1, h2, h3, h4]
theorem guard_tx (x y : Operand) (xs ys : Array Value) (w : World) : (eqGuard .eql 70 x y (.agg xs) (.agg ys)).run Tryz.prog w = .ok () w := run_eqGuard_agg w .eql _ x y xs ys (by kernel_rfl)
def txB (t t' : MT) : Bool := decide (t.fr = t'.fr ∧ t.tu = t'.tu ∧ t.am = t'.am ∧ t.no = t'.no)
def msamB (t t' : MT) : Bool := decide (t.k = t'.k) && (decide (t.vw = t'.vw) && (bsamB t.bn t'.bn t.bv t'.bv t.bs t'.bs t.bw t'.bw && (alikeB t.pv t'.pv t.ps t'.ps t.pw t'.pw && (alikeB t.qv t'.qv t.qs t'.qs t.qw t'.qw && (decide (t.wh = t'.wh) && txB t t')))))
theorem l14Part_any (n m : Int) (s t : ByteArray) (a b : Value) (xs ys : List Int) (w : World) (ha : RI w a xs) (hb : RI w b ys) :
 Calls Tryz.prog 196 #[qv n s a, qv m t b] w fun e w' => e = .returned (.bool (alikeB n m s t xs ys)) ∧ Below w.heap.size w w' := by
 have LI : Hid (∀ w, RI w a xs → RI w b ys → Calls Tryz.prog 222 #[a, b] w fun e w' => e = .returned (.bool (decide (xs = ys))) ∧ Below w.heap.size w w'):=hide fun w h h' => by
  refine (l7Ints_any a b xs ys w h h').mono ?_
  rintro e w' ⟨h1, n, rfl⟩
  exact ⟨h1, below_drewN (Below.refl _ _) n⟩
 have HA:=hide ha
 have HB:=hide hb
 clear ha hb
 obtain ⟨w0, hw0, Bw0, A, B, zw0⟩:=bx2 w #[.int .i64 n,.string s, a] 69 #[.int .i64 m,.string t, b] 69
 go_enter Tryz.func196, Tryz.ntmps196
 by_cases h1 : n = m
 ·have d1 : decide (n = m) = true:=by simpa using h1
  have H1:=hide h1
  clear h1
  by_cases h2 : s = t
  ·have d2 : (s.toList == t.toList) = true:=str_same h2
   have H2:=hide h2
   clear h2
   obtain ⟨cA0,cA1,cA2⟩:=cc3 A 0 1 2
   obtain ⟨cB0,cB1,cB2⟩:=cc3 B 0 1 2
   go_wp2_with fail
   clear hw0
   refine (LI.out _ (HA.out.below Bw0) (HB.out.below Bw0)).mono ?_
   rintro _ w1 ⟨rfl, bb⟩
   clear cA0 cA1 cA2 cB0 cB1 cB2
   have Bw1:=bu Bw0 bb
   have sw1:=bb.size
   replace A:=A.up bb
   replace B:=B.up bb
   clear Bw0 bb
   go_wp2
   go_ret
   exact ⟨by simp [alikeB, H1.out, H2.out], Bw1⟩
  have d2 : (s.toList == t.toList) = false:=str_other h2
  obtain ⟨cA0,cA1,cA2⟩:=cc3 A 0 1 2
  obtain ⟨cB0,cB1,cB2⟩:=cc3 B 0 1 2
  go_wp2
  go_ret
  exact ⟨by simp [alikeB, h2], Bw0⟩
 have d1 : decide (n = m) = false:=by simpa using h1
 obtain ⟨cA0,cA1,cA2⟩:=cc3 A 0 1 2
 obtain ⟨cB0,cB1,cB2⟩:=cc3 B 0 1 2
 go_wp2
 go_ret
 exact ⟨by simp [alikeB, h1], Bw0⟩
theorem specMsgSame (t t' : MT) (ao bo co ao' bo' co' : Option Addr) (ca cb cc ca' cb' cc' : Nat) (w : World) (ha : RI w (.slice ao t.bw.length ca) t.bw) (hb : RI w (.slice bo t.pw.length cb) t.pw) (hc : RI w (.slice co t.qw.length cc) t.qw) (ha' : RI w (.slice ao' t'.bw.length ca') t'.bw) (hb' : RI w (.slice bo' t'.pw.length cb') t'.pw) (hc' : RI w (.slice co' t'.qw.length cc') t'.qw) :
 Calls Tryz.prog 163 #[mgv t (.slice ao t.bw.length ca) (.slice bo t.pw.length cb) (.slice co t.qw.length cc), mgv t' (.slice ao' t'.bw.length ca') (.slice bo' t'.pw.length cb') (.slice co' t'.qw.length cc')] w fun e w' => e = .returned (.bool (msamB t t')) ∧ Below w.heap.size w w' := by
 have C1:=hide fun w h h' => specBlockSame t.bn t'.bn t.bv t'.bv t.bs t'.bs ao ao' ca ca' t.bw t'.bw w h h'
 have C2:=hide fun w h h' => l14Part_any t.pv t'.pv t.ps t'.ps (.slice bo t.pw.length cb) (.slice bo' t'.pw.length cb') t.pw t'.pw w h h'
 have C3:=hide fun w h h' => specQcSame t.qv t'.qv t.qs t'.qs (.slice co t.qw.length cc) (.slice co' t'.qw.length cc') t.qw t'.qw w h h'
 have E4:=fun w => eq_tx t.fr t.tu t.am t.no t'.fr t'.tu t'.am t'.no w
 have GU:=guard_tx
 have ha1:=hide ha
 have hb1:=hide hb
 have hc1:=hide hc
 have ha2:=hide ha'
 have hb2:=hide hb'
 have hc2:=hide hc'
 clear ha hb hc ha' hb' hc'
 unfold msamB
 generalize bsamB t.bn t'.bn t.bv t'.bv t.bs t'.bs t.bw t'.bw = b1 at *
 generalize alikeB t.pv t'.pv t.ps t'.ps t.pw t'.pw = b2 at *
 generalize alikeB t.qv t'.qv t.qs t'.qs t.qw t'.qw = b3 at *
 have HT : Hid (decide (t.fr = t'.fr ∧ t.tu = t'.tu ∧ t.am = t'.am ∧ t.no = t'.no) = txB t t'):=hide rfl
 rw [HT.out] at E4
 generalize txB t t' = b4 at *
 clear HT
 obtain ⟨w0, hw0, Bw0, A, B, zw0⟩:=bx2 w #[.int .i64 t.k,.int .i64 t.vw,.string t.bn,.int .i64 t.bv,.string t.bs,.slice ao t.bw.length ca,.int .i64 t.pv,.string t.ps,.slice bo t.pw.length cb,.int .i64 t.qv,.string t.qs,.slice co t.qw.length cc,.int .i64 t.wh,.int .i64 t.fr,.int .i64 t.tu,.int .i64 t.am,.int .i64 t.no] 72 #[.int .i64 t'.k,.int .i64 t'.vw,.string t'.bn,.int .i64 t'.bv,.string t'.bs,.slice ao' t'.bw.length ca',.int .i64 t'.pv,.string t'.ps,.slice bo' t'.pw.length cb',.int .i64 t'.qv,.string t'.qs,.slice co' t'.qw.length cc',.int .i64 t'.wh,.int .i64 t'.fr,.int .i64 t'.tu,.int .i64 t'.am,.int .i64 t'.no] 72
 go_enter Tryz.func163, Tryz.ntmps163
 by_cases h1 : t.k = t'.k
 ·have dh1 : decide (t.k = t'.k) = true:=by simpa using h1
  have Hh1:=hide h1
  clear h1
  by_cases h2 : t.vw = t'.vw
  ·have dh2 : decide (t.vw = t'.vw) = true:=by simpa using h2
   have Hh2:=hide h2
   clear h2
   obtain ⟨cA0,cA1,cA2,cA3,cA4,cA5,cA6,cA7,cA8,cA9,cA10,cA11,cA12,cA13⟩:=cc14 A 0 1 2 3 4 5 6 7 8 9 10 11 12 13
   obtain ⟨cA14,cA15,cA16⟩:=cc3 A 14 15 16
   obtain ⟨cB0,cB1,cB2,cB3,cB4,cB5,cB6,cB7,cB8,cB9,cB10,cB11,cB12,cB13⟩:=cc14 B 0 1 2 3 4 5 6 7 8 9 10 11 12 13
   obtain ⟨cB14,cB15,cB16⟩:=cc3 B 14 15 16
   go_wp2_with fail
   clear hw0
   refine (C1.out _ (ha1.out.below Bw0) (ha2.out.below Bw0)).mono ?_
   rintro _ w1 ⟨rfl, bb⟩
   clear cA0 cA1 cA2 cA3 cA4 cA5 cA6 cA7 cA8 cA9 cA10 cA11 cA12 cA13 cA14 cA15 cA16 cB0 cB1 cB2 cB3 cB4 cB5 cB6 cB7 cB8 cB9 cB10 cB11 cB12 cB13 cB14 cB15 cB16
   have Bw1:=bu Bw0 bb
   have sw1:=bb.size
   replace A:=A.up bb
   replace B:=B.up bb
   clear Bw0 bb
   cases b1
   ·obtain ⟨cA0,cA1,cA2,cA3,cA4,cA5,cA6,cA7,cA8,cA9,cA10,cA11,cA12,cA13⟩:=cc14 A 0 1 2 3 4 5 6 7 8 9 10 11 12 13
    obtain ⟨cA14,cA15,cA16⟩:=cc3 A 14 15 16
    obtain ⟨cB0,cB1,cB2,cB3,cB4,cB5,cB6,cB7,cB8,cB9,cB10,cB11,cB12,cB13⟩:=cc14 B 0 1 2 3 4 5 6 7 8 9 10 11 12 13
    obtain ⟨cB14,cB15,cB16⟩:=cc3 B 14 15 16
    go_wp2
    go_ret
    exact ⟨by simp [Hh1.out, Hh2.out], Bw1⟩
   obtain ⟨cA0,cA1,cA2,cA3,cA4,cA5,cA6,cA7,cA8,cA9,cA10,cA11,cA12,cA13⟩:=cc14 A 0 1 2 3 4 5 6 7 8 9 10 11 12 13
   obtain ⟨cA14,cA15,cA16⟩:=cc3 A 14 15 16
   obtain ⟨cB0,cB1,cB2,cB3,cB4,cB5,cB6,cB7,cB8,cB9,cB10,cB11,cB12,cB13⟩:=cc14 B 0 1 2 3 4 5 6 7 8 9 10 11 12 13
   obtain ⟨cB14,cB15,cB16⟩:=cc3 B 14 15 16
   go_wp2_with fail
   refine (C2.out _ (hb1.out.below Bw1) (hb2.out.below Bw1)).mono ?_
   rintro _ w2 ⟨rfl, bb⟩
   clear cA0 cA1 cA2 cA3 cA4 cA5 cA6 cA7 cA8 cA9 cA10 cA11 cA12 cA13 cA14 cA15 cA16 cB0 cB1 cB2 cB3 cB4 cB5 cB6 cB7 cB8 cB9 cB10 cB11 cB12 cB13 cB14 cB15 cB16
   have Bw2:=bu Bw1 bb
   have sw2:=bb.size
   replace A:=A.up bb
   replace B:=B.up bb
   clear Bw1 bb
   cases b2
   ·obtain ⟨cA0,cA1,cA2,cA3,cA4,cA5,cA6,cA7,cA8,cA9,cA10,cA11,cA12,cA13⟩:=cc14 A 0 1 2 3 4 5 6 7 8 9 10 11 12 13
    obtain ⟨cA14,cA15,cA16⟩:=cc3 A 14 15 16
    obtain ⟨cB0,cB1,cB2,cB3,cB4,cB5,cB6,cB7,cB8,cB9,cB10,cB11,cB12,cB13⟩:=cc14 B 0 1 2 3 4 5 6 7 8 9 10 11 12 13
    obtain ⟨cB14,cB15,cB16⟩:=cc3 B 14 15 16
    go_wp2
    go_ret
    exact ⟨by simp [Hh1.out, Hh2.out], Bw2⟩
   obtain ⟨cA0,cA1,cA2,cA3,cA4,cA5,cA6,cA7,cA8,cA9,cA10,cA11,cA12,cA13⟩:=cc14 A 0 1 2 3 4 5 6 7 8 9 10 11 12 13
   obtain ⟨cA14,cA15,cA16⟩:=cc3 A 14 15 16
   obtain ⟨cB0,cB1,cB2,cB3,cB4,cB5,cB6,cB7,cB8,cB9,cB10,cB11,cB12,cB13⟩:=cc14 B 0 1 2 3 4 5 6 7 8 9 10 11 12 13
   obtain ⟨cB14,cB15,cB16⟩:=cc3 B 14 15 16
   go_wp2_with fail
   refine (C3.out _ (hc1.out.below Bw2) (hc2.out.below Bw2)).mono ?_
   rintro _ w3 ⟨rfl, bb⟩
   clear cA0 cA1 cA2 cA3 cA4 cA5 cA6 cA7 cA8 cA9 cA10 cA11 cA12 cA13 cA14 cA15 cA16 cB0 cB1 cB2 cB3 cB4 cB5 cB6 cB7 cB8 cB9 cB10 cB11 cB12 cB13 cB14 cB15 cB16
   have Bw3:=bu Bw2 bb
   have sw3:=bb.size
   replace A:=A.up bb
   replace B:=B.up bb
   clear Bw2 bb
   cases b3
   ·obtain ⟨cA0,cA1,cA2,cA3,cA4,cA5,cA6,cA7,cA8,cA9,cA10,cA11,cA12,cA13⟩:=cc14 A 0 1 2 3 4 5 6 7 8 9 10 11 12 13
    obtain ⟨cA14,cA15,cA16⟩:=cc3 A 14 15 16
    obtain ⟨cB0,cB1,cB2,cB3,cB4,cB5,cB6,cB7,cB8,cB9,cB10,cB11,cB12,cB13⟩:=cc14 B 0 1 2 3 4 5 6 7 8 9 10 11 12 13
    obtain ⟨cB14,cB15,cB16⟩:=cc3 B 14 15 16
    go_wp2
    go_ret
    exact ⟨by simp [Hh1.out, Hh2.out], Bw3⟩
   by_cases h3 : t.wh = t'.wh
   ·have dh3 : decide (t.wh = t'.wh) = true:=by simpa using h3
    have Hh3:=hide h3
    clear h3
    obtain ⟨cA0,cA1,cA2,cA3,cA4,cA5,cA6,cA7,cA8,cA9,cA10,cA11,cA12,cA13⟩:=cc14 A 0 1 2 3 4 5 6 7 8 9 10 11 12 13
    obtain ⟨cA14,cA15,cA16⟩:=cc3 A 14 15 16
    obtain ⟨cB0,cB1,cB2,cB3,cB4,cB5,cB6,cB7,cB8,cB9,cB10,cB11,cB12,cB13⟩:=cc14 B 0 1 2 3 4 5 6 7 8 9 10 11 12 13
    obtain ⟨cB14,cB15,cB16⟩:=cc3 B 14 15 16
    go_wp2
    go_ret
    exact ⟨by simp [Hh1.out, Hh2.out, Hh3.out], Bw3⟩
   have dh3 : decide (t.wh = t'.wh) = false:=by simpa using h3
   obtain ⟨cA0,cA1,cA2,cA3,cA4,cA5,cA6,cA7,cA8,cA9,cA10,cA11,cA12,cA13⟩:=cc14 A 0 1 2 3 4 5 6 7 8 9 10 11 12 13
   obtain ⟨cA14,cA15,cA16⟩:=cc3 A 14 15 16
   obtain ⟨cB0,cB1,cB2,cB3,cB4,cB5,cB6,cB7,cB8,cB9,cB10,cB11,cB12,cB13⟩:=cc14 B 0 1 2 3 4 5 6 7 8 9 10 11 12 13
   obtain ⟨cB14,cB15,cB16⟩:=cc3 B 14 15 16
   go_wp2
   go_ret
   exact ⟨by simp [Hh1.out, Hh2.out, h3], Bw3⟩
  have dh2 : decide (t.vw = t'.vw) = false:=by simpa using h2
  obtain ⟨cA0,cA1,cA2,cA3,cA4,cA5,cA6,cA7,cA8,cA9,cA10,cA11,cA12,cA13⟩:=cc14 A 0 1 2 3 4 5 6 7 8 9 10 11 12 13
  obtain ⟨cA14,cA15,cA16⟩:=cc3 A 14 15 16
  obtain ⟨cB0,cB1,cB2,cB3,cB4,cB5,cB6,cB7,cB8,cB9,cB10,cB11,cB12,cB13⟩:=cc14 B 0 1 2 3 4 5 6 7 8 9 10 11 12 13
  obtain ⟨cB14,cB15,cB16⟩:=cc3 B 14 15 16
  go_wp2
  go_ret
  exact ⟨by simp [Hh1.out, h2], Bw0⟩
 have dh1 : decide (t.k = t'.k) = false:=by simpa using h1
 obtain ⟨cA0,cA1,cA2,cA3,cA4,cA5,cA6,cA7,cA8,cA9,cA10,cA11,cA12,cA13⟩:=cc14 A 0 1 2 3 4 5 6 7 8 9 10 11 12 13
 obtain ⟨cA14,cA15,cA16⟩:=cc3 A 14 15 16
 obtain ⟨cB0,cB1,cB2,cB3,cB4,cB5,cB6,cB7,cB8,cB9,cB10,cB11,cB12,cB13⟩:=cc14 B 0 1 2 3 4 5 6 7 8 9 10 11 12 13
 obtain ⟨cB14,cB15,cB16⟩:=cc3 B 14 15 16
 go_wp2
 go_ret
 exact ⟨by simp [h1], Bw0⟩
end
end Go.Proofs.YtjdchloechcclaaGreatDoor
namespace Go.Proofs
open Go.Shelf
def Tryz.laysM316_ren : Go.Shelf.Ren := ⟨fun | 316 => 181 | n => n, fun | 9 => 9 | 3 => 3 | 4 => 4 | 37 => 31 | 0 => 0 | 127 => 254 | 5 => 5 | n => n, fun | n => n⟩
theorem Tryz.laysM316 : Go.Proofs.LaysM.n316 Tryz.prog Tryz.laysM316_ren := {
 mixed := by kernel_rfl
 f316 := Tryz.func181.trans (congrArg some (by kernel_rfl))
 t0 := Tryz.underlying0
 a0 := Tryz.isAgg0
 z0 := Tryz.sizeOf0
 v0 := Tryz.zeroValue0
 t3 := Tryz.underlying3
 a3 := Tryz.isAgg3
 z3 := Tryz.sizeOf3
 v3 := Tryz.zeroValue3
 t4 := Tryz.underlying4
 a4 := Tryz.isAgg4
 z4 := Tryz.sizeOf4
 v4 := Tryz.zeroValue4
 t9 := Tryz.underlying9
 a9 := Tryz.isAgg9
 z9 := Tryz.sizeOf9
 v9 := Tryz.zeroValue9
 t37 := Tryz.underlying31
 a37 := Tryz.isAgg31
 z37 := Tryz.sizeOf31
 v37 := Tryz.zeroValue31
 t127 := Tryz.underlying254
 a127 := Tryz.isAgg254
 z127 := Tryz.sizeOf254
 v127 := Tryz.zeroValue254
 t5 := Tryz.underlying5
 a5 := Tryz.isAgg5
 z5 := Tryz.sizeOf5
 v5 := Tryz.zeroValue5
 i0 := by kernel_rfl
 i3 := by kernel_rfl
 i4 := by kernel_rfl
 i5 := by kernel_rfl
 i9 := by kernel_rfl
 i37 := by kernel_rfl
 i127 := by kernel_rfl }
open Go.RowKit in
theorem Tryz.stringslite_Clone (s : ByteArray) (w : World) (hlim : s.size ≤ 281474976710656) :
 Calls Tryz.prog 181 #[.string s] w fun e w' => e = .returned (.string s) ∧ Below w.heap.size w w' := Any.stringslite_Clone Tryz.laysM316 s w hlim
end Go.Proofs
namespace Go.Proofs.YtjdchloechcclaaGreatDoor
section
open Go.RowKit
def OS (w : World) (base : Nat) (v : Value) (xs : List ByteArray) : Prop := w.ownsRow base 9 1 v xs.length (xs.map Value.string)
theorem OS.below {w w' : World} {base : Nat} {v : Value} {xs : List ByteArray} (h : OS w base v xs) (hb : Below w.heap.size w w') : OS w' base v xs :=
 World.ownsRow.kept (row := none) h ⟨hb.os, hb.tape, hb.output, hb.size, fun k hk _ => hb.block k hk⟩ (by cases v.ownBlock <;> simp)

theorem clone_any (s : ByteArray) (w : World) (hs : s.size ≤ 281474976710656) :
 Calls Tryz.prog 150 #[.string s] w fun e w' => e = .returned (.string s) ∧ Below w.heap.size w w' := by
 go_enter Tryz.func150, Tryz.ntmps150
 go_wp2_with fail
 refine (Tryz.stringslite_Clone s _ hs).mono ?_
 rintro e w' ⟨rfl, b⟩
 go_wp2
 go_ret
 exact ⟨rfl, b⟩
theorem implQcSame (n m : Int) (s t : ByteArray) (va vb : Value) (xs ys : List Int) (w : World) (ha : RI w va xs) (hb : RI w vb ys) :
 Calls Tryz.prog 166 #[qv n s va, qv m t vb] w fun e w' => e = .returned (.bool (alikeB n m s t xs ys)) ∧ Below w.heap.size w w' := by
 have B:=hide (qalloc2 w (.cells #[.int .i64 n,.string s, va] 38) (.cells #[.int .i64 m,.string t, vb] 38))
 have SM:=hide (qsame_any w.heap.size (w.heap.size + 1) n m s t va vb xs ys _ ((loc_at w #[.int .i64 n,.string s, va] 38 rfl).alloc _) (loc_at (w.alloc _) #[.int .i64 m,.string t, vb] 38 (by simp)) (ha.below B.out (Nat.le_refl _)) (hb.below B.out (Nat.le_refl _)))
 clear ha hb
 go_enter Tryz.func166, Tryz.ntmps166
 go_wp2_with fail
 refine SM.out.mono ?_
 rintro e w1 ⟨rfl, d, rfl⟩
 go_wp2
 go_ret
 exact ⟨rfl, below_drewN' B.out _⟩

abbrev zq : Obj := .cells #[.int .i64 0,.string ⟨#[]⟩,.slice none 0 0] 38

theorem qtold_any (g : Nat) (n : Int) (s : ByteArray) (ao : Option Addr) (ca : Nat) (xs : List Int) (w : World) (hg : Loc w g #[.int .i64 n,.string s,.slice ao xs.length ca]) (ha : RI w (.slice ao xs.length ca) xs) (hs : s.size ≤ 281474976710656) :
 Calls Tryz.prog 149 #[.pointer (some ⟨g, 0, none⟩)] w fun e w' => ∃ u, e = .returned (qv n s u) ∧ OI w' w.heap.size u xs ∧ Below w.heap.size w w' := by
 have CL:=hide fun w => clone_any s w hs
 have hgl:=hg.lt
 obtain ⟨w0, hw0⟩ : ∃ w0, w.alloc zq = w0:=⟨_, rfl⟩
 have B0 : Below w.heap.size w w0:=hw0 ▸ qalloc _ _
 have Z0 : Loc w0 w.heap.size #[.int .i64 0,.string ⟨#[]⟩,.slice none 0 0]:=hw0 ▸ loc_at w _ _ rfl
 have s0 : w0.heap.size = w.heap.size + 1:=by rw [← hw0]; simp
 have G0:=hg.below B0 hgl
 have K : Hid (∀ w', Below w0.heap.size w0 w' → Below w0.heap.size w0 w' ∧ w'.cell? ⟨g, 0, none⟩ = some (.int .i64 n) ∧ w'.cell? ⟨g, 1, none⟩ = some (.string s)):=hide fun w' hb =>
  ⟨hb, (G0.up hb).cell 0 rfl, (G0.up hb).cell 1 rfl⟩
 have RA:=hide ha
 have HZ:=hide Z0
 have HG:=hide G0
 clear ha hg Z0 G0
 go_enter Tryz.func149, Tryz.ntmps149
 go_upto_region 1 with fail
 clear hw0
 go_cut [3] (fun c wx => ∃ h, c = .pointer (some ⟨h, 0, none⟩) ∧ w0.heap.size ≤ h ∧ Loc wx h #[.int .i64 n,.string s,.slice none 0 0] ∧ Below w0.heap.size w0 wx)
 case first =>
  clear HZ HG RA
  refine wrn K (Below.drew (Below.refl _ _)) (fun hHeld => ?_)
  obtain ⟨wd, hd⟩ : ∃ wd, w0.drew = wd:=⟨_, rfl⟩
  have bd : Below w0.heap.size w0 wd:=hd ▸ Below.drew (Below.refl _ _)
  have szd:=bd.size
  rw [hd] at hHeld ⊢
  clear hd
  refine tx 0 4 ?_
  refine tx 1 5 ?_
  refine tx 2 6 ?_
  refine tx 3 7 ?_
  refine tx 4 8 ?_
  refine tx 5 9 ?_
  refine tx 6 10 ?_
  refine tx 7 11 ?_
  refine wpAnyH_ready (rs := [8, 10]) (by kernel_rfl) (by simp) (AllReadyH.cons rfl (fun KK hKK => ?_) (AllReadyH.cons rfl (fun KK hKK => ?_) AllReadyH.nil))
  ·go_simp
   refine (CL.out _).mono ?_
   rintro e wc1 ⟨rfl, bnew⟩
   have bc1 : Below w0.heap.size w0 wc1:=bu bd bnew
   have zzwc1:=bnew.size
   clear hHeld bnew
   refine hKK.out _ _ (K.out _ bc1) (fun hHeld => ?_)
   clear hKK KK
   refine tx 9 13 ?_
   refine rd 10 rfl (fun KK hKK => ?_)
   go_simp
   obtain ⟨wl2, hwl2⟩ : ∃ x, wc1.alloc (.cells #[.int .i64 0,.string ⟨#[]⟩,.slice none 0 0] 38) = x:=⟨_, rfl⟩
   have bl2 : Below w0.heap.size w0 wl2:=hwl2 ▸ bc1.alloc bc1.size _
   have lg : Loc wl2 wc1.heap.size #[.int .i64 0,.string ⟨#[]⟩,.slice none 0 0]:=hwl2 ▸ loc_at wc1 _ _ rfl
   rw [hwl2]
   clear hHeld hwl2
   refine hKK.out _ _ (K.out _ bl2) (fun hHeld => ?_)
   clear hKK KK
   have q0:=lg.cell 0 rfl
   have q1:=lg.cell 1 rfl
   have q2:=lg.cell 2 rfl
   have FG:=lg.frozen
   refine rd 11 rfl (fun KK hKK => ?_)
   go_simp
   have bs : Below w0.heap.size w0 (((wl2.setCell ⟨wc1.heap.size, 0, none⟩ (.int .i64 n)).setCell ⟨wc1.heap.size, 1, none⟩ (.string s)).setCell ⟨wc1.heap.size, 2, none⟩ (.slice none 0 0)):=Below.set (Below.set (Below.set bl2 _ _ (by omega)) _ _ (by omega)) _ _ (by omega)
   clear hHeld
   refine hKK.out _ _ (K.out _ bs) (fun hHeld => ?_)
   clear hKK KK hHeld
   refine wdn ?_
   go_wp2_with fail
   go_meet
   exact ⟨_, rfl, by omega, ((lg.set 0 _ rfl).set 1 _ rfl).set 2 _ rfl, bs⟩
  go_simp
  obtain ⟨wl3, hwl3⟩ : ∃ x, wd.alloc (.cells #[.int .i64 0,.string ⟨#[]⟩,.slice none 0 0] 38) = x:=⟨_, rfl⟩
  have bl3 : Below w0.heap.size w0 wl3:=hwl3 ▸ bd.alloc bd.size _
  have lg : Loc wl3 wd.heap.size #[.int .i64 0,.string ⟨#[]⟩,.slice none 0 0]:=hwl3 ▸ loc_at wd _ _ rfl
  rw [hwl3]
  clear hHeld hwl3
  refine hKK.out _ _ (K.out _ bl3) (fun hHeld => ?_)
  clear hKK KK
  refine rd 8 rfl (fun KK hKK => ?_)
  go_simp
  refine (CL.out _).mono ?_
  rintro e wc4 ⟨rfl, bnew⟩
  have bc4 : Below w0.heap.size w0 wc4:=bu bl3 bnew
  have zzwc4:=bnew.size
  have lg:=lg.up bnew
  clear hHeld bnew
  refine hKK.out _ _ (K.out _ bc4) (fun hHeld => ?_)
  clear hKK KK
  refine tx 9 13 ?_
  have q0:=lg.cell 0 rfl
  have q1:=lg.cell 1 rfl
  have q2:=lg.cell 2 rfl
  have FG:=lg.frozen
  refine rd 11 rfl (fun KK hKK => ?_)
  go_simp
  have bs : Below w0.heap.size w0 (((wc4.setCell ⟨wd.heap.size, 0, none⟩ (.int .i64 n)).setCell ⟨wd.heap.size, 1, none⟩ (.string s)).setCell ⟨wd.heap.size, 2, none⟩ (.slice none 0 0)):=Below.set (Below.set (Below.set bc4 _ _ (by omega)) _ _ (by omega)) _ _ (by omega)
  clear hHeld
  refine hKK.out _ _ (K.out _ bs) (fun hHeld => ?_)
  clear hKK KK hHeld
  refine wdn ?_
  go_wp2_with fail
  go_meet
  exact ⟨_, rfl, by omega, ((lg.set 0 _ rfl).set 1 _ rfl).set 2 _ rfl, bs⟩
 case rest =>
 obtain ⟨h, rfl, hh, LH, bw⟩:=hcut
 have G1:=HG.out.below bw HG.out.lt
 have Z1:=HZ.out.below bw HZ.out.lt
 have R1:=RA.out
 have B1 : Below w.heap.size w wc:=bu B0 bw
 have s1:=bw.size
 have l1:=LH.lt
 have x2:=G1.cell 2 rfl
 have y0:=Z1.cell 0 rfl
 have y1:=Z1.cell 1 rfl
 have y2:=Z1.cell 2 rfl
 have fy:=Z1.frozen
 have h0:=LH.cell 0 rfl
 have h1:=LH.cell 1 rfl
 have h2:=LH.cell 2 rfl
 have fh:=LH.frozen
 have hl:=R1.1
 clear HG HZ RA K CL bw B0
 by_cases hx : xs = []
 ·subst hx
  go_wp2
  refine bodyPost_ret (v := qv n s (.slice none 0 0)) (by simp [results, Tryz.results149, go_sem, y0, y1, y2]) rfl ?_
  exact ⟨_, rfl, World.ownsRow_nil _ _ _ _, Below.set (Below.set (Below.set B1 _ _ (Nat.le_refl _)) _ _ (Nat.le_refl _)) _ _ (Nat.le_refl _)⟩
 have hp : 0 < xs.length:=List.length_pos_iff.2 hx
 obtain ⟨cs, hcs⟩ : ∃ cs, xs.map (Value.int .i64) = cs:=⟨_, rfl⟩
 have hcl : cs.length = xs.length:=by rw [← hcs]; simp
 have hone : ∀ v ∈ cs, v.oneCell' = true:=by rw [← hcs]; exact ints_plain64 xs
 obtain ⟨ad, rfl, hcells⟩ : ∃ ad, ao = some ad ∧ ∀ j u, cs[j]? = some u → w.cell? (ad.add j) = some u:=by
  obtain ⟨_, ao', ca', e, hr⟩:=R1
  cases e
  rcases hr with rfl | ⟨b, off, rfl, hr⟩
  ·exact absurd rfl hx
  exact ⟨_, rfl, hcs ▸ inews_cells hr⟩
 have hrows : ∀ w', Below w.heap.size w w' → ∀ j u, cs[j]? = some u → w'.cell? (ad.add j) = some u:=fun w' hb j u hj => (hb.cell (cell_lt (hcells j u hj))).trans (hcells j u hj)
 have HR:=hide hrows
 have HC:=hide hcs
 obtain ⟨i0, hi, hz0, hz1, hz2⟩:=info_parts Tryz.info3
 obtain ⟨m, hm⟩ : ∃ m, xs.length = m:=⟨_, rfl⟩
 rw [hm] at hl hcl hp x2 G1
 have Hm:=hide hm
 clear R1 hcells hrows hcs hm hx
 have hgt : decide ((0 : Int) < (m : Int)) = true:=by simpa using hp
 go_upto_region 4 with (first | (at_make; refine wpList_make_full _ rfl _ _ 24 rfl wc.heap.size 3 i0 (.int .i64 0) 1 Tryz.underlying24 hi hz0 hz1 .i64 .i64 m m m rfl rfl rfl rfl (by rw [hz2]; omega) (by unfold maxLen; omega) (Nat.le_refl _) ?_; intro w2 ho2 hg2
                                 have b2 : Below wc.heap.size wc w2:=(Below.refl _ _).grown hg2 (Nat.le_refl _) (by simp)
                                 have L2:=LH.up b2
                                 have k2:=L2.cell 2 rfl
                                 have f2:=L2.frozen))
 obtain ⟨hlen, hrow⟩:=ho2
 rcases hrow with ⟨e, _⟩ | ⟨row, cap, cur, e, hrb, hrh, _, hcm, hcz, hct⟩
 ·cases e
 cases e
 have hlt2 : wc.heap.size < w2.heap.size:=(Array.getElem?_eq_some_iff.1 hrh).1
 obtain ⟨w3, hw3⟩ : ∃ w3, w2.setCell ⟨h, 2, none⟩ (.slice (some ⟨wc.heap.size, 0, none⟩) m m) = w3:=⟨_, rfl⟩
 have B3 : Below w.heap.size w w3:=hw3 ▸ Below.set (bu B1 b2) (g:=h) 2 _ (by omega)
 have K3 : Kp w2 w3 (fun k => k = h):=hw3 ▸ set_kp w2 h 2 _
 have L3 : Loc w3 h #[.int .i64 n,.string s,.slice (some ⟨wc.heap.size, 0, none⟩) m m]:=hw3 ▸ L2.set 2 _ rfl
 have Z3:=(Z1.up b2).kp K3 (by omega)
 have G3:=(G1.up b2).kp K3 (by omega)
 have H3 : w3.heap[wc.heap.size]? = some (.cells cur.toList.toArray 3 (0, 0)):=by rw [K3.block _ hlt2 (by omega)]; simpa using hrh
 have c3:=HR.out w3 B3
 have z3:=K3.size
 have p2:=L3.cell 2 rfl
 have q2:=G3.cell 2 rfl
 have hcz' : cur.toList.length = m:=by simpa using hcz
 rw [hw3]
 clear hw3 k2 f2 h0 h1 h2 fh y0 y1 y2 fy x2
 have H3h:=hide H3
 have C3:=hide c3
 go_region_law (refine step_copy_splice rfl (.tmp 28) (.tmp 32) 24 24 rfl 3 Tryz.underlying24 (by rw [hi]; simp [hz1]) (some ⟨wc.heap.size, 0, none⟩) (some ad) m m m ca (by simp [Act.eval]) (by simp [Act.eval]) wc.heap.size 0 cur.toList 3 H3h.out cs (by rw [hcl]; simp) (fun _ => ⟨rfl, _, rfl, C3.out⟩) (by omega) hone wc.heap.size w3 ⟨rfl, rfl, rfl, Nat.le_refl _, fun _ _ => rfl⟩ (Nat.le_refl _) ?_; intro w4 hg4 hb4)
 all_goals
  have L4:=L3.below hb4 l1
  have Z4:=Z3.below hb4 (by omega)
  have B4 : Below w.heap.size w w4:=B3.trans (hb4.mono (by omega))
  have h0:=L4.cell 0 rfl
  have h1:=L4.cell 1 rfl
  have h2:=L4.cell 2 rfl
  have y0:=Z4.cell 0 rfl
  have y1:=Z4.cell 1 rfl
  have y2:=Z4.cell 2 rfl
  have fy:=Z4.frozen
  have O4 : OI w4 w.heap.size (.slice (some ⟨wc.heap.size, 0, none⟩) m m) xs:=by
   refine ⟨by rw [Hm.out]; simp [Hm.out], .inr ⟨wc.heap.size, m, _, by rw [Hm.out], by omega, hg4.out, by rw [Hm.out]; exact Nat.le_refl _, hcm, ?_, ?_⟩⟩
   ·rw [List.size_toArray, length_splice _ _ _ (by omega), hcz', Nat.mul_one]
   rw [HC.out]; simp [splice, Hm.out, hcl]
  have HO:=hide O4
  clear L3 Z3 G3 H3 c3 p2 q2 K3 L4 Z4 O4 hg4 hb4 LH Z1 G1 b2 L2 hlen hct hcz hrh
  go_wp2
  refine bodyPost_ret (v := qv n s (.slice (some ⟨wc.heap.size, 0, none⟩) m m)) (by simp [results, Tryz.results149, go_sem, y0, y1, y2]) rfl ?_
  have K5 : Kp w4 (((w4.setCell ⟨w.heap.size, 0, none⟩ (.int .i64 n)).setCell ⟨w.heap.size, 1, none⟩ (.string s)).setCell ⟨w.heap.size, 2, none⟩ (.slice (some ⟨wc.heap.size, 0, none⟩) m m)) (fun k => k = w.heap.size):=((set_kp _ _ _ _).trans (set_kp _ _ _ _)).trans (set_kp _ _ _ _)
  exact ⟨_, rfl, HO.out.kp K5 (fun k hk => by simp [Value.ownBlock] at hk; omega), Below.set (Below.set (Below.set B4 _ _ (Nat.le_refl _)) _ _ (Nat.le_refl _)) _ _ (Nat.le_refl _)⟩
end
end Go.Proofs.YtjdchloechcclaaGreatDoor
