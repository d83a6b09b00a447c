/- Texts that belong together: SafeOks, SafeTold. -/
import Derived.Test.YtcclbejpgiogaaaGreatDoorNBAS
import Derived.Test.YtcclbejpgiogaaaGreatDoorNBAU
import Derived.Test.YtcclbejpgiogaaaGreatDoorNBAO
import Derived.Test.YtcclbejpgiogaaaGreatDoorNBAQ
set_option maxRecDepth 100000
set_option maxHeartbeats 16000000
namespace Go.Proofs.YtcclbejpgiogaaaGreatDoor
open Go.RowKit
set_option linter.unusedSectionVars false
variable [∀ (a b c d : Int), Decidable (Ok4 a b c d)]
variable [∀ (a b c d : Nat), Decidable (okN a b c d)]
variable [∀ (last : Int) (s : St), Decidable (GoodSt last s)]
variable [∀ (x : T4), Decidable (OkT x)]
variable [∀ (n : Int) (s : List Int), Decidable (OkL n s)]
variable [∀ (n f : Int), Decidable (COk n f)]

theorem withinB (x : Int) (w : World) : Calls Tryz.prog 57 #[.int .i64 x, .int .i64 0, .int .i64 60] w fun e w' => e = .returned (.bool (inB x)) ∧ Below w.heap.size w w' := by
 by_cases h : 0 ≤ x ∧ x ≤ 60
 ·have e : inB x = true := by simp [inB, h]
  rw [e]
  refine (within_yes x 0 60 w h.1 h.2).mono ?_
  rintro e w' ⟨rfl, rfl⟩
  exact ⟨rfl, Below.refl _ _⟩
 ·have e : inB x = false := by simp [inB]; omega
  rw [e]
  refine (within_no x 0 60 w (by omega)).mono ?_
  rintro e w' ⟨rfl, rfl⟩
  exact ⟨rfl, Below.refl _ _⟩
theorem l1InB (x : Int) (w : World) : Calls Tryz.prog 73 #[.int .i64 x, .int .i64 0, .int .i64 60] w fun e w' => e = .returned (.bool (inB x)) ∧ Below w.heap.size w w' := by
 by_cases h : 0 ≤ x ∧ x ≤ 60
 ·have e : inB x = true := by simp [inB, h]
  rw [e]
  refine (in_yes x 0 60 w h.1 h.2).mono ?_
  rintro e w' ⟨rfl, rfl⟩
  exact ⟨rfl, Below.refl _ _⟩
 ·have e : inB x = false := by simp [inB]; omega
  rw [e]
  refine (in_no x 0 60 w (by omega)).mono ?_
  rintro e w' ⟨rfl, rfl⟩
  exact ⟨rfl, Below.refl _ _⟩
theorem implSafeOk (n f : Int) (vo lo v : Int) (s : ByteArray) (ao : Option Addr) (ca : Nat) (xs : List Int) (d : ByteArray) (w : World) (hs : s.size ≤ 33554432) (hd : d.size ≤ 33554432) (hE : Env w) (ha : RI w (.slice ao xs.length ca) xs) :
 Calls Tryz.prog 24 #[cv n f, sv vo lo v s (.slice ao xs.length ca) d] w fun e w' => e = .returned (.bool (sokB n f vo lo v s xs d)) ∧ Below w.heap.size w w' := by
 have QO := hide fun w' (b : Below w.heap.size w w') => implQcOk n f v s ao ca xs w' hs (hE.below b) (ha.below b)
 have NO := hide fun w' (b : Below w.heap.size w w') => implNameOk d w' hd (hE.below b)
 have I1 := hide fun w' => withinB vo w'
 have I2 := hide fun w' => withinB lo w'
 unfold sokB
 generalize inB vo = b1 at *
 generalize inB lo = b2 at *
 generalize qokB n f v s xs = b3 at *
 generalize (stepsAns d).isSome = b4 at *
 clear ha hE
 obtain ⟨w0, hw0⟩ : ∃ w0, ((w.alloc (.cells #[.int .i64 n, .int .i64 f] 25)).alloc (.cells #[.int .i64 vo, .int .i64 lo, .int .i64 v, .string s, .slice ao xs.length ca, .string d] 30)) = w0 := ⟨_, rfl⟩
 have Bw0 : Below w.heap.size w w0 := hw0 ▸ ((Below.refl _ _).alloc (Nat.le_refl _) _).alloc (by simp) _
 have LC : Loc w0 (w.heap.size) #[.int .i64 n, .int .i64 f] := hw0 ▸ (loc_at (w) _ _ rfl).alloc _
 have LS : Loc w0 (w.heap.size + 1) #[.int .i64 vo, .int .i64 lo, .int .i64 v, .string s, .slice ao xs.length ca, .string d] := hw0 ▸ loc_at (w.alloc _) _ _ (by simp)
 have zw0 : w.heap.size + 1 + 1 ≤ w0.heap.size := by rw [← hw0]; simp
 go_enter Tryz.func24, Tryz.ntmps24
 have cLS0 := LS.cell 0 rfl
 have cLS1 := LS.cell 1 rfl
 have cLS2 := LS.cell 2 rfl
 have cLS3 := LS.cell 3 rfl
 have cLS4 := LS.cell 4 rfl
 have cLS5 := LS.cell 5 rfl
 go_wp2_with fail
 clear hw0
 refine (I1.out _).mono ?_
 rintro _ w1 ⟨rfl, bb⟩
 clear cLS0 cLS1 cLS2 cLS3 cLS4 cLS5
 have Bw1 := bu Bw0 bb
 have sw1 := bb.size
 replace LC := LC.up bb
 replace LS := LS.up bb
 clear Bw0
 clear bb
 cases b1
 ·go_wp2
  go_ret
  exact ⟨rfl, Bw1⟩
 ·have cLS0 := LS.cell 0 rfl
  have cLS1 := LS.cell 1 rfl
  have cLS2 := LS.cell 2 rfl
  have cLS3 := LS.cell 3 rfl
  have cLS4 := LS.cell 4 rfl
  have cLS5 := LS.cell 5 rfl
  go_wp2_with fail
  refine (I2.out _).mono ?_
  rintro _ w2 ⟨rfl, bb⟩
  clear cLS0 cLS1 cLS2 cLS3 cLS4 cLS5
  have Bw2 := bu Bw1 bb
  have sw2 := bb.size
  replace LC := LC.up bb
  replace LS := LS.up bb
  clear Bw1
  clear bb
  cases b2
  ·go_wp2
   go_ret
   exact ⟨rfl, Bw2⟩
  ·have cLC0 := LC.cell 0 rfl
   have cLC1 := LC.cell 1 rfl
   have cLS0 := LS.cell 0 rfl
   have cLS1 := LS.cell 1 rfl
   have cLS2 := LS.cell 2 rfl
   have cLS3 := LS.cell 3 rfl
   have cLS4 := LS.cell 4 rfl
   have cLS5 := LS.cell 5 rfl
   go_wp2_with fail
   refine (QO.out _ Bw2).mono ?_
   rintro _ w3 ⟨rfl, bb⟩
   clear cLC0 cLC1 cLS0 cLS1 cLS2 cLS3 cLS4 cLS5
   have Bw3 := bu Bw2 bb
   have sw3 := bb.size
   replace LC := LC.up bb
   replace LS := LS.up bb
   clear Bw2
   clear bb
   cases b3
   ·go_wp2
    go_ret
    exact ⟨rfl, Bw3⟩
   ·have cLS0 := LS.cell 0 rfl
    have cLS1 := LS.cell 1 rfl
    have cLS2 := LS.cell 2 rfl
    have cLS3 := LS.cell 3 rfl
    have cLS4 := LS.cell 4 rfl
    have cLS5 := LS.cell 5 rfl
    go_wp2_with fail
    refine (NO.out _ Bw3).mono ?_
    rintro _ w4 ⟨rfl, bb⟩
    clear cLS0 cLS1 cLS2 cLS3 cLS4 cLS5
    have Bw4 := bu Bw3 bb
    have sw4 := bb.size
    replace LC := LC.up bb
    replace LS := LS.up bb
    clear Bw3
    clear bb
    go_wp2
    go_ret
    exact ⟨rfl, Bw4⟩

theorem specSafeOk (n f : Int) (vo lo v : Int) (s : ByteArray) (ao : Option Addr) (ca : Nat) (xs : List Int) (d : ByteArray) (w : World) (hs : s.size ≤ 1048576) (hd : d.size ≤ 1048576) (ha : RI w (.slice ao xs.length ca) xs) :
 Calls Tryz.prog 40 #[cv n f, sv vo lo v s (.slice ao xs.length ca) d] w fun e w' => e = .returned (.bool (sokB n f vo lo v s xs d)) ∧ Below w.heap.size w w' := by
 have QO := hide fun w' (b : Below w.heap.size w w') => specQcOk n f v s ao ca xs w' hs (ha.below b)
 have NO := hide fun w' (b : Below w.heap.size w w') => specNameOk d w' (by omega)
 have I1 := hide fun w' => l1InB vo w'
 have I2 := hide fun w' => l1InB lo w'
 unfold sokB
 generalize inB vo = b1 at *
 generalize inB lo = b2 at *
 generalize qokB n f v s xs = b3 at *
 generalize (stepsAns d).isSome = b4 at *
 clear ha
 obtain ⟨w0, hw0⟩ : ∃ w0, ((w.alloc (.cells #[.int .i64 n, .int .i64 f] 25)).alloc (.cells #[.int .i64 vo, .int .i64 lo, .int .i64 v, .string s, .slice ao xs.length ca, .string d] 30)) = w0 := ⟨_, rfl⟩
 have Bw0 : Below w.heap.size w w0 := hw0 ▸ ((Below.refl _ _).alloc (Nat.le_refl _) _).alloc (by simp) _
 have LC : Loc w0 (w.heap.size) #[.int .i64 n, .int .i64 f] := hw0 ▸ (loc_at (w) _ _ rfl).alloc _
 have LS : Loc w0 (w.heap.size + 1) #[.int .i64 vo, .int .i64 lo, .int .i64 v, .string s, .slice ao xs.length ca, .string d] := hw0 ▸ loc_at (w.alloc _) _ _ (by simp)
 have zw0 : w.heap.size + 1 + 1 ≤ w0.heap.size := by rw [← hw0]; simp
 go_enter Tryz.func40, Tryz.ntmps40
 have cLS0 := LS.cell 0 rfl
 have cLS1 := LS.cell 1 rfl
 have cLS2 := LS.cell 2 rfl
 have cLS3 := LS.cell 3 rfl
 have cLS4 := LS.cell 4 rfl
 have cLS5 := LS.cell 5 rfl
 go_wp2_with fail
 clear hw0
 refine (I1.out _).mono ?_
 rintro _ w1 ⟨rfl, bb⟩
 clear cLS0 cLS1 cLS2 cLS3 cLS4 cLS5
 have Bw1 := bu Bw0 bb
 have sw1 := bb.size
 replace LC := LC.up bb
 replace LS := LS.up bb
 clear Bw0
 clear bb
 cases b1
 ·go_wp2
  go_ret
  exact ⟨rfl, Bw1⟩
 ·have cLS0 := LS.cell 0 rfl
  have cLS1 := LS.cell 1 rfl
  have cLS2 := LS.cell 2 rfl
  have cLS3 := LS.cell 3 rfl
  have cLS4 := LS.cell 4 rfl
  have cLS5 := LS.cell 5 rfl
  go_wp2_with fail
  refine (I2.out _).mono ?_
  rintro _ w2 ⟨rfl, bb⟩
  clear cLS0 cLS1 cLS2 cLS3 cLS4 cLS5
  have Bw2 := bu Bw1 bb
  have sw2 := bb.size
  replace LC := LC.up bb
  replace LS := LS.up bb
  clear Bw1
  clear bb
  cases b2
  ·go_wp2
   go_ret
   exact ⟨rfl, Bw2⟩
  ·have cLC0 := LC.cell 0 rfl
   have cLC1 := LC.cell 1 rfl
   have cLS0 := LS.cell 0 rfl
   have cLS1 := LS.cell 1 rfl
   have cLS2 := LS.cell 2 rfl
   have cLS3 := LS.cell 3 rfl
   have cLS4 := LS.cell 4 rfl
   have cLS5 := LS.cell 5 rfl
   go_wp2_with fail
   refine (QO.out _ Bw2).mono ?_
   rintro _ w3 ⟨rfl, bb⟩
   clear cLC0 cLC1 cLS0 cLS1 cLS2 cLS3 cLS4 cLS5
   have Bw3 := bu Bw2 bb
   have sw3 := bb.size
   replace LC := LC.up bb
   replace LS := LS.up bb
   clear Bw2
   clear bb
   cases b3
   ·go_wp2
    go_ret
    exact ⟨rfl, Bw3⟩
   ·have cLS0 := LS.cell 0 rfl
    have cLS1 := LS.cell 1 rfl
    have cLS2 := LS.cell 2 rfl
    have cLS3 := LS.cell 3 rfl
    have cLS4 := LS.cell 4 rfl
    have cLS5 := LS.cell 5 rfl
    go_wp2_with fail
    refine (NO.out _ Bw3).mono ?_
    rintro _ w4 ⟨rfl, bb⟩
    clear cLS0 cLS1 cLS2 cLS3 cLS4 cLS5
    have Bw4 := bu Bw3 bb
    have sw4 := bb.size
    replace LC := LC.up bb
    replace LS := LS.up bb
    clear Bw3
    clear bb
    go_wp2
    go_ret
    exact ⟨rfl, Bw4⟩

theorem ssame_any (vo lo v : Int) (s : ByteArray) (ao : Option Addr) (ca : Nat) (xs : List Int) (d : ByteArray) (vo' lo' v' : Int) (s' : ByteArray) (bo : Option Addr) (cb : Nat) (ys : List Int) (d' : ByteArray) (w : World) (ha : RI w (.slice ao xs.length ca) xs) (hb : RI w (.slice bo ys.length cb) ys) :
 Calls Tryz.prog 54 #[sv vo lo v s (.slice ao xs.length ca) d, sv vo' lo' v' s' (.slice bo ys.length cb) d'] w fun e w' => e = .returned (.bool (ssamB vo lo v s xs d vo' lo' v' s' ys d')) ∧ Below w.heap.size w w' := by
 have QS := hide fun w' (b : Below w.heap.size w w') => implQcSame v v' s s' (.slice ao xs.length ca) (.slice bo ys.length cb) xs ys w' (ha.below b) (hb.below b)
 unfold ssamB
 generalize alikeB v v' s s' xs ys = b3 at *
 clear ha hb
 by_cases h1 : vo = vo'
 ·have e1 : (vo == vo') = true := by simpa using h1
  rw [e1]
  by_cases h2 : lo = lo'
  ·have e2 : (lo == lo') = true := by simpa using h2
   rw [e2]
   simp only [Bool.true_and]
   by_cases h3 : d = d'
   ·have e3 : decide (d = d') = true := by simpa using h3
    have hy : (d.toList == d'.toList) = true := by simp [h3]
    rw [e3]
    clear h1 h2 h3 e3
    obtain ⟨w0, hw0⟩ : ∃ w0, ((w.alloc (.cells #[.int .i64 vo, .int .i64 lo, .int .i64 v, .string s, .slice ao xs.length ca, .string d] 30)).alloc (.cells #[.int .i64 vo', .int .i64 lo', .int .i64 v', .string s', .slice bo ys.length cb, .string d'] 30)) = w0 := ⟨_, rfl⟩
    have Bw0 : Below w.heap.size w w0 := hw0 ▸ ((Below.refl _ _).alloc (Nat.le_refl _) _).alloc (by simp) _
    have LA : Loc w0 (w.heap.size) #[.int .i64 vo, .int .i64 lo, .int .i64 v, .string s, .slice ao xs.length ca, .string d] := hw0 ▸ (loc_at (w) _ _ rfl).alloc _
    have LB : Loc w0 (w.heap.size + 1) #[.int .i64 vo', .int .i64 lo', .int .i64 v', .string s', .slice bo ys.length cb, .string d'] := hw0 ▸ loc_at (w.alloc _) _ _ (by simp)
    have zw0 : w.heap.size + 1 + 1 ≤ w0.heap.size := by rw [← hw0]; simp
    go_enter Tryz.func54, Tryz.ntmps54
    have cLA0 := LA.cell 0 rfl
    have cLA1 := LA.cell 1 rfl
    have cLA2 := LA.cell 2 rfl
    have cLA3 := LA.cell 3 rfl
    have cLA4 := LA.cell 4 rfl
    have cLA5 := LA.cell 5 rfl
    have cLB0 := LB.cell 0 rfl
    have cLB1 := LB.cell 1 rfl
    have cLB2 := LB.cell 2 rfl
    have cLB3 := LB.cell 3 rfl
    have cLB4 := LB.cell 4 rfl
    have cLB5 := LB.cell 5 rfl
    go_wp2_with fail
    clear hw0
    refine (QS.out _ Bw0).mono ?_
    rintro _ w1 ⟨rfl, bb⟩
    clear cLA0 cLA1 cLA2 cLA3 cLA4 cLA5 cLB0 cLB1 cLB2 cLB3 cLB4 cLB5
    have Bw1 := bu Bw0 bb
    have sw1 := bb.size
    replace LA := LA.up bb
    replace LB := LB.up bb
    clear Bw0
    clear bb
    cases b3
    ·go_wp2
     go_ret
     exact ⟨rfl, Bw1⟩
    ·have cLA0 := LA.cell 0 rfl
     have cLA1 := LA.cell 1 rfl
     have cLA2 := LA.cell 2 rfl
     have cLA3 := LA.cell 3 rfl
     have cLA4 := LA.cell 4 rfl
     have cLA5 := LA.cell 5 rfl
     have cLB0 := LB.cell 0 rfl
     have cLB1 := LB.cell 1 rfl
     have cLB2 := LB.cell 2 rfl
     have cLB3 := LB.cell 3 rfl
     have cLB4 := LB.cell 4 rfl
     have cLB5 := LB.cell 5 rfl
     go_wp2
     go_ret
     exact ⟨rfl, Bw1⟩
   ·have e3 : decide (d = d') = false := by simpa using h3
    have hy := str_ne h3
    rw [e3]
    clear h1 h2 h3 e3
    obtain ⟨w0, hw0⟩ : ∃ w0, ((w.alloc (.cells #[.int .i64 vo, .int .i64 lo, .int .i64 v, .string s, .slice ao xs.length ca, .string d] 30)).alloc (.cells #[.int .i64 vo', .int .i64 lo', .int .i64 v', .string s', .slice bo ys.length cb, .string d'] 30)) = w0 := ⟨_, rfl⟩
    have Bw0 : Below w.heap.size w w0 := hw0 ▸ ((Below.refl _ _).alloc (Nat.le_refl _) _).alloc (by simp) _
    have LA : Loc w0 (w.heap.size) #[.int .i64 vo, .int .i64 lo, .int .i64 v, .string s, .slice ao xs.length ca, .string d] := hw0 ▸ (loc_at (w) _ _ rfl).alloc _
    have LB : Loc w0 (w.heap.size + 1) #[.int .i64 vo', .int .i64 lo', .int .i64 v', .string s', .slice bo ys.length cb, .string d'] := hw0 ▸ loc_at (w.alloc _) _ _ (by simp)
    have zw0 : w.heap.size + 1 + 1 ≤ w0.heap.size := by rw [← hw0]; simp
    go_enter Tryz.func54, Tryz.ntmps54
    have cLA0 := LA.cell 0 rfl
    have cLA1 := LA.cell 1 rfl
    have cLA2 := LA.cell 2 rfl
    have cLA3 := LA.cell 3 rfl
    have cLA4 := LA.cell 4 rfl
    have cLA5 := LA.cell 5 rfl
    have cLB0 := LB.cell 0 rfl
    have cLB1 := LB.cell 1 rfl
    have cLB2 := LB.cell 2 rfl
    have cLB3 := LB.cell 3 rfl
    have cLB4 := LB.cell 4 rfl
    have cLB5 := LB.cell 5 rfl
    go_wp2_with fail
    clear hw0
    refine (QS.out _ Bw0).mono ?_
    rintro _ w1 ⟨rfl, bb⟩
    clear cLA0 cLA1 cLA2 cLA3 cLA4 cLA5 cLB0 cLB1 cLB2 cLB3 cLB4 cLB5
    have Bw1 := bu Bw0 bb
    have sw1 := bb.size
    replace LA := LA.up bb
    replace LB := LB.up bb
    clear Bw0
    clear bb
    cases b3
    ·go_wp2
     go_ret
     exact ⟨rfl, Bw1⟩
    ·have cLA0 := LA.cell 0 rfl
     have cLA1 := LA.cell 1 rfl
     have cLA2 := LA.cell 2 rfl
     have cLA3 := LA.cell 3 rfl
     have cLA4 := LA.cell 4 rfl
     have cLA5 := LA.cell 5 rfl
     have cLB0 := LB.cell 0 rfl
     have cLB1 := LB.cell 1 rfl
     have cLB2 := LB.cell 2 rfl
     have cLB3 := LB.cell 3 rfl
     have cLB4 := LB.cell 4 rfl
     have cLB5 := LB.cell 5 rfl
     go_wp2
     go_ret
     exact ⟨rfl, Bw1⟩
  ·have e2 : (lo == lo') = false := by simpa using h2
   rw [e2]
   simp only [Bool.true_and, Bool.false_and]
   clear h1 h2 QS
   obtain ⟨w0, hw0⟩ : ∃ w0, ((w.alloc (.cells #[.int .i64 vo, .int .i64 lo, .int .i64 v, .string s, .slice ao xs.length ca, .string d] 30)).alloc (.cells #[.int .i64 vo', .int .i64 lo', .int .i64 v', .string s', .slice bo ys.length cb, .string d'] 30)) = w0 := ⟨_, rfl⟩
   have Bw0 : Below w.heap.size w w0 := hw0 ▸ ((Below.refl _ _).alloc (Nat.le_refl _) _).alloc (by simp) _
   have LA : Loc w0 (w.heap.size) #[.int .i64 vo, .int .i64 lo, .int .i64 v, .string s, .slice ao xs.length ca, .string d] := hw0 ▸ (loc_at (w) _ _ rfl).alloc _
   have LB : Loc w0 (w.heap.size + 1) #[.int .i64 vo', .int .i64 lo', .int .i64 v', .string s', .slice bo ys.length cb, .string d'] := hw0 ▸ loc_at (w.alloc _) _ _ (by simp)
   have zw0 : w.heap.size + 1 + 1 ≤ w0.heap.size := by rw [← hw0]; simp
   go_enter Tryz.func54, Tryz.ntmps54
   have cLA0 := LA.cell 0 rfl
   have cLA1 := LA.cell 1 rfl
   have cLA2 := LA.cell 2 rfl
   have cLA3 := LA.cell 3 rfl
   have cLA4 := LA.cell 4 rfl
   have cLA5 := LA.cell 5 rfl
   have cLB0 := LB.cell 0 rfl
   have cLB1 := LB.cell 1 rfl
   have cLB2 := LB.cell 2 rfl
   have cLB3 := LB.cell 3 rfl
   have cLB4 := LB.cell 4 rfl
   have cLB5 := LB.cell 5 rfl
   go_wp2
   go_ret
   exact ⟨rfl, Bw0⟩
 ·have e1 : (vo == vo') = false := by simpa using h1
  rw [e1]
  simp only [Bool.false_and]
  clear h1 QS
  obtain ⟨w0, hw0⟩ : ∃ w0, ((w.alloc (.cells #[.int .i64 vo, .int .i64 lo, .int .i64 v, .string s, .slice ao xs.length ca, .string d] 30)).alloc (.cells #[.int .i64 vo', .int .i64 lo', .int .i64 v', .string s', .slice bo ys.length cb, .string d'] 30)) = w0 := ⟨_, rfl⟩
  have Bw0 : Below w.heap.size w w0 := hw0 ▸ ((Below.refl _ _).alloc (Nat.le_refl _) _).alloc (by simp) _
  have LA : Loc w0 (w.heap.size) #[.int .i64 vo, .int .i64 lo, .int .i64 v, .string s, .slice ao xs.length ca, .string d] := hw0 ▸ (loc_at (w) _ _ rfl).alloc _
  have LB : Loc w0 (w.heap.size + 1) #[.int .i64 vo', .int .i64 lo', .int .i64 v', .string s', .slice bo ys.length cb, .string d'] := hw0 ▸ loc_at (w.alloc _) _ _ (by simp)
  have zw0 : w.heap.size + 1 + 1 ≤ w0.heap.size := by rw [← hw0]; simp
  go_enter Tryz.func54, Tryz.ntmps54
  have cLA0 := LA.cell 0 rfl
  have cLA1 := LA.cell 1 rfl
  have cLA2 := LA.cell 2 rfl
  have cLA3 := LA.cell 3 rfl
  have cLA4 := LA.cell 4 rfl
  have cLA5 := LA.cell 5 rfl
  have cLB0 := LB.cell 0 rfl
  have cLB1 := LB.cell 1 rfl
  have cLB2 := LB.cell 2 rfl
  have cLB3 := LB.cell 3 rfl
  have cLB4 := LB.cell 4 rfl
  have cLB5 := LB.cell 5 rfl
  go_wp2
  go_ret
  exact ⟨rfl, Bw0⟩

theorem implSafeSame (vo lo v : Int) (s : ByteArray) (ao : Option Addr) (ca : Nat) (xs : List Int) (d : ByteArray) (vo' lo' v' : Int) (s' : ByteArray) (bo : Option Addr) (cb : Nat) (ys : List Int) (d' : ByteArray) (w : World) (ha : RI w (.slice ao xs.length ca) xs) (hb : RI w (.slice bo ys.length cb) ys) :
 Calls Tryz.prog 20 #[sv vo lo v s (.slice ao xs.length ca) d, sv vo' lo' v' s' (.slice bo ys.length cb) d'] w fun e w' => e = .returned (.bool (ssamB vo lo v s xs d vo' lo' v' s' ys d')) ∧ Below w.heap.size w w' := by
 have SM := hide fun w' (b : Below w.heap.size w w') => ssame_any vo lo v s ao ca xs d vo' lo' v' s' bo cb ys d' w' (ha.below b) (hb.below b)
 generalize ssamB vo lo v s xs d vo' lo' v' s' ys d' = q at *
 clear ha hb
 obtain ⟨w0, hw0⟩ : ∃ w0, ((w.alloc (.cells #[.int .i64 vo, .int .i64 lo, .int .i64 v, .string s, .slice ao xs.length ca, .string d] 30)).alloc (.cells #[.int .i64 vo', .int .i64 lo', .int .i64 v', .string s', .slice bo ys.length cb, .string d'] 30)) = w0 := ⟨_, rfl⟩
 have Bw0 : Below w.heap.size w w0 := hw0 ▸ ((Below.refl _ _).alloc (Nat.le_refl _) _).alloc (by simp) _
 have LA : Loc w0 (w.heap.size) #[.int .i64 vo, .int .i64 lo, .int .i64 v, .string s, .slice ao xs.length ca, .string d] := hw0 ▸ (loc_at (w) _ _ rfl).alloc _
 have LB : Loc w0 (w.heap.size + 1) #[.int .i64 vo', .int .i64 lo', .int .i64 v', .string s', .slice bo ys.length cb, .string d'] := hw0 ▸ loc_at (w.alloc _) _ _ (by simp)
 have zw0 : w.heap.size + 1 + 1 ≤ w0.heap.size := by rw [← hw0]; simp
 go_enter Tryz.func20, Tryz.ntmps20
 have cLA0 := LA.cell 0 rfl
 have cLA1 := LA.cell 1 rfl
 have cLA2 := LA.cell 2 rfl
 have cLA3 := LA.cell 3 rfl
 have cLA4 := LA.cell 4 rfl
 have cLA5 := LA.cell 5 rfl
 have cLB0 := LB.cell 0 rfl
 have cLB1 := LB.cell 1 rfl
 have cLB2 := LB.cell 2 rfl
 have cLB3 := LB.cell 3 rfl
 have cLB4 := LB.cell 4 rfl
 have cLB5 := LB.cell 5 rfl
 go_wp2_with fail
 clear hw0
 refine (SM.out _ Bw0).mono ?_
 rintro _ w1 ⟨rfl, bb⟩
 clear cLA0 cLA1 cLA2 cLA3 cLA4 cLA5 cLB0 cLB1 cLB2 cLB3 cLB4 cLB5
 have Bw1 := bu Bw0 bb
 have sw1 := bb.size
 replace LA := LA.up bb
 replace LB := LB.up bb
 clear Bw0
 clear bb
 go_wp2
 go_ret
 exact ⟨rfl, Bw1⟩

theorem implSafeNew (w : World) :
 Calls Tryz.prog 25 #[] w fun e w' => e = .returned (sv 0 0 0 ⟨#[]⟩ (.slice none 0 0) ⟨#[]⟩) ∧ Below w.heap.size w w' := by
 obtain ⟨w0, hw0⟩ : ∃ w0, (w.alloc (.cells #[.int .i64 0, .int .i64 0, .int .i64 0, .string ⟨#[]⟩, .slice none 0 0, .string ⟨#[]⟩] 30)) = w0 := ⟨_, rfl⟩
 have Bw0 : Below w.heap.size w w0 := hw0 ▸ (Below.refl _ _).alloc (Nat.le_refl _) _
 have LZ : Loc w0 (w.heap.size) #[.int .i64 0, .int .i64 0, .int .i64 0, .string ⟨#[]⟩, .slice none 0 0, .string ⟨#[]⟩] := hw0 ▸ loc_at (w) _ _ rfl
 have zw0 : w.heap.size + 1 ≤ w0.heap.size := by rw [← hw0]; simp
 go_enter Tryz.func25, Tryz.ntmps25
 go_wp2_with fail
 clear hw0
 refine (implQcFirst _).mono ?_
 rintro _ w1 ⟨rfl, bb⟩
 have Bw1 := bu Bw0 bb
 have sw1 := bb.size
 replace LZ := LZ.up bb
 clear Bw0
 clear bb
 have K6 := kp6 w1 (w.heap.size) (.int .i64 0) (.int .i64 0) (.int .i64 0) (.string ⟨#[]⟩) (.slice none 0 0) (.string ⟨#[]⟩)
 have cLZ0 := LZ.cell 0 rfl
 have cLZ1 := LZ.cell 1 rfl
 have cLZ2 := LZ.cell 2 rfl
 have cLZ3 := LZ.cell 3 rfl
 have cLZ4 := LZ.cell 4 rfl
 have cLZ5 := LZ.cell 5 rfl
 have fLZ := LZ.frozen
 go_wp2
 refine bodyPost_ret (v := sv 0 0 0 ⟨#[]⟩ (.slice none 0 0) ⟨#[]⟩) (by simp [results, Tryz.results25, go_sem, cLZ0, cLZ1, cLZ2, cLZ3, cLZ4, cLZ5]) rfl ?_
 exact ⟨rfl, Below.kp Bw1 K6 Bw1.size (fun k hk => by omega)⟩

theorem specSafeNew (w : World) :
 Calls Tryz.prog 43 #[] w fun e w' => e = .returned (sv 0 0 0 ⟨#[]⟩ (.slice none 0 0) ⟨#[]⟩) ∧ Below w.heap.size w w' := by
 obtain ⟨w0, hw0⟩ : ∃ w0, (w.alloc (.cells #[.int .i64 0, .int .i64 0, .int .i64 0, .string ⟨#[]⟩, .slice none 0 0, .string ⟨#[]⟩] 30)) = w0 := ⟨_, rfl⟩
 have Bw0 : Below w.heap.size w w0 := hw0 ▸ (Below.refl _ _).alloc (Nat.le_refl _) _
 have LZ : Loc w0 (w.heap.size) #[.int .i64 0, .int .i64 0, .int .i64 0, .string ⟨#[]⟩, .slice none 0 0, .string ⟨#[]⟩] := hw0 ▸ loc_at (w) _ _ rfl
 have zw0 : w.heap.size + 1 ≤ w0.heap.size := by rw [← hw0]; simp
 go_enter Tryz.func43, Tryz.ntmps43
 have K6 := kp6 w0 (w.heap.size) (.int .i64 0) (.int .i64 0) (.int .i64 0) (.string ⟨#[]⟩) (.slice none 0 0) (.string ⟨#[]⟩)
 have cLZ0 := LZ.cell 0 rfl
 have cLZ1 := LZ.cell 1 rfl
 have cLZ2 := LZ.cell 2 rfl
 have cLZ3 := LZ.cell 3 rfl
 have cLZ4 := LZ.cell 4 rfl
 have cLZ5 := LZ.cell 5 rfl
 have fLZ := LZ.frozen
 go_wp2
 clear hw0
 refine bodyPost_ret (v := sv 0 0 0 ⟨#[]⟩ (.slice none 0 0) ⟨#[]⟩) (by simp [results, Tryz.results43, go_sem, cLZ0, cLZ1, cLZ2, cLZ3, cLZ4, cLZ5]) rfl ?_
 exact ⟨rfl, Below.kp Bw0 K6 Bw0.size (fun k hk => by omega)⟩
end Go.Proofs.YtcclbejpgiogaaaGreatDoor
namespace Go.Proofs.YtcclbejpgiogaaaGreatDoor
open Go.RowKit

theorem l11Copy_any (vo lo v : Int) (s : ByteArray) (ao : Option Addr) (ca : Nat) (xs : List Int) (d : ByteArray) (w : World) (ha : RI w (.slice ao xs.length ca) xs) :
 Calls Tryz.prog 91 #[sv vo lo v s (.slice ao xs.length ca) d] w fun e w' => ∃ u, e = .returned (sv vo lo v s u d) ∧ OI w' w.heap.size u xs ∧ Below w.heap.size w w' := by
 have CP := hide fun w' (b : Below w.heap.size w w') => l7Copy_any v s (.slice ao xs.length ca) xs w' (ha.below b)
 clear ha
 obtain ⟨w0, hw0⟩ : ∃ w0, ((w.alloc (.cells #[.int .i64 vo, .int .i64 lo, .int .i64 v, .string s, .slice ao xs.length ca, .string d] 30)).alloc (.cells #[.int .i64 0, .int .i64 0, .int .i64 0, .string ⟨#[]⟩, .slice none 0 0, .string ⟨#[]⟩] 30)) = w0 := ⟨_, rfl⟩
 have Bw0 : Below w.heap.size w w0 := hw0 ▸ ((Below.refl _ _).alloc (Nat.le_refl _) _).alloc (by simp) _
 have LS : Loc w0 (w.heap.size) #[.int .i64 vo, .int .i64 lo, .int .i64 v, .string s, .slice ao xs.length ca, .string d] := hw0 ▸ (loc_at (w) _ _ rfl).alloc _
 have LZ : Loc w0 (w.heap.size + 1) #[.int .i64 0, .int .i64 0, .int .i64 0, .string ⟨#[]⟩, .slice none 0 0, .string ⟨#[]⟩] := hw0 ▸ loc_at (w.alloc _) _ _ (by simp)
 have zw0 : w.heap.size + 1 + 1 ≤ w0.heap.size := by rw [← hw0]; simp
 go_enter Tryz.func91, Tryz.ntmps91
 have cLS0 := LS.cell 0 rfl
 have cLS1 := LS.cell 1 rfl
 have cLS2 := LS.cell 2 rfl
 have cLS3 := LS.cell 3 rfl
 have cLS4 := LS.cell 4 rfl
 have cLS5 := LS.cell 5 rfl
 go_wp2_with fail
 clear hw0
 refine (CP.out _ Bw0).mono ?_
 rintro _ w1 ⟨u1, rfl, o1, bb⟩
 clear cLS0 cLS1 cLS2 cLS3 cLS4 cLS5
 have Bw1 := bu Bw0 bb
 have sw1 := bb.size
 replace LS := LS.up bb
 replace LZ := LZ.up bb
 clear Bw0
 clear bb
 have to1 := World.ownsRow.lt o1
 obtain ⟨ao1, ko1, rfl⟩ := o1.form
 have cLS0 := LS.cell 0 rfl
 have cLS1 := LS.cell 1 rfl
 have cLS2 := LS.cell 2 rfl
 have cLS3 := LS.cell 3 rfl
 have cLS4 := LS.cell 4 rfl
 have cLS5 := LS.cell 5 rfl
 have fLS := LS.frozen
 go_upto_region 2 with fail
 clear cLS0 cLS1 cLS2 cLS3 cLS4 cLS5
 clear fLS
 obtain ⟨w2, hw2⟩ : ∃ y, (((w1.setCell ⟨w.heap.size, 2, none⟩ (.int .i64 v)).setCell ⟨w.heap.size, 3, none⟩ (.string s)).setCell ⟨w.heap.size, 4, none⟩ (.slice ao1 xs.length ko1)) = y := ⟨_, rfl⟩
 have kN : Kp w1 w2 (fun k => k = w.heap.size) := hw2 ▸ ((set_kp _ _ _ _).trans (set_kp _ _ _ _)).trans (set_kp _ _ _ _)
 replace LS : Loc w2 (w.heap.size) #[.int .i64 vo, .int .i64 lo, .int .i64 v, .string s, .slice ao1 xs.length ko1, .string d] := hw2 ▸ (((LS.set 2 _ rfl).set 3 _ rfl).set 4 _ rfl)
 replace LZ := LZ.kp kN (by omega)
 replace o1 := o1.kp kN (fun j hj e => by have := to1 j hj; omega)
 have Bw2 := Below.kp Bw1 kN Bw1.size (fun k hk => by omega)
 have sw2 := kN.size
 rw [hw2]
 clear hw2 kN Bw1
 have K6 := kp6 w2 (w.heap.size + 1) (.int .i64 vo) (.int .i64 lo) (.int .i64 v) (.string s) (.slice ao1 xs.length ko1) (.string d)
 have cLZ0 := LZ.cell 0 rfl
 have cLZ1 := LZ.cell 1 rfl
 have cLZ2 := LZ.cell 2 rfl
 have cLZ3 := LZ.cell 3 rfl
 have cLZ4 := LZ.cell 4 rfl
 have cLZ5 := LZ.cell 5 rfl
 have cLS0 := LS.cell 0 rfl
 have cLS1 := LS.cell 1 rfl
 have cLS2 := LS.cell 2 rfl
 have cLS3 := LS.cell 3 rfl
 have cLS4 := LS.cell 4 rfl
 have cLS5 := LS.cell 5 rfl
 have fLZ := LZ.frozen
 go_wp2
 refine bodyPost_ret (v := sv (vo) (lo) (v) (s) (.slice ao1 xs.length ko1) (d)) (by simp [results, Tryz.results91, go_sem, cLZ0, cLZ1, cLZ2, cLZ3, cLZ4, cLZ5]) rfl ?_
 exact ⟨_, rfl, (o1.kp K6 (fun j hj e => by have := to1 j hj; omega)).mono (by omega), Below.kp Bw2 K6 Bw2.size (fun k hk => by omega)⟩
end Go.Proofs.YtcclbejpgiogaaaGreatDoor
