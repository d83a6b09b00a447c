/- Texts that belong together: SafeOks, BlockOpen, SafeOpen, SafeOkWalk. -/
import Derived.Test.YtgfboghieejbkaaGreatDoorVAN
import Derived.Test.YtgfboghieejbkaaGreatDoorVAI
import Derived.Test.YtgfboghieejbkaaGreatDoorVAH
import Derived.Test.YtgfboghieejbkaaGreatDoorVAB
import Derived.Deep.Strs
namespace Go.Proofs.YtgfboghieejbkaaGreatDoor
open Go.RowKit
set_option linter.unusedSectionVars false
variable [∀ (a b c d : Int), Decidable (Ok4 a b c d)]
variable [∀ (a b c d : Nat), Decidable (okN a b c d)]
variable [∀ (last : Int) (s : St), Decidable (GoodSt last s)]
variable [∀ (x : T4), Decidable (OkT x)]
variable [∀ (n : Int) (s : List Int), Decidable (OkL n s)]
variable [∀ (n f : Int), Decidable (COk n f)]

theorem withinB (x : Int) (w : World) : Calls Tryz.prog 113 #[.int .i64 x, .int .i64 0, .int .i64 60] w fun e w' => e = .returned (.bool (inB x)) ∧ Below w.heap.size w w' := by
  by_cases h : 0 ≤ x ∧ x ≤ 60
  · have e : inB x = true := by simp [inB, h]
    rw [e]
    refine (within_yes x 0 60 w h.1 h.2).mono ?_
    rintro e w' ⟨rfl, rfl⟩
    exact ⟨rfl, Below.refl _ _⟩
  · have e : inB x = false := by simp [inB]; omega
    rw [e]
    refine (within_no x 0 60 w (by omega)).mono ?_
    rintro e w' ⟨rfl, rfl⟩
    exact ⟨rfl, Below.refl _ _⟩
theorem l1InB (x : Int) (w : World) : Calls Tryz.prog 116 #[.int .i64 x, .int .i64 0, .int .i64 60] w fun e w' => e = .returned (.bool (inB x)) ∧ Below w.heap.size w w' := by
  by_cases h : 0 ≤ x ∧ x ≤ 60
  · have e : inB x = true := by simp [inB, h]
    rw [e]
    refine (in_yes x 0 60 w h.1 h.2).mono ?_
    rintro e w' ⟨rfl, rfl⟩
    exact ⟨rfl, Below.refl _ _⟩
  · have e : inB x = false := by simp [inB]; omega
    rw [e]
    refine (in_no x 0 60 w (by omega)).mono ?_
    rintro e w' ⟨rfl, rfl⟩
    exact ⟨rfl, Below.refl _ _⟩
set_option maxHeartbeats 16000000 in
set_option maxRecDepth 100000 in
theorem implSafeOk (n f : Int) (vo lo v : Int) (s : ByteArray) (ao : Option Addr) (ca : Nat) (xs : List Int) (d : ByteArray) (w : World) (hs : s.size ≤ 33554432) (hd : d.size ≤ 33554432) (hE : Env w) (ha : RI w (.slice ao xs.length ca) xs) :
    Calls Tryz.prog 53 #[cv n f, sv vo lo v s (.slice ao xs.length ca) d] w fun e w' => e = .returned (.bool (sokB n f vo lo v s xs d)) ∧ Below w.heap.size w w' := by
  have QO := hide fun w' (b : Below w.heap.size w w') => implQcOk n f v s ao ca xs w' hs (hE.below b) (ha.below b (Nat.le_refl _))
  have NO := hide fun w' (b : Below w.heap.size w w') => implNameOk d w' hd (hE.below b)
  have I1 := hide fun w' => withinB vo w'
  have I2 := hide fun w' => withinB lo w'
  unfold sokB
  generalize inB vo = b1 at *
  generalize inB lo = b2 at *
  generalize qokB n f v s xs = b3 at *
  generalize (stepsAns d).isSome = b4 at *
  clear ha hE
  obtain ⟨w0, hw0⟩ : ∃ w0, ((w.alloc (.cells #[.int .i64 n, .int .i64 f] 32)).alloc (.cells #[.int .i64 vo, .int .i64 lo, .int .i64 v, .string s, .slice ao xs.length ca, .string d] 60)) = w0 := ⟨_, rfl⟩
  have Bw0 : Below w.heap.size w w0 := hw0 ▸ ((Below.refl _ _).alloc (Nat.le_refl _) _).alloc (by simp) _
  have LC : Loc w0 (w.heap.size) #[.int .i64 n, .int .i64 f] := hw0 ▸ (loc_at (w) _ _ rfl).alloc _
  have LS : Loc w0 (w.heap.size + 1) #[.int .i64 vo, .int .i64 lo, .int .i64 v, .string s, .slice ao xs.length ca, .string d] := hw0 ▸ loc_at (w.alloc _) _ _ (by simp)
  have zw0 : w.heap.size + 1 + 1 ≤ w0.heap.size := by rw [← hw0]; simp
  go_enter Tryz.func53, Tryz.ntmps53
  have cLS0 := LS.cell 0 rfl
  have cLS1 := LS.cell 1 rfl
  have cLS2 := LS.cell 2 rfl
  have cLS3 := LS.cell 3 rfl
  have cLS4 := LS.cell 4 rfl
  have cLS5 := LS.cell 5 rfl
  go_wp2_with fail
  clear hw0
  refine (unhide I1 _).mono ?_
  rintro _ w1 ⟨rfl, bb⟩
  clear cLS0 cLS1 cLS2 cLS3 cLS4 cLS5
  have Bw1 := Bw0.trans (bb.mono Bw0.size)
  have sw1 := bb.size
  replace LC := LC.below bb LC.lt
  replace LS := LS.below bb LS.lt
  clear Bw0
  clear bb
  cases b1
  · go_wp2
    go_ret
    exact ⟨rfl, Bw1⟩
  · have cLS0 := LS.cell 0 rfl
    have cLS1 := LS.cell 1 rfl
    have cLS2 := LS.cell 2 rfl
    have cLS3 := LS.cell 3 rfl
    have cLS4 := LS.cell 4 rfl
    have cLS5 := LS.cell 5 rfl
    go_wp2_with fail
    refine (unhide I2 _).mono ?_
    rintro _ w2 ⟨rfl, bb⟩
    clear cLS0 cLS1 cLS2 cLS3 cLS4 cLS5
    have Bw2 := Bw1.trans (bb.mono Bw1.size)
    have sw2 := bb.size
    replace LC := LC.below bb LC.lt
    replace LS := LS.below bb LS.lt
    clear Bw1
    clear bb
    cases b2
    · go_wp2
      go_ret
      exact ⟨rfl, Bw2⟩
    · have cLC0 := LC.cell 0 rfl
      have cLC1 := LC.cell 1 rfl
      have cLS0 := LS.cell 0 rfl
      have cLS1 := LS.cell 1 rfl
      have cLS2 := LS.cell 2 rfl
      have cLS3 := LS.cell 3 rfl
      have cLS4 := LS.cell 4 rfl
      have cLS5 := LS.cell 5 rfl
      go_wp2_with fail
      refine (unhide QO _ Bw2).mono ?_
      rintro _ w3 ⟨rfl, bb⟩
      clear cLC0 cLC1 cLS0 cLS1 cLS2 cLS3 cLS4 cLS5
      have Bw3 := Bw2.trans (bb.mono Bw2.size)
      have sw3 := bb.size
      replace LC := LC.below bb LC.lt
      replace LS := LS.below bb LS.lt
      clear Bw2
      clear bb
      cases b3
      · go_wp2
        go_ret
        exact ⟨rfl, Bw3⟩
      · have cLS0 := LS.cell 0 rfl
        have cLS1 := LS.cell 1 rfl
        have cLS2 := LS.cell 2 rfl
        have cLS3 := LS.cell 3 rfl
        have cLS4 := LS.cell 4 rfl
        have cLS5 := LS.cell 5 rfl
        go_wp2_with fail
        refine (unhide NO _ Bw3).mono ?_
        rintro _ w4 ⟨rfl, bb⟩
        clear cLS0 cLS1 cLS2 cLS3 cLS4 cLS5
        have Bw4 := Bw3.trans (bb.mono Bw3.size)
        have sw4 := bb.size
        replace LC := LC.below bb LC.lt
        replace LS := LS.below bb LS.lt
        clear Bw3
        clear bb
        go_wp2
        go_ret
        exact ⟨rfl, Bw4⟩

set_option maxHeartbeats 16000000 in
set_option maxRecDepth 100000 in
theorem specSafeOk (n f : Int) (vo lo v : Int) (s : ByteArray) (ao : Option Addr) (ca : Nat) (xs : List Int) (d : ByteArray) (w : World) (hs : s.size ≤ 1048576) (hd : d.size ≤ 1048576) (ha : RI w (.slice ao xs.length ca) xs) :
    Calls Tryz.prog 54 #[cv n f, sv vo lo v s (.slice ao xs.length ca) d] w fun e w' => e = .returned (.bool (sokB n f vo lo v s xs d)) ∧ Below w.heap.size w w' := by
  have QO := hide fun w' (b : Below w.heap.size w w') => specQcOk n f v s ao ca xs w' hs (ha.below b (Nat.le_refl _))
  have NO := hide fun w' (b : Below w.heap.size w w') => specNameOk d w' (by omega)
  have I1 := hide fun w' => l1InB vo w'
  have I2 := hide fun w' => l1InB lo w'
  unfold sokB
  generalize inB vo = b1 at *
  generalize inB lo = b2 at *
  generalize qokB n f v s xs = b3 at *
  generalize (stepsAns d).isSome = b4 at *
  clear ha
  obtain ⟨w0, hw0⟩ : ∃ w0, ((w.alloc (.cells #[.int .i64 n, .int .i64 f] 32)).alloc (.cells #[.int .i64 vo, .int .i64 lo, .int .i64 v, .string s, .slice ao xs.length ca, .string d] 60)) = w0 := ⟨_, rfl⟩
  have Bw0 : Below w.heap.size w w0 := hw0 ▸ ((Below.refl _ _).alloc (Nat.le_refl _) _).alloc (by simp) _
  have LC : Loc w0 (w.heap.size) #[.int .i64 n, .int .i64 f] := hw0 ▸ (loc_at (w) _ _ rfl).alloc _
  have LS : Loc w0 (w.heap.size + 1) #[.int .i64 vo, .int .i64 lo, .int .i64 v, .string s, .slice ao xs.length ca, .string d] := hw0 ▸ loc_at (w.alloc _) _ _ (by simp)
  have zw0 : w.heap.size + 1 + 1 ≤ w0.heap.size := by rw [← hw0]; simp
  go_enter Tryz.func54, Tryz.ntmps54
  have cLS0 := LS.cell 0 rfl
  have cLS1 := LS.cell 1 rfl
  have cLS2 := LS.cell 2 rfl
  have cLS3 := LS.cell 3 rfl
  have cLS4 := LS.cell 4 rfl
  have cLS5 := LS.cell 5 rfl
  go_wp2_with fail
  clear hw0
  refine (unhide I1 _).mono ?_
  rintro _ w1 ⟨rfl, bb⟩
  clear cLS0 cLS1 cLS2 cLS3 cLS4 cLS5
  have Bw1 := Bw0.trans (bb.mono Bw0.size)
  have sw1 := bb.size
  replace LC := LC.below bb LC.lt
  replace LS := LS.below bb LS.lt
  clear Bw0
  clear bb
  cases b1
  · go_wp2
    go_ret
    exact ⟨rfl, Bw1⟩
  · have cLS0 := LS.cell 0 rfl
    have cLS1 := LS.cell 1 rfl
    have cLS2 := LS.cell 2 rfl
    have cLS3 := LS.cell 3 rfl
    have cLS4 := LS.cell 4 rfl
    have cLS5 := LS.cell 5 rfl
    go_wp2_with fail
    refine (unhide I2 _).mono ?_
    rintro _ w2 ⟨rfl, bb⟩
    clear cLS0 cLS1 cLS2 cLS3 cLS4 cLS5
    have Bw2 := Bw1.trans (bb.mono Bw1.size)
    have sw2 := bb.size
    replace LC := LC.below bb LC.lt
    replace LS := LS.below bb LS.lt
    clear Bw1
    clear bb
    cases b2
    · go_wp2
      go_ret
      exact ⟨rfl, Bw2⟩
    · have cLC0 := LC.cell 0 rfl
      have cLC1 := LC.cell 1 rfl
      have cLS0 := LS.cell 0 rfl
      have cLS1 := LS.cell 1 rfl
      have cLS2 := LS.cell 2 rfl
      have cLS3 := LS.cell 3 rfl
      have cLS4 := LS.cell 4 rfl
      have cLS5 := LS.cell 5 rfl
      go_wp2_with fail
      refine (unhide QO _ Bw2).mono ?_
      rintro _ w3 ⟨rfl, bb⟩
      clear cLC0 cLC1 cLS0 cLS1 cLS2 cLS3 cLS4 cLS5
      have Bw3 := Bw2.trans (bb.mono Bw2.size)
      have sw3 := bb.size
      replace LC := LC.below bb LC.lt
      replace LS := LS.below bb LS.lt
      clear Bw2
      clear bb
      cases b3
      · go_wp2
        go_ret
        exact ⟨rfl, Bw3⟩
      · have cLS0 := LS.cell 0 rfl
        have cLS1 := LS.cell 1 rfl
        have cLS2 := LS.cell 2 rfl
        have cLS3 := LS.cell 3 rfl
        have cLS4 := LS.cell 4 rfl
        have cLS5 := LS.cell 5 rfl
        go_wp2_with fail
        refine (unhide NO _ Bw3).mono ?_
        rintro _ w4 ⟨rfl, bb⟩
        clear cLS0 cLS1 cLS2 cLS3 cLS4 cLS5
        have Bw4 := Bw3.trans (bb.mono Bw3.size)
        have sw4 := bb.size
        replace LC := LC.below bb LC.lt
        replace LS := LS.below bb LS.lt
        clear Bw3
        clear bb
        go_wp2
        go_ret
        exact ⟨rfl, Bw4⟩

set_option maxHeartbeats 16000000 in
set_option maxRecDepth 100000 in
theorem ssame_any (vo lo v : Int) (s : ByteArray) (ao : Option Addr) (ca : Nat) (xs : List Int) (d : ByteArray) (vo' lo' v' : Int) (s' : ByteArray) (bo : Option Addr) (cb : Nat) (ys : List Int) (d' : ByteArray) (w : World) (ha : RI w (.slice ao xs.length ca) xs) (hb : RI w (.slice bo ys.length cb) ys) :
    Calls Tryz.prog 133 #[sv vo lo v s (.slice ao xs.length ca) d, sv vo' lo' v' s' (.slice bo ys.length cb) d'] w fun e w' => e = .returned (.bool (ssamB vo lo v s xs d vo' lo' v' s' ys d')) ∧ Below w.heap.size w w' := by
  have QS := hide fun w' (b : Below w.heap.size w w') => implQcSame v v' s s' (.slice ao xs.length ca) (.slice bo ys.length cb) xs ys w' (ha.below b (Nat.le_refl _)) (hb.below b (Nat.le_refl _))
  unfold ssamB
  generalize alikeB v v' s s' xs ys = b3 at *
  clear ha hb
  by_cases h1 : vo = vo'
  · have e1 : (vo == vo') = true := by simpa using h1
    rw [e1]
    by_cases h2 : lo = lo'
    · have e2 : (lo == lo') = true := by simpa using h2
      rw [e2]
      simp only [Bool.true_and]
      by_cases h3 : d = d'
      · have e3 : decide (d = d') = true := by simpa using h3
        have hy : (d.toList == d'.toList) = true := by simp [h3]
        rw [e3]
        clear h1 h2 h3 e3
        obtain ⟨w0, hw0⟩ : ∃ w0, ((w.alloc (.cells #[.int .i64 vo, .int .i64 lo, .int .i64 v, .string s, .slice ao xs.length ca, .string d] 60)).alloc (.cells #[.int .i64 vo', .int .i64 lo', .int .i64 v', .string s', .slice bo ys.length cb, .string d'] 60)) = w0 := ⟨_, rfl⟩
        have Bw0 : Below w.heap.size w w0 := hw0 ▸ ((Below.refl _ _).alloc (Nat.le_refl _) _).alloc (by simp) _
        have LA : Loc w0 (w.heap.size) #[.int .i64 vo, .int .i64 lo, .int .i64 v, .string s, .slice ao xs.length ca, .string d] := hw0 ▸ (loc_at (w) _ _ rfl).alloc _
        have LB : Loc w0 (w.heap.size + 1) #[.int .i64 vo', .int .i64 lo', .int .i64 v', .string s', .slice bo ys.length cb, .string d'] := hw0 ▸ loc_at (w.alloc _) _ _ (by simp)
        have zw0 : w.heap.size + 1 + 1 ≤ w0.heap.size := by rw [← hw0]; simp
        go_enter Tryz.func133, Tryz.ntmps133
        have cLA0 := LA.cell 0 rfl
        have cLA1 := LA.cell 1 rfl
        have cLA2 := LA.cell 2 rfl
        have cLA3 := LA.cell 3 rfl
        have cLA4 := LA.cell 4 rfl
        have cLA5 := LA.cell 5 rfl
        have cLB0 := LB.cell 0 rfl
        have cLB1 := LB.cell 1 rfl
        have cLB2 := LB.cell 2 rfl
        have cLB3 := LB.cell 3 rfl
        have cLB4 := LB.cell 4 rfl
        have cLB5 := LB.cell 5 rfl
        go_wp2_with fail
        clear hw0
        refine (unhide QS _ Bw0).mono ?_
        rintro _ w1 ⟨rfl, bb⟩
        clear cLA0 cLA1 cLA2 cLA3 cLA4 cLA5 cLB0 cLB1 cLB2 cLB3 cLB4 cLB5
        have Bw1 := Bw0.trans (bb.mono Bw0.size)
        have sw1 := bb.size
        replace LA := LA.below bb LA.lt
        replace LB := LB.below bb LB.lt
        clear Bw0
        clear bb
        cases b3
        · go_wp2
          go_ret
          exact ⟨rfl, Bw1⟩
        · have cLA0 := LA.cell 0 rfl
          have cLA1 := LA.cell 1 rfl
          have cLA2 := LA.cell 2 rfl
          have cLA3 := LA.cell 3 rfl
          have cLA4 := LA.cell 4 rfl
          have cLA5 := LA.cell 5 rfl
          have cLB0 := LB.cell 0 rfl
          have cLB1 := LB.cell 1 rfl
          have cLB2 := LB.cell 2 rfl
          have cLB3 := LB.cell 3 rfl
          have cLB4 := LB.cell 4 rfl
          have cLB5 := LB.cell 5 rfl
          go_wp2
          go_ret
          exact ⟨rfl, Bw1⟩
      · have e3 : decide (d = d') = false := by simpa using h3
        have hy := str_ne h3
        rw [e3]
        clear h1 h2 h3 e3
        obtain ⟨w0, hw0⟩ : ∃ w0, ((w.alloc (.cells #[.int .i64 vo, .int .i64 lo, .int .i64 v, .string s, .slice ao xs.length ca, .string d] 60)).alloc (.cells #[.int .i64 vo', .int .i64 lo', .int .i64 v', .string s', .slice bo ys.length cb, .string d'] 60)) = w0 := ⟨_, rfl⟩
        have Bw0 : Below w.heap.size w w0 := hw0 ▸ ((Below.refl _ _).alloc (Nat.le_refl _) _).alloc (by simp) _
        have LA : Loc w0 (w.heap.size) #[.int .i64 vo, .int .i64 lo, .int .i64 v, .string s, .slice ao xs.length ca, .string d] := hw0 ▸ (loc_at (w) _ _ rfl).alloc _
        have LB : Loc w0 (w.heap.size + 1) #[.int .i64 vo', .int .i64 lo', .int .i64 v', .string s', .slice bo ys.length cb, .string d'] := hw0 ▸ loc_at (w.alloc _) _ _ (by simp)
        have zw0 : w.heap.size + 1 + 1 ≤ w0.heap.size := by rw [← hw0]; simp
        go_enter Tryz.func133, Tryz.ntmps133
        have cLA0 := LA.cell 0 rfl
        have cLA1 := LA.cell 1 rfl
        have cLA2 := LA.cell 2 rfl
        have cLA3 := LA.cell 3 rfl
        have cLA4 := LA.cell 4 rfl
        have cLA5 := LA.cell 5 rfl
        have cLB0 := LB.cell 0 rfl
        have cLB1 := LB.cell 1 rfl
        have cLB2 := LB.cell 2 rfl
        have cLB3 := LB.cell 3 rfl
        have cLB4 := LB.cell 4 rfl
        have cLB5 := LB.cell 5 rfl
        go_wp2_with fail
        clear hw0
        refine (unhide QS _ Bw0).mono ?_
        rintro _ w1 ⟨rfl, bb⟩
        clear cLA0 cLA1 cLA2 cLA3 cLA4 cLA5 cLB0 cLB1 cLB2 cLB3 cLB4 cLB5
        have Bw1 := Bw0.trans (bb.mono Bw0.size)
        have sw1 := bb.size
        replace LA := LA.below bb LA.lt
        replace LB := LB.below bb LB.lt
        clear Bw0
        clear bb
        cases b3
        · go_wp2
          go_ret
          exact ⟨rfl, Bw1⟩
        · have cLA0 := LA.cell 0 rfl
          have cLA1 := LA.cell 1 rfl
          have cLA2 := LA.cell 2 rfl
          have cLA3 := LA.cell 3 rfl
          have cLA4 := LA.cell 4 rfl
          have cLA5 := LA.cell 5 rfl
          have cLB0 := LB.cell 0 rfl
          have cLB1 := LB.cell 1 rfl
          have cLB2 := LB.cell 2 rfl
          have cLB3 := LB.cell 3 rfl
          have cLB4 := LB.cell 4 rfl
          have cLB5 := LB.cell 5 rfl
          go_wp2
          go_ret
          exact ⟨rfl, Bw1⟩
    · have e2 : (lo == lo') = false := by simpa using h2
      rw [e2]
      simp only [Bool.true_and, Bool.false_and]
      clear h1 h2 QS
      obtain ⟨w0, hw0⟩ : ∃ w0, ((w.alloc (.cells #[.int .i64 vo, .int .i64 lo, .int .i64 v, .string s, .slice ao xs.length ca, .string d] 60)).alloc (.cells #[.int .i64 vo', .int .i64 lo', .int .i64 v', .string s', .slice bo ys.length cb, .string d'] 60)) = w0 := ⟨_, rfl⟩
      have Bw0 : Below w.heap.size w w0 := hw0 ▸ ((Below.refl _ _).alloc (Nat.le_refl _) _).alloc (by simp) _
      have LA : Loc w0 (w.heap.size) #[.int .i64 vo, .int .i64 lo, .int .i64 v, .string s, .slice ao xs.length ca, .string d] := hw0 ▸ (loc_at (w) _ _ rfl).alloc _
      have LB : Loc w0 (w.heap.size + 1) #[.int .i64 vo', .int .i64 lo', .int .i64 v', .string s', .slice bo ys.length cb, .string d'] := hw0 ▸ loc_at (w.alloc _) _ _ (by simp)
      have zw0 : w.heap.size + 1 + 1 ≤ w0.heap.size := by rw [← hw0]; simp
      go_enter Tryz.func133, Tryz.ntmps133
      have cLA0 := LA.cell 0 rfl
      have cLA1 := LA.cell 1 rfl
      have cLA2 := LA.cell 2 rfl
      have cLA3 := LA.cell 3 rfl
      have cLA4 := LA.cell 4 rfl
      have cLA5 := LA.cell 5 rfl
      have cLB0 := LB.cell 0 rfl
      have cLB1 := LB.cell 1 rfl
      have cLB2 := LB.cell 2 rfl
      have cLB3 := LB.cell 3 rfl
      have cLB4 := LB.cell 4 rfl
      have cLB5 := LB.cell 5 rfl
      go_wp2
      go_ret
      exact ⟨rfl, Bw0⟩
  · have e1 : (vo == vo') = false := by simpa using h1
    rw [e1]
    simp only [Bool.false_and]
    clear h1 QS
    obtain ⟨w0, hw0⟩ : ∃ w0, ((w.alloc (.cells #[.int .i64 vo, .int .i64 lo, .int .i64 v, .string s, .slice ao xs.length ca, .string d] 60)).alloc (.cells #[.int .i64 vo', .int .i64 lo', .int .i64 v', .string s', .slice bo ys.length cb, .string d'] 60)) = w0 := ⟨_, rfl⟩
    have Bw0 : Below w.heap.size w w0 := hw0 ▸ ((Below.refl _ _).alloc (Nat.le_refl _) _).alloc (by simp) _
    have LA : Loc w0 (w.heap.size) #[.int .i64 vo, .int .i64 lo, .int .i64 v, .string s, .slice ao xs.length ca, .string d] := hw0 ▸ (loc_at (w) _ _ rfl).alloc _
    have LB : Loc w0 (w.heap.size + 1) #[.int .i64 vo', .int .i64 lo', .int .i64 v', .string s', .slice bo ys.length cb, .string d'] := hw0 ▸ loc_at (w.alloc _) _ _ (by simp)
    have zw0 : w.heap.size + 1 + 1 ≤ w0.heap.size := by rw [← hw0]; simp
    go_enter Tryz.func133, Tryz.ntmps133
    have cLA0 := LA.cell 0 rfl
    have cLA1 := LA.cell 1 rfl
    have cLA2 := LA.cell 2 rfl
    have cLA3 := LA.cell 3 rfl
    have cLA4 := LA.cell 4 rfl
    have cLA5 := LA.cell 5 rfl
    have cLB0 := LB.cell 0 rfl
    have cLB1 := LB.cell 1 rfl
    have cLB2 := LB.cell 2 rfl
    have cLB3 := LB.cell 3 rfl
    have cLB4 := LB.cell 4 rfl
    have cLB5 := LB.cell 5 rfl
    go_wp2
    go_ret
    exact ⟨rfl, Bw0⟩

set_option maxHeartbeats 16000000 in
set_option maxRecDepth 100000 in
theorem implSafeSame (vo lo v : Int) (s : ByteArray) (ao : Option Addr) (ca : Nat) (xs : List Int) (d : ByteArray) (vo' lo' v' : Int) (s' : ByteArray) (bo : Option Addr) (cb : Nat) (ys : List Int) (d' : ByteArray) (w : World) (ha : RI w (.slice ao xs.length ca) xs) (hb : RI w (.slice bo ys.length cb) ys) :
    Calls Tryz.prog 50 #[sv vo lo v s (.slice ao xs.length ca) d, sv vo' lo' v' s' (.slice bo ys.length cb) d'] w fun e w' => e = .returned (.bool (ssamB vo lo v s xs d vo' lo' v' s' ys d')) ∧ Below w.heap.size w w' := by
  have SM := hide fun w' (b : Below w.heap.size w w') => ssame_any vo lo v s ao ca xs d vo' lo' v' s' bo cb ys d' w' (ha.below b (Nat.le_refl _)) (hb.below b (Nat.le_refl _))
  generalize ssamB vo lo v s xs d vo' lo' v' s' ys d' = q at *
  clear ha hb
  obtain ⟨w0, hw0⟩ : ∃ w0, ((w.alloc (.cells #[.int .i64 vo, .int .i64 lo, .int .i64 v, .string s, .slice ao xs.length ca, .string d] 60)).alloc (.cells #[.int .i64 vo', .int .i64 lo', .int .i64 v', .string s', .slice bo ys.length cb, .string d'] 60)) = w0 := ⟨_, rfl⟩
  have Bw0 : Below w.heap.size w w0 := hw0 ▸ ((Below.refl _ _).alloc (Nat.le_refl _) _).alloc (by simp) _
  have LA : Loc w0 (w.heap.size) #[.int .i64 vo, .int .i64 lo, .int .i64 v, .string s, .slice ao xs.length ca, .string d] := hw0 ▸ (loc_at (w) _ _ rfl).alloc _
  have LB : Loc w0 (w.heap.size + 1) #[.int .i64 vo', .int .i64 lo', .int .i64 v', .string s', .slice bo ys.length cb, .string d'] := hw0 ▸ loc_at (w.alloc _) _ _ (by simp)
  have zw0 : w.heap.size + 1 + 1 ≤ w0.heap.size := by rw [← hw0]; simp
  go_enter Tryz.func50, Tryz.ntmps50
  have cLA0 := LA.cell 0 rfl
  have cLA1 := LA.cell 1 rfl
  have cLA2 := LA.cell 2 rfl
  have cLA3 := LA.cell 3 rfl
  have cLA4 := LA.cell 4 rfl
  have cLA5 := LA.cell 5 rfl
  have cLB0 := LB.cell 0 rfl
  have cLB1 := LB.cell 1 rfl
  have cLB2 := LB.cell 2 rfl
  have cLB3 := LB.cell 3 rfl
  have cLB4 := LB.cell 4 rfl
  have cLB5 := LB.cell 5 rfl
  go_wp2_with fail
  clear hw0
  refine (unhide SM _ Bw0).mono ?_
  rintro _ w1 ⟨rfl, bb⟩
  clear cLA0 cLA1 cLA2 cLA3 cLA4 cLA5 cLB0 cLB1 cLB2 cLB3 cLB4 cLB5
  have Bw1 := Bw0.trans (bb.mono Bw0.size)
  have sw1 := bb.size
  replace LA := LA.below bb LA.lt
  replace LB := LB.below bb LB.lt
  clear Bw0
  clear bb
  go_wp2
  go_ret
  exact ⟨rfl, Bw1⟩

set_option maxHeartbeats 16000000 in
set_option maxRecDepth 100000 in
theorem implSafeNew (w : World) :
    Calls Tryz.prog 56 #[] w fun e w' => e = .returned (sv 0 0 0 ⟨#[]⟩ (.slice none 0 0) ⟨#[]⟩) ∧ Below w.heap.size w w' := by
  obtain ⟨w0, hw0⟩ : ∃ w0, (w.alloc (.cells #[.int .i64 0, .int .i64 0, .int .i64 0, .string ⟨#[]⟩, .slice none 0 0, .string ⟨#[]⟩] 60)) = w0 := ⟨_, rfl⟩
  have Bw0 : Below w.heap.size w w0 := hw0 ▸ (Below.refl _ _).alloc (Nat.le_refl _) _
  have LZ : Loc w0 (w.heap.size) #[.int .i64 0, .int .i64 0, .int .i64 0, .string ⟨#[]⟩, .slice none 0 0, .string ⟨#[]⟩] := hw0 ▸ loc_at (w) _ _ rfl
  have zw0 : w.heap.size + 1 ≤ w0.heap.size := by rw [← hw0]; simp
  go_enter Tryz.func56, Tryz.ntmps56
  go_wp2_with fail
  clear hw0
  refine (implQcFirst _).mono ?_
  rintro _ w1 ⟨rfl, bb⟩
  have Bw1 := Bw0.trans (bb.mono Bw0.size)
  have sw1 := bb.size
  replace LZ := LZ.below bb LZ.lt
  clear Bw0
  clear bb
  have K6 := kp6 w1 (w.heap.size) (.int .i64 0) (.int .i64 0) (.int .i64 0) (.string ⟨#[]⟩) (.slice none 0 0) (.string ⟨#[]⟩)
  have cLZ0 := LZ.cell 0 rfl
  have cLZ1 := LZ.cell 1 rfl
  have cLZ2 := LZ.cell 2 rfl
  have cLZ3 := LZ.cell 3 rfl
  have cLZ4 := LZ.cell 4 rfl
  have cLZ5 := LZ.cell 5 rfl
  have fLZ := LZ.frozen
  go_wp2
  refine bodyPost_ret (v := sv 0 0 0 ⟨#[]⟩ (.slice none 0 0) ⟨#[]⟩) (by simp [results, Tryz.results56, go_sem, cLZ0, cLZ1, cLZ2, cLZ3, cLZ4, cLZ5]) rfl ?_
  exact ⟨rfl, Below.kp Bw1 K6 Bw1.size (fun k hk => by omega)⟩
end Go.Proofs.YtgfboghieejbkaaGreatDoor
namespace Go.Proofs.YtgfboghieejbkaaGreatDoor
open Go.ChangeShapes Go.WideShapes Go.ChangeAt Go.RowKit
open Go.Joins
set_option linter.unusedSectionVars false
variable [∀ (a b c d : Int), Decidable (Ok4 a b c d)]
variable [∀ (n f : Int), Decidable (COk n f)]

set_option maxRecDepth 100000 in
theorem cellsBlock : Tryz.prog.cellsOf 102 = 4 := by kernel_rfl
theorem cellsStr : Tryz.prog.cellsOf 9 = 1 := by kernel_rfl
theorem cellsInt : Tryz.prog.cellsOf 3 = 1 := by kernel_rfl
theorem cellsInts : Tryz.prog.cellsOf 24 = 1 := by kernel_rfl
set_option maxRecDepth 100000 in
theorem open_blockW {H : Type} {enc : TypeId × Value → H} {W : World} {base : Nat} {v : Value} {d : DataW H} {p : List MemPlace} (hv : Value.okWide Tryz.prog W .any base 102 v)
    (h : DataW.Trod enc Tryz.prog W 0 (fun _ => true) true 102 v d p) :
    ∃ m n s ao ca, ∃ xs : List Int, v = bv m n s (.slice ao xs.length ca) ∧ m.size ≤ maxLen ∧ s.size ≤ maxLen ∧ xs.length ≤ maxLen ∧ AIW W ao xs ∧ WfL xs ∧ (Lit.int .i64 n).wf = true := by
  obtain ⟨cs, rfl, hsz⟩ := okWide_struct Tryz.underlying102 hv
  obtain ⟨c0, c1, c2, c3, rfl⟩ := array4 (hsz.trans cellsBlock)
  obtain ⟨fuel, hf⟩ := h
  obtain ⟨y0, y1, k, _, _, h0, h1⟩ := trod_struct2 Tryz.underlying102 hf
  have h0' : DataW.trod enc Tryz.prog W 0 (fun _ => true) true k 9 [c0] = some y0 := by simpa [Value.cells, cellsStr] using h0
  have h1' : DataW.trod enc Tryz.prog W 0 (fun _ => true) true k 89 [c1, c2, c3] = some y1 := by simpa [Value.cells, cellsQc] using h1
  obtain ⟨z0, z1, z2, j, _, _, g0, g1, g2⟩ := Go.Deep.trod_struct3 Tryz.underlying89 h1'
  have g0' : DataW.trod enc Tryz.prog W 0 (fun _ => true) true j 3 [c1] = some z0 := by simpa [cellsInt] using g0
  have g1' : DataW.trod enc Tryz.prog W 0 (fun _ => true) true j 9 [c2] = some z1 := by simpa [cellsStr] using g1
  have g2' : DataW.trod enc Tryz.prog W 0 (fun _ => true) true j 24 [c3] = some z2 := by simpa [cellsInts] using g2
  obtain ⟨m, e0, _, hm⟩ := DataW.trod_string Tryz.underlying9 h0'
  obtain ⟨a, e1, _, wa⟩ := DataW.trod_int Tryz.underlying3 g0'
  obtain ⟨s, e2, _, hs⟩ := DataW.trod_string Tryz.underlying9 g1'
  obtain ⟨ao, ca, xs, rfl, hx, ax, wx⟩ := open_listW g2'
  simp at e0 e1 e2
  exact ⟨m, a, s, ao, ca, xs, by rw [e0, e1, e2], hm, hs, hx, ax, wx, wa⟩
set_option maxRecDepth 100000 in
theorem open_block {H : Type} {enc : TypeId × Value → H} {W : World} {base : Nat} {v : Value} {d : DataW H} {p : List MemPlace} (hv : Value.okWide Tryz.prog W .any base 102 v)
    (h : DataW.Trod enc Tryz.prog W 0 (fun _ => true) true 102 v d p) :
    ∃ m n s ao ca, ∃ xs : List Int, v = bv m n s (.slice ao xs.length ca) ∧ m.size ≤ maxLen ∧ s.size ≤ maxLen ∧ xs.length ≤ maxLen ∧ AIW W ao xs ∧ WfL xs := by
  obtain ⟨m, n, s, ao, ca, xs, h1, h2, h3, h4, h5, h6, _⟩ := open_blockW hv h
  exact ⟨m, n, s, ao, ca, xs, h1, h2, h3, h4, h5, h6⟩

set_option maxRecDepth 100000 in
theorem cellsSafe : Tryz.prog.cellsOf 91 = 6 := by kernel_rfl
theorem array6 {cs : Array Value} (h : cs.size = 6) : ∃ a b c d e f, cs = #[a, b, c, d, e, f] := by
  obtain ⟨l⟩ := cs
  match l, h with
  | [a, b, c, d, e, f], _ => exact ⟨a, b, c, d, e, f, rfl⟩
set_option maxRecDepth 100000 in
theorem open_safe {H : Type} {enc : TypeId × Value → H} {W : World} {base : Nat} {v : Value} {d : DataW H} {p : List MemPlace} (hv : Value.okWide Tryz.prog W .any base 91 v)
    (h : DataW.Trod enc Tryz.prog W 0 (fun _ => true) true 91 v d p) :
    ∃ vo lo n s ao ca m, ∃ xs : List Int, v = sv vo lo n s (.slice ao xs.length ca) m ∧ s.size ≤ maxLen ∧ xs.length ≤ maxLen ∧ m.size ≤ maxLen ∧ AIW W ao xs ∧ WfL xs := by
  obtain ⟨cs, rfl, hsz⟩ := okWide_struct Tryz.underlying91 hv
  obtain ⟨c0, c1, c2, c3, c4, c5, rfl⟩ := array6 (hsz.trans cellsSafe)
  obtain ⟨fuel, hf⟩ := h
  obtain ⟨y0, y1, y2, y3, k, _, _, h0, h1, h2, h3⟩ := trod_struct4 Tryz.underlying91 hf
  have h0' : DataW.trod enc Tryz.prog W 0 (fun _ => true) true k 3 [c0] = some y0 := by simpa [Value.cells, cellsInt, cellsQc, cellsStr] using h0
  have h1' : DataW.trod enc Tryz.prog W 0 (fun _ => true) true k 3 [c1] = some y1 := by simpa [Value.cells, cellsInt, cellsQc, cellsStr] using h1
  have h2' : DataW.trod enc Tryz.prog W 0 (fun _ => true) true k 89 [c2, c3, c4] = some y2 := by simpa [Value.cells, cellsInt, cellsQc, cellsStr] using h2
  have h3' : DataW.trod enc Tryz.prog W 0 (fun _ => true) true k 9 [c5] = some y3 := by simpa [Value.cells, cellsInt, cellsQc, cellsStr] using h3
  obtain ⟨z0, z1, z2, j, _, _, g0, g1, g2⟩ := Go.Deep.trod_struct3 Tryz.underlying89 h2'
  have g0' : DataW.trod enc Tryz.prog W 0 (fun _ => true) true j 3 [c2] = some z0 := by simpa [cellsInt] using g0
  have g1' : DataW.trod enc Tryz.prog W 0 (fun _ => true) true j 9 [c3] = some z1 := by simpa [cellsStr] using g1
  have g2' : DataW.trod enc Tryz.prog W 0 (fun _ => true) true j 24 [c4] = some z2 := by simpa [cellsInts] using g2
  obtain ⟨a, e0, _, _⟩ := DataW.trod_int Tryz.underlying3 h0'
  obtain ⟨b, e1, _, _⟩ := DataW.trod_int Tryz.underlying3 h1'
  obtain ⟨n, e2, _, _⟩ := DataW.trod_int Tryz.underlying3 g0'
  obtain ⟨s, e3, _, hs⟩ := DataW.trod_string Tryz.underlying9 g1'
  obtain ⟨ao, ca, xs, rfl, hx, ax, wx⟩ := open_listW g2'
  obtain ⟨m, e5, _, hm⟩ := DataW.trod_string Tryz.underlying9 h3'
  simp at e0 e1 e2 e3 e5
  exact ⟨a, b, n, s, ao, ca, m, xs, by rw [e0, e1, e2, e3, e5], hs, hx, hm, ax, wx⟩
end Go.Proofs.YtgfboghieejbkaaGreatDoor
namespace Go.Proofs.YtgfboghieejbkaaGreatDoor
open Go.RowKit
set_option linter.unusedSectionVars false
variable [∀ (a b c d : Int), Decidable (Ok4 a b c d)]
variable [∀ (a b c d : Nat), Decidable (okN a b c d)]
variable [∀ (last : Int) (s : St), Decidable (GoodSt last s)]
variable [∀ (x : T4), Decidable (OkT x)]
variable [∀ (n : Int) (s : List Int), Decidable (OkL n s)]
variable [∀ (n f : Int), Decidable (COk n f)]

set_option maxHeartbeats 32000000 in
set_option maxRecDepth 100000 in
theorem fnSafeOk_short (n f : Int) (vo lo v : Int) (s : ByteArray) (ao : Option Addr) (ca : Nat) (xs : List Int) (d : ByteArray) (w : World) (hz : s.size + xs.length + d.size ≤ 1048576) (hE : Env w) (ha : RI w (.slice ao xs.length ca) xs) :
    Calls Tryz.prog 9 #[cv n f, sv vo lo v s (.slice ao xs.length ca) d] w fun e w' => e = .returned (.bool true) ∧ Below w.heap.size w w' := by
  have HA := hide ha
  have HE := hide hE
  have ZA := hide fun w => szSafe_yes vo lo v s ao xs.length ca d 1048576 w (by omega) (by omega)
  have TC := hide fun w => toConf_any n f w
  have TA := hide fun w h => toSafe_any vo lo v s (.slice ao xs.length ca) xs d w h
  have d1 : decide ((1048576 : Int) - (s.size : Int) - (xs.length : Int) - (d.size : Int) < 0) = false := by simp; omega
  have SP := hide fun a k w h => specSafeOk n f vo lo v s a k xs d w (by omega) (by omega) h
  have IM := hide fun a k w e h => implSafeOk n f vo lo v s a k xs d w (by omega) (by omega) e h
  generalize sokB n f vo lo v s xs d = q at *
  have hq : (q != q) = false := by simp
  clear ha hE
  obtain ⟨w0, hw0⟩ : ∃ w0, ((w.alloc (.cells #[.int .i64 n, .int .i64 f] 88)).alloc (.cells #[.int .i64 vo, .int .i64 lo, .int .i64 v, .string s, .slice ao xs.length ca, .string d] 91)) = w0 := ⟨_, rfl⟩
  have Bw0 : Below w.heap.size w w0 := hw0 ▸ ((Below.refl _ _).alloc (Nat.le_refl _) _).alloc (by simp) _
  have LC : Loc w0 (w.heap.size) #[.int .i64 n, .int .i64 f] := hw0 ▸ (loc_at (w) _ _ rfl).alloc _
  have LA : Loc w0 (w.heap.size + 1) #[.int .i64 vo, .int .i64 lo, .int .i64 v, .string s, .slice ao xs.length ca, .string d] := hw0 ▸ loc_at (w.alloc _) _ _ (by simp)
  have zw0 : w.heap.size + 1 + 1 ≤ w0.heap.size := by rw [← hw0]; simp
  go_enter Tryz.func9, Tryz.ntmps9
  have cLA0 := LA.cell 0 rfl
  have cLA1 := LA.cell 1 rfl
  have cLA2 := LA.cell 2 rfl
  have cLA3 := LA.cell 3 rfl
  have cLA4 := LA.cell 4 rfl
  have cLA5 := LA.cell 5 rfl
  go_wp2_with fail
  clear hw0
  refine (unhide ZA _).mono ?_
  rintro _ w1 ⟨rfl, bb⟩
  clear cLA0 cLA1 cLA2 cLA3 cLA4 cLA5
  have Bw1 := Bw0.trans (bb.mono Bw0.size)
  have sw1 := bb.size
  replace LC := LC.below bb LC.lt
  replace LA := LA.below bb LA.lt
  clear Bw0
  clear bb
  clear ZA
  have K : Hid (∀ w', Below w1.heap.size w1 w' → (fun w' => Below w1.heap.size w1 w' ∧ (w'.cell? ⟨w.heap.size, 0, none⟩ = some (.int .i64 n) ∧ w'.cell? ⟨w.heap.size, 1, none⟩ = some (.int .i64 f)) ∧ (w'.cell? ⟨w.heap.size + 1, 0, none⟩ = some (.int .i64 vo) ∧ w'.cell? ⟨w.heap.size + 1, 1, none⟩ = some (.int .i64 lo) ∧ w'.cell? ⟨w.heap.size + 1, 2, none⟩ = some (.int .i64 v) ∧ w'.cell? ⟨w.heap.size + 1, 3, none⟩ = some (.string s) ∧ w'.cell? ⟨w.heap.size + 1, 4, none⟩ = some (.slice ao xs.length ca) ∧ w'.cell? ⟨w.heap.size + 1, 5, none⟩ = some (.string d))) w') := hide fun w' hb' => ⟨hb', ⟨(LC.below hb' LC.lt).cell 0 rfl, (LC.below hb' LC.lt).cell 1 rfl⟩, ⟨(LA.below hb' LA.lt).cell 0 rfl, (LA.below hb' LA.lt).cell 1 rfl, (LA.below hb' LA.lt).cell 2 rfl, (LA.below hb' LA.lt).cell 3 rfl, (LA.below hb' LA.lt).cell 4 rfl, (LA.below hb' LA.lt).cell 5 rfl⟩⟩
  go_upto_region 5 with fail
  have bA : Below w1.heap.size w1 w1.drew := Below.drew (Below.refl _ _)
  refine wp_region_noPanic ?_
  refine wp_region_held_drew (S := fun w' => Below w1.heap.size w1 w' ∧ (w'.cell? ⟨w.heap.size, 0, none⟩ = some (.int .i64 n) ∧ w'.cell? ⟨w.heap.size, 1, none⟩ = some (.int .i64 f)) ∧ (w'.cell? ⟨w.heap.size + 1, 0, none⟩ = some (.int .i64 vo) ∧ w'.cell? ⟨w.heap.size + 1, 1, none⟩ = some (.int .i64 lo) ∧ w'.cell? ⟨w.heap.size + 1, 2, none⟩ = some (.int .i64 v) ∧ w'.cell? ⟨w.heap.size + 1, 3, none⟩ = some (.string s) ∧ w'.cell? ⟨w.heap.size + 1, 4, none⟩ = some (.slice ao xs.length ca) ∧ w'.cell? ⟨w.heap.size + 1, 5, none⟩ = some (.string d))) (by kernel_rfl) (unhide K _ bA) (fun hHeld => ?_)
  refine tk 0 14 (v := ?_) rfl (hy := .inl ⟨by rfl, ?_⟩) (h := ?_); rotate_left
  · intro w hSw; (try dsimp only at hSw); go_simp; (try with_reducible rfl)
  simp only [Act.put, List.setIfInBounds_toArray, List.set_cons_zero, List.set_cons_succ]
  refine tk 2 16 (v := ?_) rfl (hy := .inl ⟨by rfl, ?_⟩) (h := ?_); rotate_left
  · intro w hSw; (try dsimp only at hSw); go_simp; (try with_reducible rfl)
  simp only [Act.put, List.setIfInBounds_toArray, List.set_cons_zero, List.set_cons_succ]
  refine ready_at (i := 1) rfl (by kernel_rfl) (fun KK hKK => ?_)
  go_simp
  have hgo := bA
  refine (unhide TC _).mono ?_
  rintro e wz5_1 ⟨rfl, bb⟩
  have bz1 : Below w1.heap.size w1 wz5_1 := bA.trans (bb.mono bA.size)
  clear bA hgo bb
  clear hHeld
  refine hKK.out _ _ (unhide K _ bz1) (fun hHeld => ?_)
  clear hKK KK
  refine ready_at (i := 3) rfl (by kernel_rfl) (fun KK hKK => ?_)
  go_simp
  have hgo := bz1
  refine (unhide TA _ ((unhide HA).below (Bw1.trans (hgo.mono Bw1.size)) (Nat.le_refl _))).mono ?_
  rintro e wz5_2 ⟨vv1, rfl, o1, bb⟩
  have bz2 : Below w1.heap.size w1 wz5_2 := bz1.trans (bb.mono bz1.size)
  have R1 := hide (o1.ri (by omega))
  obtain ⟨a1, k1, rfl⟩ := o1.form
  clear o1
  clear bz1 hgo bb
  clear hHeld
  refine hKK.out _ _ (unhide K _ bz2) (fun hHeld => ?_)
  clear hKK KK
  refine ready_at (i := 4) rfl (by kernel_rfl) (fun KK hKK => ?_)
  go_simp
  have hgo := bz2
  refine (unhide SP _ _ _ (unhide R1)).mono ?_
  rintro e wz5_3 ⟨rfl, bb⟩
  have bz3 : Below w1.heap.size w1 wz5_3 := bz2.trans (bb.mono bz2.size)
  clear R1
  clear bz2 hgo bb
  clear hHeld
  refine hKK.out _ _ (unhide K _ bz3) (fun hHeld => ?_)
  clear hKK KK
  refine tk 5 6 (v := ?_) rfl (hy := .inl ⟨by rfl, ?_⟩) (h := ?_); rotate_left
  · intro w hSw; (try dsimp only at hSw); go_simp; (try with_reducible rfl)
  simp only [Act.put, List.setIfInBounds_toArray, List.set_cons_zero, List.set_cons_succ]
  clear hHeld
  refine wpAnyH_done (by kernel_rfl) ?_ _
  refine NoPanic.normal ?_
  have bb := bz3
  have Bwz5_3 := Bw1.trans (bb.mono Bw1.size)
  have swz5_3 := bb.size
  replace LC := LC.below bb LC.lt
  replace LA := LA.below bb LA.lt
  clear Bw1
  clear bb bz3 K
  clear SP
  have cLA0 := LA.cell 0 rfl
  have cLA1 := LA.cell 1 rfl
  have cLA2 := LA.cell 2 rfl
  have cLA3 := LA.cell 3 rfl
  have cLA4 := LA.cell 4 rfl
  have cLA5 := LA.cell 5 rfl
  go_wp2_with fail
  refine (unhide TA _ ((unhide HA).below Bwz5_3 (Nat.le_refl _))).mono ?_
  rintro _ w2 ⟨vX, rfl, oX, bb⟩
  clear cLA0 cLA1 cLA2 cLA3 cLA4 cLA5
  have Bw2 := Bwz5_3.trans (bb.mono Bwz5_3.size)
  have sw2 := bb.size
  replace LC := LC.below bb LC.lt
  replace LA := LA.below bb LA.lt
  clear Bwz5_3
  clear bb
  have toX := World.ownsRow.lt oX
  obtain ⟨aoX, koX, rfl⟩ := oX.form
  obtain ⟨w3, hw3⟩ : ∃ x, w2.alloc (.cells #[.int .i64 vo, .int .i64 lo, .int .i64 v, .string s, .slice aoX xs.length koX, .string d] 60) = x := ⟨_, rfl⟩
  have bb : Below w2.heap.size w2 w3 := hw3 ▸ qalloc _ _
  have X : Loc w3 w2.heap.size #[.int .i64 vo, .int .i64 lo, .int .i64 v, .string s, .slice aoX xs.length koX, .string d] := hw3 ▸ loc_at w2 _ _ rfl
  have zw3 : w3.heap.size = w2.heap.size + 1 := by rw [← hw3]; simp
  have Bw3 := Bw2.trans (bb.mono Bw2.size)
  have sw3 := bb.size
  replace LC := LC.below bb LC.lt
  replace LA := LA.below bb LA.lt
  replace oX := oX.below bb
  clear Bw2
  clear bb
  have RX := hide fun w' (hb' : Below w3.heap.size w3 w') => (oX.below hb').ri (by omega)
  have K : Hid (∀ w', Below w3.heap.size w3 w' → (fun w' => Below w3.heap.size w3 w' ∧ (w'.cell? ⟨w.heap.size, 0, none⟩ = some (.int .i64 n) ∧ w'.cell? ⟨w.heap.size, 1, none⟩ = some (.int .i64 f)) ∧ (w'.cell? ⟨w2.heap.size, 0, none⟩ = some (.int .i64 vo) ∧ w'.cell? ⟨w2.heap.size, 1, none⟩ = some (.int .i64 lo) ∧ w'.cell? ⟨w2.heap.size, 2, none⟩ = some (.int .i64 v) ∧ w'.cell? ⟨w2.heap.size, 3, none⟩ = some (.string s) ∧ w'.cell? ⟨w2.heap.size, 4, none⟩ = some (.slice aoX xs.length koX) ∧ w'.cell? ⟨w2.heap.size, 5, none⟩ = some (.string d))) w') := hide fun w' hb' => ⟨hb', ⟨(LC.below hb' LC.lt).cell 0 rfl, (LC.below hb' LC.lt).cell 1 rfl⟩, ⟨(X.below hb' X.lt).cell 0 rfl, (X.below hb' X.lt).cell 1 rfl, (X.below hb' X.lt).cell 2 rfl, (X.below hb' X.lt).cell 3 rfl, (X.below hb' X.lt).cell 4 rfl, (X.below hb' X.lt).cell 5 rfl⟩⟩
  go_upto_region 7 with fail
  clear hw3
  have bA : Below w3.heap.size w3 w3.drew := Below.drew (Below.refl _ _)
  refine wp_region_noPanic ?_
  refine wp_region_held_drew (S := fun w' => Below w3.heap.size w3 w' ∧ (w'.cell? ⟨w.heap.size, 0, none⟩ = some (.int .i64 n) ∧ w'.cell? ⟨w.heap.size, 1, none⟩ = some (.int .i64 f)) ∧ (w'.cell? ⟨w2.heap.size, 0, none⟩ = some (.int .i64 vo) ∧ w'.cell? ⟨w2.heap.size, 1, none⟩ = some (.int .i64 lo) ∧ w'.cell? ⟨w2.heap.size, 2, none⟩ = some (.int .i64 v) ∧ w'.cell? ⟨w2.heap.size, 3, none⟩ = some (.string s) ∧ w'.cell? ⟨w2.heap.size, 4, none⟩ = some (.slice aoX xs.length koX) ∧ w'.cell? ⟨w2.heap.size, 5, none⟩ = some (.string d))) (by kernel_rfl) (unhide K _ bA) (fun hHeld => ?_)
  refine tk 0 21 (v := ?_) rfl (hy := .inl ⟨by rfl, ?_⟩) (h := ?_); rotate_left
  · intro w hSw; (try dsimp only at hSw); go_simp; (try with_reducible rfl)
  simp only [Act.put, List.setIfInBounds_toArray, List.set_cons_zero, List.set_cons_succ]
  refine tk 2 23 (v := ?_) rfl (hy := .inl ⟨by rfl, ?_⟩) (h := ?_); rotate_left
  · intro w hSw; (try dsimp only at hSw); go_simp; (try with_reducible rfl)
  simp only [Act.put, List.setIfInBounds_toArray, List.set_cons_zero, List.set_cons_succ]
  refine ready_at (i := 1) rfl (by kernel_rfl) (fun KK hKK => ?_)
  go_simp
  have hgo := bA
  refine (unhide TC _).mono ?_
  rintro e wz7_1 ⟨rfl, bb⟩
  have bz1 : Below w3.heap.size w3 wz7_1 := bA.trans (bb.mono bA.size)
  clear bA hgo bb
  clear hHeld
  refine hKK.out _ _ (unhide K _ bz1) (fun hHeld => ?_)
  clear hKK KK
  refine ready_at (i := 3) rfl (by kernel_rfl) (fun KK hKK => ?_)
  go_simp
  have hgo := bz1
  refine (unhide IM _ _ _ ((unhide HE).below (Bw3.trans (hgo.mono Bw3.size))) (unhide RX _ hgo)).mono ?_
  rintro e wz7_2 ⟨rfl, bb⟩
  have bz2 : Below w3.heap.size w3 wz7_2 := bz1.trans (bb.mono bz1.size)
  clear RX
  clear bz1 hgo bb
  clear hHeld
  refine hKK.out _ _ (unhide K _ bz2) (fun hHeld => ?_)
  clear hKK KK
  refine tk 4 8 (v := ?_) rfl (hy := .inl ⟨by rfl, ?_⟩) (h := ?_); rotate_left
  · intro w hSw; (try dsimp only at hSw); go_simp; (try with_reducible rfl)
  simp only [Act.put, List.setIfInBounds_toArray, List.set_cons_zero, List.set_cons_succ]
  clear hHeld
  refine wpAnyH_done (by kernel_rfl) ?_ _
  refine NoPanic.normal ?_
  have bb := bz2
  have Bwz7_2 := Bw3.trans (bb.mono Bw3.size)
  have swz7_2 := bb.size
  replace LC := LC.below bb LC.lt
  replace LA := LA.below bb LA.lt
  replace X := X.below bb X.lt
  replace oX := oX.below bb
  clear Bw3
  clear bb bz2 K
  clear IM
  have RX := hide fun w' (hb' : Below wz7_2.heap.size wz7_2 w') => (oX.below hb').ri (by omega)
  have K : Hid (∀ w', Below wz7_2.heap.size wz7_2 w' → (fun w' => Below wz7_2.heap.size wz7_2 w' ∧ (w'.cell? ⟨w.heap.size + 1, 0, none⟩ = some (.int .i64 vo) ∧ w'.cell? ⟨w.heap.size + 1, 1, none⟩ = some (.int .i64 lo) ∧ w'.cell? ⟨w.heap.size + 1, 2, none⟩ = some (.int .i64 v) ∧ w'.cell? ⟨w.heap.size + 1, 3, none⟩ = some (.string s) ∧ w'.cell? ⟨w.heap.size + 1, 4, none⟩ = some (.slice ao xs.length ca) ∧ w'.cell? ⟨w.heap.size + 1, 5, none⟩ = some (.string d)) ∧ (w'.cell? ⟨w2.heap.size, 0, none⟩ = some (.int .i64 vo) ∧ w'.cell? ⟨w2.heap.size, 1, none⟩ = some (.int .i64 lo) ∧ w'.cell? ⟨w2.heap.size, 2, none⟩ = some (.int .i64 v) ∧ w'.cell? ⟨w2.heap.size, 3, none⟩ = some (.string s) ∧ w'.cell? ⟨w2.heap.size, 4, none⟩ = some (.slice aoX xs.length koX) ∧ w'.cell? ⟨w2.heap.size, 5, none⟩ = some (.string d))) w') := hide fun w' hb' => ⟨hb', ⟨(LA.below hb' LA.lt).cell 0 rfl, (LA.below hb' LA.lt).cell 1 rfl, (LA.below hb' LA.lt).cell 2 rfl, (LA.below hb' LA.lt).cell 3 rfl, (LA.below hb' LA.lt).cell 4 rfl, (LA.below hb' LA.lt).cell 5 rfl⟩, ⟨(X.below hb' X.lt).cell 0 rfl, (X.below hb' X.lt).cell 1 rfl, (X.below hb' X.lt).cell 2 rfl, (X.below hb' X.lt).cell 3 rfl, (X.below hb' X.lt).cell 4 rfl, (X.below hb' X.lt).cell 5 rfl⟩⟩
  go_upto_region 10 with fail
  have bA : Below wz7_2.heap.size wz7_2 wz7_2.drew := Below.drew (Below.refl _ _)
  refine wp_region_noPanic ?_
  refine wp_region_held_drew (S := fun w' => Below wz7_2.heap.size wz7_2 w' ∧ (w'.cell? ⟨w.heap.size + 1, 0, none⟩ = some (.int .i64 vo) ∧ w'.cell? ⟨w.heap.size + 1, 1, none⟩ = some (.int .i64 lo) ∧ w'.cell? ⟨w.heap.size + 1, 2, none⟩ = some (.int .i64 v) ∧ w'.cell? ⟨w.heap.size + 1, 3, none⟩ = some (.string s) ∧ w'.cell? ⟨w.heap.size + 1, 4, none⟩ = some (.slice ao xs.length ca) ∧ w'.cell? ⟨w.heap.size + 1, 5, none⟩ = some (.string d)) ∧ (w'.cell? ⟨w2.heap.size, 0, none⟩ = some (.int .i64 vo) ∧ w'.cell? ⟨w2.heap.size, 1, none⟩ = some (.int .i64 lo) ∧ w'.cell? ⟨w2.heap.size, 2, none⟩ = some (.int .i64 v) ∧ w'.cell? ⟨w2.heap.size, 3, none⟩ = some (.string s) ∧ w'.cell? ⟨w2.heap.size, 4, none⟩ = some (.slice aoX xs.length koX) ∧ w'.cell? ⟨w2.heap.size, 5, none⟩ = some (.string d))) (by kernel_rfl) (unhide K _ bA) (fun hHeld => ?_)
  refine tk 0 28 (v := ?_) rfl (hy := .inl ⟨by rfl, ?_⟩) (h := ?_); rotate_left
  · intro w hSw; (try dsimp only at hSw); go_simp; (try with_reducible rfl)
  simp only [Act.put, List.setIfInBounds_toArray, List.set_cons_zero, List.set_cons_succ]
  refine tk 1 29 (v := ?_) rfl (hy := .inl ⟨by rfl, ?_⟩) (h := ?_); rotate_left
  · intro w hSw; (try dsimp only at hSw); go_simp; (try with_reducible rfl)
  simp only [Act.put, List.setIfInBounds_toArray, List.set_cons_zero, List.set_cons_succ]
  refine ready_at (i := 2) rfl (by kernel_rfl) (fun KK hKK => ?_)
  go_simp
  have hgo := bA
  refine (unhide TA _ ((unhide HA).below (Bwz7_2.trans (hgo.mono Bwz7_2.size)) (Nat.le_refl _))).mono ?_
  rintro e wz10_1 ⟨vv1, rfl, o1, bb⟩
  have bz1 : Below wz7_2.heap.size wz7_2 wz10_1 := bA.trans (bb.mono bA.size)
  have R1 := hide (o1.ri (by omega))
  clear o1
  clear bA hgo bb
  clear hHeld
  refine hKK.out _ _ (unhide K _ bz1) (fun hHeld => ?_)
  clear hKK KK
  refine ready_at (i := 3) rfl (by kernel_rfl) (fun KK hKK => ?_)
  go_simp
  have hgo := bz1
  refine (eqSafe_yes vo lo v s _ _ xs d _ (unhide RX _ hgo) (unhide R1)).mono ?_
  rintro e wz10_2 ⟨rfl, bb⟩
  have bz2 : Below wz7_2.heap.size wz7_2 wz10_2 := bz1.trans (bb.mono bz1.size)
  clear R1 RX
  clear bz1 hgo bb
  clear hHeld
  refine hKK.out _ _ (unhide K _ bz2) (fun hHeld => ?_)
  clear hKK KK
  refine tk 4 32 (v := ?_) rfl (hy := .inl ⟨by rfl, ?_⟩) (h := ?_); rotate_left
  · intro w hSw; (try dsimp only at hSw); go_simp; (try with_reducible rfl)
  simp only [Act.put, List.setIfInBounds_toArray, List.set_cons_zero, List.set_cons_succ]
  clear hHeld
  refine wpAnyH_done (by kernel_rfl) ?_ _
  refine NoPanic.normal ?_
  have bb := bz2
  have Bwz10_2 := Bwz7_2.trans (bb.mono Bwz7_2.size)
  have swz10_2 := bb.size
  replace LC := LC.below bb LC.lt
  replace LA := LA.below bb LA.lt
  replace X := X.below bb X.lt
  replace oX := oX.below bb
  clear Bwz7_2
  clear bb bz2 K
  go_wp2
  go_ret
  exact ⟨rfl, Bwz10_2⟩

set_option maxHeartbeats 16000000 in
set_option maxRecDepth 100000 in
theorem fnSafeOk_long1 (n f vo lo v : Int) (s : ByteArray) (ao : Option Addr) (ca k : Nat) (d : ByteArray) (w : World) (h : 1048576 < s.size + k + d.size) (hs : s.size ≤ maxLen) (hk : k ≤ maxLen) (hd : d.size ≤ maxLen) :
    Calls Tryz.prog 9 #[cv n f, sv vo lo v s (.slice ao k ca) d] w fun e w' => e = .returned (.bool true) ∧ Below w.heap.size w w' := by
  unfold maxLen at *
  have ZA := hide fun w => szSafe_no vo lo v s ao k ca d 1048576 w (by omega) (by omega) (by omega) (by omega) (by omega) (by omega)
  have B0 : Below w.heap.size w ((w.alloc (.cells #[.int .i64 n, .int .i64 f] 88)).alloc (.cells #[.int .i64 vo, .int .i64 lo, .int .i64 v, .string s, .slice ao k ca, .string d] 91)) := ((Below.refl w.heap.size w).alloc (Nat.le_refl _) _).alloc (by simp) _
  go_enter Tryz.func9, Tryz.ntmps9
  go_wp2_with fail
  refine (unhide ZA _).mono ?_
  rintro _ w1 ⟨rfl, b1⟩
  go_wp2
  go_ret
  exact ⟨rfl, B0.trans (b1.mono B0.size)⟩
theorem fnSafeOk_walk (n f : Int) (vo lo v : Int) (s : ByteArray) (ao : Option Addr) (ca : Nat) (xs : List Int) (d : ByteArray) (w : World) (hs : s.size ≤ maxLen) (hx : xs.length ≤ maxLen) (hd : d.size ≤ maxLen) (ha : AIW w ao xs) (hE : Env w) :
    Calls Tryz.prog 9 #[cv n f, sv vo lo v s (.slice ao xs.length ca) d] w fun e w' => e = .returned (.bool true) ∧ Below w.heap.size w w' := by
  by_cases h1 : s.size + xs.length + d.size ≤ 1048576
  · exact fnSafeOk_short n f vo lo v s ao ca xs d w h1 hE (ha.ri (by omega))
  · exact fnSafeOk_long1 n f vo lo v s ao ca _ d w (by omega) hs hx hd
end Go.Proofs.YtgfboghieejbkaaGreatDoor
