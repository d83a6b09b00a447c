/- SafeSame, SafeNew of the program and of the specification. -/
import Derived.Test.YtgfboghieejbkaaSaf
import Derived.Test.YtgfboghieejbkaaQcCopy
import Derived.Test.YtgfboghieejbkaaQcSame
import Derived.Test.YtgfboghieejbkaaQcLater
namespace Go.Proofs.Ytgfboghieejbkaa
open Go.RowKit

/-- SafeSame. -/
def ssamB (vo lo v : Int) (s : ByteArray) (xs : List Int) (d : ByteArray) (vo' lo' v' : Int) (s' : ByteArray) (xs' : List Int) (d' : ByteArray) : Bool := (vo == vo') && (lo == lo') && alikeB v v' s s' xs xs' && decide (d = d')
theorem ssam_me (vo lo v : Int) (s : ByteArray) (xs : List Int) (d : ByteArray) : ssamB vo lo v s xs d vo lo v s xs d = true := by simp [ssamB, alikeB]
set_option maxHeartbeats 16000000 in
set_option maxRecDepth 100000 in
theorem ssame_any (vo lo v : Int) (s : ByteArray) (ao : Option Addr) (ca : Nat) (xs : List Int) (d : ByteArray) (vo' lo' v' : Int) (s' : ByteArray) (bo : Option Addr) (cb : Nat) (ys : List Int) (d' : ByteArray) (w : World) (ha : RI w (.slice ao xs.length ca) xs) (hb : RI w (.slice bo ys.length cb) ys) :
    Calls Try.prog 21 #[sv vo lo v s (.slice ao xs.length ca) d, sv vo' lo' v' s' (.slice bo ys.length cb) d'] w fun e w' => e = .returned (.bool (ssamB vo lo v s xs d vo' lo' v' s' ys d')) ∧ Below w.heap.size w w' := by
  have QS := hide fun w' (b : Below w.heap.size w w') => implQcSame v v' s s' (.slice ao xs.length ca) (.slice bo ys.length cb) xs ys w' (ha.below b (Nat.le_refl _)) (hb.below b (Nat.le_refl _))
  unfold ssamB
  generalize alikeB v v' s s' xs ys = b3 at *
  clear ha hb
  by_cases h1 : vo = vo'
  · have e1 : (vo == vo') = true := by simpa using h1
    rw [e1]
    by_cases h2 : lo = lo'
    · have e2 : (lo == lo') = true := by simpa using h2
      rw [e2]
      simp only [Bool.true_and]
      by_cases h3 : d = d'
      · have e3 : decide (d = d') = true := by simpa using h3
        have hy : (d.toList == d'.toList) = true := by simp [h3]
        rw [e3]
        clear h1 h2 h3 e3
        obtain ⟨w0, hw0⟩ : ∃ w0, ((w.alloc (.cells #[.int .i64 vo, .int .i64 lo, .int .i64 v, .string s, .slice ao xs.length ca, .string d] 26)).alloc (.cells #[.int .i64 vo', .int .i64 lo', .int .i64 v', .string s', .slice bo ys.length cb, .string d'] 26)) = w0 := ⟨_, rfl⟩
        have Bw0 : Below w.heap.size w w0 := hw0 ▸ ((Below.refl _ _).alloc (Nat.le_refl _) _).alloc (by simp) _
        have LA : Loc w0 (w.heap.size) #[.int .i64 vo, .int .i64 lo, .int .i64 v, .string s, .slice ao xs.length ca, .string d] := hw0 ▸ (loc_at (w) _ _ rfl).alloc _
        have LB : Loc w0 (w.heap.size + 1) #[.int .i64 vo', .int .i64 lo', .int .i64 v', .string s', .slice bo ys.length cb, .string d'] := hw0 ▸ loc_at (w.alloc _) _ _ (by simp)
        have zw0 : w.heap.size + 1 + 1 ≤ w0.heap.size := by rw [← hw0]; simp
        go_enter Try.func21, Try.ntmps21
        have cLA0 := LA.cell 0 rfl
        have cLA1 := LA.cell 1 rfl
        have cLA2 := LA.cell 2 rfl
        have cLA3 := LA.cell 3 rfl
        have cLA4 := LA.cell 4 rfl
        have cLA5 := LA.cell 5 rfl
        have cLB0 := LB.cell 0 rfl
        have cLB1 := LB.cell 1 rfl
        have cLB2 := LB.cell 2 rfl
        have cLB3 := LB.cell 3 rfl
        have cLB4 := LB.cell 4 rfl
        have cLB5 := LB.cell 5 rfl
        go_wp2_with fail
        clear hw0
        refine (unhide QS _ Bw0).mono ?_
        rintro _ w1 ⟨rfl, bb⟩
        clear cLA0 cLA1 cLA2 cLA3 cLA4 cLA5 cLB0 cLB1 cLB2 cLB3 cLB4 cLB5
        have Bw1 := Bw0.trans (bb.mono Bw0.size)
        have sw1 := bb.size
        replace LA := LA.below bb LA.lt
        replace LB := LB.below bb LB.lt
        clear Bw0
        clear bb
        cases b3
        · go_wp2
          go_ret
          exact ⟨rfl, Bw1⟩
        · have cLA0 := LA.cell 0 rfl
          have cLA1 := LA.cell 1 rfl
          have cLA2 := LA.cell 2 rfl
          have cLA3 := LA.cell 3 rfl
          have cLA4 := LA.cell 4 rfl
          have cLA5 := LA.cell 5 rfl
          have cLB0 := LB.cell 0 rfl
          have cLB1 := LB.cell 1 rfl
          have cLB2 := LB.cell 2 rfl
          have cLB3 := LB.cell 3 rfl
          have cLB4 := LB.cell 4 rfl
          have cLB5 := LB.cell 5 rfl
          go_wp2
          go_ret
          exact ⟨rfl, Bw1⟩
      · have e3 : decide (d = d') = false := by simpa using h3
        have hy := str_ne h3
        rw [e3]
        clear h1 h2 h3 e3
        obtain ⟨w0, hw0⟩ : ∃ w0, ((w.alloc (.cells #[.int .i64 vo, .int .i64 lo, .int .i64 v, .string s, .slice ao xs.length ca, .string d] 26)).alloc (.cells #[.int .i64 vo', .int .i64 lo', .int .i64 v', .string s', .slice bo ys.length cb, .string d'] 26)) = w0 := ⟨_, rfl⟩
        have Bw0 : Below w.heap.size w w0 := hw0 ▸ ((Below.refl _ _).alloc (Nat.le_refl _) _).alloc (by simp) _
        have LA : Loc w0 (w.heap.size) #[.int .i64 vo, .int .i64 lo, .int .i64 v, .string s, .slice ao xs.length ca, .string d] := hw0 ▸ (loc_at (w) _ _ rfl).alloc _
        have LB : Loc w0 (w.heap.size + 1) #[.int .i64 vo', .int .i64 lo', .int .i64 v', .string s', .slice bo ys.length cb, .string d'] := hw0 ▸ loc_at (w.alloc _) _ _ (by simp)
        have zw0 : w.heap.size + 1 + 1 ≤ w0.heap.size := by rw [← hw0]; simp
        go_enter Try.func21, Try.ntmps21
        have cLA0 := LA.cell 0 rfl
        have cLA1 := LA.cell 1 rfl
        have cLA2 := LA.cell 2 rfl
        have cLA3 := LA.cell 3 rfl
        have cLA4 := LA.cell 4 rfl
        have cLA5 := LA.cell 5 rfl
        have cLB0 := LB.cell 0 rfl
        have cLB1 := LB.cell 1 rfl
        have cLB2 := LB.cell 2 rfl
        have cLB3 := LB.cell 3 rfl
        have cLB4 := LB.cell 4 rfl
        have cLB5 := LB.cell 5 rfl
        go_wp2_with fail
        clear hw0
        refine (unhide QS _ Bw0).mono ?_
        rintro _ w1 ⟨rfl, bb⟩
        clear cLA0 cLA1 cLA2 cLA3 cLA4 cLA5 cLB0 cLB1 cLB2 cLB3 cLB4 cLB5
        have Bw1 := Bw0.trans (bb.mono Bw0.size)
        have sw1 := bb.size
        replace LA := LA.below bb LA.lt
        replace LB := LB.below bb LB.lt
        clear Bw0
        clear bb
        cases b3
        · go_wp2
          go_ret
          exact ⟨rfl, Bw1⟩
        · have cLA0 := LA.cell 0 rfl
          have cLA1 := LA.cell 1 rfl
          have cLA2 := LA.cell 2 rfl
          have cLA3 := LA.cell 3 rfl
          have cLA4 := LA.cell 4 rfl
          have cLA5 := LA.cell 5 rfl
          have cLB0 := LB.cell 0 rfl
          have cLB1 := LB.cell 1 rfl
          have cLB2 := LB.cell 2 rfl
          have cLB3 := LB.cell 3 rfl
          have cLB4 := LB.cell 4 rfl
          have cLB5 := LB.cell 5 rfl
          go_wp2
          go_ret
          exact ⟨rfl, Bw1⟩
    · have e2 : (lo == lo') = false := by simpa using h2
      rw [e2]
      simp only [Bool.true_and, Bool.false_and]
      clear h1 h2 QS
      obtain ⟨w0, hw0⟩ : ∃ w0, ((w.alloc (.cells #[.int .i64 vo, .int .i64 lo, .int .i64 v, .string s, .slice ao xs.length ca, .string d] 26)).alloc (.cells #[.int .i64 vo', .int .i64 lo', .int .i64 v', .string s', .slice bo ys.length cb, .string d'] 26)) = w0 := ⟨_, rfl⟩
      have Bw0 : Below w.heap.size w w0 := hw0 ▸ ((Below.refl _ _).alloc (Nat.le_refl _) _).alloc (by simp) _
      have LA : Loc w0 (w.heap.size) #[.int .i64 vo, .int .i64 lo, .int .i64 v, .string s, .slice ao xs.length ca, .string d] := hw0 ▸ (loc_at (w) _ _ rfl).alloc _
      have LB : Loc w0 (w.heap.size + 1) #[.int .i64 vo', .int .i64 lo', .int .i64 v', .string s', .slice bo ys.length cb, .string d'] := hw0 ▸ loc_at (w.alloc _) _ _ (by simp)
      have zw0 : w.heap.size + 1 + 1 ≤ w0.heap.size := by rw [← hw0]; simp
      go_enter Try.func21, Try.ntmps21
      have cLA0 := LA.cell 0 rfl
      have cLA1 := LA.cell 1 rfl
      have cLA2 := LA.cell 2 rfl
      have cLA3 := LA.cell 3 rfl
      have cLA4 := LA.cell 4 rfl
      have cLA5 := LA.cell 5 rfl
      have cLB0 := LB.cell 0 rfl
      have cLB1 := LB.cell 1 rfl
      have cLB2 := LB.cell 2 rfl
      have cLB3 := LB.cell 3 rfl
      have cLB4 := LB.cell 4 rfl
      have cLB5 := LB.cell 5 rfl
      go_wp2
      go_ret
      exact ⟨rfl, Bw0⟩
  · have e1 : (vo == vo') = false := by simpa using h1
    rw [e1]
    simp only [Bool.false_and]
    clear h1 QS
    obtain ⟨w0, hw0⟩ : ∃ w0, ((w.alloc (.cells #[.int .i64 vo, .int .i64 lo, .int .i64 v, .string s, .slice ao xs.length ca, .string d] 26)).alloc (.cells #[.int .i64 vo', .int .i64 lo', .int .i64 v', .string s', .slice bo ys.length cb, .string d'] 26)) = w0 := ⟨_, rfl⟩
    have Bw0 : Below w.heap.size w w0 := hw0 ▸ ((Below.refl _ _).alloc (Nat.le_refl _) _).alloc (by simp) _
    have LA : Loc w0 (w.heap.size) #[.int .i64 vo, .int .i64 lo, .int .i64 v, .string s, .slice ao xs.length ca, .string d] := hw0 ▸ (loc_at (w) _ _ rfl).alloc _
    have LB : Loc w0 (w.heap.size + 1) #[.int .i64 vo', .int .i64 lo', .int .i64 v', .string s', .slice bo ys.length cb, .string d'] := hw0 ▸ loc_at (w.alloc _) _ _ (by simp)
    have zw0 : w.heap.size + 1 + 1 ≤ w0.heap.size := by rw [← hw0]; simp
    go_enter Try.func21, Try.ntmps21
    have cLA0 := LA.cell 0 rfl
    have cLA1 := LA.cell 1 rfl
    have cLA2 := LA.cell 2 rfl
    have cLA3 := LA.cell 3 rfl
    have cLA4 := LA.cell 4 rfl
    have cLA5 := LA.cell 5 rfl
    have cLB0 := LB.cell 0 rfl
    have cLB1 := LB.cell 1 rfl
    have cLB2 := LB.cell 2 rfl
    have cLB3 := LB.cell 3 rfl
    have cLB4 := LB.cell 4 rfl
    have cLB5 := LB.cell 5 rfl
    go_wp2
    go_ret
    exact ⟨rfl, Bw0⟩

set_option maxHeartbeats 16000000 in
set_option maxRecDepth 100000 in
theorem implSafeSame (vo lo v : Int) (s : ByteArray) (ao : Option Addr) (ca : Nat) (xs : List Int) (d : ByteArray) (vo' lo' v' : Int) (s' : ByteArray) (bo : Option Addr) (cb : Nat) (ys : List Int) (d' : ByteArray) (w : World) (ha : RI w (.slice ao xs.length ca) xs) (hb : RI w (.slice bo ys.length cb) ys) :
    Calls Try.prog 13 #[sv vo lo v s (.slice ao xs.length ca) d, sv vo' lo' v' s' (.slice bo ys.length cb) d'] w fun e w' => e = .returned (.bool (ssamB vo lo v s xs d vo' lo' v' s' ys d')) ∧ Below w.heap.size w w' := by
  have SM := hide fun w' (b : Below w.heap.size w w') => ssame_any vo lo v s ao ca xs d vo' lo' v' s' bo cb ys d' w' (ha.below b (Nat.le_refl _)) (hb.below b (Nat.le_refl _))
  generalize ssamB vo lo v s xs d vo' lo' v' s' ys d' = q at *
  clear ha hb
  obtain ⟨w0, hw0⟩ : ∃ w0, ((w.alloc (.cells #[.int .i64 vo, .int .i64 lo, .int .i64 v, .string s, .slice ao xs.length ca, .string d] 26)).alloc (.cells #[.int .i64 vo', .int .i64 lo', .int .i64 v', .string s', .slice bo ys.length cb, .string d'] 26)) = w0 := ⟨_, rfl⟩
  have Bw0 : Below w.heap.size w w0 := hw0 ▸ ((Below.refl _ _).alloc (Nat.le_refl _) _).alloc (by simp) _
  have LA : Loc w0 (w.heap.size) #[.int .i64 vo, .int .i64 lo, .int .i64 v, .string s, .slice ao xs.length ca, .string d] := hw0 ▸ (loc_at (w) _ _ rfl).alloc _
  have LB : Loc w0 (w.heap.size + 1) #[.int .i64 vo', .int .i64 lo', .int .i64 v', .string s', .slice bo ys.length cb, .string d'] := hw0 ▸ loc_at (w.alloc _) _ _ (by simp)
  have zw0 : w.heap.size + 1 + 1 ≤ w0.heap.size := by rw [← hw0]; simp
  go_enter Try.func13, Try.ntmps13
  have cLA0 := LA.cell 0 rfl
  have cLA1 := LA.cell 1 rfl
  have cLA2 := LA.cell 2 rfl
  have cLA3 := LA.cell 3 rfl
  have cLA4 := LA.cell 4 rfl
  have cLA5 := LA.cell 5 rfl
  have cLB0 := LB.cell 0 rfl
  have cLB1 := LB.cell 1 rfl
  have cLB2 := LB.cell 2 rfl
  have cLB3 := LB.cell 3 rfl
  have cLB4 := LB.cell 4 rfl
  have cLB5 := LB.cell 5 rfl
  go_wp2_with fail
  clear hw0
  refine (unhide SM _ Bw0).mono ?_
  rintro _ w1 ⟨rfl, bb⟩
  clear cLA0 cLA1 cLA2 cLA3 cLA4 cLA5 cLB0 cLB1 cLB2 cLB3 cLB4 cLB5
  have Bw1 := Bw0.trans (bb.mono Bw0.size)
  have sw1 := bb.size
  replace LA := LA.below bb LA.lt
  replace LB := LB.below bb LB.lt
  clear Bw0
  clear bb
  go_wp2
  go_ret
  exact ⟨rfl, Bw1⟩

set_option maxHeartbeats 16000000 in
set_option maxRecDepth 100000 in
theorem specSafeSame (vo lo v : Int) (s : ByteArray) (ao : Option Addr) (ca : Nat) (xs : List Int) (d : ByteArray) (vo' lo' v' : Int) (s' : ByteArray) (bo : Option Addr) (cb : Nat) (ys : List Int) (d' : ByteArray) (w : World) (ha : RI w (.slice ao xs.length ca) xs) (hb : RI w (.slice bo ys.length cb) ys) :
    Calls Try.prog 11 #[sv vo lo v s (.slice ao xs.length ca) d, sv vo' lo' v' s' (.slice bo ys.length cb) d'] w fun e w' => e = .returned (.bool (ssamB vo lo v s xs d vo' lo' v' s' ys d')) ∧ Below w.heap.size w w' := by
  have QS := hide fun w' (b : Below w.heap.size w w') => specQcSame v v' s s' (.slice ao xs.length ca) (.slice bo ys.length cb) xs ys w' (ha.below b (Nat.le_refl _)) (hb.below b (Nat.le_refl _))
  unfold ssamB
  generalize alikeB v v' s s' xs ys = b3 at *
  clear ha hb
  by_cases h1 : vo = vo'
  · have e1 : (vo == vo') = true := by simpa using h1
    rw [e1]
    by_cases h2 : lo = lo'
    · have e2 : (lo == lo') = true := by simpa using h2
      rw [e2]
      simp only [Bool.true_and]
      by_cases h3 : d = d'
      · have e3 : decide (d = d') = true := by simpa using h3
        have hy : (d.toList == d'.toList) = true := by simp [h3]
        rw [e3]
        clear h1 h2 h3 e3
        obtain ⟨w0, hw0⟩ : ∃ w0, ((w.alloc (.cells #[.int .i64 vo, .int .i64 lo, .int .i64 v, .string s, .slice ao xs.length ca, .string d] 26)).alloc (.cells #[.int .i64 vo', .int .i64 lo', .int .i64 v', .string s', .slice bo ys.length cb, .string d'] 26)) = w0 := ⟨_, rfl⟩
        have Bw0 : Below w.heap.size w w0 := hw0 ▸ ((Below.refl _ _).alloc (Nat.le_refl _) _).alloc (by simp) _
        have LA : Loc w0 (w.heap.size) #[.int .i64 vo, .int .i64 lo, .int .i64 v, .string s, .slice ao xs.length ca, .string d] := hw0 ▸ (loc_at (w) _ _ rfl).alloc _
        have LB : Loc w0 (w.heap.size + 1) #[.int .i64 vo', .int .i64 lo', .int .i64 v', .string s', .slice bo ys.length cb, .string d'] := hw0 ▸ loc_at (w.alloc _) _ _ (by simp)
        have zw0 : w.heap.size + 1 + 1 ≤ w0.heap.size := by rw [← hw0]; simp
        go_enter Try.func11, Try.ntmps11
        have cLA0 := LA.cell 0 rfl
        have cLA1 := LA.cell 1 rfl
        have cLA2 := LA.cell 2 rfl
        have cLA3 := LA.cell 3 rfl
        have cLA4 := LA.cell 4 rfl
        have cLA5 := LA.cell 5 rfl
        have cLB0 := LB.cell 0 rfl
        have cLB1 := LB.cell 1 rfl
        have cLB2 := LB.cell 2 rfl
        have cLB3 := LB.cell 3 rfl
        have cLB4 := LB.cell 4 rfl
        have cLB5 := LB.cell 5 rfl
        go_wp2_with fail
        clear hw0
        refine (unhide QS _ Bw0).mono ?_
        rintro _ w1 ⟨rfl, bb⟩
        clear cLA0 cLA1 cLA2 cLA3 cLA4 cLA5 cLB0 cLB1 cLB2 cLB3 cLB4 cLB5
        have Bw1 := Bw0.trans (bb.mono Bw0.size)
        have sw1 := bb.size
        replace LA := LA.below bb LA.lt
        replace LB := LB.below bb LB.lt
        clear Bw0
        clear bb
        cases b3
        · go_wp2
          go_ret
          exact ⟨rfl, Bw1⟩
        · have cLA0 := LA.cell 0 rfl
          have cLA1 := LA.cell 1 rfl
          have cLA2 := LA.cell 2 rfl
          have cLA3 := LA.cell 3 rfl
          have cLA4 := LA.cell 4 rfl
          have cLA5 := LA.cell 5 rfl
          have cLB0 := LB.cell 0 rfl
          have cLB1 := LB.cell 1 rfl
          have cLB2 := LB.cell 2 rfl
          have cLB3 := LB.cell 3 rfl
          have cLB4 := LB.cell 4 rfl
          have cLB5 := LB.cell 5 rfl
          go_wp2
          go_ret
          exact ⟨rfl, Bw1⟩
      · have e3 : decide (d = d') = false := by simpa using h3
        have hy := str_ne h3
        rw [e3]
        clear h1 h2 h3 e3
        obtain ⟨w0, hw0⟩ : ∃ w0, ((w.alloc (.cells #[.int .i64 vo, .int .i64 lo, .int .i64 v, .string s, .slice ao xs.length ca, .string d] 26)).alloc (.cells #[.int .i64 vo', .int .i64 lo', .int .i64 v', .string s', .slice bo ys.length cb, .string d'] 26)) = w0 := ⟨_, rfl⟩
        have Bw0 : Below w.heap.size w w0 := hw0 ▸ ((Below.refl _ _).alloc (Nat.le_refl _) _).alloc (by simp) _
        have LA : Loc w0 (w.heap.size) #[.int .i64 vo, .int .i64 lo, .int .i64 v, .string s, .slice ao xs.length ca, .string d] := hw0 ▸ (loc_at (w) _ _ rfl).alloc _
        have LB : Loc w0 (w.heap.size + 1) #[.int .i64 vo', .int .i64 lo', .int .i64 v', .string s', .slice bo ys.length cb, .string d'] := hw0 ▸ loc_at (w.alloc _) _ _ (by simp)
        have zw0 : w.heap.size + 1 + 1 ≤ w0.heap.size := by rw [← hw0]; simp
        go_enter Try.func11, Try.ntmps11
        have cLA0 := LA.cell 0 rfl
        have cLA1 := LA.cell 1 rfl
        have cLA2 := LA.cell 2 rfl
        have cLA3 := LA.cell 3 rfl
        have cLA4 := LA.cell 4 rfl
        have cLA5 := LA.cell 5 rfl
        have cLB0 := LB.cell 0 rfl
        have cLB1 := LB.cell 1 rfl
        have cLB2 := LB.cell 2 rfl
        have cLB3 := LB.cell 3 rfl
        have cLB4 := LB.cell 4 rfl
        have cLB5 := LB.cell 5 rfl
        go_wp2_with fail
        clear hw0
        refine (unhide QS _ Bw0).mono ?_
        rintro _ w1 ⟨rfl, bb⟩
        clear cLA0 cLA1 cLA2 cLA3 cLA4 cLA5 cLB0 cLB1 cLB2 cLB3 cLB4 cLB5
        have Bw1 := Bw0.trans (bb.mono Bw0.size)
        have sw1 := bb.size
        replace LA := LA.below bb LA.lt
        replace LB := LB.below bb LB.lt
        clear Bw0
        clear bb
        cases b3
        · go_wp2
          go_ret
          exact ⟨rfl, Bw1⟩
        · have cLA0 := LA.cell 0 rfl
          have cLA1 := LA.cell 1 rfl
          have cLA2 := LA.cell 2 rfl
          have cLA3 := LA.cell 3 rfl
          have cLA4 := LA.cell 4 rfl
          have cLA5 := LA.cell 5 rfl
          have cLB0 := LB.cell 0 rfl
          have cLB1 := LB.cell 1 rfl
          have cLB2 := LB.cell 2 rfl
          have cLB3 := LB.cell 3 rfl
          have cLB4 := LB.cell 4 rfl
          have cLB5 := LB.cell 5 rfl
          go_wp2
          go_ret
          exact ⟨rfl, Bw1⟩
    · have e2 : (lo == lo') = false := by simpa using h2
      rw [e2]
      simp only [Bool.true_and, Bool.false_and]
      clear h1 h2 QS
      obtain ⟨w0, hw0⟩ : ∃ w0, ((w.alloc (.cells #[.int .i64 vo, .int .i64 lo, .int .i64 v, .string s, .slice ao xs.length ca, .string d] 26)).alloc (.cells #[.int .i64 vo', .int .i64 lo', .int .i64 v', .string s', .slice bo ys.length cb, .string d'] 26)) = w0 := ⟨_, rfl⟩
      have Bw0 : Below w.heap.size w w0 := hw0 ▸ ((Below.refl _ _).alloc (Nat.le_refl _) _).alloc (by simp) _
      have LA : Loc w0 (w.heap.size) #[.int .i64 vo, .int .i64 lo, .int .i64 v, .string s, .slice ao xs.length ca, .string d] := hw0 ▸ (loc_at (w) _ _ rfl).alloc _
      have LB : Loc w0 (w.heap.size + 1) #[.int .i64 vo', .int .i64 lo', .int .i64 v', .string s', .slice bo ys.length cb, .string d'] := hw0 ▸ loc_at (w.alloc _) _ _ (by simp)
      have zw0 : w.heap.size + 1 + 1 ≤ w0.heap.size := by rw [← hw0]; simp
      go_enter Try.func11, Try.ntmps11
      have cLA0 := LA.cell 0 rfl
      have cLA1 := LA.cell 1 rfl
      have cLA2 := LA.cell 2 rfl
      have cLA3 := LA.cell 3 rfl
      have cLA4 := LA.cell 4 rfl
      have cLA5 := LA.cell 5 rfl
      have cLB0 := LB.cell 0 rfl
      have cLB1 := LB.cell 1 rfl
      have cLB2 := LB.cell 2 rfl
      have cLB3 := LB.cell 3 rfl
      have cLB4 := LB.cell 4 rfl
      have cLB5 := LB.cell 5 rfl
      go_wp2
      go_ret
      exact ⟨rfl, Bw0⟩
  · have e1 : (vo == vo') = false := by simpa using h1
    rw [e1]
    simp only [Bool.false_and]
    clear h1 QS
    obtain ⟨w0, hw0⟩ : ∃ w0, ((w.alloc (.cells #[.int .i64 vo, .int .i64 lo, .int .i64 v, .string s, .slice ao xs.length ca, .string d] 26)).alloc (.cells #[.int .i64 vo', .int .i64 lo', .int .i64 v', .string s', .slice bo ys.length cb, .string d'] 26)) = w0 := ⟨_, rfl⟩
    have Bw0 : Below w.heap.size w w0 := hw0 ▸ ((Below.refl _ _).alloc (Nat.le_refl _) _).alloc (by simp) _
    have LA : Loc w0 (w.heap.size) #[.int .i64 vo, .int .i64 lo, .int .i64 v, .string s, .slice ao xs.length ca, .string d] := hw0 ▸ (loc_at (w) _ _ rfl).alloc _
    have LB : Loc w0 (w.heap.size + 1) #[.int .i64 vo', .int .i64 lo', .int .i64 v', .string s', .slice bo ys.length cb, .string d'] := hw0 ▸ loc_at (w.alloc _) _ _ (by simp)
    have zw0 : w.heap.size + 1 + 1 ≤ w0.heap.size := by rw [← hw0]; simp
    go_enter Try.func11, Try.ntmps11
    have cLA0 := LA.cell 0 rfl
    have cLA1 := LA.cell 1 rfl
    have cLA2 := LA.cell 2 rfl
    have cLA3 := LA.cell 3 rfl
    have cLA4 := LA.cell 4 rfl
    have cLA5 := LA.cell 5 rfl
    have cLB0 := LB.cell 0 rfl
    have cLB1 := LB.cell 1 rfl
    have cLB2 := LB.cell 2 rfl
    have cLB3 := LB.cell 3 rfl
    have cLB4 := LB.cell 4 rfl
    have cLB5 := LB.cell 5 rfl
    go_wp2
    go_ret
    exact ⟨rfl, Bw0⟩

set_option maxHeartbeats 16000000 in
set_option maxRecDepth 100000 in
theorem implSafeNew (w : World) :
    Calls Try.prog 6 #[] w fun e w' => e = .returned (sv 0 0 0 ⟨#[]⟩ (.slice none 0 0) ⟨#[]⟩) ∧ Below w.heap.size w w' := by
  obtain ⟨w0, hw0⟩ : ∃ w0, (w.alloc (.cells #[.int .i64 0, .int .i64 0, .int .i64 0, .string ⟨#[]⟩, .slice none 0 0, .string ⟨#[]⟩] 26)) = w0 := ⟨_, rfl⟩
  have Bw0 : Below w.heap.size w w0 := hw0 ▸ (Below.refl _ _).alloc (Nat.le_refl _) _
  have LZ : Loc w0 (w.heap.size) #[.int .i64 0, .int .i64 0, .int .i64 0, .string ⟨#[]⟩, .slice none 0 0, .string ⟨#[]⟩] := hw0 ▸ loc_at (w) _ _ rfl
  have zw0 : w.heap.size + 1 ≤ w0.heap.size := by rw [← hw0]; simp
  go_enter Try.func6, Try.ntmps6
  go_wp2_with fail
  clear hw0
  refine (implQcFirst _).mono ?_
  rintro _ w1 ⟨rfl, bb⟩
  have Bw1 := Bw0.trans (bb.mono Bw0.size)
  have sw1 := bb.size
  replace LZ := LZ.below bb LZ.lt
  clear Bw0
  clear bb
  have K6 := kp6 w1 (w.heap.size) (.int .i64 0) (.int .i64 0) (.int .i64 0) (.string ⟨#[]⟩) (.slice none 0 0) (.string ⟨#[]⟩)
  have cLZ0 := LZ.cell 0 rfl
  have cLZ1 := LZ.cell 1 rfl
  have cLZ2 := LZ.cell 2 rfl
  have cLZ3 := LZ.cell 3 rfl
  have cLZ4 := LZ.cell 4 rfl
  have cLZ5 := LZ.cell 5 rfl
  have fLZ := LZ.frozen
  go_wp2
  refine bodyPost_ret (v := sv 0 0 0 ⟨#[]⟩ (.slice none 0 0) ⟨#[]⟩) (by simp [results, Try.results6, go_sem, cLZ0, cLZ1, cLZ2, cLZ3, cLZ4, cLZ5]) rfl ?_
  exact ⟨rfl, Below.kp Bw1 K6 Bw1.size (fun k hk => by omega)⟩

set_option maxHeartbeats 16000000 in
set_option maxRecDepth 100000 in
theorem specSafeNew (w : World) :
    Calls Try.prog 5 #[] w fun e w' => e = .returned (sv 0 0 0 ⟨#[]⟩ (.slice none 0 0) ⟨#[]⟩) ∧ Below w.heap.size w w' := by
  obtain ⟨w0, hw0⟩ : ∃ w0, (w.alloc (.cells #[.int .i64 0, .int .i64 0, .int .i64 0, .string ⟨#[]⟩, .slice none 0 0, .string ⟨#[]⟩] 26)) = w0 := ⟨_, rfl⟩
  have Bw0 : Below w.heap.size w w0 := hw0 ▸ (Below.refl _ _).alloc (Nat.le_refl _) _
  have LZ : Loc w0 (w.heap.size) #[.int .i64 0, .int .i64 0, .int .i64 0, .string ⟨#[]⟩, .slice none 0 0, .string ⟨#[]⟩] := hw0 ▸ loc_at (w) _ _ rfl
  have zw0 : w.heap.size + 1 ≤ w0.heap.size := by rw [← hw0]; simp
  go_enter Try.func5, Try.ntmps5
  have K6 := kp6 w0 (w.heap.size) (.int .i64 0) (.int .i64 0) (.int .i64 0) (.string ⟨#[]⟩) (.slice none 0 0) (.string ⟨#[]⟩)
  have cLZ0 := LZ.cell 0 rfl
  have cLZ1 := LZ.cell 1 rfl
  have cLZ2 := LZ.cell 2 rfl
  have cLZ3 := LZ.cell 3 rfl
  have cLZ4 := LZ.cell 4 rfl
  have cLZ5 := LZ.cell 5 rfl
  have fLZ := LZ.frozen
  go_wp2
  clear hw0
  refine bodyPost_ret (v := sv 0 0 0 ⟨#[]⟩ (.slice none 0 0) ⟨#[]⟩) (by simp [results, Try.results5, go_sem, cLZ0, cLZ1, cLZ2, cLZ3, cLZ4, cLZ5]) rfl ?_
  exact ⟨rfl, Below.kp Bw0 K6 Bw0.size (fun k hk => by omega)⟩
end Go.Proofs.Ytgfboghieejbkaa
