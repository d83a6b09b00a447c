/- Texts that belong together: DrawName, SafePlain, SafeOks, PartPlain, PartCmpP, PartCmp0, TxRows, PoolCmp. -/
import Derived.Test.YtndpjhiidmdlhaaGreatDoorRCAW
import Derived.Deep.RegionHeld3
import Derived.Deep.DeepCutAuto
import Derived.Test.YtndpjhiidmdlhaaGreatDoorRCAT
import Derived.Lib.ItoaLen
import Derived.Test.YtndpjhiidmdlhaaGreatDoorRCAG
import Derived.Test.YtndpjhiidmdlhaaGreatDoorRCAK
import Derived.Test.YtndpjhiidmdlhaaGreatDoorRCAU
import Derived.Test.YtndpjhiidmdlhaaGreatDoorRCAJ
import Derived.Test.YtndpjhiidmdlhaaGreatDoorRCAB
import Derived.Test.YtndpjhiidmdlhaaGreatDoorRCAA
import Derived.Test.YtndpjhiidmdlhaaGreatDoorRCAE
import Derived.Laws.EntriesVeiled
import Derived.Laws.Cover1
set_option maxRecDepth 100000
set_option maxHeartbeats 16000000
namespace Go.Proofs.YtndpjhiidmdlhaaGreatDoor
open Go.RowKit
set_option linter.unusedSectionVars false
variable [∀ (a b c d : Int), Decidable (Ok4 a b c d)]
variable [∀ (a b c d : Nat), Decidable (okN a b c d)]
variable [∀ (x : T4), Decidable (OkT x)]
variable [∀ (last : Int) (s : St), Decidable (GoodSt last s)]

theorem nm_len (ss : List St) (h : ∀ s ∈ ss, OkSt s) : (nm ss).length ≤ ss.length * 64 := by
 induction ss with
 | nil => simp [nm]
 | cons s ss ih =>
  have h1:=h s (by simp)
  have h2:=ih fun x hx => h x (by simp [hx])
  have h3:=txsT_len2 s.2 h1.2.1
  have h4:=nDigits_six s.1.toNat (by have:=h1.1; omega)
  have e : nm (s :: ss) = 47 :: stText s ++ nm ss:=by simp [nm]
  rw [e, List.length_append, List.length_cons, List.length_cons]
  unfold stText
  rw [List.length_append, List.length_cons, Lib.decDigits_length]
  have e2 : (txsT s.2).data.toList.length = (txsT s.2).size:=by simp
  omega
theorem name_len {s : ByteArray} (h : (stepsAns s).isSome = true) : s.size ≤ 1920 := by
 cases hs : stepsAns s with
 | none => rw [hs] at h; cases h
 | some ss =>
  obtain ⟨h1, h2⟩:=(names_iff _ _).1 hs
  have h3:=nm_len ss h2.2.1
  have h4:=h2.1
  have e : s.size = s.data.toList.length:=by simp
  rw [e, h1]; omega
end Go.Proofs.YtndpjhiidmdlhaaGreatDoor
namespace Go.Proofs.YtndpjhiidmdlhaaGreatDoor
open Go.RowKit
set_option linter.unusedSectionVars false
variable [∀ (a b c d : Int), Decidable (Ok4 a b c d)]
variable [∀ (a b c d : Nat), Decidable (okN a b c d)]
variable [∀ (last : Int) (s : St), Decidable (GoodSt last s)]
variable [∀ (x : T4), Decidable (OkT x)]
variable [∀ (n : Int) (s : List Int), Decidable (OkL n s)]
variable [∀ (n f : Int), Decidable (COk n f)]

theorem view_le (s : ByteArray) : 0 ≤ viewAns s ∧ viewAns s ≤ 60 := by
 refine ⟨?_, (height_view (s := s)).2.2⟩
 cases e : stepsAns s with
 | none => rw [view_none (by rw [e]; rfl)]; exact Int.le_refl _
 | some ss =>
  have:=(height_view (s:=s)).1
  unfold heightAns at this
  rw [e] at this
  simp only at this
  omega

def inB (x : Int) : Bool := decide (0 ≤ x) && decide (x ≤ 60)
def sokB (n f vo lo v : Int) (s : ByteArray) (xs : List Int) (d : ByteArray) : Bool := inB vo && inB lo && qokB n f v s xs && (stepsAns d).isSome
def ssamB (vo lo v : Int) (s : ByteArray) (xs : List Int) (d : ByteArray) (vo' lo' v' : Int) (s' : ByteArray) (xs' : List Int) (d' : ByteArray) : Bool := (vo == vo') && (lo == lo') && alikeB v v' s s' xs xs' && decide (d = d')
theorem sok_done {n f vo lo v : Int} {s : ByteArray} {xs : List Int} {d : ByteArray} (h : sokB n f vo lo v s xs d = true) : (0 ≤ vo ∧ vo ≤ 60) ∧ (0 ≤ lo ∧ lo ≤ 60) ∧ qokB n f v s xs = true ∧ (stepsAns d).isSome = true := by
 unfold sokB inB at h
 simp only [Bool.and_eq_true, decide_eq_true_eq] at h
 obtain ⟨⟨⟨⟨a, b⟩, ⟨c, e⟩⟩, q⟩, g⟩:=h
 exact ⟨⟨a, b⟩, ⟨c, e⟩, q, g⟩

theorem withinB (x : Int) (w : World) : Calls Tryz.prog 49 #[.int .i64 x,.int .i64 0,.int .i64 60] w fun e w' => e = .returned (.bool (inB x)) ∧ Below w.heap.size w w' := by
 by_cases h : 0 ≤ x ∧ x ≤ 60
 ·have e : inB x = true:=by simp [inB, h]
  rw [e]
  refine (within_yes x 0 60 w h.1 h.2).mono ?_
  rintro e w' ⟨rfl, rfl⟩
  exact ⟨rfl, Below.refl _ _⟩
 ·have e : inB x = false:=by simp [inB]; omega
  rw [e]
  refine (within_no x 0 60 w (by omega)).mono ?_
  rintro e w' ⟨rfl, rfl⟩
  exact ⟨rfl, Below.refl _ _⟩
theorem l1InB (x : Int) (w : World) : Calls Tryz.prog 39 #[.int .i64 x,.int .i64 0,.int .i64 60] w fun e w' => e = .returned (.bool (inB x)) ∧ Below w.heap.size w w' := by
 by_cases h : 0 ≤ x ∧ x ≤ 60
 ·have e : inB x = true:=by simp [inB, h]
  rw [e]
  refine (in_yes x 0 60 w h.1 h.2).mono ?_
  rintro e w' ⟨rfl, rfl⟩
  exact ⟨rfl, Below.refl _ _⟩
 ·have e : inB x = false:=by simp [inB]; omega
  rw [e]
  refine (in_no x 0 60 w (by omega)).mono ?_
  rintro e w' ⟨rfl, rfl⟩
  exact ⟨rfl, Below.refl _ _⟩
theorem implSafeOk (n f : Int) (vo lo v : Int) (s : ByteArray) (ao : Option Addr) (ca : Nat) (xs : List Int) (d : ByteArray) (w : World) (hs : s.size ≤ 33554432) (hd : d.size ≤ 33554432) (hE : Env w) (ha : RI w (.slice ao xs.length ca) xs) :
 Calls Tryz.prog 50 #[cv n f, sv vo lo v s (.slice ao xs.length ca) d] w fun e w' => e = .returned (.bool (sokB n f vo lo v s xs d)) ∧ Below w.heap.size w w' := by
 have QO:=hide fun w' (b : Below w.heap.size w w') => implQcOk n f v s ao ca xs w' hs (hE.below b) (ha.below b)
 have NO:=hide fun w' (b : Below w.heap.size w w') => implNameOk d w' hd (hE.below b)
 have I1:=hide fun w' => withinB vo w'
 have I2:=hide fun w' => withinB lo w'
 unfold sokB
 generalize inB vo = b1 at *
 generalize inB lo = b2 at *
 generalize qokB n f v s xs = b3 at *
 generalize (stepsAns d).isSome = b4 at *
 clear ha hE
 obtain ⟨w0, hw0, Bw0, LC, LS, zw0⟩:=bx2 w #[.int .i64 n,.int .i64 f] 39 #[.int .i64 vo,.int .i64 lo,.int .i64 v,.string s,.slice ao xs.length ca,.string d] 43
 go_enter Tryz.func50, Tryz.ntmps50
 have cLS0:=LS.cell 0 rfl
 have cLS1:=LS.cell 1 rfl
 have cLS2:=LS.cell 2 rfl
 have cLS3:=LS.cell 3 rfl
 have cLS4:=LS.cell 4 rfl
 have cLS5:=LS.cell 5 rfl
 go_wp2_with fail
 clear hw0
 refine (I1.out _).mono ?_
 rintro _ w1 ⟨rfl, bb⟩
 clear cLS0 cLS1 cLS2 cLS3 cLS4 cLS5
 have Bw1:=bu Bw0 bb
 have sw1:=bb.size
 replace LC:=LC.up bb
 replace LS:=LS.up bb
 clear Bw0
 clear bb
 cases b1
 ·go_wp2
  go_ret
  exact ⟨rfl, Bw1⟩
 ·have cLS0:=LS.cell 0 rfl
  have cLS1:=LS.cell 1 rfl
  have cLS2:=LS.cell 2 rfl
  have cLS3:=LS.cell 3 rfl
  have cLS4:=LS.cell 4 rfl
  have cLS5:=LS.cell 5 rfl
  go_wp2_with fail
  refine (I2.out _).mono ?_
  rintro _ w2 ⟨rfl, bb⟩
  clear cLS0 cLS1 cLS2 cLS3 cLS4 cLS5
  have Bw2:=bu Bw1 bb
  have sw2:=bb.size
  replace LC:=LC.up bb
  replace LS:=LS.up bb
  clear Bw1
  clear bb
  cases b2
  ·go_wp2
   go_ret
   exact ⟨rfl, Bw2⟩
  ·have cLC0:=LC.cell 0 rfl
   have cLC1:=LC.cell 1 rfl
   have cLS0:=LS.cell 0 rfl
   have cLS1:=LS.cell 1 rfl
   have cLS2:=LS.cell 2 rfl
   have cLS3:=LS.cell 3 rfl
   have cLS4:=LS.cell 4 rfl
   have cLS5:=LS.cell 5 rfl
   go_wp2_with fail
   refine (QO.out _ Bw2).mono ?_
   rintro _ w3 ⟨rfl, bb⟩
   clear cLC0 cLC1 cLS0 cLS1 cLS2 cLS3 cLS4 cLS5
   have Bw3:=bu Bw2 bb
   have sw3:=bb.size
   replace LC:=LC.up bb
   replace LS:=LS.up bb
   clear Bw2
   clear bb
   cases b3
   ·go_wp2
    go_ret
    exact ⟨rfl, Bw3⟩
   ·have cLS0:=LS.cell 0 rfl
    have cLS1:=LS.cell 1 rfl
    have cLS2:=LS.cell 2 rfl
    have cLS3:=LS.cell 3 rfl
    have cLS4:=LS.cell 4 rfl
    have cLS5:=LS.cell 5 rfl
    go_wp2_with fail
    refine (NO.out _ Bw3).mono ?_
    rintro _ w4 ⟨rfl, bb⟩
    clear cLS0 cLS1 cLS2 cLS3 cLS4 cLS5
    have Bw4:=bu Bw3 bb
    have sw4:=bb.size
    replace LC:=LC.up bb
    replace LS:=LS.up bb
    clear Bw3
    clear bb
    go_wp2
    go_ret
    exact ⟨rfl, Bw4⟩

theorem specSafeOk (n f : Int) (vo lo v : Int) (s : ByteArray) (ao : Option Addr) (ca : Nat) (xs : List Int) (d : ByteArray) (w : World) (hs : s.size ≤ 1048576) (hd : d.size ≤ 1048576) (ha : RI w (.slice ao xs.length ca) xs) :
 Calls Tryz.prog 40 #[cv n f, sv vo lo v s (.slice ao xs.length ca) d] w fun e w' => e = .returned (.bool (sokB n f vo lo v s xs d)) ∧ Below w.heap.size w w' := by
 have QO:=hide fun w' (b : Below w.heap.size w w') => specQcOk n f v s ao ca xs w' hs (ha.below b)
 have NO:=hide fun w' (b : Below w.heap.size w w') => specNameOk d w' (by omega)
 have I1:=hide fun w' => l1InB vo w'
 have I2:=hide fun w' => l1InB lo w'
 unfold sokB
 generalize inB vo = b1 at *
 generalize inB lo = b2 at *
 generalize qokB n f v s xs = b3 at *
 generalize (stepsAns d).isSome = b4 at *
 clear ha
 obtain ⟨w0, hw0, Bw0, LC, LS, zw0⟩:=bx2 w #[.int .i64 n,.int .i64 f] 39 #[.int .i64 vo,.int .i64 lo,.int .i64 v,.string s,.slice ao xs.length ca,.string d] 43
 go_enter Tryz.func40, Tryz.ntmps40
 have cLS0:=LS.cell 0 rfl
 have cLS1:=LS.cell 1 rfl
 have cLS2:=LS.cell 2 rfl
 have cLS3:=LS.cell 3 rfl
 have cLS4:=LS.cell 4 rfl
 have cLS5:=LS.cell 5 rfl
 go_wp2_with fail
 clear hw0
 refine (I1.out _).mono ?_
 rintro _ w1 ⟨rfl, bb⟩
 clear cLS0 cLS1 cLS2 cLS3 cLS4 cLS5
 have Bw1:=bu Bw0 bb
 have sw1:=bb.size
 replace LC:=LC.up bb
 replace LS:=LS.up bb
 clear Bw0
 clear bb
 cases b1
 ·go_wp2
  go_ret
  exact ⟨rfl, Bw1⟩
 ·have cLS0:=LS.cell 0 rfl
  have cLS1:=LS.cell 1 rfl
  have cLS2:=LS.cell 2 rfl
  have cLS3:=LS.cell 3 rfl
  have cLS4:=LS.cell 4 rfl
  have cLS5:=LS.cell 5 rfl
  go_wp2_with fail
  refine (I2.out _).mono ?_
  rintro _ w2 ⟨rfl, bb⟩
  clear cLS0 cLS1 cLS2 cLS3 cLS4 cLS5
  have Bw2:=bu Bw1 bb
  have sw2:=bb.size
  replace LC:=LC.up bb
  replace LS:=LS.up bb
  clear Bw1
  clear bb
  cases b2
  ·go_wp2
   go_ret
   exact ⟨rfl, Bw2⟩
  ·have cLC0:=LC.cell 0 rfl
   have cLC1:=LC.cell 1 rfl
   have cLS0:=LS.cell 0 rfl
   have cLS1:=LS.cell 1 rfl
   have cLS2:=LS.cell 2 rfl
   have cLS3:=LS.cell 3 rfl
   have cLS4:=LS.cell 4 rfl
   have cLS5:=LS.cell 5 rfl
   go_wp2_with fail
   refine (QO.out _ Bw2).mono ?_
   rintro _ w3 ⟨rfl, bb⟩
   clear cLC0 cLC1 cLS0 cLS1 cLS2 cLS3 cLS4 cLS5
   have Bw3:=bu Bw2 bb
   have sw3:=bb.size
   replace LC:=LC.up bb
   replace LS:=LS.up bb
   clear Bw2
   clear bb
   cases b3
   ·go_wp2
    go_ret
    exact ⟨rfl, Bw3⟩
   ·have cLS0:=LS.cell 0 rfl
    have cLS1:=LS.cell 1 rfl
    have cLS2:=LS.cell 2 rfl
    have cLS3:=LS.cell 3 rfl
    have cLS4:=LS.cell 4 rfl
    have cLS5:=LS.cell 5 rfl
    go_wp2_with fail
    refine (NO.out _ Bw3).mono ?_
    rintro _ w4 ⟨rfl, bb⟩
    clear cLS0 cLS1 cLS2 cLS3 cLS4 cLS5
    have Bw4:=bu Bw3 bb
    have sw4:=bb.size
    replace LC:=LC.up bb
    replace LS:=LS.up bb
    clear Bw3
    clear bb
    go_wp2
    go_ret
    exact ⟨rfl, Bw4⟩

theorem ssame_any (vo lo v : Int) (s : ByteArray) (ao : Option Addr) (ca : Nat) (xs : List Int) (d : ByteArray) (vo' lo' v' : Int) (s' : ByteArray) (bo : Option Addr) (cb : Nat) (ys : List Int) (d' : ByteArray) (w : World) (ha : RI w (.slice ao xs.length ca) xs) (hb : RI w (.slice bo ys.length cb) ys) :
 Calls Tryz.prog 72 #[sv vo lo v s (.slice ao xs.length ca) d, sv vo' lo' v' s' (.slice bo ys.length cb) d'] w fun e w' => e = .returned (.bool (ssamB vo lo v s xs d vo' lo' v' s' ys d')) ∧ Below w.heap.size w w' := by
 have QS:=hide fun w' (b : Below w.heap.size w w') => implQcSame v v' s s' (.slice ao xs.length ca) (.slice bo ys.length cb) xs ys w' (ha.below b) (hb.below b)
 unfold ssamB
 generalize alikeB v v' s s' xs ys = b3 at *
 clear ha hb
 by_cases h1 : vo = vo'
 ·have e1 : (vo == vo') = true:=by simpa using h1
  rw [e1]
  by_cases h2 : lo = lo'
  ·have e2 : (lo == lo') = true:=by simpa using h2
   rw [e2]
   simp only [Bool.true_and]
   by_cases h3 : d = d'
   ·have e3 : decide (d = d') = true:=by simpa using h3
    have hy : (d.toList == d'.toList) = true:=by simp [h3]
    rw [e3]
    clear h1 h2 h3 e3
    obtain ⟨w0, hw0, Bw0, LA, LB, zw0⟩:=bx2 w #[.int .i64 vo,.int .i64 lo,.int .i64 v,.string s,.slice ao xs.length ca,.string d] 43 #[.int .i64 vo',.int .i64 lo',.int .i64 v',.string s',.slice bo ys.length cb,.string d'] 43
    go_enter Tryz.func72, Tryz.ntmps72
    have cLA0:=LA.cell 0 rfl
    have cLA1:=LA.cell 1 rfl
    have cLA2:=LA.cell 2 rfl
    have cLA3:=LA.cell 3 rfl
    have cLA4:=LA.cell 4 rfl
    have cLA5:=LA.cell 5 rfl
    have cLB0:=LB.cell 0 rfl
    have cLB1:=LB.cell 1 rfl
    have cLB2:=LB.cell 2 rfl
    have cLB3:=LB.cell 3 rfl
    have cLB4:=LB.cell 4 rfl
    have cLB5:=LB.cell 5 rfl
    go_wp2_with fail
    clear hw0
    refine (QS.out _ Bw0).mono ?_
    rintro _ w1 ⟨rfl, bb⟩
    clear cLA0 cLA1 cLA2 cLA3 cLA4 cLA5 cLB0 cLB1 cLB2 cLB3 cLB4 cLB5
    have Bw1:=bu Bw0 bb
    have sw1:=bb.size
    replace LA:=LA.up bb
    replace LB:=LB.up bb
    clear Bw0
    clear bb
    cases b3
    ·go_wp2
     go_ret
     exact ⟨rfl, Bw1⟩
    ·have cLA0:=LA.cell 0 rfl
     have cLA1:=LA.cell 1 rfl
     have cLA2:=LA.cell 2 rfl
     have cLA3:=LA.cell 3 rfl
     have cLA4:=LA.cell 4 rfl
     have cLA5:=LA.cell 5 rfl
     have cLB0:=LB.cell 0 rfl
     have cLB1:=LB.cell 1 rfl
     have cLB2:=LB.cell 2 rfl
     have cLB3:=LB.cell 3 rfl
     have cLB4:=LB.cell 4 rfl
     have cLB5:=LB.cell 5 rfl
     go_wp2
     go_ret
     exact ⟨rfl, Bw1⟩
   ·have e3 : decide (d = d') = false:=by simpa using h3
    have hy:=str_ne h3
    rw [e3]
    clear h1 h2 h3 e3
    obtain ⟨w0, hw0, Bw0, LA, LB, zw0⟩:=bx2 w #[.int .i64 vo,.int .i64 lo,.int .i64 v,.string s,.slice ao xs.length ca,.string d] 43 #[.int .i64 vo',.int .i64 lo',.int .i64 v',.string s',.slice bo ys.length cb,.string d'] 43
    go_enter Tryz.func72, Tryz.ntmps72
    have cLA0:=LA.cell 0 rfl
    have cLA1:=LA.cell 1 rfl
    have cLA2:=LA.cell 2 rfl
    have cLA3:=LA.cell 3 rfl
    have cLA4:=LA.cell 4 rfl
    have cLA5:=LA.cell 5 rfl
    have cLB0:=LB.cell 0 rfl
    have cLB1:=LB.cell 1 rfl
    have cLB2:=LB.cell 2 rfl
    have cLB3:=LB.cell 3 rfl
    have cLB4:=LB.cell 4 rfl
    have cLB5:=LB.cell 5 rfl
    go_wp2_with fail
    clear hw0
    refine (QS.out _ Bw0).mono ?_
    rintro _ w1 ⟨rfl, bb⟩
    clear cLA0 cLA1 cLA2 cLA3 cLA4 cLA5 cLB0 cLB1 cLB2 cLB3 cLB4 cLB5
    have Bw1:=bu Bw0 bb
    have sw1:=bb.size
    replace LA:=LA.up bb
    replace LB:=LB.up bb
    clear Bw0
    clear bb
    cases b3
    ·go_wp2
     go_ret
     exact ⟨rfl, Bw1⟩
    ·have cLA0:=LA.cell 0 rfl
     have cLA1:=LA.cell 1 rfl
     have cLA2:=LA.cell 2 rfl
     have cLA3:=LA.cell 3 rfl
     have cLA4:=LA.cell 4 rfl
     have cLA5:=LA.cell 5 rfl
     have cLB0:=LB.cell 0 rfl
     have cLB1:=LB.cell 1 rfl
     have cLB2:=LB.cell 2 rfl
     have cLB3:=LB.cell 3 rfl
     have cLB4:=LB.cell 4 rfl
     have cLB5:=LB.cell 5 rfl
     go_wp2
     go_ret
     exact ⟨rfl, Bw1⟩
  ·have e2 : (lo == lo') = false:=by simpa using h2
   rw [e2]
   simp only [Bool.true_and, Bool.false_and]
   clear h1 h2 QS
   obtain ⟨w0, hw0, Bw0, LA, LB, zw0⟩:=bx2 w #[.int .i64 vo,.int .i64 lo,.int .i64 v,.string s,.slice ao xs.length ca,.string d] 43 #[.int .i64 vo',.int .i64 lo',.int .i64 v',.string s',.slice bo ys.length cb,.string d'] 43
   go_enter Tryz.func72, Tryz.ntmps72
   have cLA0:=LA.cell 0 rfl
   have cLA1:=LA.cell 1 rfl
   have cLA2:=LA.cell 2 rfl
   have cLA3:=LA.cell 3 rfl
   have cLA4:=LA.cell 4 rfl
   have cLA5:=LA.cell 5 rfl
   have cLB0:=LB.cell 0 rfl
   have cLB1:=LB.cell 1 rfl
   have cLB2:=LB.cell 2 rfl
   have cLB3:=LB.cell 3 rfl
   have cLB4:=LB.cell 4 rfl
   have cLB5:=LB.cell 5 rfl
   go_wp2
   go_ret
   exact ⟨rfl, Bw0⟩
 ·have e1 : (vo == vo') = false:=by simpa using h1
  rw [e1]
  simp only [Bool.false_and]
  clear h1 QS
  obtain ⟨w0, hw0, Bw0, LA, LB, zw0⟩:=bx2 w #[.int .i64 vo,.int .i64 lo,.int .i64 v,.string s,.slice ao xs.length ca,.string d] 43 #[.int .i64 vo',.int .i64 lo',.int .i64 v',.string s',.slice bo ys.length cb,.string d'] 43
  go_enter Tryz.func72, Tryz.ntmps72
  have cLA0:=LA.cell 0 rfl
  have cLA1:=LA.cell 1 rfl
  have cLA2:=LA.cell 2 rfl
  have cLA3:=LA.cell 3 rfl
  have cLA4:=LA.cell 4 rfl
  have cLA5:=LA.cell 5 rfl
  have cLB0:=LB.cell 0 rfl
  have cLB1:=LB.cell 1 rfl
  have cLB2:=LB.cell 2 rfl
  have cLB3:=LB.cell 3 rfl
  have cLB4:=LB.cell 4 rfl
  have cLB5:=LB.cell 5 rfl
  go_wp2
  go_ret
  exact ⟨rfl, Bw0⟩

theorem specSafeSame (vo lo v : Int) (s : ByteArray) (ao : Option Addr) (ca : Nat) (xs : List Int) (d : ByteArray) (vo' lo' v' : Int) (s' : ByteArray) (bo : Option Addr) (cb : Nat) (ys : List Int) (d' : ByteArray) (w : World) (ha : RI w (.slice ao xs.length ca) xs) (hb : RI w (.slice bo ys.length cb) ys) :
 Calls Tryz.prog 70 #[sv vo lo v s (.slice ao xs.length ca) d, sv vo' lo' v' s' (.slice bo ys.length cb) d'] w fun e w' => e = .returned (.bool (ssamB vo lo v s xs d vo' lo' v' s' ys d')) ∧ Below w.heap.size w w' := by
 have QS:=hide fun w' (b : Below w.heap.size w w') => specQcSame v v' s s' (.slice ao xs.length ca) (.slice bo ys.length cb) xs ys w' (ha.below b) (hb.below b)
 unfold ssamB
 generalize alikeB v v' s s' xs ys = b3 at *
 clear ha hb
 by_cases h1 : vo = vo'
 ·have e1 : (vo == vo') = true:=by simpa using h1
  rw [e1]
  by_cases h2 : lo = lo'
  ·have e2 : (lo == lo') = true:=by simpa using h2
   rw [e2]
   simp only [Bool.true_and]
   by_cases h3 : d = d'
   ·have e3 : decide (d = d') = true:=by simpa using h3
    have hy : (d.toList == d'.toList) = true:=by simp [h3]
    rw [e3]
    clear h1 h2 h3 e3
    obtain ⟨w0, hw0, Bw0, LA, LB, zw0⟩:=bx2 w #[.int .i64 vo,.int .i64 lo,.int .i64 v,.string s,.slice ao xs.length ca,.string d] 43 #[.int .i64 vo',.int .i64 lo',.int .i64 v',.string s',.slice bo ys.length cb,.string d'] 43
    go_enter Tryz.func70, Tryz.ntmps70
    have cLA0:=LA.cell 0 rfl
    have cLA1:=LA.cell 1 rfl
    have cLA2:=LA.cell 2 rfl
    have cLA3:=LA.cell 3 rfl
    have cLA4:=LA.cell 4 rfl
    have cLA5:=LA.cell 5 rfl
    have cLB0:=LB.cell 0 rfl
    have cLB1:=LB.cell 1 rfl
    have cLB2:=LB.cell 2 rfl
    have cLB3:=LB.cell 3 rfl
    have cLB4:=LB.cell 4 rfl
    have cLB5:=LB.cell 5 rfl
    go_wp2_with fail
    clear hw0
    refine (QS.out _ Bw0).mono ?_
    rintro _ w1 ⟨rfl, bb⟩
    clear cLA0 cLA1 cLA2 cLA3 cLA4 cLA5 cLB0 cLB1 cLB2 cLB3 cLB4 cLB5
    have Bw1:=bu Bw0 bb
    have sw1:=bb.size
    replace LA:=LA.up bb
    replace LB:=LB.up bb
    clear Bw0
    clear bb
    cases b3
    ·go_wp2
     go_ret
     exact ⟨rfl, Bw1⟩
    ·have cLA0:=LA.cell 0 rfl
     have cLA1:=LA.cell 1 rfl
     have cLA2:=LA.cell 2 rfl
     have cLA3:=LA.cell 3 rfl
     have cLA4:=LA.cell 4 rfl
     have cLA5:=LA.cell 5 rfl
     have cLB0:=LB.cell 0 rfl
     have cLB1:=LB.cell 1 rfl
     have cLB2:=LB.cell 2 rfl
     have cLB3:=LB.cell 3 rfl
     have cLB4:=LB.cell 4 rfl
     have cLB5:=LB.cell 5 rfl
     go_wp2
     go_ret
     exact ⟨rfl, Bw1⟩
   ·have e3 : decide (d = d') = false:=by simpa using h3
    have hy:=str_ne h3
    rw [e3]
    clear h1 h2 h3 e3
    obtain ⟨w0, hw0, Bw0, LA, LB, zw0⟩:=bx2 w #[.int .i64 vo,.int .i64 lo,.int .i64 v,.string s,.slice ao xs.length ca,.string d] 43 #[.int .i64 vo',.int .i64 lo',.int .i64 v',.string s',.slice bo ys.length cb,.string d'] 43
    go_enter Tryz.func70, Tryz.ntmps70
    have cLA0:=LA.cell 0 rfl
    have cLA1:=LA.cell 1 rfl
    have cLA2:=LA.cell 2 rfl
    have cLA3:=LA.cell 3 rfl
    have cLA4:=LA.cell 4 rfl
    have cLA5:=LA.cell 5 rfl
    have cLB0:=LB.cell 0 rfl
    have cLB1:=LB.cell 1 rfl
    have cLB2:=LB.cell 2 rfl
    have cLB3:=LB.cell 3 rfl
    have cLB4:=LB.cell 4 rfl
    have cLB5:=LB.cell 5 rfl
    go_wp2_with fail
    clear hw0
    refine (QS.out _ Bw0).mono ?_
    rintro _ w1 ⟨rfl, bb⟩
    clear cLA0 cLA1 cLA2 cLA3 cLA4 cLA5 cLB0 cLB1 cLB2 cLB3 cLB4 cLB5
    have Bw1:=bu Bw0 bb
    have sw1:=bb.size
    replace LA:=LA.up bb
    replace LB:=LB.up bb
    clear Bw0
    clear bb
    cases b3
    ·go_wp2
     go_ret
     exact ⟨rfl, Bw1⟩
    ·have cLA0:=LA.cell 0 rfl
     have cLA1:=LA.cell 1 rfl
     have cLA2:=LA.cell 2 rfl
     have cLA3:=LA.cell 3 rfl
     have cLA4:=LA.cell 4 rfl
     have cLA5:=LA.cell 5 rfl
     have cLB0:=LB.cell 0 rfl
     have cLB1:=LB.cell 1 rfl
     have cLB2:=LB.cell 2 rfl
     have cLB3:=LB.cell 3 rfl
     have cLB4:=LB.cell 4 rfl
     have cLB5:=LB.cell 5 rfl
     go_wp2
     go_ret
     exact ⟨rfl, Bw1⟩
  ·have e2 : (lo == lo') = false:=by simpa using h2
   rw [e2]
   simp only [Bool.true_and, Bool.false_and]
   clear h1 h2 QS
   obtain ⟨w0, hw0, Bw0, LA, LB, zw0⟩:=bx2 w #[.int .i64 vo,.int .i64 lo,.int .i64 v,.string s,.slice ao xs.length ca,.string d] 43 #[.int .i64 vo',.int .i64 lo',.int .i64 v',.string s',.slice bo ys.length cb,.string d'] 43
   go_enter Tryz.func70, Tryz.ntmps70
   have cLA0:=LA.cell 0 rfl
   have cLA1:=LA.cell 1 rfl
   have cLA2:=LA.cell 2 rfl
   have cLA3:=LA.cell 3 rfl
   have cLA4:=LA.cell 4 rfl
   have cLA5:=LA.cell 5 rfl
   have cLB0:=LB.cell 0 rfl
   have cLB1:=LB.cell 1 rfl
   have cLB2:=LB.cell 2 rfl
   have cLB3:=LB.cell 3 rfl
   have cLB4:=LB.cell 4 rfl
   have cLB5:=LB.cell 5 rfl
   go_wp2
   go_ret
   exact ⟨rfl, Bw0⟩
 ·have e1 : (vo == vo') = false:=by simpa using h1
  rw [e1]
  simp only [Bool.false_and]
  clear h1 QS
  obtain ⟨w0, hw0, Bw0, LA, LB, zw0⟩:=bx2 w #[.int .i64 vo,.int .i64 lo,.int .i64 v,.string s,.slice ao xs.length ca,.string d] 43 #[.int .i64 vo',.int .i64 lo',.int .i64 v',.string s',.slice bo ys.length cb,.string d'] 43
  go_enter Tryz.func70, Tryz.ntmps70
  have cLA0:=LA.cell 0 rfl
  have cLA1:=LA.cell 1 rfl
  have cLA2:=LA.cell 2 rfl
  have cLA3:=LA.cell 3 rfl
  have cLA4:=LA.cell 4 rfl
  have cLA5:=LA.cell 5 rfl
  have cLB0:=LB.cell 0 rfl
  have cLB1:=LB.cell 1 rfl
  have cLB2:=LB.cell 2 rfl
  have cLB3:=LB.cell 3 rfl
  have cLB4:=LB.cell 4 rfl
  have cLB5:=LB.cell 5 rfl
  go_wp2
  go_ret
  exact ⟨rfl, Bw0⟩

theorem implSafeNew (w : World) :
 Calls Tryz.prog 59 #[] w fun e w' => e = .returned (sv 0 0 0 ⟨#[]⟩ (.slice none 0 0) ⟨#[]⟩) ∧ Below w.heap.size w w' := by
 obtain ⟨w0, hw0, Bw0, LZ, zw0⟩:=bx1 w #[.int .i64 0,.int .i64 0,.int .i64 0,.string ⟨#[]⟩,.slice none 0 0,.string ⟨#[]⟩] 43
 go_enter Tryz.func59, Tryz.ntmps59
 go_wp2_with fail
 clear hw0
 refine (implQcFirst _).mono ?_
 rintro _ w1 ⟨rfl, bb⟩
 have Bw1:=bu Bw0 bb
 have sw1:=bb.size
 replace LZ:=LZ.up bb
 clear Bw0
 clear bb
 have K6:=kp6 w1 (w.heap.size) (.int .i64 0) (.int .i64 0) (.int .i64 0) (.string ⟨#[]⟩) (.slice none 0 0) (.string ⟨#[]⟩)
 have cLZ0:=LZ.cell 0 rfl
 have cLZ1:=LZ.cell 1 rfl
 have cLZ2:=LZ.cell 2 rfl
 have cLZ3:=LZ.cell 3 rfl
 have cLZ4:=LZ.cell 4 rfl
 have cLZ5:=LZ.cell 5 rfl
 have fLZ:=LZ.frozen
 go_wp2
 refine bodyPost_ret (v := sv 0 0 0 ⟨#[]⟩ (.slice none 0 0) ⟨#[]⟩) (by simp [results, Tryz.results59, go_sem, cLZ0, cLZ1, cLZ2, cLZ3, cLZ4, cLZ5]) rfl ?_
 exact ⟨rfl, Below.kp Bw1 K6 Bw1.size (fun k hk => by omega)⟩

theorem specSafeNew (w : World) :
 Calls Tryz.prog 131 #[] w fun e w' => e = .returned (sv 0 0 0 ⟨#[]⟩ (.slice none 0 0) ⟨#[]⟩) ∧ Below w.heap.size w w' := by
 obtain ⟨w0, hw0, Bw0, LZ, zw0⟩:=bx1 w #[.int .i64 0,.int .i64 0,.int .i64 0,.string ⟨#[]⟩,.slice none 0 0,.string ⟨#[]⟩] 43
 go_enter Tryz.func131, Tryz.ntmps131
 have K6:=kp6 w0 (w.heap.size) (.int .i64 0) (.int .i64 0) (.int .i64 0) (.string ⟨#[]⟩) (.slice none 0 0) (.string ⟨#[]⟩)
 have cLZ0:=LZ.cell 0 rfl
 have cLZ1:=LZ.cell 1 rfl
 have cLZ2:=LZ.cell 2 rfl
 have cLZ3:=LZ.cell 3 rfl
 have cLZ4:=LZ.cell 4 rfl
 have cLZ5:=LZ.cell 5 rfl
 have fLZ:=LZ.frozen
 go_wp2
 clear hw0
 refine bodyPost_ret (v := sv 0 0 0 ⟨#[]⟩ (.slice none 0 0) ⟨#[]⟩) (by simp [results, Tryz.results131, go_sem, cLZ0, cLZ1, cLZ2, cLZ3, cLZ4, cLZ5]) rfl ?_
 exact ⟨rfl, Below.kp Bw0 K6 Bw0.size (fun k hk => by omega)⟩
end Go.Proofs.YtndpjhiidmdlhaaGreatDoor
namespace Go.Proofs.YtndpjhiidmdlhaaGreatDoor
open Go.RowKit

def befP (a b : Pt) : Bool := decide (a.1 < b.1) || (decide (a.1 = b.1) && Op.bytesLess a.2.1.toList b.2.1.toList)
def rowP : List Pt → Bool
 | [] => true
 | [_] => true
 | a :: b :: t => befP a b && rowP (b :: t)

theorem less_irrefl (x : List UInt8) : Op.bytesLess x x = false := by
 induction x with
 | nil => rfl
 | cons a x ih => simp [Op.bytesLess, ih]
theorem less_total {x y : List UInt8} (h : Op.bytesLess x y = false) (hn : x ≠ y) : Op.bytesLess y x = true := by
 induction x generalizing y with
 | nil =>
  cases y with
  | nil => exact absurd rfl hn
  | cons b y => simp [Op.bytesLess] at h
 | cons a x ih =>
  cases y with
  | nil => rfl
  | cons b y =>
   simp only [Op.bytesLess, Bool.or_eq_false_iff, decide_eq_false_iff_not, Bool.and_eq_false_imp, beq_iff_eq] at h
   simp only [Op.bytesLess, Bool.or_eq_true, decide_eq_true_eq, Bool.and_eq_true, beq_iff_eq]
   by_cases e : a = b
   ·subst e
    exact .inr ⟨rfl, ih (h.2 rfl) (fun e => hn (by rw [e]))⟩
   ·left
    have h1:=h.1
    rw [UInt8.lt_iff_toNat_lt] at h1 ⊢
    have : a.toNat ≠ b.toNat:=fun e' => e (UInt8.toNat_inj.1 e')
    omega
end Go.Proofs.YtndpjhiidmdlhaaGreatDoor
namespace Go.Proofs.YtndpjhiidmdlhaaGreatDoor
open Go.RowKit
set_option linter.unusedSectionVars false
variable [∀ (n : Int) (s : List Int), Decidable (OkL n s)]

def cmpS (s t : ByteArray) : Int := if Op.bytesLess s.toList t.toList = true then -1 else if Op.bytesLess t.toList s.toList = true then 1 else 0
def cmpP (a b : Pt) : Int := if cmpI a.1 b.1 ≠ 0 then cmpI a.1 b.1 else cmpS a.2.1 b.2.1
theorem cmpS_lt (s t : ByteArray) : cmpS s t < 0 ↔ Op.bytesLess s.toList t.toList = true := by
 unfold cmpS
 split
 ·simp_all
 ·split <;> simp_all
theorem cmpP_lt (a b : Pt) : cmpP a b < 0 ↔ befP a b = true := by
 have hs:=cmpS_lt a.2.1 b.2.1
 unfold cmpP cmpI
 simp only [befP, Bool.or_eq_true, decide_eq_true_eq, Bool.and_eq_true]
 rcases Int.lt_trichotomy a.1 b.1 with h | h | h
 ·simp [h]
 ·simp [h, hs]
 ·have h1 : ¬ a.1 < b.1:=by omega
  have h2 : ¬ a.1 = b.1:=by omega
  simp [h, h1, h2]

theorem isNaN_i (x : Int) (w : World) : Calls Tryz.prog 243 #[.int .i64 x] w fun e w' => e = .returned (.bool false) ∧ w' = w := by
 go_enter Tryz.func243, Tryz.ntmps243
 go_wp2
 go_ret
 exact ⟨by simp, rfl⟩

theorem compare_i (x y : Int) (w : World) : Calls Tryz.prog 214 #[.int .i64 x,.int .i64 y] w fun e w' => e = .returned (.int .i64 (cmpI x y)) ∧ w' = w := by
 have NN:=hide isNaN_i
 unfold cmpI
 by_cases h1 : x < y
 ·rw [if_pos h1]
  go_enter Tryz.func214, Tryz.ntmps214
  go_wp2_with (first | (go_at_call 243; refine (NN.out _ _).mono ?_; rintro e w' ⟨rfl, rfl⟩))
  go_ret
  exact ⟨rfl, rfl⟩
 ·rw [if_neg h1]
  by_cases h2 : y < x
  ·rw [if_pos h2]
   go_enter Tryz.func214, Tryz.ntmps214
   go_wp2_with (first | (go_at_call 243; refine (NN.out _ _).mono ?_; rintro e w' ⟨rfl, rfl⟩))
   go_ret
   exact ⟨rfl, rfl⟩
  ·rw [if_neg h2]
   go_enter Tryz.func214, Tryz.ntmps214
   go_wp2_with (first | (go_at_call 243; refine (NN.out _ _).mono ?_; rintro e w' ⟨rfl, rfl⟩))
   go_ret
   exact ⟨rfl, rfl⟩

theorem isNaN_s (s : ByteArray) (w : World) : Calls Tryz.prog 244 #[.string s] w fun e w' => e = .returned (.bool false) ∧ w' = w := by
 go_enter Tryz.func244, Tryz.ntmps244
 go_wp2
 go_ret
 exact ⟨by simp, rfl⟩

theorem compare_s (s t : ByteArray) (w : World) : Calls Tryz.prog 216 #[.string s,.string t] w fun e w' => e = .returned (.int .i64 (cmpS s t)) ∧ w' = w := by
 have NN:=hide isNaN_s
 unfold cmpS
 by_cases h1 : Op.bytesLess s.toList t.toList = true
 ·rw [if_pos h1]
  go_enter Tryz.func216, Tryz.ntmps216
  go_wp2_with (first | (go_at_call 244; refine (NN.out _ _).mono ?_; rintro e w' ⟨rfl, rfl⟩))
  go_ret
  exact ⟨rfl, rfl⟩
 ·rw [if_neg h1]
  have h1 : Op.bytesLess s.toList t.toList = false:=by simpa using h1
  by_cases h2 : Op.bytesLess t.toList s.toList = true
  ·rw [if_pos h2]
   have h3 : (s.toList == t.toList) = false:=by
    simp only [beq_eq_false_iff_ne]; intro e; rw [e, less_irrefl] at h2; cases h2
   go_enter Tryz.func216, Tryz.ntmps216
   go_wp2_with (first | (go_at_call 244; refine (NN.out _ _).mono ?_; rintro e w' ⟨rfl, rfl⟩))
   go_ret
   exact ⟨rfl, rfl⟩
  ·rw [if_neg h2]
   have h2 : Op.bytesLess t.toList s.toList = false:=by simpa using h2
   have h3 : (s.toList == t.toList) = true:=by
    rw [beq_iff_eq]; exact Classical.byContradiction fun e => by have := less_total h1 e; rw [h2] at this; cases this
   go_enter Tryz.func216, Tryz.ntmps216
   go_wp2_with (first | (go_at_call 244; refine (NN.out _ _).mono ?_; rintro e w' ⟨rfl, rfl⟩))
   go_ret
   exact ⟨rfl, rfl⟩

theorem or_two (a b : Int) (g : Nat) (w : World) (h0 : w.cell? ⟨g, 0, none⟩ = some (.int .i64 a)) (h1 : w.cell? ⟨g, 1, none⟩ = some (.int .i64 b)) :
 Calls Tryz.prog 213 #[.slice (some ⟨g, 0, none⟩) 2 2] w fun e w' => e = .returned (.int .i64 (if a ≠ 0 then a else b)) ∧ w' = w := by
 by_cases ha : a = 0
 ·have e : (if a ≠ 0 then a else b) = b:=by simp [ha]
  rw [e]
  subst ha
  clear e
  by_cases hb : b = 0
  ·subst hb
   go_enter Tryz.func213, Tryz.ntmps213
   go_wp2
   refine wp_loop_rounds 3 ?_
   rw [rounds_succ]
   go_wp2
   rw [rounds_succ]
   go_wp2
   rw [rounds_succ]
   go_wp2
   go_ret
   exact ⟨rfl, rfl⟩
  ·go_enter Tryz.func213, Tryz.ntmps213
   go_wp2
   refine wp_loop_rounds 2 ?_
   rw [rounds_succ]
   go_wp2
   rw [rounds_succ]
   go_wp2
   go_ret
   exact ⟨rfl, rfl⟩
 ·have e : (if a ≠ 0 then a else b) = a:=by simp [ha]
  rw [e]
  clear e
  go_enter Tryz.func213, Tryz.ntmps213
  go_wp2
  refine wp_loop_rounds 1 ?_
  rw [rounds_succ]
  go_wp2
  go_ret
  exact ⟨rfl, rfl⟩
end Go.Proofs.YtndpjhiidmdlhaaGreatDoor
namespace Go.Proofs.YtndpjhiidmdlhaaGreatDoor
open Go.RowKit
set_option linter.unusedSectionVars false
variable [∀ (a b c d : Int), Decidable (Ok4 a b c d)]

def Cells4K (w : World) (g k : Nat) (t : T4) : Prop := w.cell? ⟨g, k * 4, none⟩ = some (.int .i64 t.1) ∧ w.cell? ⟨g, k * 4 + 1, none⟩ = some (.int .i64 t.2.1) ∧ w.cell? ⟨g, k * 4 + 2, none⟩ = some (.int .i64 t.2.2.1) ∧ w.cell? ⟨g, k * 4 + 3, none⟩ = some (.int .i64 t.2.2.2)
end Go.Proofs.YtndpjhiidmdlhaaGreatDoor
namespace Go.Proofs.YtndpjhiidmdlhaaGreatDoor
open Go.RowKit
set_option linter.unusedSectionVars false
variable [∀ (n : Int) (s : List Int), Decidable (OkL n s)]
variable [∀ (a b c d : Int), Decidable (Ok4 a b c d)]

def Bef (x y : T4) : Prop := x.1 < y.1 ∨ (x.1 = y.1 ∧ x.2.2.2 < y.2.2.2)
variable [∀ (x y : T4), Decidable (Bef x y)]
def cmpT (x y : T4) : Int := if cmpI x.1 y.1 ≠ 0 then cmpI x.1 y.1 else cmpI x.2.2.2 y.2.2.2
theorem cmpT_lt (x y : T4) : cmpT x y < 0 ↔ Bef x y := by
 unfold cmpT cmpI Bef
 repeat' split
 all_goals omega
theorem Bef.trans {x y z : T4} (h : Bef x y) (k : Bef y z) : Bef x z := by unfold Bef at *; omega
theorem isNaN_no (x : Int) (w : World) : Calls Tryz.prog 243 #[.int .i64 x] w fun e w' => e = .returned (.bool false) ∧ w' = w := by
 go_enter Tryz.func243, Tryz.ntmps243
 go_wp2
 go_ret
 exact ⟨by simp, rfl⟩

theorem compare_any (x y : Int) (w : World) : Calls Tryz.prog 214 #[.int .i64 x,.int .i64 y] w fun e w' => e = .returned (.int .i64 (cmpI x y)) ∧ w' = w := by
 have NN:=hide isNaN_no
 unfold cmpI
 by_cases h1 : x < y
 ·rw [if_pos h1]
  go_enter Tryz.func214, Tryz.ntmps214
  go_wp2_with (first | (go_at_call 243; refine (NN.out _ _).mono ?_; rintro e w' ⟨rfl, rfl⟩))
  go_ret
  exact ⟨rfl, rfl⟩
 ·rw [if_neg h1]
  by_cases h2 : y < x
  ·rw [if_pos h2]
   go_enter Tryz.func214, Tryz.ntmps214
   go_wp2_with (first | (go_at_call 243; refine (NN.out _ _).mono ?_; rintro e w' ⟨rfl, rfl⟩))
   go_ret
   exact ⟨rfl, rfl⟩
  ·rw [if_neg h2]
   go_enter Tryz.func214, Tryz.ntmps214
   go_wp2_with (first | (go_at_call 243; refine (NN.out _ _).mono ?_; rintro e w' ⟨rfl, rfl⟩))
   go_ret
   exact ⟨rfl, rfl⟩

theorem compareTx_any (x y : T4) (w : World) :
 Calls Tryz.prog 169 #[txv x.1 x.2.1 x.2.2.1 x.2.2.2, txv y.1 y.2.1 y.2.2.1 y.2.2.2] w fun e w' => e = .returned (.int .i64 (cmpT x y)) ∧ Below w.heap.size w w' := by
 have OR : Hid (∀ g w, w.cell? ⟨g, 0, none⟩ = some (.int .i64 (cmpI x.1 y.1)) → w.cell? ⟨g, 1, none⟩ = some (.int .i64 (cmpI x.2.2.2 y.2.2.2)) → Calls Tryz.prog 213 #[.slice (some ⟨g, 0, none⟩) 2 2] w fun e w' => e = .returned (.int .i64 (cmpT x y)) ∧ w' = w):=hide fun g w h0 h1 => or_two _ _ g w h0 h1
 generalize cmpT x y = q at *
 obtain ⟨xa, xb, xc, xd⟩:=x
 obtain ⟨ya, yb, yc, yd⟩:=y
 dsimp only at OR ⊢
 obtain ⟨w0, hw0⟩ : ∃ w0, (w.alloc (.cells (r4 xa xb xc xd) 84)).alloc (.cells (r4 ya yb yc yd) 84) = w0:=⟨_, rfl⟩
 have B0 : Below w.heap.size w w0:=hw0 ▸ ((Below.refl _ _).alloc (Nat.le_refl _) _).alloc (by simp) _
 have LX : Loc w0 w.heap.size (r4 xa xb xc xd):=hw0 ▸ (loc_at w _ _ rfl).alloc _
 have LY : Loc w0 (w.heap.size + 1) (r4 ya yb yc yd):=hw0 ▸ loc_at _ _ _ (by simp)
 have K : Hid (∀ w', Below w0.heap.size w0 w' → (w'.cell? ⟨w.heap.size, 0, none⟩ = some (.int .i64 xa) ∧ w'.cell? ⟨w.heap.size, 3, none⟩ = some (.int .i64 xd)) ∧ (w'.cell? ⟨w.heap.size + 1, 0, none⟩ = some (.int .i64 ya) ∧ w'.cell? ⟨w.heap.size + 1, 3, none⟩ = some (.int .i64 yd))):=hide fun w' hb => by
  have l:=LX.up hb
  have m:=LY.up hb
  exact ⟨⟨l.cell 0 rfl, l.cell 3 rfl⟩, ⟨m.cell 0 rfl, m.cell 3 rfl⟩⟩
 go_enter Tryz.func169, Tryz.ntmps169
 go_wp2_with fail
 clear hw0
 refine wp_region_noPanic ?_
 refine wp_region_held_drew (S := (fun w' => (w'.cell? ⟨w.heap.size, 0, none⟩ = some (.int .i64 xa) ∧ w'.cell? ⟨w.heap.size, 3, none⟩ = some (.int .i64 xd)) ∧ (w'.cell? ⟨w.heap.size + 1, 0, none⟩ = some (.int .i64 ya) ∧ w'.cell? ⟨w.heap.size + 1, 3, none⟩ = some (.int .i64 yd)))) (by kernel_rfl) (K.out _ (Below.drew (Below.refl _ _))) (fun hHeld => ?_)
 obtain ⟨wd, hd⟩ : ∃ wd, w0.drew = wd:=⟨_, rfl⟩
 have bd : Below w0.heap.size w0 wd:=hd ▸ Below.drew (Below.refl _ _)
 have szd:=bd.size
 rw [hd] at hHeld ⊢
 clear hd
 refine' tj 0 5 rfl ?_ ?_;rotate_left
 ·intro w h;go_simp;try rfl
 simp only [pU]
 refine' tj 1 6 rfl ?_ ?_;rotate_left
 ·intro w h;go_simp;try rfl
 simp only [pU]
 refine' tj 2 7 rfl ?_ ?_;rotate_left
 ·intro w h;go_simp;try rfl
 simp only [pU]
 refine' tj 3 8 rfl ?_ ?_;rotate_left
 ·intro w h;go_simp;try rfl
 simp only [pU]
 refine' tj 5 10 rfl ?_ ?_;rotate_left
 ·intro w h;go_simp;try rfl
 simp only [pU]
 refine' tj 6 11 rfl ?_ ?_;rotate_left
 ·intro w h;go_simp;try rfl
 simp only [pU]
 refine' tj 7 12 rfl ?_ ?_;rotate_left
 ·intro w h;go_simp;try rfl
 simp only [pU]
 refine' tj 8 13 rfl ?_ ?_;rotate_left
 ·intro w h;go_simp;try rfl
 simp only [pU]
 refine rd 4 rfl (fun KK hKK => ?_)
 go_simp
 refine (compare_any xa ya _).mono ?_
 rintro _ w9 ⟨rfl, e9⟩
 rw [e9]
 clear e9
 clear hHeld
 refine hKK.out _ _ (K.out _ bd) (fun hHeld => ?_)
 clear hKK KK
 refine rd 9 rfl (fun KK hKK => ?_)
 go_simp
 refine (compare_any xd yd _).mono ?_
 rintro _ w9 ⟨rfl, e9⟩
 rw [e9]
 clear e9
 clear hHeld
 refine hKK.out _ _ (K.out _ bd) (fun hHeld => ?_)
 clear hKK KK
 refine rd 10 rfl (fun KK hKK => ?_)
 go_simp
 obtain ⟨we, he⟩ : ∃ x, wd.alloc (.cells #[.int .i64 (cmpI xa ya),.int .i64 (cmpI xd yd)] 3) = x:=⟨_, rfl⟩
 have be : Below w0.heap.size w0 we:=he ▸ bd.alloc szd _
 have LE : Loc we wd.heap.size #[.int .i64 (cmpI xa ya),.int .i64 (cmpI xd yd)]:=he ▸ loc_at wd _ _ rfl
 rw [he]
 clear hHeld
 refine hKK.out _ _ (K.out _ be) (fun hHeld => ?_)
 clear hKK KK
 refine rd 11 rfl (fun KK hKK => ?_)
 go_simp
 refine (OR.out _ _ (LE.cell 0 rfl) (LE.cell 1 rfl)).mono ?_
 rintro _ w9 ⟨rfl, e9⟩
 rw [e9]
 clear e9
 clear hHeld
 refine hKK.out _ _ (K.out _ be) (fun hHeld => ?_)
 clear hKK KK
 refine' tj 12 4 rfl ?_ ?_;rotate_left
 ·intro w h;go_simp;try rfl
 simp only [pU]
 clear hHeld
 refine wdn ?_
 go_wp2
 go_ret
 exact ⟨rfl, bu B0 be⟩

theorem before_any (x y : T4) (w : World) :
 Calls Tryz.prog 99 #[txv x.1 x.2.1 x.2.2.1 x.2.2.2, txv y.1 y.2.1 y.2.2.1 y.2.2.2] w fun e w' => e = .returned (.bool (decide (Bef x y))) ∧ Below w.heap.size w w' := by
 obtain ⟨xa, xb, xc, xd⟩:=x
 obtain ⟨ya, yb, yc, yd⟩:=y
 dsimp only
 by_cases h1 : xa < ya
 ·rw [show decide (Bef (xa, xb, xc, xd) (ya, yb, yc, yd)) = true from decide_eq_true (Or.inl h1)]
  go_enter Tryz.func99, Tryz.ntmps99
  go_wp2
  go_ret
  exact ⟨rfl, ((Below.refl _ _).alloc (Nat.le_refl _) _).alloc (by simp) _⟩
 ·by_cases h2 : xa = ya
  ·have e : decide (Bef (xa, xb, xc, xd) (ya, yb, yc, yd)) = decide (xd < yd):=by
    have : Bef (xa, xb, xc, xd) (ya, yb, yc, yd) ↔ xd < yd:=by unfold Bef; dsimp only; omega
    simp only [this]
   rw [e]
   clear e
   subst h2
   go_enter Tryz.func99, Tryz.ntmps99
   go_wp2
   go_ret
   exact ⟨rfl, ((Below.refl _ _).alloc (Nat.le_refl _) _).alloc (by simp) _⟩
  ·rw [show decide (Bef (xa, xb, xc, xd) (ya, yb, yc, yd)) = false from decide_eq_false (by unfold Bef; dsimp only; omega)]
   have h2 : (xa == ya) = false:=by simpa using h2
   go_enter Tryz.func99, Tryz.ntmps99
   go_wp2
   go_ret
   exact ⟨rfl, ((Below.refl _ _).alloc (Nat.le_refl _) _).alloc (by simp) _⟩
end Go.Proofs.YtndpjhiidmdlhaaGreatDoor
