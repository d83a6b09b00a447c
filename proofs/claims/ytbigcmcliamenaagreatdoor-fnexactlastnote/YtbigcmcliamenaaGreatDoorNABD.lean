/- Texts that belong together: SafeOks, NoteQc, NoteQcOf. -/
import Derived.Test.YtbigcmcliamenaaGreatDoorNAAY
import Derived.Test.YtbigcmcliamenaaGreatDoorNABC
import Derived.Test.YtbigcmcliamenaaGreatDoorNAAT
import Derived.Test.YtbigcmcliamenaaGreatDoorNAAS
import Derived.Test.YtbigcmcliamenaaGreatDoorNAAU
import Derived.Deep.DeepCutAuto
import Derived.Laws.EntriesVeiled
namespace Go.Proofs.YtbigcmcliamenaaGreatDoor
open Go.RowKit
set_option linter.unusedSectionVars false
variable [∀ (a b c d : Int), Decidable (Ok4 a b c d)]
variable [∀ (a b c d : Nat), Decidable (okN a b c d)]
variable [∀ (last : Int) (s : St), Decidable (GoodSt last s)]
variable [∀ (x : T4), Decidable (OkT x)]
variable [∀ (n : Int) (s : List Int), Decidable (OkL n s)]
variable [∀ (n f : Int), Decidable (COk n f)]

theorem withinB (x : Int) (w : World) : Calls Tryz.prog 78 #[.int .i64 x, .int .i64 0, .int .i64 60] w fun e w' => e = .returned (.bool (inB x)) ∧ Below w.heap.size w w' := by
 by_cases h : 0 ≤ x ∧ x ≤ 60
 ·have e : inB x = true := by simp [inB, h]
  rw [e]
  refine (within_yes x 0 60 w h.1 h.2).mono ?_
  rintro e w' ⟨rfl, rfl⟩
  exact ⟨rfl, Below.refl _ _⟩
 ·have e : inB x = false := by simp [inB]; omega
  rw [e]
  refine (within_no x 0 60 w (by omega)).mono ?_
  rintro e w' ⟨rfl, rfl⟩
  exact ⟨rfl, Below.refl _ _⟩
theorem l1InB (x : Int) (w : World) : Calls Tryz.prog 99 #[.int .i64 x, .int .i64 0, .int .i64 60] w fun e w' => e = .returned (.bool (inB x)) ∧ Below w.heap.size w w' := by
 by_cases h : 0 ≤ x ∧ x ≤ 60
 ·have e : inB x = true := by simp [inB, h]
  rw [e]
  refine (in_yes x 0 60 w h.1 h.2).mono ?_
  rintro e w' ⟨rfl, rfl⟩
  exact ⟨rfl, Below.refl _ _⟩
 ·have e : inB x = false := by simp [inB]; omega
  rw [e]
  refine (in_no x 0 60 w (by omega)).mono ?_
  rintro e w' ⟨rfl, rfl⟩
  exact ⟨rfl, Below.refl _ _⟩
set_option maxHeartbeats 16000000 in
set_option maxRecDepth 100000 in
theorem implSafeOk (n f : Int) (vo lo v : Int) (s : ByteArray) (ao : Option Addr) (ca : Nat) (xs : List Int) (d : ByteArray) (w : World) (hs : s.size ≤ 33554432) (hd : d.size ≤ 33554432) (hE : Env w) (ha : RI w (.slice ao xs.length ca) xs) :
 Calls Tryz.prog 30 #[cv n f, sv vo lo v s (.slice ao xs.length ca) d] w fun e w' => e = .returned (.bool (sokB n f vo lo v s xs d)) ∧ Below w.heap.size w w' := by
 have QO := hide fun w' (b : Below w.heap.size w w') => implQcOk n f v s ao ca xs w' hs (hE.below b) (ha.below b (Nat.le_refl _))
 have NO := hide fun w' (b : Below w.heap.size w w') => implNameOk d w' hd (hE.below b)
 have I1 := hide fun w' => withinB vo w'
 have I2 := hide fun w' => withinB lo w'
 unfold sokB
 generalize inB vo = b1 at *
 generalize inB lo = b2 at *
 generalize qokB n f v s xs = b3 at *
 generalize (stepsAns d).isSome = b4 at *
 clear ha hE
 obtain ⟨w0, hw0⟩ : ∃ w0, ((w.alloc (.cells #[.int .i64 n, .int .i64 f] 25)).alloc (.cells #[.int .i64 vo, .int .i64 lo, .int .i64 v, .string s, .slice ao xs.length ca, .string d] 30)) = w0 := ⟨_, rfl⟩
 have Bw0 : Below w.heap.size w w0 := hw0 ▸ ((Below.refl _ _).alloc (Nat.le_refl _) _).alloc (by simp) _
 have LC : Loc w0 (w.heap.size) #[.int .i64 n, .int .i64 f] := hw0 ▸ (loc_at (w) _ _ rfl).alloc _
 have LS : Loc w0 (w.heap.size + 1) #[.int .i64 vo, .int .i64 lo, .int .i64 v, .string s, .slice ao xs.length ca, .string d] := hw0 ▸ loc_at (w.alloc _) _ _ (by simp)
 have zw0 : w.heap.size + 1 + 1 ≤ w0.heap.size := by rw [← hw0]; simp
 go_enter Tryz.func30, Tryz.ntmps30
 have cLS0 := LS.cell 0 rfl
 have cLS1 := LS.cell 1 rfl
 have cLS2 := LS.cell 2 rfl
 have cLS3 := LS.cell 3 rfl
 have cLS4 := LS.cell 4 rfl
 have cLS5 := LS.cell 5 rfl
 go_wp2_with fail
 clear hw0
 refine (unhide I1 _).mono ?_
 rintro _ w1 ⟨rfl, bb⟩
 clear cLS0 cLS1 cLS2 cLS3 cLS4 cLS5
 have Bw1 := Bw0.trans (bb.mono Bw0.size)
 have sw1 := bb.size
 replace LC := LC.below bb LC.lt
 replace LS := LS.below bb LS.lt
 clear Bw0
 clear bb
 cases b1
 ·go_wp2
  go_ret
  exact ⟨rfl, Bw1⟩
 ·have cLS0 := LS.cell 0 rfl
  have cLS1 := LS.cell 1 rfl
  have cLS2 := LS.cell 2 rfl
  have cLS3 := LS.cell 3 rfl
  have cLS4 := LS.cell 4 rfl
  have cLS5 := LS.cell 5 rfl
  go_wp2_with fail
  refine (unhide I2 _).mono ?_
  rintro _ w2 ⟨rfl, bb⟩
  clear cLS0 cLS1 cLS2 cLS3 cLS4 cLS5
  have Bw2 := Bw1.trans (bb.mono Bw1.size)
  have sw2 := bb.size
  replace LC := LC.below bb LC.lt
  replace LS := LS.below bb LS.lt
  clear Bw1
  clear bb
  cases b2
  ·go_wp2
   go_ret
   exact ⟨rfl, Bw2⟩
  ·have cLC0 := LC.cell 0 rfl
   have cLC1 := LC.cell 1 rfl
   have cLS0 := LS.cell 0 rfl
   have cLS1 := LS.cell 1 rfl
   have cLS2 := LS.cell 2 rfl
   have cLS3 := LS.cell 3 rfl
   have cLS4 := LS.cell 4 rfl
   have cLS5 := LS.cell 5 rfl
   go_wp2_with fail
   refine (unhide QO _ Bw2).mono ?_
   rintro _ w3 ⟨rfl, bb⟩
   clear cLC0 cLC1 cLS0 cLS1 cLS2 cLS3 cLS4 cLS5
   have Bw3 := Bw2.trans (bb.mono Bw2.size)
   have sw3 := bb.size
   replace LC := LC.below bb LC.lt
   replace LS := LS.below bb LS.lt
   clear Bw2
   clear bb
   cases b3
   ·go_wp2
    go_ret
    exact ⟨rfl, Bw3⟩
   ·have cLS0 := LS.cell 0 rfl
    have cLS1 := LS.cell 1 rfl
    have cLS2 := LS.cell 2 rfl
    have cLS3 := LS.cell 3 rfl
    have cLS4 := LS.cell 4 rfl
    have cLS5 := LS.cell 5 rfl
    go_wp2_with fail
    refine (unhide NO _ Bw3).mono ?_
    rintro _ w4 ⟨rfl, bb⟩
    clear cLS0 cLS1 cLS2 cLS3 cLS4 cLS5
    have Bw4 := Bw3.trans (bb.mono Bw3.size)
    have sw4 := bb.size
    replace LC := LC.below bb LC.lt
    replace LS := LS.below bb LS.lt
    clear Bw3
    clear bb
    go_wp2
    go_ret
    exact ⟨rfl, Bw4⟩

set_option maxHeartbeats 16000000 in
set_option maxRecDepth 100000 in
theorem specSafeOk (n f : Int) (vo lo v : Int) (s : ByteArray) (ao : Option Addr) (ca : Nat) (xs : List Int) (d : ByteArray) (w : World) (hs : s.size ≤ 1048576) (hd : d.size ≤ 1048576) (ha : RI w (.slice ao xs.length ca) xs) :
 Calls Tryz.prog 61 #[cv n f, sv vo lo v s (.slice ao xs.length ca) d] w fun e w' => e = .returned (.bool (sokB n f vo lo v s xs d)) ∧ Below w.heap.size w w' := by
 have QO := hide fun w' (b : Below w.heap.size w w') => specQcOk n f v s ao ca xs w' hs (ha.below b (Nat.le_refl _))
 have NO := hide fun w' (b : Below w.heap.size w w') => specNameOk d w' (by omega)
 have I1 := hide fun w' => l1InB vo w'
 have I2 := hide fun w' => l1InB lo w'
 unfold sokB
 generalize inB vo = b1 at *
 generalize inB lo = b2 at *
 generalize qokB n f v s xs = b3 at *
 generalize (stepsAns d).isSome = b4 at *
 clear ha
 obtain ⟨w0, hw0⟩ : ∃ w0, ((w.alloc (.cells #[.int .i64 n, .int .i64 f] 25)).alloc (.cells #[.int .i64 vo, .int .i64 lo, .int .i64 v, .string s, .slice ao xs.length ca, .string d] 30)) = w0 := ⟨_, rfl⟩
 have Bw0 : Below w.heap.size w w0 := hw0 ▸ ((Below.refl _ _).alloc (Nat.le_refl _) _).alloc (by simp) _
 have LC : Loc w0 (w.heap.size) #[.int .i64 n, .int .i64 f] := hw0 ▸ (loc_at (w) _ _ rfl).alloc _
 have LS : Loc w0 (w.heap.size + 1) #[.int .i64 vo, .int .i64 lo, .int .i64 v, .string s, .slice ao xs.length ca, .string d] := hw0 ▸ loc_at (w.alloc _) _ _ (by simp)
 have zw0 : w.heap.size + 1 + 1 ≤ w0.heap.size := by rw [← hw0]; simp
 go_enter Tryz.func61, Tryz.ntmps61
 have cLS0 := LS.cell 0 rfl
 have cLS1 := LS.cell 1 rfl
 have cLS2 := LS.cell 2 rfl
 have cLS3 := LS.cell 3 rfl
 have cLS4 := LS.cell 4 rfl
 have cLS5 := LS.cell 5 rfl
 go_wp2_with fail
 clear hw0
 refine (unhide I1 _).mono ?_
 rintro _ w1 ⟨rfl, bb⟩
 clear cLS0 cLS1 cLS2 cLS3 cLS4 cLS5
 have Bw1 := Bw0.trans (bb.mono Bw0.size)
 have sw1 := bb.size
 replace LC := LC.below bb LC.lt
 replace LS := LS.below bb LS.lt
 clear Bw0
 clear bb
 cases b1
 ·go_wp2
  go_ret
  exact ⟨rfl, Bw1⟩
 ·have cLS0 := LS.cell 0 rfl
  have cLS1 := LS.cell 1 rfl
  have cLS2 := LS.cell 2 rfl
  have cLS3 := LS.cell 3 rfl
  have cLS4 := LS.cell 4 rfl
  have cLS5 := LS.cell 5 rfl
  go_wp2_with fail
  refine (unhide I2 _).mono ?_
  rintro _ w2 ⟨rfl, bb⟩
  clear cLS0 cLS1 cLS2 cLS3 cLS4 cLS5
  have Bw2 := Bw1.trans (bb.mono Bw1.size)
  have sw2 := bb.size
  replace LC := LC.below bb LC.lt
  replace LS := LS.below bb LS.lt
  clear Bw1
  clear bb
  cases b2
  ·go_wp2
   go_ret
   exact ⟨rfl, Bw2⟩
  ·have cLC0 := LC.cell 0 rfl
   have cLC1 := LC.cell 1 rfl
   have cLS0 := LS.cell 0 rfl
   have cLS1 := LS.cell 1 rfl
   have cLS2 := LS.cell 2 rfl
   have cLS3 := LS.cell 3 rfl
   have cLS4 := LS.cell 4 rfl
   have cLS5 := LS.cell 5 rfl
   go_wp2_with fail
   refine (unhide QO _ Bw2).mono ?_
   rintro _ w3 ⟨rfl, bb⟩
   clear cLC0 cLC1 cLS0 cLS1 cLS2 cLS3 cLS4 cLS5
   have Bw3 := Bw2.trans (bb.mono Bw2.size)
   have sw3 := bb.size
   replace LC := LC.below bb LC.lt
   replace LS := LS.below bb LS.lt
   clear Bw2
   clear bb
   cases b3
   ·go_wp2
    go_ret
    exact ⟨rfl, Bw3⟩
   ·have cLS0 := LS.cell 0 rfl
    have cLS1 := LS.cell 1 rfl
    have cLS2 := LS.cell 2 rfl
    have cLS3 := LS.cell 3 rfl
    have cLS4 := LS.cell 4 rfl
    have cLS5 := LS.cell 5 rfl
    go_wp2_with fail
    refine (unhide NO _ Bw3).mono ?_
    rintro _ w4 ⟨rfl, bb⟩
    clear cLS0 cLS1 cLS2 cLS3 cLS4 cLS5
    have Bw4 := Bw3.trans (bb.mono Bw3.size)
    have sw4 := bb.size
    replace LC := LC.below bb LC.lt
    replace LS := LS.below bb LS.lt
    clear Bw3
    clear bb
    go_wp2
    go_ret
    exact ⟨rfl, Bw4⟩

set_option maxHeartbeats 16000000 in
set_option maxRecDepth 100000 in
theorem implSafeNew (w : World) :
 Calls Tryz.prog 31 #[] w fun e w' => e = .returned (sv 0 0 0 ⟨#[]⟩ (.slice none 0 0) ⟨#[]⟩) ∧ Below w.heap.size w w' := by
 obtain ⟨w0, hw0⟩ : ∃ w0, (w.alloc (.cells #[.int .i64 0, .int .i64 0, .int .i64 0, .string ⟨#[]⟩, .slice none 0 0, .string ⟨#[]⟩] 30)) = w0 := ⟨_, rfl⟩
 have Bw0 : Below w.heap.size w w0 := hw0 ▸ (Below.refl _ _).alloc (Nat.le_refl _) _
 have LZ : Loc w0 (w.heap.size) #[.int .i64 0, .int .i64 0, .int .i64 0, .string ⟨#[]⟩, .slice none 0 0, .string ⟨#[]⟩] := hw0 ▸ loc_at (w) _ _ rfl
 have zw0 : w.heap.size + 1 ≤ w0.heap.size := by rw [← hw0]; simp
 go_enter Tryz.func31, Tryz.ntmps31
 go_wp2_with fail
 clear hw0
 refine (implQcFirst _).mono ?_
 rintro _ w1 ⟨rfl, bb⟩
 have Bw1 := Bw0.trans (bb.mono Bw0.size)
 have sw1 := bb.size
 replace LZ := LZ.below bb LZ.lt
 clear Bw0
 clear bb
 have K6 := kp6 w1 (w.heap.size) (.int .i64 0) (.int .i64 0) (.int .i64 0) (.string ⟨#[]⟩) (.slice none 0 0) (.string ⟨#[]⟩)
 have cLZ0 := LZ.cell 0 rfl
 have cLZ1 := LZ.cell 1 rfl
 have cLZ2 := LZ.cell 2 rfl
 have cLZ3 := LZ.cell 3 rfl
 have cLZ4 := LZ.cell 4 rfl
 have cLZ5 := LZ.cell 5 rfl
 have fLZ := LZ.frozen
 go_wp2
 refine bodyPost_ret (v := sv 0 0 0 ⟨#[]⟩ (.slice none 0 0) ⟨#[]⟩) (by simp [results, Tryz.results31, go_sem, cLZ0, cLZ1, cLZ2, cLZ3, cLZ4, cLZ5]) rfl ?_
 exact ⟨rfl, Below.kp Bw1 K6 Bw1.size (fun k hk => by omega)⟩

set_option maxHeartbeats 16000000 in
set_option maxRecDepth 100000 in
theorem specSafeNew (w : World) :
 Calls Tryz.prog 64 #[] w fun e w' => e = .returned (sv 0 0 0 ⟨#[]⟩ (.slice none 0 0) ⟨#[]⟩) ∧ Below w.heap.size w w' := by
 obtain ⟨w0, hw0⟩ : ∃ w0, (w.alloc (.cells #[.int .i64 0, .int .i64 0, .int .i64 0, .string ⟨#[]⟩, .slice none 0 0, .string ⟨#[]⟩] 30)) = w0 := ⟨_, rfl⟩
 have Bw0 : Below w.heap.size w w0 := hw0 ▸ (Below.refl _ _).alloc (Nat.le_refl _) _
 have LZ : Loc w0 (w.heap.size) #[.int .i64 0, .int .i64 0, .int .i64 0, .string ⟨#[]⟩, .slice none 0 0, .string ⟨#[]⟩] := hw0 ▸ loc_at (w) _ _ rfl
 have zw0 : w.heap.size + 1 ≤ w0.heap.size := by rw [← hw0]; simp
 go_enter Tryz.func64, Tryz.ntmps64
 have K6 := kp6 w0 (w.heap.size) (.int .i64 0) (.int .i64 0) (.int .i64 0) (.string ⟨#[]⟩) (.slice none 0 0) (.string ⟨#[]⟩)
 have cLZ0 := LZ.cell 0 rfl
 have cLZ1 := LZ.cell 1 rfl
 have cLZ2 := LZ.cell 2 rfl
 have cLZ3 := LZ.cell 3 rfl
 have cLZ4 := LZ.cell 4 rfl
 have cLZ5 := LZ.cell 5 rfl
 have fLZ := LZ.frozen
 go_wp2
 clear hw0
 refine bodyPost_ret (v := sv 0 0 0 ⟨#[]⟩ (.slice none 0 0) ⟨#[]⟩) (by simp [results, Tryz.results64, go_sem, cLZ0, cLZ1, cLZ2, cLZ3, cLZ4, cLZ5]) rfl ?_
 exact ⟨rfl, Below.kp Bw0 K6 Bw0.size (fun k hk => by omega)⟩

def QcEnd (g : Nat) (ao : Option Addr) (ca : Nat) (xs : List Int) (fr p : Int) (ok : Bool) (w : World) (e : Ending) (w' : World) : Prop :=
 ∃ (v : Int) (s : ByteArray) (ua : Option Addr) (uc : Nat) (ys : List Int) (q : Int) (ok' : Bool), e = .returned (qv v s (.slice ua ys.length uc)) ∧ Got ok (getQc 7 xs p) ok' (v, s, ys) q ∧ s.size ≤ xs.length ∧ ys.length ≤ 7 ∧ Stays xs p q ∧ Loc w' g #[.slice ao xs.length ca, .int .i64 fr, .int .i64 q, errV ok' fr] ∧ OI w' w.heap.size (.slice ua ys.length uc) ys ∧ Kp w w' (fun k => k = g)
def SafEnd (g : Nat) (ao : Option Addr) (ca : Nat) (xs : List Int) (fr p : Int) (ok : Bool) (w : World) (e : Ending) (w' : World) : Prop :=
 ∃ (vo lo v : Int) (s : ByteArray) (ua : Option Addr) (uc : Nat) (ys : List Int) (d : ByteArray) (q : Int) (ok' : Bool), e = .returned (sv vo lo v s (.slice ua ys.length uc) d) ∧ Got ok (getSafe 7 xs p) ok' (vo, lo, (v, s, ys), d) q ∧ (s.size ≤ xs.length ∧ d.size ≤ xs.length) ∧ ys.length ≤ 7 ∧ Stays xs p q ∧ Loc w' g #[.slice ao xs.length ca, .int .i64 fr, .int .i64 q, errV ok' fr] ∧ OI w' w.heap.size (.slice ua ys.length uc) ys ∧ Kp w w' (fun k => k = g)

set_option maxHeartbeats 8000000 in
set_option maxRecDepth 100000 in
theorem rqc_any (W0 : World) (g : Nat) (ao : Option Addr) (ca : Nat) (xs : List Int) (fr p : Int) (ok : Bool) (w : World) (hr : RB W0 (.slice ao xs.length ca) xs) (hb : Bytes xs) (hE : Env W0) (h0 : W0.heap.size ≤ g) (hB : Below W0.heap.size W0 w) (hl : Loc w g #[.slice ao xs.length ca, .int .i64 fr, .int .i64 p, errV ok fr]) :
 Calls Tryz.prog 70 #[.pointer (some ⟨g, 0, none⟩)] w (QcEnd g ao ca xs fr p ok w) := by
 have hgw := hl.lt
 obtain ⟨w0, hw0⟩ : ∃ y, w.alloc (.cells #[.int .i64 0, .string ⟨#[]⟩, .slice none 0 0] 28) = y := ⟨_, rfl⟩
 have B0 : Below w.heap.size w w0 := hw0 ▸ conf_below _ _
 have LZ : Loc w0 w.heap.size #[.int .i64 0, .string ⟨#[]⟩, .slice none 0 0] := hw0 ▸ loc_at w _ _ rfl
 have K0 : Kp w w0 (fun k => k = g) := Below.kpOf B0 _
 have z0 : w.heap.size + 1 ≤ w0.heap.size := by rw [← hw0]; simp
 have NU := hide fun (p : Int) (ok : Bool) (w' : World) (k : Kp w w' (fun k => k = g)) hl => rnum_any W0 g ao ca xs fr p ok w' hr hb hE (Below.kp hB k hB.size (fun j e => by omega)) hl
 have TE := hide fun (p : Int) (ok : Bool) (w' : World) (k : Kp w w' (fun k => k = g)) hl => rtext_any W0 g ao ca xs fr p ok w' hr hb hE (Below.kp hB k hB.size (fun j e => by omega)) hl
 have WH := hide fun (p : Int) (ok : Bool) (w' : World) (k : Kp w w' (fun k => k = g)) hl => rwho_any W0 g ao ca xs fr p ok w' hr hb hE h0 (Below.kp hB k hB.size (fun j e => by omega)) hl
 have N0 := hide (unhide NU p ok w0 K0 (hl.below B0 hgw))
 clear hl hr hb hE h0 hB B0 NU
 go_enter Tryz.func70, Tryz.ntmps70
 go_wp2_with fail
 clear hw0
 refine (unhide N0).mono ?_
 rintro e w1 ⟨v, q1, ok1, rfl, G1, hv, S1, L1, K1⟩
 have T1 := hide (unhide TE q1 ok1 w1 (K0.trans K1) L1)
 replace LZ := LZ.kp K1 (by omega)
 replace K1 := K0.trans K1
 clear N0 K0 TE L1
 go_wp2_with fail
 refine (unhide T1).mono ?_
 rintro e w2 ⟨s, q2, ok2, rfl, G2, hs, S2, L2, K2⟩
 have W2 := hide (unhide WH q2 ok2 w2 (K1.trans K2) L2)
 replace LZ := LZ.kp K2 (by omega)
 have z2 := LZ.lt
 replace K2 := K1.trans K2
 clear T1 K1 WH L2
 go_wp2_with fail
 refine (unhide W2).mono ?_
 rintro e w3 ⟨u, ys, q3, ok3, rfl, G3, h7, S3, L3, o3, K3⟩
 replace LZ := LZ.kp K3 (by omega)
 have z3 := K3.size
 replace K3 := K2.trans K3
 have lt3 := World.ownsRow.lt o3
 obtain ⟨ua, uc, rfl⟩ := o3.form
 have HG := hide (got_qc G1 G2 G3)
 have O3 := hide o3
 have HL := hide L3
 have HZ := hide LZ
 have y0 := LZ.cell 0 rfl
 have y1 := LZ.cell 1 rfl
 have y2 := LZ.cell 2 rfl
 have fy := LZ.frozen
 have SS := hide ((S1.trans S2).trans S3)
 clear G1 G2 G3 o3 L3 LZ W2 K2 S1 S2 S3 hv
 go_wp2
 have K5 : Kp w3 (((w3.setCell ⟨w.heap.size, 0, none⟩ (.int .i64 v)).setCell ⟨w.heap.size, 1, none⟩ (.string s)).setCell ⟨w.heap.size, 2, none⟩ (.slice ua ys.length uc)) (fun k => k = w.heap.size) := ((set_kp _ _ _ _).trans (set_kp _ _ _ _)).trans (set_kp _ _ _ _)
 refine bodyPost_ret (v := qv v s (.slice ua ys.length uc)) (by simp [results, Tryz.results70, go_sem, y0, y1, y2]) rfl ?_
 exact ⟨v, s, ua, uc, ys, q3, ok3, rfl, unhide HG, hs, h7, unhide SS, (unhide HL).kp K5 (by omega), ((unhide O3).kp K5 (fun k hk e => by have := lt3 k hk; omega)).mono (by omega), K3.over K5 (fun j e => .inl (by omega))⟩

set_option maxHeartbeats 8000000 in
set_option maxRecDepth 100000 in
theorem rsafe_any (W0 : World) (g : Nat) (ao : Option Addr) (ca : Nat) (xs : List Int) (fr p : Int) (ok : Bool) (w : World) (hr : RB W0 (.slice ao xs.length ca) xs) (hb : Bytes xs) (hE : Env W0) (h0 : W0.heap.size ≤ g) (hB : Below W0.heap.size W0 w) (hl : Loc w g #[.slice ao xs.length ca, .int .i64 fr, .int .i64 p, errV ok fr]) :
 Calls Tryz.prog 55 #[.pointer (some ⟨g, 0, none⟩)] w (SafEnd g ao ca xs fr p ok w) := by
 have hgw := hl.lt
 obtain ⟨w0, hw0⟩ : ∃ y, w.alloc (.cells #[.int .i64 0, .int .i64 0, .int .i64 0, .string ⟨#[]⟩, .slice none 0 0, .string ⟨#[]⟩] 30) = y := ⟨_, rfl⟩
 have B0 : Below w.heap.size w w0 := hw0 ▸ conf_below _ _
 have LZ : Loc w0 w.heap.size #[.int .i64 0, .int .i64 0, .int .i64 0, .string ⟨#[]⟩, .slice none 0 0, .string ⟨#[]⟩] := hw0 ▸ loc_at w _ _ rfl
 have K0 : Kp w w0 (fun k => k = g) := Below.kpOf B0 _
 have z0 : w.heap.size + 1 ≤ w0.heap.size := by rw [← hw0]; simp
 have NU := hide fun (p : Int) (ok : Bool) (w' : World) (k : Kp w w' (fun k => k = g)) hl => rnum_any W0 g ao ca xs fr p ok w' hr hb hE (Below.kp hB k hB.size (fun j e => by omega)) hl
 have TE := hide fun (p : Int) (ok : Bool) (w' : World) (k : Kp w w' (fun k => k = g)) hl => rtext_any W0 g ao ca xs fr p ok w' hr hb hE (Below.kp hB k hB.size (fun j e => by omega)) hl
 have QC := hide fun (p : Int) (ok : Bool) (w' : World) (k : Kp w w' (fun k => k = g)) hl => rqc_any W0 g ao ca xs fr p ok w' hr hb hE h0 (Below.kp hB k hB.size (fun j e => by omega)) hl
 have N0 := hide (unhide NU p ok w0 K0 (hl.below B0 hgw))
 clear hl hr hb hE h0 hB B0
 go_enter Tryz.func55, Tryz.ntmps55
 go_wp2_with fail
 clear hw0
 refine (unhide N0).mono ?_
 rintro e w1 ⟨vo, q1, ok1, rfl, G1, hv, S1, L1, K1⟩
 have N1 := hide (unhide NU q1 ok1 w1 (K0.trans K1) L1)
 replace LZ := LZ.kp K1 (by omega)
 replace K1 := K0.trans K1
 clear N0 K0 L1 hv NU
 go_wp2_with fail
 refine (unhide N1).mono ?_
 rintro e w2 ⟨lo, q2, ok2, rfl, G2, hv, S2, L2, K2⟩
 have Q2 := hide (unhide QC q2 ok2 w2 (K1.trans K2) L2)
 replace LZ := LZ.kp K2 (by omega)
 replace K2 := K1.trans K2
 have z2 := LZ.lt
 clear N1 K1 L2 hv QC
 go_wp2_with fail
 refine (unhide Q2).mono ?_
 rintro e w3 ⟨v, s, ua, uc, ys, q3, ok3, rfl, G3, hs, h7, S3, L3, o3, K3⟩
 have T3 := hide (unhide TE q3 ok3 w3 (K2.trans K3) L3)
 replace LZ := LZ.kp K3 (by omega)
 replace K3 := K2.trans K3
 have lt3 := World.ownsRow.lt o3
 have z3 := K3.size
 have O3 := hide o3
 clear Q2 K2 L3 TE o3
 go_wp2_with fail
 refine (unhide T3).mono ?_
 rintro e w4 ⟨d, q4, ok4, rfl, G4, hd, S4, L4, K4⟩
 replace LZ := LZ.kp K4 (by omega)
 replace O3 := hide ((unhide O3).kp K4 (fun k hk e => by have := lt3 k hk; omega))
 have z4 := K4.size
 replace K4 := K3.trans K4
 have HG := hide (got_safe G1 G2 G3 G4)
 have HL := hide L4
 have y0 := LZ.cell 0 rfl
 have y1 := LZ.cell 1 rfl
 have y2 := LZ.cell 2 rfl
 have y3 := LZ.cell 3 rfl
 have y4 := LZ.cell 4 rfl
 have y5 := LZ.cell 5 rfl
 have fy := LZ.frozen
 have SS := hide (((S1.trans S2).trans S3).trans S4)
 have K6 := kp6 w4 w.heap.size (.int .i64 vo) (.int .i64 lo) (.int .i64 v) (.string s) (.slice ua ys.length uc) (.string d)
 clear G1 G2 G3 G4 L4 LZ T3 K3 S1 S2 S3 S4
 go_wp2
 refine bodyPost_ret (v := sv vo lo v s (.slice ua ys.length uc) d) (by simp [results, Tryz.results55, go_sem, y0, y1, y2, y3, y4, y5]) rfl ?_
 exact ⟨vo, lo, v, s, ua, uc, ys, d, q4, ok4, rfl, unhide HG, ⟨hs, hd⟩, h7, unhide SS, (unhide HL).kp K6 (by omega), ((unhide O3).kp K6 (fun k hk e => by have := lt3 k hk; omega)).mono (by omega), K4.over K6 (fun j e => .inl (by omega))⟩

def noQc : QcT × Int := ((0, ⟨#[]⟩, []), 0)
theorem qcOf_got {L n f : Int} {xs : List Int} {p : Int} {ok : Bool} {v : Int} {s : ByteArray} {ys : List Int} {q : Int} (h : Got true (getQc L xs p) ok (v, s, ys) q) : qcOfA L n f xs p = if (ok && qokB n f v s ys) = true then some ((v, s, ys), q) else none := by
 obtain ⟨h1, h2⟩ := h
 unfold qcOfA
 cases hg : getQc L xs p with
 | none => rw [hg] at h1; simp at h1; simp [h1]
 | some x =>
  rw [hg] at h1 h2
  simp only [Option.isSome_some, Bool.and_true] at h1
  subst h1
  obtain rfl := Option.some.inj (h2 rfl)
  simp

set_option maxHeartbeats 8000000 in
set_option maxRecDepth 100000 in
theorem implQcOf_any (n f : Int) (ao : Option Addr) (ca : Nat) (xs : List Int) (p : Int) (w : World) (hx : xs.length ≤ 33554432) (hr : RB w (.slice ao xs.length ca) xs) (hb : Bytes xs) (hE : Env w) (hT : EnvT w) (x : QcT × Int) (b : Bool) (hxx : Hid ((qcOfA 7 n f xs p).getD noQc = x ∧ (qcOfA 7 n f xs p).isSome = b)) :
 Calls Tryz.prog 22 #[cv n f, .slice ao xs.length ca, .int .i64 p] w fun e w' => ∃ u, e = .returned (.tuple #[qv x.1.1 x.1.2.1 u, .int .i64 x.2, .bool b]) ∧ OI w' w.heap.size u x.1.2.2 ∧ Below w.heap.size w w' := by
 obtain ⟨w9, hw9⟩ : ∃ y, (w.alloc (.cells #[.int .i64 n, .int .i64 f] 25)).alloc (.cells #[.int .i64 0, .string ⟨#[]⟩, .slice none 0 0] 28) = y := ⟨_, rfl⟩
 have z9 : w9.heap.size = w.heap.size + 1 + 1 := by rw [← hw9]; simp
 obtain ⟨w0, hw0⟩ : ∃ y, w9.alloc (.cells #[.slice ao xs.length ca, .int .i64 p, .int .i64 p, .nilIface] 80) = y := ⟨_, rfl⟩
 have B0 : Below w.heap.size w w0 := hw0 ▸ (hw9 ▸ qalloc2 _ _ _ : Below w.heap.size w w9).alloc (by omega) _
 have LC : Loc w0 w.heap.size #[.int .i64 n, .int .i64 f] := hw0 ▸ (hw9 ▸ (loc_at w _ _ rfl).alloc _ : Loc w9 w.heap.size #[.int .i64 n, .int .i64 f]).alloc _
 have LZ : Loc w0 (w.heap.size + 1) #[.int .i64 0, .string ⟨#[]⟩, .slice none 0 0] := hw0 ▸ (hw9 ▸ loc_at (w.alloc _) _ _ (by simp) : Loc w9 (w.heap.size + 1) #[.int .i64 0, .string ⟨#[]⟩, .slice none 0 0]).alloc _
 have LG : Loc w0 (w.heap.size + 1 + 1) #[.slice ao xs.length ca, .int .i64 p, .int .i64 p, errV true p] := hw0 ▸ loc_at w9 _ _ z9
 have z0 : w.heap.size + 1 + 1 + 1 ≤ w0.heap.size := by rw [← hw0]; simp; omega
 have QC := hide (rqc_any w (w.heap.size + 1 + 1) ao ca xs p p true w0 hr hb hE (by omega) B0 LG)
 have H0 := hide hw0
 clear LG hr hb hw0
 go_enter Tryz.func22, Tryz.ntmps22
 go_upto_region 2 with fail
 rw [unhide H0]
 clear hw9 H0 z9
 go_wp2_with fail
 refine (unhide QC).mono ?_
 rintro e w1 ⟨v, s, ua, uc, ys, q, ok, rfl, G1, hs, h7, S1, LG, oQ, K1⟩
 clear QC
 replace LC := LC.kp K1 (by omega)
 replace LZ := LZ.kp K1 (by omega)
 have B1 := Below.kp B0 K1 B0.size (fun k e => by omega)
 have z1 := K1.size
 have ltQ := World.ownsRow.lt oQ
 clear B0 K1
 go_upto_region 3 with fail
 obtain ⟨w2, hw2⟩ : ∃ y, w1.alloc (.cells #[.int .i64 v, .string s, .slice ua ys.length uc] 28) = y := ⟨_, rfl⟩
 rw [hw2]
 have b2 : Below w1.heap.size w1 w2 := hw2 ▸ conf_below _ _
 have LQ : Loc w2 w1.heap.size #[.int .i64 v, .string s, .slice ua ys.length uc] := hw2 ▸ loc_at w1 _ _ rfl
 have z2 : w1.heap.size + 1 ≤ w2.heap.size := by rw [← hw2]; simp
 clear hw2
 replace LC := LC.below b2 LC.lt
 replace LZ := LZ.below b2 LZ.lt
 replace LG := LG.below b2 LG.lt
 replace oQ := oQ.below b2
 have B2 := B1.trans (b2.mono B1.size)
 clear b2 B1
 have HR : Hid (qcOfA 7 n f xs p = if (ok && qokB n f v s ys) = true then some ((v, s, ys), q) else none) := hide (qcOf_got G1)
 have QO := hide (implQcOk n f v s ua uc ys w2 (by omega) (hE.below B2) (oQ.ri (by omega)))
 generalize qokB n f v s ys = bq at *
 have c0 := LC.cell 0 rfl
 have c1 := LC.cell 1 rfl
 have d0 := LQ.cell 0 rfl
 have d1 := LQ.cell 1 rfl
 have d2 := LQ.cell 2 rfl
 go_wp2_with fail
 clear c0 c1 d0 d1 d2
 refine (unhide QO).mono ?_
 rintro e w3 ⟨rfl, b3⟩
 clear QO
 replace LZ := LZ.below b3 LZ.lt
 replace LG := LG.below b3 LG.lt
 replace LQ := LQ.below b3 LQ.lt
 replace oQ := oQ.below b3
 have z3 := b3.size
 have B3 := B2.trans (b3.mono B2.size)
 clear b3 B2 LC
 go_wp2_with fail
 refine (must_any (w.heap.size + 1 + 1) _ p q ok bq w3 LG).mono ?_
 rintro e w4 ⟨rfl, LG4, K4⟩
 replace LZ := LZ.kp K4 (by omega)
 replace LQ := LQ.kp K4 (by omega)
 replace oQ := oQ.kp K4 (fun k hk e => by have := ltQ k hk; omega)
 have z4 := K4.size
 have B4 := Below.kp B3 K4 B3.size (fun k e => by omega)
 clear B3 K4 LG
 generalize (ok && bq) = okf at *
 have LA := hide (lacks_any (w.heap.size + 1 + 1) _ p q okf w4 (hT.below B4) LG4)
 go_wp2_with fail
 refine (unhide LA).mono ?_
 rintro e w5 ⟨rfl, b5⟩
 clear LA
 replace LZ := LZ.below b5 LZ.lt
 replace LQ := LQ.below b5 LQ.lt
 replace LG4 := LG4.below b5 LG4.lt
 replace oQ := oQ.below b5
 have z5 := b5.size
 have B5 := B4.trans (b5.mono B4.size)
 clear b5 B4 G1 S1 hE hT
 have e0 := LQ.cell 0 rfl
 have e1 := LQ.cell 1 rfl
 have e2 := LQ.cell 2 rfl
 have y0 := LZ.cell 0 rfl
 have y1 := LZ.cell 1 rfl
 have y2 := LZ.cell 2 rfl
 have fy := LZ.frozen
 have g2 := LG4.cell 2 rfl
 have O5 := hide oQ
 clear oQ LQ LZ LG4
 cases okf with
 | true =>
  have hx1 : x = ((v, s, ys), q) := by have h := (unhide hxx).1; rw [unhide HR] at h; exact h.symm
  have hb1 : b = true := by have h := (unhide hxx).2; rw [unhide HR] at h; exact h.symm
  subst hx1 hb1
  clear HR hxx
  go_upto_region 7 with fail
  go_region
  have K5 : Kp w5 (((w5.setCell ⟨w.heap.size + 1, 0, none⟩ (.int .i64 v)).setCell ⟨w.heap.size + 1, 1, none⟩ (.string s)).setCell ⟨w.heap.size + 1, 2, none⟩ (.slice ua ys.length uc)) (fun k => k = w.heap.size + 1) := ((set_kp _ _ _ _).trans (set_kp _ _ _ _)).trans (set_kp _ _ _ _)
  go_wp2
  refine bodyPost_ret (v := .tuple #[qv v s (.slice ua ys.length uc), .int .i64 q, .bool true]) (by simp [results, Tryz.results22, go_sem, y0, y1, y2]) rfl ?_
  exact ⟨_, rfl, ((unhide O5).kp K5 (fun k hk e => by have := ltQ k hk; omega)).mono (by omega), Below.drew (Below.kp B5 K5 B5.size (fun k e => by omega))⟩
 | false =>
  have hx1 : x = noQc := by have h := (unhide hxx).1; rw [unhide HR] at h; exact h.symm
  have hb1 : b = false := by have h := (unhide hxx).2; rw [unhide HR] at h; exact h.symm
  subst hx1 hb1
  clear HR hxx O5
  go_wp2
  have K5 : Kp w5 (((w5.setCell ⟨w.heap.size + 1, 0, none⟩ (.int .i64 0)).setCell ⟨w.heap.size + 1, 1, none⟩ (.string ⟨#[]⟩)).setCell ⟨w.heap.size + 1, 2, none⟩ (.slice none 0 0)) (fun k => k = w.heap.size + 1) := ((set_kp _ _ _ _).trans (set_kp _ _ _ _)).trans (set_kp _ _ _ _)
  refine bodyPost_ret (v := .tuple #[qv 0 ⟨#[]⟩ (.slice none 0 0), .int .i64 0, .bool false]) (by simp [results, Tryz.results22, go_sem, y0, y1, y2]) rfl ?_
  exact ⟨_, rfl, World.ownsRow_nil _ _ _ _, Below.kp B5 K5 B5.size (fun k e => by omega)⟩
end Go.Proofs.YtbigcmcliamenaaGreatDoor
