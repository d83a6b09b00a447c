/- Texts that belong together: SafeSee, SafeFit, SeenFacts. -/
import Derived.Test.YtmpmedbojfjnaaaGreatDoorFSBP
import Derived.Test.YtmpmedbojfjnaaaGreatDoorFSBE
import Derived.Test.YtmpmedbojfjnaaaGreatDoorFSBF
import Derived.Test.YtmpmedbojfjnaaaGreatDoorFSBA
namespace Go.Proofs.YtmpmedbojfjnaaaGreatDoor
open Go.RowKit
set_option linter.unusedSectionVars false
variable [∀ (a b c d : Int), Decidable (Ok4 a b c d)]
variable [∀ (a b c d : Nat), Decidable (okN a b c d)]
variable [∀ (last : Int) (s : St), Decidable (GoodSt last s)]
variable [∀ (x : T4), Decidable (OkT x)]
variable [∀ (n : Int) (s : List Int), Decidable (OkL n s)]
variable [∀ (n f : Int), Decidable (COk n f)]

set_option maxHeartbeats 16000000 in
set_option maxRecDepth 100000 in
theorem implSee (n f : Int) (vo lo v : Int) (s : ByteArray) (ao : Option Addr) (ca : Nat) (xs : List Int) (d : ByteArray) (v' : Int) (s' : ByteArray) (bo : Option Addr) (cb : Nat) (ys : List Int) (w : World) (hs : s.size ≤ 33554432) (hd : d.size ≤ 33554432) (hs' : s'.size ≤ 33554432) (hE : Env w) (ha : RI w (.slice ao xs.length ca) xs) (hb : RI w (.slice bo ys.length cb) ys) :
 Calls Tryz.prog 7 #[cv n f, sv vo lo v s (.slice ao xs.length ca) d, qv v' s' (.slice bo ys.length cb)] w fun e w' => ∃ u, e = .returned (sv vo (seeL (goB n f vo lo v s xs d v' s' ys) lo s') (seeV (goB n f vo lo v s xs d v' s' ys) v v') (seeS (goB n f vo lo v s xs d v' s' ys) v v' s s') u (seeD (goB n f vo lo v s xs d v' s' ys) d s')) ∧ OI w' w.heap.size u (seeX (goB n f vo lo v s xs d v' s' ys) v v' xs ys) ∧ Below w.heap.size w w' := by
 have SO := hide fun w' (h : Below w.heap.size w w') => implSafeOk n f vo lo v s ao ca xs d w' hs hd (hE.below h) (ha.below h (Nat.le_refl _))
 have QO := hide fun w' (h : Below w.heap.size w w') => implQcOk n f v' s' bo cb ys w' hs' (hE.below h) (hb.below h (Nat.le_refl _))
 have TO := hide fun w' (h : Below w.heap.size w w') => stold_any vo lo v s ao ca xs d w' (by omega) (by omega) (ha.below h (Nat.le_refl _))
 obtain ⟨lt, hlt⟩ : ∃ b, decide (v < v') = b := ⟨_, rfl⟩
 have SE := hide fun w' (h : Below w.heap.size w w') => seeing_any vo lo v s ao xs.length ca d v' s' bo ys.length cb lt w' hlt hs' hd (hE.below h)
 have HG : Hid (goB n f vo lo v s xs d v' s' ys = (sokB n f vo lo v s xs d && qokB n f v' s' ys)) := hide rfl
 have E1 : ∀ {α : Type} (a b : α), (if v < v' then a else b) = (if lt = true then a else b) := fun a b => by rw [← hlt]; simp
 have HL : Hid (∀ g, seeL g lo s' = if g = true then lockOf lo s' else lo) := hide fun _ => rfl
 have HV : Hid (∀ g, seeV g v v' = if g = true then (if lt = true then v' else v) else v) := hide fun g => by unfold seeV; rw [E1]
 have HS : Hid (∀ g, seeS g v v' s s' = if g = true then (if lt = true then s' else s) else s) := hide fun g => by unfold seeS; rw [E1]
 have HX : Hid (∀ g, seeX g v v' xs ys = if g = true then (if lt = true then ys else xs) else xs) := hide fun g => by unfold seeX; rw [E1]
 have HD : Hid (∀ g, seeD g d s' = if g = true then doneOf d s' else d) := hide fun _ => rfl
 have hds : (doneOf d s').size ≤ 33554432 := by unfold doneOf; have := up2_size (s := s'); split <;> omega
 have TT := hide fun (a : Option Addr) (k : Nat) w' (zs : List Int) (h1 : RI w' (.slice a zs.length k) zs) => stold_any vo (lockOf lo s') (if lt = true then v' else v) (if lt = true then s' else s) a k zs (doneOf d s') w' (by split <;> omega) (by omega) h1
 have RR := hide fun w' (h : Below w.heap.size w w') => And.intro (ha.below h (Nat.le_refl _)) (hb.below h (Nat.le_refl _))
 clear ha hb hE E1 hlt
 rw [unhide HG]
 generalize sokB n f vo lo v s xs d = b1 at *
 generalize qokB n f v' s' ys = b2 at *
 generalize doneOf d s' = D at *
 generalize lockOf lo s' = Lk at *
 clear HG
 have hLN := unhide HL false
 have hVN := unhide HV false
 have hSN := unhide HS false
 have hXN := unhide HX false
 have hDN := unhide HD false
 have hLY := unhide HL true
 have hVY := unhide HV true
 have hSY := unhide HS true
 have hXY := unhide HX true
 have hDY := unhide HD true
 simp only [Bool.false_eq_true, if_false, if_true] at hLN hVN hSN hXN hDN hLY hVY hSY hXY hDY
 clear HL HV HS HX HD
 cases b1
 ·simp only [Bool.false_and]
  rw [hLN, hVN, hSN, hXN, hDN]
  clear hLN hVN hSN hXN hDN hLY hVY hSY hXY hDY SE TT RR
  obtain ⟨w0, hw0⟩ : ∃ w0, ((((w.alloc (.cells #[.int .i64 n, .int .i64 f] 25)).alloc (.cells #[.int .i64 vo, .int .i64 lo, .int .i64 v, .string s, .slice ao xs.length ca, .string d] 30)).alloc (.cells #[.int .i64 v', .string s', .slice bo ys.length cb] 28)).alloc (.cells #[.int .i64 0, .int .i64 0, .int .i64 0, .string ⟨#[]⟩, .slice none 0 0, .string ⟨#[]⟩] 30)) = w0 := ⟨_, rfl⟩
  have Bw0 : Below w.heap.size w w0 := hw0 ▸ ((((Below.refl _ _).alloc (Nat.le_refl _) _).alloc (by simp) _).alloc (by simp; omega) _).alloc (by simp; omega) _
  have LC : Loc w0 (w.heap.size) #[.int .i64 n, .int .i64 f] := hw0 ▸ (((loc_at (w) _ _ rfl).alloc _).alloc _).alloc _
  have LS : Loc w0 (w.heap.size + 1) #[.int .i64 vo, .int .i64 lo, .int .i64 v, .string s, .slice ao xs.length ca, .string d] := hw0 ▸ ((loc_at (w.alloc _) _ _ (by simp)).alloc _).alloc _
  have LQ : Loc w0 (w.heap.size + 1 + 1) #[.int .i64 v', .string s', .slice bo ys.length cb] := hw0 ▸ (loc_at ((w.alloc _).alloc _) _ _ (by simp)).alloc _
  have LZ : Loc w0 (w.heap.size + 1 + 1 + 1) #[.int .i64 0, .int .i64 0, .int .i64 0, .string ⟨#[]⟩, .slice none 0 0, .string ⟨#[]⟩] := hw0 ▸ loc_at (((w.alloc _).alloc _).alloc _) _ _ (by simp)
  have zw0 : w.heap.size + 1 + 1 + 1 + 1 ≤ w0.heap.size := by rw [← hw0]; simp
  go_enter Tryz.func7, Tryz.ntmps7
  have cLC0 := LC.cell 0 rfl
  have cLC1 := LC.cell 1 rfl
  have cLS0 := LS.cell 0 rfl
  have cLS1 := LS.cell 1 rfl
  have cLS2 := LS.cell 2 rfl
  have cLS3 := LS.cell 3 rfl
  have cLS4 := LS.cell 4 rfl
  have cLS5 := LS.cell 5 rfl
  go_wp2_with fail
  clear hw0
  refine (unhide SO _ Bw0).mono ?_
  rintro _ w1 ⟨rfl, bb⟩
  clear cLC0 cLC1 cLS0 cLS1 cLS2 cLS3 cLS4 cLS5
  have Bw1 := Bw0.trans (bb.mono Bw0.size)
  have sw1 := bb.size
  replace LC := LC.below bb LC.lt
  replace LS := LS.below bb LS.lt
  replace LQ := LQ.below bb LQ.lt
  replace LZ := LZ.below bb LZ.lt
  clear Bw0
  clear bb
  have cLS0 := LS.cell 0 rfl
  have cLS1 := LS.cell 1 rfl
  have cLS2 := LS.cell 2 rfl
  have cLS3 := LS.cell 3 rfl
  have cLS4 := LS.cell 4 rfl
  have cLS5 := LS.cell 5 rfl
  go_wp2_with fail
  refine (unhide TO _ Bw1).mono ?_
  rintro _ w2 ⟨u1, rfl, o1, bb⟩
  clear cLS0 cLS1 cLS2 cLS3 cLS4 cLS5
  have Bw2 := Bw1.trans (bb.mono Bw1.size)
  have sw2 := bb.size
  replace LC := LC.below bb LC.lt
  replace LS := LS.below bb LS.lt
  replace LQ := LQ.below bb LQ.lt
  replace LZ := LZ.below bb LZ.lt
  clear Bw1
  clear bb
  have to1 := World.ownsRow.lt o1
  obtain ⟨ao1, ko1, rfl⟩ := o1.form
  have K6 := kp6 w2 (w.heap.size + 1 + 1 + 1) (.int .i64 vo) (.int .i64 lo) (.int .i64 v) (.string s) (.slice ao1 xs.length ko1) (.string d)
  have cLZ0 := LZ.cell 0 rfl
  have cLZ1 := LZ.cell 1 rfl
  have cLZ2 := LZ.cell 2 rfl
  have cLZ3 := LZ.cell 3 rfl
  have cLZ4 := LZ.cell 4 rfl
  have cLZ5 := LZ.cell 5 rfl
  have fLZ := LZ.frozen
  go_wp2
  refine bodyPost_ret (v := sv (vo) (lo) (v) (s) (.slice ao1 xs.length ko1) (d)) (by simp [results, Tryz.results7, go_sem, cLZ0, cLZ1, cLZ2, cLZ3, cLZ4, cLZ5]) rfl ?_
  exact ⟨_, rfl, (o1.kp K6 (fun j hj e => by have := to1 j hj; omega)).mono (by omega), Below.kp Bw2 K6 Bw2.size (fun k hk => by omega)⟩
 ·cases b2
  ·simp only [Bool.true_and]
   rw [hLN, hVN, hSN, hXN, hDN]
   clear hLN hVN hSN hXN hDN hLY hVY hSY hXY hDY SE TT RR
   obtain ⟨w0, hw0⟩ : ∃ w0, ((((w.alloc (.cells #[.int .i64 n, .int .i64 f] 25)).alloc (.cells #[.int .i64 vo, .int .i64 lo, .int .i64 v, .string s, .slice ao xs.length ca, .string d] 30)).alloc (.cells #[.int .i64 v', .string s', .slice bo ys.length cb] 28)).alloc (.cells #[.int .i64 0, .int .i64 0, .int .i64 0, .string ⟨#[]⟩, .slice none 0 0, .string ⟨#[]⟩] 30)) = w0 := ⟨_, rfl⟩
   have Bw0 : Below w.heap.size w w0 := hw0 ▸ ((((Below.refl _ _).alloc (Nat.le_refl _) _).alloc (by simp) _).alloc (by simp; omega) _).alloc (by simp; omega) _
   have LC : Loc w0 (w.heap.size) #[.int .i64 n, .int .i64 f] := hw0 ▸ (((loc_at (w) _ _ rfl).alloc _).alloc _).alloc _
   have LS : Loc w0 (w.heap.size + 1) #[.int .i64 vo, .int .i64 lo, .int .i64 v, .string s, .slice ao xs.length ca, .string d] := hw0 ▸ ((loc_at (w.alloc _) _ _ (by simp)).alloc _).alloc _
   have LQ : Loc w0 (w.heap.size + 1 + 1) #[.int .i64 v', .string s', .slice bo ys.length cb] := hw0 ▸ (loc_at ((w.alloc _).alloc _) _ _ (by simp)).alloc _
   have LZ : Loc w0 (w.heap.size + 1 + 1 + 1) #[.int .i64 0, .int .i64 0, .int .i64 0, .string ⟨#[]⟩, .slice none 0 0, .string ⟨#[]⟩] := hw0 ▸ loc_at (((w.alloc _).alloc _).alloc _) _ _ (by simp)
   have zw0 : w.heap.size + 1 + 1 + 1 + 1 ≤ w0.heap.size := by rw [← hw0]; simp
   go_enter Tryz.func7, Tryz.ntmps7
   have cLC0 := LC.cell 0 rfl
   have cLC1 := LC.cell 1 rfl
   have cLS0 := LS.cell 0 rfl
   have cLS1 := LS.cell 1 rfl
   have cLS2 := LS.cell 2 rfl
   have cLS3 := LS.cell 3 rfl
   have cLS4 := LS.cell 4 rfl
   have cLS5 := LS.cell 5 rfl
   go_wp2_with fail
   clear hw0
   refine (unhide SO _ Bw0).mono ?_
   rintro _ w1 ⟨rfl, bb⟩
   clear cLC0 cLC1 cLS0 cLS1 cLS2 cLS3 cLS4 cLS5
   have Bw1 := Bw0.trans (bb.mono Bw0.size)
   have sw1 := bb.size
   replace LC := LC.below bb LC.lt
   replace LS := LS.below bb LS.lt
   replace LQ := LQ.below bb LQ.lt
   replace LZ := LZ.below bb LZ.lt
   clear Bw0
   clear bb
   have cLC0 := LC.cell 0 rfl
   have cLC1 := LC.cell 1 rfl
   have cLQ0 := LQ.cell 0 rfl
   have cLQ1 := LQ.cell 1 rfl
   have cLQ2 := LQ.cell 2 rfl
   go_wp2_with fail
   refine (unhide QO _ Bw1).mono ?_
   rintro _ w2 ⟨rfl, bb⟩
   clear cLC0 cLC1 cLQ0 cLQ1 cLQ2
   have Bw2 := Bw1.trans (bb.mono Bw1.size)
   have sw2 := bb.size
   replace LC := LC.below bb LC.lt
   replace LS := LS.below bb LS.lt
   replace LQ := LQ.below bb LQ.lt
   replace LZ := LZ.below bb LZ.lt
   clear Bw1
   clear bb
   have cLS0 := LS.cell 0 rfl
   have cLS1 := LS.cell 1 rfl
   have cLS2 := LS.cell 2 rfl
   have cLS3 := LS.cell 3 rfl
   have cLS4 := LS.cell 4 rfl
   have cLS5 := LS.cell 5 rfl
   go_wp2_with fail
   refine (unhide TO _ Bw2).mono ?_
   rintro _ w3 ⟨u1, rfl, o1, bb⟩
   clear cLS0 cLS1 cLS2 cLS3 cLS4 cLS5
   have Bw3 := Bw2.trans (bb.mono Bw2.size)
   have sw3 := bb.size
   replace LC := LC.below bb LC.lt
   replace LS := LS.below bb LS.lt
   replace LQ := LQ.below bb LQ.lt
   replace LZ := LZ.below bb LZ.lt
   clear Bw2
   clear bb
   have to1 := World.ownsRow.lt o1
   obtain ⟨ao1, ko1, rfl⟩ := o1.form
   have K6 := kp6 w3 (w.heap.size + 1 + 1 + 1) (.int .i64 vo) (.int .i64 lo) (.int .i64 v) (.string s) (.slice ao1 xs.length ko1) (.string d)
   have cLZ0 := LZ.cell 0 rfl
   have cLZ1 := LZ.cell 1 rfl
   have cLZ2 := LZ.cell 2 rfl
   have cLZ3 := LZ.cell 3 rfl
   have cLZ4 := LZ.cell 4 rfl
   have cLZ5 := LZ.cell 5 rfl
   have fLZ := LZ.frozen
   go_wp2
   refine bodyPost_ret (v := sv (vo) (lo) (v) (s) (.slice ao1 xs.length ko1) (d)) (by simp [results, Tryz.results7, go_sem, cLZ0, cLZ1, cLZ2, cLZ3, cLZ4, cLZ5]) rfl ?_
   exact ⟨_, rfl, (o1.kp K6 (fun j hj e => by have := to1 j hj; omega)).mono (by omega), Below.kp Bw3 K6 Bw3.size (fun k hk => by omega)⟩
  ·simp only [Bool.true_and]
   rw [hLY, hVY, hSY, hXY, hDY]
   clear hLN hVN hSN hXN hDN hLY hVY hSY hXY hDY TO
   cases lt
   ·simp only [Bool.false_eq_true, if_false] at SE TT ⊢
    obtain ⟨w0, hw0⟩ : ∃ w0, ((((w.alloc (.cells #[.int .i64 n, .int .i64 f] 25)).alloc (.cells #[.int .i64 vo, .int .i64 lo, .int .i64 v, .string s, .slice ao xs.length ca, .string d] 30)).alloc (.cells #[.int .i64 v', .string s', .slice bo ys.length cb] 28)).alloc (.cells #[.int .i64 0, .int .i64 0, .int .i64 0, .string ⟨#[]⟩, .slice none 0 0, .string ⟨#[]⟩] 30)) = w0 := ⟨_, rfl⟩
    have Bw0 : Below w.heap.size w w0 := hw0 ▸ ((((Below.refl _ _).alloc (Nat.le_refl _) _).alloc (by simp) _).alloc (by simp; omega) _).alloc (by simp; omega) _
    have LC : Loc w0 (w.heap.size) #[.int .i64 n, .int .i64 f] := hw0 ▸ (((loc_at (w) _ _ rfl).alloc _).alloc _).alloc _
    have LS : Loc w0 (w.heap.size + 1) #[.int .i64 vo, .int .i64 lo, .int .i64 v, .string s, .slice ao xs.length ca, .string d] := hw0 ▸ ((loc_at (w.alloc _) _ _ (by simp)).alloc _).alloc _
    have LQ : Loc w0 (w.heap.size + 1 + 1) #[.int .i64 v', .string s', .slice bo ys.length cb] := hw0 ▸ (loc_at ((w.alloc _).alloc _) _ _ (by simp)).alloc _
    have LZ : Loc w0 (w.heap.size + 1 + 1 + 1) #[.int .i64 0, .int .i64 0, .int .i64 0, .string ⟨#[]⟩, .slice none 0 0, .string ⟨#[]⟩] := hw0 ▸ loc_at (((w.alloc _).alloc _).alloc _) _ _ (by simp)
    have zw0 : w.heap.size + 1 + 1 + 1 + 1 ≤ w0.heap.size := by rw [← hw0]; simp
    go_enter Tryz.func7, Tryz.ntmps7
    have cLC0 := LC.cell 0 rfl
    have cLC1 := LC.cell 1 rfl
    have cLS0 := LS.cell 0 rfl
    have cLS1 := LS.cell 1 rfl
    have cLS2 := LS.cell 2 rfl
    have cLS3 := LS.cell 3 rfl
    have cLS4 := LS.cell 4 rfl
    have cLS5 := LS.cell 5 rfl
    go_wp2_with fail
    clear hw0
    refine (unhide SO _ Bw0).mono ?_
    rintro _ w1 ⟨rfl, bb⟩
    clear cLC0 cLC1 cLS0 cLS1 cLS2 cLS3 cLS4 cLS5
    have Bw1 := Bw0.trans (bb.mono Bw0.size)
    have sw1 := bb.size
    replace LC := LC.below bb LC.lt
    replace LS := LS.below bb LS.lt
    replace LQ := LQ.below bb LQ.lt
    replace LZ := LZ.below bb LZ.lt
    clear Bw0
    clear bb
    have cLC0 := LC.cell 0 rfl
    have cLC1 := LC.cell 1 rfl
    have cLQ0 := LQ.cell 0 rfl
    have cLQ1 := LQ.cell 1 rfl
    have cLQ2 := LQ.cell 2 rfl
    go_wp2_with fail
    refine (unhide QO _ Bw1).mono ?_
    rintro _ w2 ⟨rfl, bb⟩
    clear cLC0 cLC1 cLQ0 cLQ1 cLQ2
    have Bw2 := Bw1.trans (bb.mono Bw1.size)
    have sw2 := bb.size
    replace LC := LC.below bb LC.lt
    replace LS := LS.below bb LS.lt
    replace LQ := LQ.below bb LQ.lt
    replace LZ := LZ.below bb LZ.lt
    clear Bw1
    clear bb
    have cLS0 := LS.cell 0 rfl
    have cLS1 := LS.cell 1 rfl
    have cLS2 := LS.cell 2 rfl
    have cLS3 := LS.cell 3 rfl
    have cLS4 := LS.cell 4 rfl
    have cLS5 := LS.cell 5 rfl
    have cLQ0 := LQ.cell 0 rfl
    have cLQ1 := LQ.cell 1 rfl
    have cLQ2 := LQ.cell 2 rfl
    go_wp2_with fail
    refine (unhide SE _ Bw2).mono ?_
    rintro _ w3 ⟨rfl, bb⟩
    clear cLS0 cLS1 cLS2 cLS3 cLS4 cLS5 cLQ0 cLQ1 cLQ2
    have Bw3 := Bw2.trans (bb.mono Bw2.size)
    have sw3 := bb.size
    replace LC := LC.below bb LC.lt
    replace LS := LS.below bb LS.lt
    replace LQ := LQ.below bb LQ.lt
    replace LZ := LZ.below bb LZ.lt
    clear Bw2
    clear bb
    go_wp2_with fail
    refine (unhide TT ao ca _ xs (unhide RR _ Bw3).1).mono ?_
    rintro _ w4 ⟨u1, rfl, o1, bb⟩
    have Bw4 := Bw3.trans (bb.mono Bw3.size)
    have sw4 := bb.size
    replace LC := LC.below bb LC.lt
    replace LS := LS.below bb LS.lt
    replace LQ := LQ.below bb LQ.lt
    replace LZ := LZ.below bb LZ.lt
    clear Bw3
    clear bb
    have to1 := World.ownsRow.lt o1
    obtain ⟨ao1, ko1, rfl⟩ := o1.form
    have K6 := kp6 w4 (w.heap.size + 1 + 1 + 1) (.int .i64 vo) (.int .i64 Lk) (.int .i64 v) (.string s) (.slice ao1 xs.length ko1) (.string D)
    have cLZ0 := LZ.cell 0 rfl
    have cLZ1 := LZ.cell 1 rfl
    have cLZ2 := LZ.cell 2 rfl
    have cLZ3 := LZ.cell 3 rfl
    have cLZ4 := LZ.cell 4 rfl
    have cLZ5 := LZ.cell 5 rfl
    have fLZ := LZ.frozen
    go_wp2
    refine bodyPost_ret (v := sv (vo) (Lk) (v) (s) (.slice ao1 xs.length ko1) (D)) (by simp [results, Tryz.results7, go_sem, cLZ0, cLZ1, cLZ2, cLZ3, cLZ4, cLZ5]) rfl ?_
    exact ⟨_, rfl, (o1.kp K6 (fun j hj e => by have := to1 j hj; omega)).mono (by omega), Below.kp Bw4 K6 Bw4.size (fun k hk => by omega)⟩
   ·simp only [if_true] at SE TT ⊢
    obtain ⟨w0, hw0⟩ : ∃ w0, ((((w.alloc (.cells #[.int .i64 n, .int .i64 f] 25)).alloc (.cells #[.int .i64 vo, .int .i64 lo, .int .i64 v, .string s, .slice ao xs.length ca, .string d] 30)).alloc (.cells #[.int .i64 v', .string s', .slice bo ys.length cb] 28)).alloc (.cells #[.int .i64 0, .int .i64 0, .int .i64 0, .string ⟨#[]⟩, .slice none 0 0, .string ⟨#[]⟩] 30)) = w0 := ⟨_, rfl⟩
    have Bw0 : Below w.heap.size w w0 := hw0 ▸ ((((Below.refl _ _).alloc (Nat.le_refl _) _).alloc (by simp) _).alloc (by simp; omega) _).alloc (by simp; omega) _
    have LC : Loc w0 (w.heap.size) #[.int .i64 n, .int .i64 f] := hw0 ▸ (((loc_at (w) _ _ rfl).alloc _).alloc _).alloc _
    have LS : Loc w0 (w.heap.size + 1) #[.int .i64 vo, .int .i64 lo, .int .i64 v, .string s, .slice ao xs.length ca, .string d] := hw0 ▸ ((loc_at (w.alloc _) _ _ (by simp)).alloc _).alloc _
    have LQ : Loc w0 (w.heap.size + 1 + 1) #[.int .i64 v', .string s', .slice bo ys.length cb] := hw0 ▸ (loc_at ((w.alloc _).alloc _) _ _ (by simp)).alloc _
    have LZ : Loc w0 (w.heap.size + 1 + 1 + 1) #[.int .i64 0, .int .i64 0, .int .i64 0, .string ⟨#[]⟩, .slice none 0 0, .string ⟨#[]⟩] := hw0 ▸ loc_at (((w.alloc _).alloc _).alloc _) _ _ (by simp)
    have zw0 : w.heap.size + 1 + 1 + 1 + 1 ≤ w0.heap.size := by rw [← hw0]; simp
    go_enter Tryz.func7, Tryz.ntmps7
    have cLC0 := LC.cell 0 rfl
    have cLC1 := LC.cell 1 rfl
    have cLS0 := LS.cell 0 rfl
    have cLS1 := LS.cell 1 rfl
    have cLS2 := LS.cell 2 rfl
    have cLS3 := LS.cell 3 rfl
    have cLS4 := LS.cell 4 rfl
    have cLS5 := LS.cell 5 rfl
    go_wp2_with fail
    clear hw0
    refine (unhide SO _ Bw0).mono ?_
    rintro _ w1 ⟨rfl, bb⟩
    clear cLC0 cLC1 cLS0 cLS1 cLS2 cLS3 cLS4 cLS5
    have Bw1 := Bw0.trans (bb.mono Bw0.size)
    have sw1 := bb.size
    replace LC := LC.below bb LC.lt
    replace LS := LS.below bb LS.lt
    replace LQ := LQ.below bb LQ.lt
    replace LZ := LZ.below bb LZ.lt
    clear Bw0
    clear bb
    have cLC0 := LC.cell 0 rfl
    have cLC1 := LC.cell 1 rfl
    have cLQ0 := LQ.cell 0 rfl
    have cLQ1 := LQ.cell 1 rfl
    have cLQ2 := LQ.cell 2 rfl
    go_wp2_with fail
    refine (unhide QO _ Bw1).mono ?_
    rintro _ w2 ⟨rfl, bb⟩
    clear cLC0 cLC1 cLQ0 cLQ1 cLQ2
    have Bw2 := Bw1.trans (bb.mono Bw1.size)
    have sw2 := bb.size
    replace LC := LC.below bb LC.lt
    replace LS := LS.below bb LS.lt
    replace LQ := LQ.below bb LQ.lt
    replace LZ := LZ.below bb LZ.lt
    clear Bw1
    clear bb
    have cLS0 := LS.cell 0 rfl
    have cLS1 := LS.cell 1 rfl
    have cLS2 := LS.cell 2 rfl
    have cLS3 := LS.cell 3 rfl
    have cLS4 := LS.cell 4 rfl
    have cLS5 := LS.cell 5 rfl
    have cLQ0 := LQ.cell 0 rfl
    have cLQ1 := LQ.cell 1 rfl
    have cLQ2 := LQ.cell 2 rfl
    go_wp2_with fail
    refine (unhide SE _ Bw2).mono ?_
    rintro _ w3 ⟨rfl, bb⟩
    clear cLS0 cLS1 cLS2 cLS3 cLS4 cLS5 cLQ0 cLQ1 cLQ2
    have Bw3 := Bw2.trans (bb.mono Bw2.size)
    have sw3 := bb.size
    replace LC := LC.below bb LC.lt
    replace LS := LS.below bb LS.lt
    replace LQ := LQ.below bb LQ.lt
    replace LZ := LZ.below bb LZ.lt
    clear Bw2
    clear bb
    go_wp2_with fail
    refine (unhide TT bo cb _ ys (unhide RR _ Bw3).2).mono ?_
    rintro _ w4 ⟨u1, rfl, o1, bb⟩
    have Bw4 := Bw3.trans (bb.mono Bw3.size)
    have sw4 := bb.size
    replace LC := LC.below bb LC.lt
    replace LS := LS.below bb LS.lt
    replace LQ := LQ.below bb LQ.lt
    replace LZ := LZ.below bb LZ.lt
    clear Bw3
    clear bb
    have to1 := World.ownsRow.lt o1
    obtain ⟨ao1, ko1, rfl⟩ := o1.form
    have K6 := kp6 w4 (w.heap.size + 1 + 1 + 1) (.int .i64 vo) (.int .i64 Lk) (.int .i64 v') (.string s') (.slice ao1 ys.length ko1) (.string D)
    have cLZ0 := LZ.cell 0 rfl
    have cLZ1 := LZ.cell 1 rfl
    have cLZ2 := LZ.cell 2 rfl
    have cLZ3 := LZ.cell 3 rfl
    have cLZ4 := LZ.cell 4 rfl
    have cLZ5 := LZ.cell 5 rfl
    have fLZ := LZ.frozen
    go_wp2
    refine bodyPost_ret (v := sv (vo) (Lk) (v') (s') (.slice ao1 ys.length ko1) (D)) (by simp [results, Tryz.results7, go_sem, cLZ0, cLZ1, cLZ2, cLZ3, cLZ4, cLZ5]) rfl ?_
    exact ⟨_, rfl, (o1.kp K6 (fun j hj e => by have := to1 j hj; omega)).mono (by omega), Below.kp Bw4 K6 Bw4.size (fun k hk => by omega)⟩

theorem see_fit (g : Bool) (v : Int) (s : ByteArray) (xs : List Int) (d : ByteArray) (v' : Int) (s' : ByteArray) (ys : List Int) (h1 : s.size ≤ 8001) (h2 : xs.length ≤ 9) (h3 : d.size ≤ 8001) (h4 : s'.size ≤ 8001) (h5 : ys.length ≤ 9) :
 (seeS g v v' s s').size ≤ 8001 ∧ (seeX g v v' xs ys).length ≤ 9 ∧ (seeD g d s').size ≤ 8001 := by
 have h6 := up2_size (s := s')
 refine ⟨?_, ?_, ?_⟩
 ·unfold seeS; split <;> (try split) <;> omega
 ·unfold seeX; split <;> (try split) <;> omega
 ·unfold seeD doneOf; split <;> (try split) <;> omega

theorem seen_no (n f vo lo v : Int) (s : ByteArray) (xs : List Int) (d : ByteArray) (v' : Int) (s' : ByteArray) (ys : List Int) (h : (sokB n f vo lo v s xs d && qokB n f v' s' ys) = false) :
 ssamB vo (seeL (goB n f vo lo v s xs d v' s' ys) lo s') (seeV (goB n f vo lo v s xs d v' s' ys) v v') (seeS (goB n f vo lo v s xs d v' s' ys) v v' s s') (seeX (goB n f vo lo v s xs d v' s' ys) v v' xs ys) (seeD (goB n f vo lo v s xs d v' s' ys) d s') vo lo v s xs d = true := by
 have hg : goB n f vo lo v s xs d v' s' ys = false := h
 rw [hg]
 exact ssam_me vo lo v s xs d
theorem seen_yes (n f vo lo v : Int) (s : ByteArray) (xs : List Int) (d : ByteArray) (v' : Int) (s' : ByteArray) (ys : List Int) (h : (sokB n f vo lo v s xs d && qokB n f v' s' ys) = true) :
 sokB n f vo (seeL (goB n f vo lo v s xs d v' s' ys) lo s') (seeV (goB n f vo lo v s xs d v' s' ys) v v') (seeS (goB n f vo lo v s xs d v' s' ys) v v' s s') (seeX (goB n f vo lo v s xs d v' s' ys) v v' xs ys) (seeD (goB n f vo lo v s xs d v' s' ys) d s') = true ∧ lo ≤ seeL (goB n f vo lo v s xs d v' s' ys) lo s' ∧ v ≤ seeV (goB n f vo lo v s xs d v' s' ys) v v' ∧ v' ≤ seeV (goB n f vo lo v s xs d v' s' ys) v v' ∧ extB (seeD (goB n f vo lo v s xs d v' s' ys) d s') d = true ∧
 goB n f vo (seeL (goB n f vo lo v s xs d v' s' ys) lo s') (seeV (goB n f vo lo v s xs d v' s' ys) v v') (seeS (goB n f vo lo v s xs d v' s' ys) v v' s s') (seeX (goB n f vo lo v s xs d v' s' ys) v v' xs ys) (seeD (goB n f vo lo v s xs d v' s' ys) d s') v' s' ys = true ∧
 seeL true (seeL (goB n f vo lo v s xs d v' s' ys) lo s') s' = seeL (goB n f vo lo v s xs d v' s' ys) lo s' ∧ seeV true (seeV (goB n f vo lo v s xs d v' s' ys) v v') v' = seeV (goB n f vo lo v s xs d v' s' ys) v v' ∧ seeS true (seeV (goB n f vo lo v s xs d v' s' ys) v v') v' (seeS (goB n f vo lo v s xs d v' s' ys) v v' s s') s' = seeS (goB n f vo lo v s xs d v' s' ys) v v' s s' ∧ seeX true (seeV (goB n f vo lo v s xs d v' s' ys) v v') v' (seeX (goB n f vo lo v s xs d v' s' ys) v v' xs ys) ys = seeX (goB n f vo lo v s xs d v' s' ys) v v' xs ys ∧ seeD true (seeD (goB n f vo lo v s xs d v' s' ys) d s') s' = seeD (goB n f vo lo v s xs d v' s' ys) d s' := by
 have hg : goB n f vo lo v s xs d v' s' ys = true := h
 rw [hg]
 exact safe_done hg
end Go.Proofs.YtmpmedbojfjnaaaGreatDoor
