/- See of the specification. -/
import Derived.Test.YtcclbejpgiogaaaGreatDoorNBAU
import Derived.Test.YtcclbejpgiogaaaGreatDoorNBAV
set_option maxRecDepth 100000
set_option maxHeartbeats 16000000
namespace Go.Proofs.YtcclbejpgiogaaaGreatDoor
open Go.RowKit
set_option linter.unusedSectionVars false
variable [∀ (a b c d : Int), Decidable (Ok4 a b c d)]
variable [∀ (a b c d : Nat), Decidable (okN a b c d)]
variable [∀ (last : Int) (s : St), Decidable (GoodSt last s)]
variable [∀ (x : T4), Decidable (OkT x)]
variable [∀ (n : Int) (s : List Int), Decidable (OkL n s)]
variable [∀ (n f : Int), Decidable (COk n f)]

theorem l1Max_any (a b : Int) (w : World) : Calls Tryz.prog 93 #[.int .i64 a, .int .i64 b] w fun e w' => e = .returned (.int .i64 (if a < b then b else a)) ∧ Below w.heap.size w w' := by
 rcases Int.lt_trichotomy a b with h | rfl | h
 ·rw [if_pos h]
  go_enter Tryz.func93, Tryz.ntmps93
  go_wp2
  go_ret
  exact ⟨rfl, Below.refl _ _⟩
 ·rw [if_neg (by omega)]
  go_enter Tryz.func93, Tryz.ntmps93
  go_wp2
  go_ret
  exact ⟨rfl, Below.refl _ _⟩
 ·rw [if_neg (by omega)]
  go_enter Tryz.func93, Tryz.ntmps93
  go_wp2
  go_ret
  exact ⟨rfl, Below.refl _ _⟩

theorem specSee (n f : Int) (vo lo v : Int) (s : ByteArray) (ao : Option Addr) (ca : Nat) (xs : List Int) (d : ByteArray) (v' : Int) (s' : ByteArray) (bo : Option Addr) (cb : Nat) (ys : List Int) (w : World) (hs : s.size ≤ 1048576) (hd : d.size ≤ 1048576) (hs' : s'.size ≤ 1048576) (ha : RI w (.slice ao xs.length ca) xs) (hb : RI w (.slice bo ys.length cb) ys) :
 Calls Tryz.prog 65 #[cv n f, sv vo lo v s (.slice ao xs.length ca) d, qv v' s' (.slice bo ys.length cb)] w fun e w' => ∃ u, e = .returned (sv vo (seeL (goB n f vo lo v s xs d v' s' ys) lo s') (seeV (goB n f vo lo v s xs d v' s' ys) v v') (seeS (goB n f vo lo v s xs d v' s' ys) v v' s s') u (seeD (goB n f vo lo v s xs d v' s' ys) d s')) ∧ OI w' w.heap.size u (seeX (goB n f vo lo v s xs d v' s' ys) v v' xs ys) ∧ Below w.heap.size w w' := by
 have SO := hide fun w' (h : Below w.heap.size w w') => specSafeOk n f vo lo v s ao ca xs d w' hs hd (ha.below h)
 have QO := hide fun w' (h : Below w.heap.size w w') => specQcOk n f v' s' bo cb ys w' hs' (hb.below h)
 have TO := hide fun w' (h : Below w.heap.size w w') => l11Copy_any vo lo v s ao ca xs d w' (ha.below h)
 have QL := hide fun w' (h : Below w.heap.size w w') => specQcLater_at v' v s' s (.slice bo ys.length cb) (.slice ao xs.length ca) ys xs w' (hb.below h) (ha.below h)
 have UP := hide fun w' => specUpOf s' w' (by omega)
 have VO := hide fun w' => specViewOf (upAns s') w' (by have := up_size (s := s'); omega)
 have SE := hide fun w' => specSettles s' w' hs'
 have EX := hide fun w' => specExtends (up2 s') d w' (by have := up2_size (s := s'); omega) (by omega)
 have MX := hide fun a b w' => l1Max_any a b w'
 have HG : Hid (goB n f vo lo v s xs d v' s' ys = (sokB n f vo lo v s xs d && qokB n f v' s' ys)) := hide rfl
 have hSN : stN s' = (if stB s' = true then up2 s' else ⟨#[]⟩) := rfl
 rw [hSN] at SE
 clear hSN
 have hlk : (if lo < viewAns (upAns s') then viewAns (upAns s') else lo) = lockOf lo s' := rfl
 have HL := hide (show seeL true lo s' = lockOf lo s' from rfl)
 have HD := hide (show seeD true d s' = (if (stB s' && extB (up2 s') d) = true then up2 s' else d) from rfl)
 have HV := hide (show seeV true v v' = (if v < v' then v' else v) from rfl)
 have HS := hide (show seeS true v v' s s' = (if v < v' then s' else s) from rfl)
 have HX := hide (show seeX true v v' xs ys = (if v < v' then ys else xs) from rfl)
 have NL := hide (show seeL false lo s' = lo from rfl)
 have ND := hide (show seeD false d s' = d from rfl)
 have NV := hide (show seeV false v v' = v from rfl)
 have NS := hide (show seeS false v v' s s' = s from rfl)
 have NX := hide (show seeX false v v' xs ys = xs from rfl)
 have hxl := ha.1
 have hyl := hb.1
 have hx1 : (if v < v' then ys else xs).length ≤ 4194304 := by split <;> omega
 clear ha hb
 rw [HG.out]
 clear HG
 generalize sokB n f vo lo v s xs d = b1 at *
 generalize qokB n f v' s' ys = b2 at *
 generalize lockOf lo s' = Lk at *
 generalize viewAns (upAns s') = vw at *
 generalize upAns s' = u1 at *
 generalize stB s' = g at *
 generalize extB (up2 s') d = x at *
 generalize up2 s' = u2 at *
 generalize (if v < v' then v' else v) = V1 at *
 generalize (if v < v' then s' else s) = S1 at *
 generalize (if v < v' then ys else xs) = X1 at *
 cases b1
 ·simp only [Bool.false_and]
  rw [NL.out, ND.out, NV.out, NS.out, NX.out]
  clear HL HD HV HS HX NL ND NV NS NX QL UP VO SE EX MX hlk hx1
  obtain ⟨w0, hw0⟩ : ∃ w0, ((((w.alloc (.cells #[.int .i64 n, .int .i64 f] 25)).alloc (.cells #[.int .i64 vo, .int .i64 lo, .int .i64 v, .string s, .slice ao xs.length ca, .string d] 30)).alloc (.cells #[.int .i64 v', .string s', .slice bo ys.length cb] 28)).alloc (.cells #[.int .i64 0, .int .i64 0, .int .i64 0, .string ⟨#[]⟩, .slice none 0 0, .string ⟨#[]⟩] 30)) = w0 := ⟨_, rfl⟩
  have Bw0 : Below w.heap.size w w0 := hw0 ▸ ((((Below.refl _ _).alloc (Nat.le_refl _) _).alloc (by simp) _).alloc (by simp; omega) _).alloc (by simp; omega) _
  have LC : Loc w0 (w.heap.size) #[.int .i64 n, .int .i64 f] := hw0 ▸ (((loc_at (w) _ _ rfl).alloc _).alloc _).alloc _
  have LS : Loc w0 (w.heap.size + 1) #[.int .i64 vo, .int .i64 lo, .int .i64 v, .string s, .slice ao xs.length ca, .string d] := hw0 ▸ ((loc_at (w.alloc _) _ _ (by simp)).alloc _).alloc _
  have LQ : Loc w0 (w.heap.size + 1 + 1) #[.int .i64 v', .string s', .slice bo ys.length cb] := hw0 ▸ (loc_at ((w.alloc _).alloc _) _ _ (by simp)).alloc _
  have LZ : Loc w0 (w.heap.size + 1 + 1 + 1) #[.int .i64 0, .int .i64 0, .int .i64 0, .string ⟨#[]⟩, .slice none 0 0, .string ⟨#[]⟩] := hw0 ▸ loc_at (((w.alloc _).alloc _).alloc _) _ _ (by simp)
  have zw0 : w.heap.size + 1 + 1 + 1 + 1 ≤ w0.heap.size := by rw [← hw0]; simp
  go_enter Tryz.func65, Tryz.ntmps65
  have cLS0 := LS.cell 0 rfl
  have cLS1 := LS.cell 1 rfl
  have cLS2 := LS.cell 2 rfl
  have cLS3 := LS.cell 3 rfl
  have cLS4 := LS.cell 4 rfl
  have cLS5 := LS.cell 5 rfl
  go_wp2_with fail
  clear hw0
  refine (TO.out _ Bw0).mono ?_
  rintro _ w1 ⟨u1, rfl, o1, bb⟩
  clear cLS0 cLS1 cLS2 cLS3 cLS4 cLS5
  have Bw1 := bu Bw0 bb
  have sw1 := bb.size
  replace LC := LC.up bb
  replace LS := LS.up bb
  replace LQ := LQ.up bb
  replace LZ := LZ.up bb
  clear Bw0
  clear bb
  have to1 := World.ownsRow.lt o1
  obtain ⟨ao1, ko1, rfl⟩ := o1.form
  obtain ⟨w2, hw2⟩ : ∃ x, w1.alloc (.cells #[.int .i64 vo, .int .i64 lo, .int .i64 v, .string s, .slice ao1 xs.length ko1, .string d] 30) = x := ⟨_, rfl⟩
  have bb : Below w1.heap.size w1 w2 := hw2 ▸ qalloc _ _
  have LO : Loc w2 w1.heap.size #[.int .i64 vo, .int .i64 lo, .int .i64 v, .string s, .slice ao1 xs.length ko1, .string d] := hw2 ▸ loc_at w1 _ _ rfl
  have zw2 : w2.heap.size = w1.heap.size + 1 := by rw [← hw2]; simp
  have Bw2 := bu Bw1 bb
  have sw2 := bb.size
  replace LC := LC.up bb
  replace LS := LS.up bb
  replace LQ := LQ.up bb
  replace LZ := LZ.up bb
  replace o1 := o1.below bb
  clear Bw1
  clear bb
  have cLC0 := LC.cell 0 rfl
  have cLC1 := LC.cell 1 rfl
  have cLS0 := LS.cell 0 rfl
  have cLS1 := LS.cell 1 rfl
  have cLS2 := LS.cell 2 rfl
  have cLS3 := LS.cell 3 rfl
  have cLS4 := LS.cell 4 rfl
  have cLS5 := LS.cell 5 rfl
  go_wp2_with fail
  clear hw2
  refine (SO.out _ Bw2).mono ?_
  rintro _ w3 ⟨rfl, bb⟩
  clear cLC0 cLC1 cLS0 cLS1 cLS2 cLS3 cLS4 cLS5
  have Bw3 := bu Bw2 bb
  have sw3 := bb.size
  replace LC := LC.up bb
  replace LS := LS.up bb
  replace LQ := LQ.up bb
  replace LZ := LZ.up bb
  replace LO := LO.up bb
  replace o1 := o1.below bb
  clear Bw2
  clear bb
  have K6 := kp6 w3 (w.heap.size + 1 + 1 + 1) (.int .i64 vo) (.int .i64 lo) (.int .i64 v) (.string s) (.slice ao1 xs.length ko1) (.string d)
  have cLZ0 := LZ.cell 0 rfl
  have cLZ1 := LZ.cell 1 rfl
  have cLZ2 := LZ.cell 2 rfl
  have cLZ3 := LZ.cell 3 rfl
  have cLZ4 := LZ.cell 4 rfl
  have cLZ5 := LZ.cell 5 rfl
  have cLO0 := LO.cell 0 rfl
  have cLO1 := LO.cell 1 rfl
  have cLO2 := LO.cell 2 rfl
  have cLO3 := LO.cell 3 rfl
  have cLO4 := LO.cell 4 rfl
  have cLO5 := LO.cell 5 rfl
  have fLZ := LZ.frozen
  go_wp2
  refine bodyPost_ret (v := sv (vo) (lo) (v) (s) (.slice ao1 xs.length ko1) (d)) (by simp [results, Tryz.results65, go_sem, cLZ0, cLZ1, cLZ2, cLZ3, cLZ4, cLZ5]) rfl ?_
  exact ⟨_, rfl, (o1.kp K6 (fun j hj e => by have := to1 j hj; omega)).mono (by omega), Below.kp Bw3 K6 Bw3.size (fun k hk => by omega)⟩
 ·cases b2
  ·simp only [Bool.true_and]
   rw [NL.out, ND.out, NV.out, NS.out, NX.out]
   clear HL HD HV HS HX NL ND NV NS NX QL UP VO SE EX MX hlk hx1
   obtain ⟨w0, hw0⟩ : ∃ w0, ((((w.alloc (.cells #[.int .i64 n, .int .i64 f] 25)).alloc (.cells #[.int .i64 vo, .int .i64 lo, .int .i64 v, .string s, .slice ao xs.length ca, .string d] 30)).alloc (.cells #[.int .i64 v', .string s', .slice bo ys.length cb] 28)).alloc (.cells #[.int .i64 0, .int .i64 0, .int .i64 0, .string ⟨#[]⟩, .slice none 0 0, .string ⟨#[]⟩] 30)) = w0 := ⟨_, rfl⟩
   have Bw0 : Below w.heap.size w w0 := hw0 ▸ ((((Below.refl _ _).alloc (Nat.le_refl _) _).alloc (by simp) _).alloc (by simp; omega) _).alloc (by simp; omega) _
   have LC : Loc w0 (w.heap.size) #[.int .i64 n, .int .i64 f] := hw0 ▸ (((loc_at (w) _ _ rfl).alloc _).alloc _).alloc _
   have LS : Loc w0 (w.heap.size + 1) #[.int .i64 vo, .int .i64 lo, .int .i64 v, .string s, .slice ao xs.length ca, .string d] := hw0 ▸ ((loc_at (w.alloc _) _ _ (by simp)).alloc _).alloc _
   have LQ : Loc w0 (w.heap.size + 1 + 1) #[.int .i64 v', .string s', .slice bo ys.length cb] := hw0 ▸ (loc_at ((w.alloc _).alloc _) _ _ (by simp)).alloc _
   have LZ : Loc w0 (w.heap.size + 1 + 1 + 1) #[.int .i64 0, .int .i64 0, .int .i64 0, .string ⟨#[]⟩, .slice none 0 0, .string ⟨#[]⟩] := hw0 ▸ loc_at (((w.alloc _).alloc _).alloc _) _ _ (by simp)
   have zw0 : w.heap.size + 1 + 1 + 1 + 1 ≤ w0.heap.size := by rw [← hw0]; simp
   go_enter Tryz.func65, Tryz.ntmps65
   have cLS0 := LS.cell 0 rfl
   have cLS1 := LS.cell 1 rfl
   have cLS2 := LS.cell 2 rfl
   have cLS3 := LS.cell 3 rfl
   have cLS4 := LS.cell 4 rfl
   have cLS5 := LS.cell 5 rfl
   go_wp2_with fail
   clear hw0
   refine (TO.out _ Bw0).mono ?_
   rintro _ w1 ⟨u1, rfl, o1, bb⟩
   clear cLS0 cLS1 cLS2 cLS3 cLS4 cLS5
   have Bw1 := bu Bw0 bb
   have sw1 := bb.size
   replace LC := LC.up bb
   replace LS := LS.up bb
   replace LQ := LQ.up bb
   replace LZ := LZ.up bb
   clear Bw0
   clear bb
   have to1 := World.ownsRow.lt o1
   obtain ⟨ao1, ko1, rfl⟩ := o1.form
   obtain ⟨w2, hw2⟩ : ∃ x, w1.alloc (.cells #[.int .i64 vo, .int .i64 lo, .int .i64 v, .string s, .slice ao1 xs.length ko1, .string d] 30) = x := ⟨_, rfl⟩
   have bb : Below w1.heap.size w1 w2 := hw2 ▸ qalloc _ _
   have LO : Loc w2 w1.heap.size #[.int .i64 vo, .int .i64 lo, .int .i64 v, .string s, .slice ao1 xs.length ko1, .string d] := hw2 ▸ loc_at w1 _ _ rfl
   have zw2 : w2.heap.size = w1.heap.size + 1 := by rw [← hw2]; simp
   have Bw2 := bu Bw1 bb
   have sw2 := bb.size
   replace LC := LC.up bb
   replace LS := LS.up bb
   replace LQ := LQ.up bb
   replace LZ := LZ.up bb
   replace o1 := o1.below bb
   clear Bw1
   clear bb
   have cLC0 := LC.cell 0 rfl
   have cLC1 := LC.cell 1 rfl
   have cLS0 := LS.cell 0 rfl
   have cLS1 := LS.cell 1 rfl
   have cLS2 := LS.cell 2 rfl
   have cLS3 := LS.cell 3 rfl
   have cLS4 := LS.cell 4 rfl
   have cLS5 := LS.cell 5 rfl
   go_wp2_with fail
   clear hw2
   refine (SO.out _ Bw2).mono ?_
   rintro _ w3 ⟨rfl, bb⟩
   clear cLC0 cLC1 cLS0 cLS1 cLS2 cLS3 cLS4 cLS5
   have Bw3 := bu Bw2 bb
   have sw3 := bb.size
   replace LC := LC.up bb
   replace LS := LS.up bb
   replace LQ := LQ.up bb
   replace LZ := LZ.up bb
   replace LO := LO.up bb
   replace o1 := o1.below bb
   clear Bw2
   clear bb
   have cLC0 := LC.cell 0 rfl
   have cLC1 := LC.cell 1 rfl
   have cLQ0 := LQ.cell 0 rfl
   have cLQ1 := LQ.cell 1 rfl
   have cLQ2 := LQ.cell 2 rfl
   go_wp2_with fail
   refine (QO.out _ Bw3).mono ?_
   rintro _ w4 ⟨rfl, bb⟩
   clear cLC0 cLC1 cLQ0 cLQ1 cLQ2
   have Bw4 := bu Bw3 bb
   have sw4 := bb.size
   replace LC := LC.up bb
   replace LS := LS.up bb
   replace LQ := LQ.up bb
   replace LZ := LZ.up bb
   replace LO := LO.up bb
   replace o1 := o1.below bb
   clear Bw3
   clear bb
   have K6 := kp6 w4 (w.heap.size + 1 + 1 + 1) (.int .i64 vo) (.int .i64 lo) (.int .i64 v) (.string s) (.slice ao1 xs.length ko1) (.string d)
   have cLZ0 := LZ.cell 0 rfl
   have cLZ1 := LZ.cell 1 rfl
   have cLZ2 := LZ.cell 2 rfl
   have cLZ3 := LZ.cell 3 rfl
   have cLZ4 := LZ.cell 4 rfl
   have cLZ5 := LZ.cell 5 rfl
   have cLO0 := LO.cell 0 rfl
   have cLO1 := LO.cell 1 rfl
   have cLO2 := LO.cell 2 rfl
   have cLO3 := LO.cell 3 rfl
   have cLO4 := LO.cell 4 rfl
   have cLO5 := LO.cell 5 rfl
   have fLZ := LZ.frozen
   go_wp2
   refine bodyPost_ret (v := sv (vo) (lo) (v) (s) (.slice ao1 xs.length ko1) (d)) (by simp [results, Tryz.results65, go_sem, cLZ0, cLZ1, cLZ2, cLZ3, cLZ4, cLZ5]) rfl ?_
   exact ⟨_, rfl, (o1.kp K6 (fun j hj e => by have := to1 j hj; omega)).mono (by omega), Below.kp Bw4 K6 Bw4.size (fun k hk => by omega)⟩
  ·simp only [Bool.true_and]
   rw [HL.out, HV.out, HS.out, HX.out]
   generalize seeD true d s' = D at *
   clear HL HV HS HX NL ND NV NS NX
   obtain ⟨w0, hw0⟩ : ∃ w0, ((((w.alloc (.cells #[.int .i64 n, .int .i64 f] 25)).alloc (.cells #[.int .i64 vo, .int .i64 lo, .int .i64 v, .string s, .slice ao xs.length ca, .string d] 30)).alloc (.cells #[.int .i64 v', .string s', .slice bo ys.length cb] 28)).alloc (.cells #[.int .i64 0, .int .i64 0, .int .i64 0, .string ⟨#[]⟩, .slice none 0 0, .string ⟨#[]⟩] 30)) = w0 := ⟨_, rfl⟩
   have Bw0 : Below w.heap.size w w0 := hw0 ▸ ((((Below.refl _ _).alloc (Nat.le_refl _) _).alloc (by simp) _).alloc (by simp; omega) _).alloc (by simp; omega) _
   have LC : Loc w0 (w.heap.size) #[.int .i64 n, .int .i64 f] := hw0 ▸ (((loc_at (w) _ _ rfl).alloc _).alloc _).alloc _
   have LS : Loc w0 (w.heap.size + 1) #[.int .i64 vo, .int .i64 lo, .int .i64 v, .string s, .slice ao xs.length ca, .string d] := hw0 ▸ ((loc_at (w.alloc _) _ _ (by simp)).alloc _).alloc _
   have LQ : Loc w0 (w.heap.size + 1 + 1) #[.int .i64 v', .string s', .slice bo ys.length cb] := hw0 ▸ (loc_at ((w.alloc _).alloc _) _ _ (by simp)).alloc _
   have LZ : Loc w0 (w.heap.size + 1 + 1 + 1) #[.int .i64 0, .int .i64 0, .int .i64 0, .string ⟨#[]⟩, .slice none 0 0, .string ⟨#[]⟩] := hw0 ▸ loc_at (((w.alloc _).alloc _).alloc _) _ _ (by simp)
   have zw0 : w.heap.size + 1 + 1 + 1 + 1 ≤ w0.heap.size := by rw [← hw0]; simp
   go_enter Tryz.func65, Tryz.ntmps65
   have cLS0 := LS.cell 0 rfl
   have cLS1 := LS.cell 1 rfl
   have cLS2 := LS.cell 2 rfl
   have cLS3 := LS.cell 3 rfl
   have cLS4 := LS.cell 4 rfl
   have cLS5 := LS.cell 5 rfl
   go_wp2_with fail
   clear hw0
   refine (TO.out _ Bw0).mono ?_
   rintro _ w1 ⟨u1, rfl, o1, bb⟩
   clear cLS0 cLS1 cLS2 cLS3 cLS4 cLS5
   have Bw1 := bu Bw0 bb
   have sw1 := bb.size
   replace LC := LC.up bb
   replace LS := LS.up bb
   replace LQ := LQ.up bb
   replace LZ := LZ.up bb
   clear Bw0
   clear bb
   have to1 := World.ownsRow.lt o1
   obtain ⟨ao1, ko1, rfl⟩ := o1.form
   obtain ⟨w2, hw2⟩ : ∃ x, w1.alloc (.cells #[.int .i64 vo, .int .i64 lo, .int .i64 v, .string s, .slice ao1 xs.length ko1, .string d] 30) = x := ⟨_, rfl⟩
   have bb : Below w1.heap.size w1 w2 := hw2 ▸ qalloc _ _
   have LO : Loc w2 w1.heap.size #[.int .i64 vo, .int .i64 lo, .int .i64 v, .string s, .slice ao1 xs.length ko1, .string d] := hw2 ▸ loc_at w1 _ _ rfl
   have zw2 : w2.heap.size = w1.heap.size + 1 := by rw [← hw2]; simp
   have Bw2 := bu Bw1 bb
   have sw2 := bb.size
   replace LC := LC.up bb
   replace LS := LS.up bb
   replace LQ := LQ.up bb
   replace LZ := LZ.up bb
   replace o1 := o1.below bb
   clear Bw1
   clear bb
   have cLC0 := LC.cell 0 rfl
   have cLC1 := LC.cell 1 rfl
   have cLS0 := LS.cell 0 rfl
   have cLS1 := LS.cell 1 rfl
   have cLS2 := LS.cell 2 rfl
   have cLS3 := LS.cell 3 rfl
   have cLS4 := LS.cell 4 rfl
   have cLS5 := LS.cell 5 rfl
   go_wp2_with fail
   clear hw2
   refine (SO.out _ Bw2).mono ?_
   rintro _ w3 ⟨rfl, bb⟩
   clear cLC0 cLC1 cLS0 cLS1 cLS2 cLS3 cLS4 cLS5
   have Bw3 := bu Bw2 bb
   have sw3 := bb.size
   replace LC := LC.up bb
   replace LS := LS.up bb
   replace LQ := LQ.up bb
   replace LZ := LZ.up bb
   replace LO := LO.up bb
   replace o1 := o1.below bb
   clear Bw2
   clear bb
   have cLC0 := LC.cell 0 rfl
   have cLC1 := LC.cell 1 rfl
   have cLQ0 := LQ.cell 0 rfl
   have cLQ1 := LQ.cell 1 rfl
   have cLQ2 := LQ.cell 2 rfl
   go_wp2_with fail
   refine (QO.out _ Bw3).mono ?_
   rintro _ w4 ⟨rfl, bb⟩
   clear cLC0 cLC1 cLQ0 cLQ1 cLQ2
   have Bw4 := bu Bw3 bb
   have sw4 := bb.size
   replace LC := LC.up bb
   replace LS := LS.up bb
   replace LQ := LQ.up bb
   replace LZ := LZ.up bb
   replace LO := LO.up bb
   replace o1 := o1.below bb
   clear Bw3
   clear bb
   clear o1 SO QO TO
   have cLS0 := LS.cell 0 rfl
   have cLS1 := LS.cell 1 rfl
   have cLS2 := LS.cell 2 rfl
   have cLS3 := LS.cell 3 rfl
   have cLS4 := LS.cell 4 rfl
   have cLS5 := LS.cell 5 rfl
   have cLQ0 := LQ.cell 0 rfl
   have cLQ1 := LQ.cell 1 rfl
   have cLQ2 := LQ.cell 2 rfl
   go_wp2_with fail
   refine (QL.out _ Bw4).mono ?_
   rintro _ w5 ⟨u2', rfl, o2, bb⟩
   clear cLS0 cLS1 cLS2 cLS3 cLS4 cLS5 cLQ0 cLQ1 cLQ2
   have Bw5 := bu Bw4 bb
   have sw5 := bb.size
   replace LC := LC.up bb
   replace LS := LS.up bb
   replace LQ := LQ.up bb
   replace LZ := LZ.up bb
   replace LO := LO.up bb
   clear Bw4
   clear bb
   have to2 := World.ownsRow.lt o2
   obtain ⟨ao2, ko2, rfl⟩ := o2.form
   clear QL
   have cLO0 := LO.cell 0 rfl
   have cLO1 := LO.cell 1 rfl
   have cLO2 := LO.cell 2 rfl
   have cLO3 := LO.cell 3 rfl
   have cLO4 := LO.cell 4 rfl
   have cLO5 := LO.cell 5 rfl
   have fLO := LO.frozen
   go_upto_region 5 with fail
   clear cLO0 cLO1 cLO2 cLO3 cLO4 cLO5
   clear fLO
   obtain ⟨w6, hw6⟩ : ∃ y, (((w5.setCell ⟨w1.heap.size, 2, none⟩ (.int .i64 V1)).setCell ⟨w1.heap.size, 3, none⟩ (.string S1)).setCell ⟨w1.heap.size, 4, none⟩ (.slice ao2 X1.length ko2)) = y := ⟨_, rfl⟩
   have kN : Kp w5 w6 (fun k => k = w1.heap.size) := hw6 ▸ ((set_kp _ _ _ _).trans (set_kp _ _ _ _)).trans (set_kp _ _ _ _)
   replace LO : Loc w6 (w1.heap.size) #[.int .i64 vo, .int .i64 lo, .int .i64 V1, .string S1, .slice ao2 X1.length ko2, .string d] := hw6 ▸ (((LO.set 2 _ rfl).set 3 _ rfl).set 4 _ rfl)
   replace LC := LC.kp kN (by omega)
   replace LS := LS.kp kN (by omega)
   replace LQ := LQ.kp kN (by omega)
   replace LZ := LZ.kp kN (by omega)
   replace o2 := o2.kp kN (fun j hj e => by have := to2 j hj; omega)
   have Bw6 := Below.kp Bw5 kN Bw5.size (fun k hk => by omega)
   have sw6 := kN.size
   rw [hw6]
   clear hw6 kN Bw5
   have K : Hid (∀ w', Below w6.heap.size w6 w' → (fun w' => (w'.cell? ⟨w.heap.size + 1, 0, none⟩ = some (.int .i64 vo) ∧ w'.cell? ⟨w.heap.size + 1, 1, none⟩ = some (.int .i64 lo) ∧ w'.cell? ⟨w.heap.size + 1, 2, none⟩ = some (.int .i64 v) ∧ w'.cell? ⟨w.heap.size + 1, 3, none⟩ = some (.string s) ∧ w'.cell? ⟨w.heap.size + 1, 4, none⟩ = some (.slice ao xs.length ca) ∧ w'.cell? ⟨w.heap.size + 1, 5, none⟩ = some (.string d)) ∧ (w'.cell? ⟨w.heap.size + 1 + 1, 0, none⟩ = some (.int .i64 v') ∧ w'.cell? ⟨w.heap.size + 1 + 1, 1, none⟩ = some (.string s') ∧ w'.cell? ⟨w.heap.size + 1 + 1, 2, none⟩ = some (.slice bo ys.length cb))) w') := hide fun w' hb' => ⟨⟨(LS.up hb').cell 0 rfl, (LS.up hb').cell 1 rfl, (LS.up hb').cell 2 rfl, (LS.up hb').cell 3 rfl, (LS.up hb').cell 4 rfl, (LS.up hb').cell 5 rfl⟩, ⟨(LQ.up hb').cell 0 rfl, (LQ.up hb').cell 1 rfl, (LQ.up hb').cell 2 rfl⟩⟩
   go_upto_region 5 with fail
   go_cut [34] (fun c wx => c = .int .i64 Lk ∧ Loc wx (w1.heap.size) #[.int .i64 vo, .int .i64 Lk, .int .i64 V1, .string S1, .slice ao2 X1.length ko2, .string d] ∧ Loc wx (w.heap.size) #[.int .i64 n, .int .i64 f] ∧ Loc wx (w.heap.size + 1) #[.int .i64 vo, .int .i64 lo, .int .i64 v, .string s, .slice ao xs.length ca, .string d] ∧ Loc wx (w.heap.size + 1 + 1) #[.int .i64 v', .string s', .slice bo ys.length cb] ∧ Loc wx (w.heap.size + 1 + 1 + 1) #[.int .i64 0, .int .i64 0, .int .i64 0, .string ⟨#[]⟩, .slice none 0 0, .string ⟨#[]⟩] ∧ OI wx (w4.heap.size) (.slice ao2 X1.length ko2) X1 ∧ w.heap.size ≤ wx.heap.size ∧ w6.heap.size ≤ wx.heap.size ∧ Below w.heap.size w wx)
   case first =>
    refine wp_region_noPanic ?_
    refine wp_region_held_drew (S := fun w' => (w'.cell? ⟨w.heap.size + 1, 0, none⟩ = some (.int .i64 vo) ∧ w'.cell? ⟨w.heap.size + 1, 1, none⟩ = some (.int .i64 lo) ∧ w'.cell? ⟨w.heap.size + 1, 2, none⟩ = some (.int .i64 v) ∧ w'.cell? ⟨w.heap.size + 1, 3, none⟩ = some (.string s) ∧ w'.cell? ⟨w.heap.size + 1, 4, none⟩ = some (.slice ao xs.length ca) ∧ w'.cell? ⟨w.heap.size + 1, 5, none⟩ = some (.string d)) ∧ (w'.cell? ⟨w.heap.size + 1 + 1, 0, none⟩ = some (.int .i64 v') ∧ w'.cell? ⟨w.heap.size + 1 + 1, 1, none⟩ = some (.string s') ∧ w'.cell? ⟨w.heap.size + 1 + 1, 2, none⟩ = some (.slice bo ys.length cb))) (by kernel_rfl) (K.out _ (Below.drew (Below.refl _ _))) (fun hHeld => ?_)
    have bd : Below w6.heap.size w6 w6.drew := Below.drew (Below.refl _ _)
    refine' tj 0 28 rfl ?_ ?_;rotate_left
    ·intro w h; (try dsimp only at h); go_simp; try with_reducible rfl
    simp only [pU]
    refine' tj 2 30 rfl ?_ ?_;rotate_left
    ·intro w h; (try dsimp only at h); go_simp; try with_reducible rfl
    simp only [pU]
    refine' tj 1 29 rfl ?_ ?_;rotate_left
    ·intro w h; (try dsimp only at h); go_simp; try with_reducible rfl
    simp only [pU]
    refine' tj 3 31 rfl ?_ ?_;rotate_left
    ·intro w h; (try dsimp only at h); go_simp; try with_reducible rfl
    simp only [pU]
    refine rd 4 rfl (fun KK hKK => ?_)
    go_simp
    have hgo := bd
    refine (UP.out _).mono ?_
    rintro e wc5_1 ⟨rfl, bnew⟩
    have bc5_2 : Below w6.heap.size w6 wc5_1 := bu bd bnew
    clear hHeld bnew hgo
    refine hKK.out _ _ (K.out _ bc5_2) (fun hHeld => ?_)
    clear hKK KK
    refine rd 5 rfl (fun KK hKK => ?_)
    go_simp
    have hgo := bc5_2
    refine (VO.out _).mono ?_
    rintro e wc5_3 ⟨rfl, bnew⟩
    have bc5_4 : Below w6.heap.size w6 wc5_3 := bu bc5_2 bnew
    clear hHeld bnew hgo
    refine hKK.out _ _ (K.out _ bc5_4) (fun hHeld => ?_)
    clear hKK KK
    refine rd 6 rfl (fun KK hKK => ?_)
    go_simp
    have hgo := bc5_4
    refine (MX.out _ _ _).mono ?_
    rintro e wc5_5 ⟨rfl, bnew⟩
    have bc5_6 : Below w6.heap.size w6 wc5_5 := bu bc5_4 bnew
    clear hHeld bnew hgo
    refine hKK.out _ _ (K.out _ bc5_6) (fun hHeld => ?_)
    clear hKK KK
    refine' tj 7 35 rfl ?_ ?_;rotate_left
    ·intro w h; (try dsimp only at h); go_simp; try with_reducible rfl
    simp only [pU]
    have lg := LO.up bc5_6
    have q0 := lg.cell 0 rfl
    have q1 := lg.cell 1 rfl
    have q2 := lg.cell 2 rfl
    have q3 := lg.cell 3 rfl
    have q4 := lg.cell 4 rfl
    have q5 := lg.cell 5 rfl
    have FG := lg.frozen
    refine rd 8 rfl (fun KK hKK => ?_)
    go_simp
    have ks : Kp (wc5_5) (wc5_5.setCell ⟨w1.heap.size, 1, none⟩ (.int .i64 Lk)) (fun k => k = w1.heap.size) := set_kp _ _ _ _
    have ls : Loc (wc5_5.setCell ⟨w1.heap.size, 1, none⟩ (.int .i64 Lk)) (w1.heap.size) #[.int .i64 vo, .int .i64 Lk, .int .i64 V1, .string S1, .slice ao2 X1.length ko2, .string d] := (lg.set 1 _ rfl)
    have lLC := (LC.up bc5_6).kp ks (by omega)
    have lLS := (LS.up bc5_6).kp ks (by omega)
    have lLQ := (LQ.up bc5_6).kp ks (by omega)
    have lLZ := (LZ.up bc5_6).kp ks (by omega)
    have lo2 := (o2.below bc5_6).kp ks (fun j hj e => by have := to2 j hj; omega)
    have bs := Below.kp (bu Bw6 bc5_6) ks (bu Bw6 bc5_6).size (fun k hk => by omega)
    have zs1 : w6.heap.size ≤ ((wc5_5.setCell ⟨w1.heap.size, 1, none⟩ (.int .i64 Lk))).heap.size := Nat.le_trans bc5_6.size ks.size
    clear hHeld lg FG ks q0 q1 q2 q3 q4 q5
    refine hKK.out _ _ ⟨⟨(lLS).cell 0 rfl, (lLS).cell 1 rfl, (lLS).cell 2 rfl, (lLS).cell 3 rfl, (lLS).cell 4 rfl, (lLS).cell 5 rfl⟩, ⟨(lLQ).cell 0 rfl, (lLQ).cell 1 rfl, (lLQ).cell 2 rfl⟩⟩ (fun hHeld => ?_)
    clear hKK KK
    clear hHeld
    refine wdn ?_
    go_wp2_with fail
    go_meet
    exact ⟨rfl, ls, lLC, lLS, lLQ, lLZ, lo2, Nat.le_trans Bw6.size zs1, zs1, bs⟩
   case rest =>
   clear K
   obtain ⟨w7, hwq⟩ : ∃ x, x = wc := ⟨_, rfl⟩
   subst hwq
   clear Bw6 LC LS LQ LZ LO o2
   obtain ⟨rfl, LO, LC, LS, LQ, LZ, o2, zzw7, sw7, Bw7⟩ := hcut
   clear UP VO MX hlk
   cases g
   ·simp only [Bool.false_eq_true, if_false] at SE
    have eD : D = d := by rw [HD.out]; rfl
    subst eD
    clear HD EX
    have cLQ0 := LQ.cell 0 rfl
    have cLQ1 := LQ.cell 1 rfl
    have cLQ2 := LQ.cell 2 rfl
    go_wp2_with fail
    refine (SE.out _).mono ?_
    rintro _ w8 ⟨rfl, bb⟩
    clear cLQ0 cLQ1 cLQ2
    have Bw8 := bu Bw7 bb
    have sw8 := bb.size
    replace LC := LC.up bb
    replace LS := LS.up bb
    replace LQ := LQ.up bb
    replace LZ := LZ.up bb
    replace LO := LO.up bb
    replace o2 := o2.below bb
    clear Bw7
    clear bb
    clear SE
    have K6 := kp6 w8 (w.heap.size + 1 + 1 + 1) (.int .i64 vo) (.int .i64 Lk) (.int .i64 V1) (.string S1) (.slice ao2 X1.length ko2) (.string D)
    have cLZ0 := LZ.cell 0 rfl
    have cLZ1 := LZ.cell 1 rfl
    have cLZ2 := LZ.cell 2 rfl
    have cLZ3 := LZ.cell 3 rfl
    have cLZ4 := LZ.cell 4 rfl
    have cLZ5 := LZ.cell 5 rfl
    have cLO0 := LO.cell 0 rfl
    have cLO1 := LO.cell 1 rfl
    have cLO2 := LO.cell 2 rfl
    have cLO3 := LO.cell 3 rfl
    have cLO4 := LO.cell 4 rfl
    have cLO5 := LO.cell 5 rfl
    have fLZ := LZ.frozen
    go_wp2
    refine bodyPost_ret (v := sv (vo) (Lk) (V1) (S1) (.slice ao2 X1.length ko2) (D)) (by simp [results, Tryz.results65, go_sem, cLZ0, cLZ1, cLZ2, cLZ3, cLZ4, cLZ5]) rfl ?_
    exact ⟨_, rfl, (o2.kp K6 (fun j hj e => by have := to2 j hj; omega)).mono (by omega), Below.kp Bw8 K6 Bw8.size (fun k hk => by omega)⟩
   ·simp only [if_true] at SE
    have cLQ0 := LQ.cell 0 rfl
    have cLQ1 := LQ.cell 1 rfl
    have cLQ2 := LQ.cell 2 rfl
    go_wp2_with fail
    refine (SE.out _).mono ?_
    rintro _ w8 ⟨rfl, bb⟩
    clear cLQ0 cLQ1 cLQ2
    have Bw8 := bu Bw7 bb
    have sw8 := bb.size
    replace LC := LC.up bb
    replace LS := LS.up bb
    replace LQ := LQ.up bb
    replace LZ := LZ.up bb
    replace LO := LO.up bb
    replace o2 := o2.below bb
    clear Bw7
    clear bb
    clear SE
    have cLS0 := LS.cell 0 rfl
    have cLS1 := LS.cell 1 rfl
    have cLS2 := LS.cell 2 rfl
    have cLS3 := LS.cell 3 rfl
    have cLS4 := LS.cell 4 rfl
    have cLS5 := LS.cell 5 rfl
    go_wp2_with fail
    refine (EX.out _).mono ?_
    rintro _ w9 ⟨rfl, bb⟩
    clear cLS0 cLS1 cLS2 cLS3 cLS4 cLS5
    have Bw9 := bu Bw8 bb
    have sw9 := bb.size
    replace LC := LC.up bb
    replace LS := LS.up bb
    replace LQ := LQ.up bb
    replace LZ := LZ.up bb
    replace LO := LO.up bb
    replace o2 := o2.below bb
    clear Bw8
    clear bb
    clear EX
    cases x
    ·have eD : D = d := by rw [HD.out]; rfl
     subst eD
     clear HD
     have K6 := kp6 w9 (w.heap.size + 1 + 1 + 1) (.int .i64 vo) (.int .i64 Lk) (.int .i64 V1) (.string S1) (.slice ao2 X1.length ko2) (.string D)
     have cLZ0 := LZ.cell 0 rfl
     have cLZ1 := LZ.cell 1 rfl
     have cLZ2 := LZ.cell 2 rfl
     have cLZ3 := LZ.cell 3 rfl
     have cLZ4 := LZ.cell 4 rfl
     have cLZ5 := LZ.cell 5 rfl
     have cLO0 := LO.cell 0 rfl
     have cLO1 := LO.cell 1 rfl
     have cLO2 := LO.cell 2 rfl
     have cLO3 := LO.cell 3 rfl
     have cLO4 := LO.cell 4 rfl
     have cLO5 := LO.cell 5 rfl
     have fLZ := LZ.frozen
     go_wp2
     refine bodyPost_ret (v := sv (vo) (Lk) (V1) (S1) (.slice ao2 X1.length ko2) (D)) (by simp [results, Tryz.results65, go_sem, cLZ0, cLZ1, cLZ2, cLZ3, cLZ4, cLZ5]) rfl ?_
     exact ⟨_, rfl, (o2.kp K6 (fun j hj e => by have := to2 j hj; omega)).mono (by omega), Below.kp Bw9 K6 Bw9.size (fun k hk => by omega)⟩
    ·have eD : D = u2 := by rw [HD.out]; rfl
     subst eD
     clear HD
     have cLO0 := LO.cell 0 rfl
     have cLO1 := LO.cell 1 rfl
     have cLO2 := LO.cell 2 rfl
     have cLO3 := LO.cell 3 rfl
     have cLO4 := LO.cell 4 rfl
     have cLO5 := LO.cell 5 rfl
     have fLO := LO.frozen
     go_upto_region 9 with fail
     clear cLO0 cLO1 cLO2 cLO3 cLO4 cLO5
     clear fLO
     obtain ⟨w10, hw10⟩ : ∃ y, (w9.setCell ⟨w1.heap.size, 5, none⟩ (.string D)) = y := ⟨_, rfl⟩
     have kN : Kp w9 w10 (fun k => k = w1.heap.size) := hw10 ▸ set_kp _ _ _ _
     replace LO : Loc w10 (w1.heap.size) #[.int .i64 vo, .int .i64 Lk, .int .i64 V1, .string S1, .slice ao2 X1.length ko2, .string D] := hw10 ▸ (LO.set 5 _ rfl)
     replace LC := LC.kp kN (by omega)
     replace LS := LS.kp kN (by omega)
     replace LQ := LQ.kp kN (by omega)
     replace LZ := LZ.kp kN (by omega)
     replace o2 := o2.kp kN (fun j hj e => by have := to2 j hj; omega)
     have Bw10 := Below.kp Bw9 kN Bw9.size (fun k hk => by omega)
     have sw10 := kN.size
     rw [hw10]
     clear hw10 kN Bw9
     have K6 := kp6 w10 (w.heap.size + 1 + 1 + 1) (.int .i64 vo) (.int .i64 Lk) (.int .i64 V1) (.string S1) (.slice ao2 X1.length ko2) (.string D)
     have cLZ0 := LZ.cell 0 rfl
     have cLZ1 := LZ.cell 1 rfl
     have cLZ2 := LZ.cell 2 rfl
     have cLZ3 := LZ.cell 3 rfl
     have cLZ4 := LZ.cell 4 rfl
     have cLZ5 := LZ.cell 5 rfl
     have cLO0 := LO.cell 0 rfl
     have cLO1 := LO.cell 1 rfl
     have cLO2 := LO.cell 2 rfl
     have cLO3 := LO.cell 3 rfl
     have cLO4 := LO.cell 4 rfl
     have cLO5 := LO.cell 5 rfl
     have fLZ := LZ.frozen
     go_wp2
     refine bodyPost_ret (v := sv (vo) (Lk) (V1) (S1) (.slice ao2 X1.length ko2) (D)) (by simp [results, Tryz.results65, go_sem, cLZ0, cLZ1, cLZ2, cLZ3, cLZ4, cLZ5]) rfl ?_
     exact ⟨_, rfl, (o2.kp K6 (fun j hj e => by have := to2 j hj; omega)).mono (by omega), Below.kp Bw10 K6 Bw10.size (fun k hk => by omega)⟩
end Go.Proofs.YtcclbejpgiogaaaGreatDoor
