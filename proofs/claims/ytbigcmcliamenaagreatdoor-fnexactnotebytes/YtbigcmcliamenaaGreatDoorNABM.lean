/- Texts that belong together: BlockOpen, SafeOpen, SafeBytesWalk. -/
import Derived.Test.YtbigcmcliamenaaGreatDoorNAAC
import Derived.Test.YtbigcmcliamenaaGreatDoorNABC
import Derived.Deep.Strs
import Derived.Test.YtbigcmcliamenaaGreatDoorNABF
import Derived.Test.YtbigcmcliamenaaGreatDoorNABG
import Derived.Test.YtbigcmcliamenaaGreatDoorNABH
import Derived.Deep.DeepCutAuto
namespace Go.Proofs.YtbigcmcliamenaaGreatDoor
open Go.ChangeShapes Go.WideShapes Go.ChangeAt Go.RowKit
open Go.Joins
set_option linter.unusedSectionVars false
variable [∀ (a b c d : Int), Decidable (Ok4 a b c d)]
variable [∀ (n f : Int), Decidable (COk n f)]

theorem cellsStr : Tryz.prog.cellsOf 9 = 1 := by kernel_rfl
theorem cellsInt : Tryz.prog.cellsOf 3 = 1 := by kernel_rfl
theorem cellsInts : Tryz.prog.cellsOf 26 = 1 := by kernel_rfl

set_option maxRecDepth 100000 in
theorem cellsSafe : Tryz.prog.cellsOf 63 = 6 := by kernel_rfl
theorem array6 {cs : Array Value} (h : cs.size = 6) : ∃ a b c d e f, cs = #[a, b, c, d, e, f] := by
 obtain ⟨l⟩ := cs
 match l, h with
 | [a, b, c, d, e, f], _ => exact ⟨a, b, c, d, e, f, rfl⟩
set_option maxRecDepth 100000 in
theorem open_safe {H : Type} {enc : TypeId × Value → H} {W : World} {base : Nat} {v : Value} {d : DataW H} {p : List MemPlace} (hv : Value.okWide Tryz.prog W .any base 63 v)
 (h : DataW.Trod enc Tryz.prog W 0 (fun _ => true) true 63 v d p) :
 ∃ vo lo n s ao ca m, ∃ xs : List Int, v = sv vo lo n s (.slice ao xs.length ca) m ∧ s.size ≤ maxLen ∧ xs.length ≤ maxLen ∧ m.size ≤ maxLen ∧ AIW W ao xs ∧ WfL xs := by
 obtain ⟨cs, rfl, hsz⟩ := okWide_struct Tryz.underlying63 hv
 obtain ⟨c0, c1, c2, c3, c4, c5, rfl⟩ := array6 (hsz.trans cellsSafe)
 obtain ⟨fuel, hf⟩ := h
 obtain ⟨y0, y1, y2, y3, k, _, _, h0, h1, h2, h3⟩ := trod_struct4 Tryz.underlying63 hf
 have h0' : DataW.trod enc Tryz.prog W 0 (fun _ => true) true k 3 [c0] = some y0 := by simpa [Value.cells, cellsInt, cellsQc, cellsStr] using h0
 have h1' : DataW.trod enc Tryz.prog W 0 (fun _ => true) true k 3 [c1] = some y1 := by simpa [Value.cells, cellsInt, cellsQc, cellsStr] using h1
 have h2' : DataW.trod enc Tryz.prog W 0 (fun _ => true) true k 52 [c2, c3, c4] = some y2 := by simpa [Value.cells, cellsInt, cellsQc, cellsStr] using h2
 have h3' : DataW.trod enc Tryz.prog W 0 (fun _ => true) true k 9 [c5] = some y3 := by simpa [Value.cells, cellsInt, cellsQc, cellsStr] using h3
 obtain ⟨z0, z1, z2, j, _, _, g0, g1, g2⟩ := Go.Deep.trod_struct3 Tryz.underlying52 h2'
 have g0' : DataW.trod enc Tryz.prog W 0 (fun _ => true) true j 3 [c2] = some z0 := by simpa [cellsInt] using g0
 have g1' : DataW.trod enc Tryz.prog W 0 (fun _ => true) true j 9 [c3] = some z1 := by simpa [cellsStr] using g1
 have g2' : DataW.trod enc Tryz.prog W 0 (fun _ => true) true j 26 [c4] = some z2 := by simpa [cellsInts] using g2
 obtain ⟨a, e0, _, _⟩ := DataW.trod_int Tryz.underlying3 h0'
 obtain ⟨b, e1, _, _⟩ := DataW.trod_int Tryz.underlying3 h1'
 obtain ⟨n, e2, _, _⟩ := DataW.trod_int Tryz.underlying3 g0'
 obtain ⟨s, e3, _, hs⟩ := DataW.trod_string Tryz.underlying9 g1'
 obtain ⟨ao, ca, xs, rfl, hx, ax, wx⟩ := open_listW g2'
 obtain ⟨m, e5, _, hm⟩ := DataW.trod_string Tryz.underlying9 h3'
 simp at e0 e1 e2 e3 e5
 exact ⟨a, b, n, s, ao, ca, m, xs, by rw [e0, e1, e2, e3, e5], hs, hx, hm, ax, wx⟩
end Go.Proofs.YtbigcmcliamenaaGreatDoor
namespace Go.Proofs.YtbigcmcliamenaaGreatDoor
open Go.RowKit
set_option linter.unusedSectionVars false
variable [∀ (a b c d : Int), Decidable (Ok4 a b c d)]
variable [∀ (a b c d : Nat), Decidable (okN a b c d)]
variable [∀ (last : Int) (s : St), Decidable (GoodSt last s)]
variable [∀ (x : T4), Decidable (OkT x)]
variable [∀ (n : Int) (s : List Int), Decidable (OkL n s)]
variable [∀ (n f : Int), Decidable (COk n f)]

set_option maxHeartbeats 32000000 in
set_option maxRecDepth 100000 in
theorem fnSafeBytes_short (n f vo lo v : Int) (s : ByteArray) (ao : Option Addr) (ca : Nat) (ys : List Int) (d : ByteArray) (w : World) (hz : s.size + ys.length + d.size ≤ 1048576) (hE : Env w) (ha : RI w (.slice ao ys.length ca) ys) :
 Calls Tryz.prog 6 #[cv n f, sv vo lo v s (.slice ao ys.length ca) d] w fun e w' => e = .returned (.bool true) ∧ Below w.heap.size w w' := by
 have HA := hide ha
 have HE := hide hE
 have ZA := hide fun w => szSafe_yes vo lo v s ao ys.length ca d 1048576 w (by omega) (by omega)
 have TC := hide fun w => toConf_any n f w
 have TA := hide fun w h => toSafe_any vo lo v s (.slice ao ys.length ca) ys d w h
 have d1 : decide ((1048576 : Int) - (s.size : Int) - (ys.length : Int) - (d.size : Int) < 0) = false := by simp; omega
 have SP := hide fun a k w h => specSafeBytes n f vo lo v s a k ys d w (by omega) (by omega) h
 have IM := hide fun a k w e h => implSafeBytes n f vo lo v s a k ys d w (by omega) (by omega) e h
 have hx1 : (safB n f vo lo v s ys d).length ≤ 5000 := safB_len n f vo lo v s ys d
 generalize safB n f vo lo v s ys d = x1 at *
 have MX : Hid (∀ base u w, OI w base u ys → Calls Tryz.prog 45 #[sv vo lo v s u d, .int .i64 1] w fun e w' => e = .returned (.int .i64 (1 + (ys.length : Int))) ∧ OI w' base u (imarks 1 ys.length) ∧ Kp w w' (fun k => u.ownBlock = some k)) := hide fun base u w h => markSafe_any vo lo v s base u d ys 1 w (by omega) (by omega) h
 have d3 : decide ((1 : Int) + (x1.length : Int) < 0) = false := by simp; omega
 have d4 : decide ((1 : Int) + (ys.length : Int) < 0) = false := by simp; omega
 clear ha hE
 obtain ⟨w0, hw0⟩ : ∃ w0, ((w.alloc (.cells #[.int .i64 n, .int .i64 f] 51)).alloc (.cells #[.int .i64 vo, .int .i64 lo, .int .i64 v, .string s, .slice ao ys.length ca, .string d] 63)) = w0 := ⟨_, rfl⟩
 have Bw0 : Below w.heap.size w w0 := hw0 ▸ ((Below.refl _ _).alloc (Nat.le_refl _) _).alloc (by simp) _
 have LC : Loc w0 (w.heap.size) #[.int .i64 n, .int .i64 f] := hw0 ▸ (loc_at (w) _ _ rfl).alloc _
 have LA : Loc w0 (w.heap.size + 1) #[.int .i64 vo, .int .i64 lo, .int .i64 v, .string s, .slice ao ys.length ca, .string d] := hw0 ▸ loc_at (w.alloc _) _ _ (by simp)
 have zw0 : w.heap.size + 1 + 1 ≤ w0.heap.size := by rw [← hw0]; simp
 go_enter Tryz.func6, Tryz.ntmps6
 have cLA0 := LA.cell 0 rfl
 have cLA1 := LA.cell 1 rfl
 have cLA2 := LA.cell 2 rfl
 have cLA3 := LA.cell 3 rfl
 have cLA4 := LA.cell 4 rfl
 have cLA5 := LA.cell 5 rfl
 go_wp2_with fail
 clear hw0
 refine (unhide ZA _).mono ?_
 rintro _ w1 ⟨rfl, bb⟩
 clear cLA0 cLA1 cLA2 cLA3 cLA4 cLA5
 have Bw1 := Bw0.trans (bb.mono Bw0.size)
 have sw1 := bb.size
 replace LC := LC.below bb LC.lt
 replace LA := LA.below bb LA.lt
 clear Bw0
 clear bb
 clear ZA
 have K : Hid (∀ w', Below w1.heap.size w1 w' → (fun w' => Below w1.heap.size w1 w' ∧ (w'.cell? ⟨w.heap.size, 0, none⟩ = some (.int .i64 n) ∧ w'.cell? ⟨w.heap.size, 1, none⟩ = some (.int .i64 f)) ∧ (w'.cell? ⟨w.heap.size + 1, 0, none⟩ = some (.int .i64 vo) ∧ w'.cell? ⟨w.heap.size + 1, 1, none⟩ = some (.int .i64 lo) ∧ w'.cell? ⟨w.heap.size + 1, 2, none⟩ = some (.int .i64 v) ∧ w'.cell? ⟨w.heap.size + 1, 3, none⟩ = some (.string s) ∧ w'.cell? ⟨w.heap.size + 1, 4, none⟩ = some (.slice ao ys.length ca) ∧ w'.cell? ⟨w.heap.size + 1, 5, none⟩ = some (.string d))) w') := hide fun w' hb' => ⟨hb', ⟨(LC.below hb' LC.lt).cell 0 rfl, (LC.below hb' LC.lt).cell 1 rfl⟩, ⟨(LA.below hb' LA.lt).cell 0 rfl, (LA.below hb' LA.lt).cell 1 rfl, (LA.below hb' LA.lt).cell 2 rfl, (LA.below hb' LA.lt).cell 3 rfl, (LA.below hb' LA.lt).cell 4 rfl, (LA.below hb' LA.lt).cell 5 rfl⟩⟩
 go_upto_region 5 with fail
 have bA : Below w1.heap.size w1 w1.drew := Below.drew (Below.refl _ _)
 refine wp_region_noPanic ?_
 refine wp_region_held_drew (S := fun w' => Below w1.heap.size w1 w' ∧ (w'.cell? ⟨w.heap.size, 0, none⟩ = some (.int .i64 n) ∧ w'.cell? ⟨w.heap.size, 1, none⟩ = some (.int .i64 f)) ∧ (w'.cell? ⟨w.heap.size + 1, 0, none⟩ = some (.int .i64 vo) ∧ w'.cell? ⟨w.heap.size + 1, 1, none⟩ = some (.int .i64 lo) ∧ w'.cell? ⟨w.heap.size + 1, 2, none⟩ = some (.int .i64 v) ∧ w'.cell? ⟨w.heap.size + 1, 3, none⟩ = some (.string s) ∧ w'.cell? ⟨w.heap.size + 1, 4, none⟩ = some (.slice ao ys.length ca) ∧ w'.cell? ⟨w.heap.size + 1, 5, none⟩ = some (.string d))) (by kernel_rfl) (unhide K _ bA) (fun hHeld => ?_)
 refine tk 0 18 (v := ?_) rfl (hy := .inl ⟨by rfl, ?_⟩) (h := ?_); rotate_left
 ·intro w hSw; (try dsimp only at hSw); go_simp; (try with_reducible rfl)
 simp only [pU]
 refine tk 2 20 (v := ?_) rfl (hy := .inl ⟨by rfl, ?_⟩) (h := ?_); rotate_left
 ·intro w hSw; (try dsimp only at hSw); go_simp; (try with_reducible rfl)
 simp only [pU]
 refine ready_at (i := 1) rfl (by kernel_rfl) (fun KK hKK => ?_)
 go_simp
 have hgo := bA
 refine (unhide TC _).mono ?_
 rintro e wz5_1 ⟨rfl, bb⟩
 have bz1 : Below w1.heap.size w1 wz5_1 := bA.trans (bb.mono bA.size)
 clear bA hgo bb
 clear hHeld
 refine hKK.out _ _ (unhide K _ bz1) (fun hHeld => ?_)
 clear hKK KK
 refine ready_at (i := 3) rfl (by kernel_rfl) (fun KK hKK => ?_)
 go_simp
 have hgo := bz1
 refine (unhide TA _ ((unhide HA).below (Bw1.trans (hgo.mono Bw1.size)) (Nat.le_refl _))).mono ?_
 rintro e wz5_2 ⟨vv1, rfl, oq1, bb⟩
 have bz2 : Below w1.heap.size w1 wz5_2 := bz1.trans (bb.mono bz1.size)
 replace oq1 := oq1.mono hgo.size
 obtain ⟨aoq1, koq1, rfl⟩ := oq1.form
 clear bz1 hgo bb
 clear hHeld
 refine hKK.out _ _ (unhide K _ bz2) (fun hHeld => ?_)
 clear hKK KK
 refine ready_at (i := 4) rfl (by kernel_rfl) (fun KK hKK => ?_)
 go_simp
 have hgo := bz2
 refine (unhide SP _ _ _ (oq1.ri (by omega))).mono ?_
 rintro e wz5_3 ⟨uW, rfl, oW, bb⟩
 have bz3 : Below w1.heap.size w1 wz5_3 := bz2.trans (bb.mono bz2.size)
 replace oq1 := oq1.below bb
 replace oW := oW.mono hgo.size
 obtain ⟨aoW, koW, rfl⟩ := oW.form
 clear bz2 hgo bb
 clear hHeld
 refine hKK.out _ _ (unhide K _ bz3) (fun hHeld => ?_)
 clear hKK KK
 refine tk 5 6 (v := ?_) rfl (hy := .inl ⟨by rfl, ?_⟩) (h := ?_); rotate_left
 ·intro w hSw; (try dsimp only at hSw); go_simp; (try with_reducible rfl)
 simp only [pU]
 clear hHeld
 refine wpAnyH_done (by kernel_rfl) ?_ _
 refine NoPanic.normal ?_
 have bb := bz3
 have Bwz5_3 := Bw1.trans (bb.mono Bw1.size)
 have swz5_3 := bb.size
 replace LC := LC.below bb LC.lt
 replace LA := LA.below bb LA.lt
 clear Bw1
 clear bb bz3 K
 have toW := World.ownsRow.lt oW
 clear SP oq1
 have cLA0 := LA.cell 0 rfl
 have cLA1 := LA.cell 1 rfl
 have cLA2 := LA.cell 2 rfl
 have cLA3 := LA.cell 3 rfl
 have cLA4 := LA.cell 4 rfl
 have cLA5 := LA.cell 5 rfl
 go_wp2_with fail
 refine (unhide TA _ ((unhide HA).below Bwz5_3 (Nat.le_refl _))).mono ?_
 rintro _ w2 ⟨vX, rfl, oX, bb⟩
 clear cLA0 cLA1 cLA2 cLA3 cLA4 cLA5
 have Bw2 := Bwz5_3.trans (bb.mono Bwz5_3.size)
 have sw2 := bb.size
 replace LC := LC.below bb LC.lt
 replace LA := LA.below bb LA.lt
 replace oW := oW.below bb
 clear Bwz5_3
 clear bb
 have toX := World.ownsRow.lt oX
 obtain ⟨aoX, koX, rfl⟩ := oX.form
 obtain ⟨w3, hw3⟩ : ∃ x, w2.alloc (.cells #[.int .i64 vo, .int .i64 lo, .int .i64 v, .string s, .slice aoX ys.length koX, .string d] 30) = x := ⟨_, rfl⟩
 have bb : Below w2.heap.size w2 w3 := hw3 ▸ qalloc _ _
 have X : Loc w3 w2.heap.size #[.int .i64 vo, .int .i64 lo, .int .i64 v, .string s, .slice aoX ys.length koX, .string d] := hw3 ▸ loc_at w2 _ _ rfl
 have zw3 : w3.heap.size = w2.heap.size + 1 := by rw [← hw3]; simp
 have Bw3 := Bw2.trans (bb.mono Bw2.size)
 have sw3 := bb.size
 replace LC := LC.below bb LC.lt
 replace LA := LA.below bb LA.lt
 replace oW := oW.below bb
 replace oX := oX.below bb
 clear Bw2
 clear bb
 have RX := hide fun w' (hb' : Below w3.heap.size w3 w') => (oX.below hb').ri (by omega)
 have K : Hid (∀ w', Below w3.heap.size w3 w' → (fun w' => Below w3.heap.size w3 w' ∧ (w'.cell? ⟨w.heap.size, 0, none⟩ = some (.int .i64 n) ∧ w'.cell? ⟨w.heap.size, 1, none⟩ = some (.int .i64 f)) ∧ (w'.cell? ⟨w2.heap.size, 0, none⟩ = some (.int .i64 vo) ∧ w'.cell? ⟨w2.heap.size, 1, none⟩ = some (.int .i64 lo) ∧ w'.cell? ⟨w2.heap.size, 2, none⟩ = some (.int .i64 v) ∧ w'.cell? ⟨w2.heap.size, 3, none⟩ = some (.string s) ∧ w'.cell? ⟨w2.heap.size, 4, none⟩ = some (.slice aoX ys.length koX) ∧ w'.cell? ⟨w2.heap.size, 5, none⟩ = some (.string d))) w') := hide fun w' hb' => ⟨hb', ⟨(LC.below hb' LC.lt).cell 0 rfl, (LC.below hb' LC.lt).cell 1 rfl⟩, ⟨(X.below hb' X.lt).cell 0 rfl, (X.below hb' X.lt).cell 1 rfl, (X.below hb' X.lt).cell 2 rfl, (X.below hb' X.lt).cell 3 rfl, (X.below hb' X.lt).cell 4 rfl, (X.below hb' X.lt).cell 5 rfl⟩⟩
 go_upto_region 7 with fail
 clear hw3
 have bA : Below w3.heap.size w3 w3.drew := Below.drew (Below.refl _ _)
 refine wp_region_noPanic ?_
 refine wp_region_held_drew (S := fun w' => Below w3.heap.size w3 w' ∧ (w'.cell? ⟨w.heap.size, 0, none⟩ = some (.int .i64 n) ∧ w'.cell? ⟨w.heap.size, 1, none⟩ = some (.int .i64 f)) ∧ (w'.cell? ⟨w2.heap.size, 0, none⟩ = some (.int .i64 vo) ∧ w'.cell? ⟨w2.heap.size, 1, none⟩ = some (.int .i64 lo) ∧ w'.cell? ⟨w2.heap.size, 2, none⟩ = some (.int .i64 v) ∧ w'.cell? ⟨w2.heap.size, 3, none⟩ = some (.string s) ∧ w'.cell? ⟨w2.heap.size, 4, none⟩ = some (.slice aoX ys.length koX) ∧ w'.cell? ⟨w2.heap.size, 5, none⟩ = some (.string d))) (by kernel_rfl) (unhide K _ bA) (fun hHeld => ?_)
 refine tk 0 25 (v := ?_) rfl (hy := .inl ⟨by rfl, ?_⟩) (h := ?_); rotate_left
 ·intro w hSw; (try dsimp only at hSw); go_simp; (try with_reducible rfl)
 simp only [pU]
 refine tk 2 27 (v := ?_) rfl (hy := .inl ⟨by rfl, ?_⟩) (h := ?_); rotate_left
 ·intro w hSw; (try dsimp only at hSw); go_simp; (try with_reducible rfl)
 simp only [pU]
 refine ready_at (i := 1) rfl (by kernel_rfl) (fun KK hKK => ?_)
 go_simp
 have hgo := bA
 refine (unhide TC _).mono ?_
 rintro e wz7_1 ⟨rfl, bb⟩
 have bz1 : Below w3.heap.size w3 wz7_1 := bA.trans (bb.mono bA.size)
 clear bA hgo bb
 clear hHeld
 refine hKK.out _ _ (unhide K _ bz1) (fun hHeld => ?_)
 clear hKK KK
 refine ready_at (i := 3) rfl (by kernel_rfl) (fun KK hKK => ?_)
 go_simp
 have hgo := bz1
 refine (unhide IM _ _ _ ((unhide HE).below (Bw3.trans (hgo.mono Bw3.size))) (unhide RX _ hgo)).mono ?_
 rintro e wz7_2 ⟨uG, rfl, oG, bb⟩
 have bz2 : Below w3.heap.size w3 wz7_2 := bz1.trans (bb.mono bz1.size)
 replace oG := oG.mono hgo.size
 obtain ⟨aoG, koG, rfl⟩ := oG.form
 clear bz1 hgo bb
 clear hHeld
 refine hKK.out _ _ (unhide K _ bz2) (fun hHeld => ?_)
 clear hKK KK
 refine tk 4 8 (v := ?_) rfl (hy := .inl ⟨by rfl, ?_⟩) (h := ?_); rotate_left
 ·intro w hSw; (try dsimp only at hSw); go_simp; (try with_reducible rfl)
 simp only [pU]
 clear hHeld
 refine wpAnyH_done (by kernel_rfl) ?_ _
 refine NoPanic.normal ?_
 have bb := bz2
 have Bwz7_2 := Bw3.trans (bb.mono Bw3.size)
 have swz7_2 := bb.size
 replace LC := LC.below bb LC.lt
 replace LA := LA.below bb LA.lt
 replace X := X.below bb X.lt
 replace oW := oW.below bb
 replace oX := oX.below bb
 clear Bw3
 clear bb bz2 K
 have toG := World.ownsRow.lt oG
 clear RX
 go_wp2_with fail
 refine (eqB_yes _ _ x1 _ (oG.rb (by omega)) (oW.rb (by omega))).mono ?_
 rintro _ w4 ⟨rfl, bb⟩
 have Bw4 := Bwz7_2.trans (bb.mono Bwz7_2.size)
 have sw4 := bb.size
 replace LC := LC.below bb LC.lt
 replace LA := LA.below bb LA.lt
 replace X := X.below bb X.lt
 replace oW := oW.below bb
 replace oX := oX.below bb
 replace oG := oG.below bb
 clear Bwz7_2
 clear bb
 have RX := hide fun w' (hb' : Below w4.heap.size w4 w') => (oX.below hb').ri (by omega)
 have K : Hid (∀ w', Below w4.heap.size w4 w' → (fun w' => Below w4.heap.size w4 w' ∧ (w'.cell? ⟨w.heap.size + 1, 0, none⟩ = some (.int .i64 vo) ∧ w'.cell? ⟨w.heap.size + 1, 1, none⟩ = some (.int .i64 lo) ∧ w'.cell? ⟨w.heap.size + 1, 2, none⟩ = some (.int .i64 v) ∧ w'.cell? ⟨w.heap.size + 1, 3, none⟩ = some (.string s) ∧ w'.cell? ⟨w.heap.size + 1, 4, none⟩ = some (.slice ao ys.length ca) ∧ w'.cell? ⟨w.heap.size + 1, 5, none⟩ = some (.string d)) ∧ (w'.cell? ⟨w2.heap.size, 0, none⟩ = some (.int .i64 vo) ∧ w'.cell? ⟨w2.heap.size, 1, none⟩ = some (.int .i64 lo) ∧ w'.cell? ⟨w2.heap.size, 2, none⟩ = some (.int .i64 v) ∧ w'.cell? ⟨w2.heap.size, 3, none⟩ = some (.string s) ∧ w'.cell? ⟨w2.heap.size, 4, none⟩ = some (.slice aoX ys.length koX) ∧ w'.cell? ⟨w2.heap.size, 5, none⟩ = some (.string d))) w') := hide fun w' hb' => ⟨hb', ⟨(LA.below hb' LA.lt).cell 0 rfl, (LA.below hb' LA.lt).cell 1 rfl, (LA.below hb' LA.lt).cell 2 rfl, (LA.below hb' LA.lt).cell 3 rfl, (LA.below hb' LA.lt).cell 4 rfl, (LA.below hb' LA.lt).cell 5 rfl⟩, ⟨(X.below hb' X.lt).cell 0 rfl, (X.below hb' X.lt).cell 1 rfl, (X.below hb' X.lt).cell 2 rfl, (X.below hb' X.lt).cell 3 rfl, (X.below hb' X.lt).cell 4 rfl, (X.below hb' X.lt).cell 5 rfl⟩⟩
 go_upto_region 10 with fail
 have bA : Below w4.heap.size w4 w4.drew := Below.drew (Below.refl _ _)
 refine wp_region_noPanic ?_
 refine wp_region_held_drew (S := fun w' => Below w4.heap.size w4 w' ∧ (w'.cell? ⟨w.heap.size + 1, 0, none⟩ = some (.int .i64 vo) ∧ w'.cell? ⟨w.heap.size + 1, 1, none⟩ = some (.int .i64 lo) ∧ w'.cell? ⟨w.heap.size + 1, 2, none⟩ = some (.int .i64 v) ∧ w'.cell? ⟨w.heap.size + 1, 3, none⟩ = some (.string s) ∧ w'.cell? ⟨w.heap.size + 1, 4, none⟩ = some (.slice ao ys.length ca) ∧ w'.cell? ⟨w.heap.size + 1, 5, none⟩ = some (.string d)) ∧ (w'.cell? ⟨w2.heap.size, 0, none⟩ = some (.int .i64 vo) ∧ w'.cell? ⟨w2.heap.size, 1, none⟩ = some (.int .i64 lo) ∧ w'.cell? ⟨w2.heap.size, 2, none⟩ = some (.int .i64 v) ∧ w'.cell? ⟨w2.heap.size, 3, none⟩ = some (.string s) ∧ w'.cell? ⟨w2.heap.size, 4, none⟩ = some (.slice aoX ys.length koX) ∧ w'.cell? ⟨w2.heap.size, 5, none⟩ = some (.string d))) (by kernel_rfl) (unhide K _ bA) (fun hHeld => ?_)
 refine tk 0 33 (v := ?_) rfl (hy := .inl ⟨by rfl, ?_⟩) (h := ?_); rotate_left
 ·intro w hSw; (try dsimp only at hSw); go_simp; (try with_reducible rfl)
 simp only [pU]
 refine tk 1 34 (v := ?_) rfl (hy := .inl ⟨by rfl, ?_⟩) (h := ?_); rotate_left
 ·intro w hSw; (try dsimp only at hSw); go_simp; (try with_reducible rfl)
 simp only [pU]
 refine ready_at (i := 2) rfl (by kernel_rfl) (fun KK hKK => ?_)
 go_simp
 have hgo := bA
 refine (unhide TA _ ((unhide HA).below (Bw4.trans (hgo.mono Bw4.size)) (Nat.le_refl _))).mono ?_
 rintro e wz10_1 ⟨vv1, rfl, o1, bb⟩
 have bz1 : Below w4.heap.size w4 wz10_1 := bA.trans (bb.mono bA.size)
 replace o1 := o1.mono hgo.size
 obtain ⟨ao1, ko1, rfl⟩ := o1.form
 clear bA hgo bb
 clear hHeld
 refine hKK.out _ _ (unhide K _ bz1) (fun hHeld => ?_)
 clear hKK KK
 refine ready_at (i := 3) rfl (by kernel_rfl) (fun KK hKK => ?_)
 go_simp
 have hgo := bz1
 refine (eqSafe_yes vo lo v s _ _ ys d _ (unhide RX _ hgo) (o1.ri (by omega))).mono ?_
 rintro e wz10_2 ⟨rfl, bb⟩
 have bz2 : Below w4.heap.size w4 wz10_2 := bz1.trans (bb.mono bz1.size)
 replace o1 := o1.below bb
 clear RX
 clear bz1 hgo bb
 clear hHeld
 refine hKK.out _ _ (unhide K _ bz2) (fun hHeld => ?_)
 clear hKK KK
 refine tk 4 37 (v := ?_) rfl (hy := .inl ⟨by rfl, ?_⟩) (h := ?_); rotate_left
 ·intro w hSw; (try dsimp only at hSw); go_simp; (try with_reducible rfl)
 simp only [pU]
 clear hHeld
 refine wpAnyH_done (by kernel_rfl) ?_ _
 refine NoPanic.normal ?_
 have bb := bz2
 have Bwz10_2 := Bw4.trans (bb.mono Bw4.size)
 have swz10_2 := bb.size
 replace LC := LC.below bb LC.lt
 replace LA := LA.below bb LA.lt
 replace X := X.below bb X.lt
 replace oW := oW.below bb
 replace oX := oX.below bb
 replace oG := oG.below bb
 clear Bw4
 clear bb bz2 K
 clear o1
 have cX0 := X.cell 0 rfl
 have cX1 := X.cell 1 rfl
 have cX2 := X.cell 2 rfl
 have cX3 := X.cell 3 rfl
 have cX4 := X.cell 4 rfl
 have cX5 := X.cell 5 rfl
 go_wp2_with fail
 refine (unhide MX _ _ _ oX).mono ?_
 rintro _ w5 ⟨rfl, oN, kN⟩
 clear cX0 cX1 cX2 cX3 cX4 cX5
 have Bw5 := Below.kp Bwz10_2 kN Bwz10_2.size (fun k hk => by have := toX _ hk; omega)
 have sw5 := kN.size
 replace LC := LC.kp kN (fun h => by have := toX _ h; omega)
 replace LA := LA.kp kN (fun h => by have := toX _ h; omega)
 replace X := X.kp kN (fun h => by have := toX _ h; omega)
 replace oW := oW.kp kN (fun j hj h => by have := toW j hj; have := toX _ h; omega)
 replace oG := oG.kp kN (fun j hj h => by have := toG j hj; have := toX _ h; omega)
 clear Bwz10_2
 clear oX kN
 clear MX oN
 clear X
 go_wp2_with fail
 refine (eqB_yes _ _ x1 _ (oG.rb (by omega)) (oW.rb (by omega))).mono ?_
 rintro _ w6 ⟨rfl, bb⟩
 have Bw6 := Bw5.trans (bb.mono Bw5.size)
 have sw6 := bb.size
 replace LC := LC.below bb LC.lt
 replace LA := LA.below bb LA.lt
 replace oW := oW.below bb
 replace oG := oG.below bb
 clear Bw5
 clear bb
 go_wp2_with fail
 refine (markB _ _ x1 _ (by omega) oG).mono ?_
 rintro _ w7 ⟨rfl, oN, kN⟩
 have Bw7 := Below.kp Bw6 kN Bw6.size (fun k hk => by have := toG _ hk; omega)
 have sw7 := kN.size
 replace LC := LC.kp kN (fun h => by have := toG _ h; omega)
 replace LA := LA.kp kN (fun h => by have := toG _ h; omega)
 replace oW := oW.kp kN (fun j hj h => by have := toW j hj; have := toG _ h; omega)
 clear Bw6
 clear oG kN
 have oG := oN
 clear oN
 go_wp2_with fail
 refine (heldB _ x1.length _ (oG.rb (by rw [marks_len]; omega))).mono ?_
 rintro _ w8 ⟨rfl, bb⟩
 have Bw8 := Bw7.trans (bb.mono Bw7.size)
 have sw8 := bb.size
 replace LC := LC.below bb LC.lt
 replace LA := LA.below bb LA.lt
 replace oW := oW.below bb
 replace oG := oG.below bb
 clear Bw7
 clear bb
 have K : Hid (∀ w', Below w8.heap.size w8 w' → (fun w' => Below w8.heap.size w8 w' ∧ (w'.cell? ⟨w.heap.size, 0, none⟩ = some (.int .i64 n) ∧ w'.cell? ⟨w.heap.size, 1, none⟩ = some (.int .i64 f)) ∧ (w'.cell? ⟨w.heap.size + 1, 0, none⟩ = some (.int .i64 vo) ∧ w'.cell? ⟨w.heap.size + 1, 1, none⟩ = some (.int .i64 lo) ∧ w'.cell? ⟨w.heap.size + 1, 2, none⟩ = some (.int .i64 v) ∧ w'.cell? ⟨w.heap.size + 1, 3, none⟩ = some (.string s) ∧ w'.cell? ⟨w.heap.size + 1, 4, none⟩ = some (.slice ao ys.length ca) ∧ w'.cell? ⟨w.heap.size + 1, 5, none⟩ = some (.string d))) w') := hide fun w' hb' => ⟨hb', ⟨(LC.below hb' LC.lt).cell 0 rfl, (LC.below hb' LC.lt).cell 1 rfl⟩, ⟨(LA.below hb' LA.lt).cell 0 rfl, (LA.below hb' LA.lt).cell 1 rfl, (LA.below hb' LA.lt).cell 2 rfl, (LA.below hb' LA.lt).cell 3 rfl, (LA.below hb' LA.lt).cell 4 rfl, (LA.below hb' LA.lt).cell 5 rfl⟩⟩
 go_upto_region 24 with fail
 have bA : Below w8.heap.size w8 w8.drew := Below.drew (Below.refl _ _)
 refine wp_region_noPanic ?_
 refine wp_region_held_drew (S := fun w' => Below w8.heap.size w8 w' ∧ (w'.cell? ⟨w.heap.size, 0, none⟩ = some (.int .i64 n) ∧ w'.cell? ⟨w.heap.size, 1, none⟩ = some (.int .i64 f)) ∧ (w'.cell? ⟨w.heap.size + 1, 0, none⟩ = some (.int .i64 vo) ∧ w'.cell? ⟨w.heap.size + 1, 1, none⟩ = some (.int .i64 lo) ∧ w'.cell? ⟨w.heap.size + 1, 2, none⟩ = some (.int .i64 v) ∧ w'.cell? ⟨w.heap.size + 1, 3, none⟩ = some (.string s) ∧ w'.cell? ⟨w.heap.size + 1, 4, none⟩ = some (.slice ao ys.length ca) ∧ w'.cell? ⟨w.heap.size + 1, 5, none⟩ = some (.string d))) (by kernel_rfl) (unhide K _ bA) (fun hHeld => ?_)
 refine tk 0 60 (v := ?_) rfl (hy := .inl ⟨by rfl, ?_⟩) (h := ?_); rotate_left
 ·intro w hSw; (try dsimp only at hSw); go_simp; (try with_reducible rfl)
 simp only [pU]
 refine tk 2 62 (v := ?_) rfl (hy := .inl ⟨by rfl, ?_⟩) (h := ?_); rotate_left
 ·intro w hSw; (try dsimp only at hSw); go_simp; (try with_reducible rfl)
 simp only [pU]
 refine ready_at (i := 1) rfl (by kernel_rfl) (fun KK hKK => ?_)
 go_simp
 have hgo := bA
 refine (unhide TC _).mono ?_
 rintro e wz24_1 ⟨rfl, bb⟩
 have bz1 : Below w8.heap.size w8 wz24_1 := bA.trans (bb.mono bA.size)
 clear bA hgo bb
 clear hHeld
 refine hKK.out _ _ (unhide K _ bz1) (fun hHeld => ?_)
 clear hKK KK
 refine ready_at (i := 3) rfl (by kernel_rfl) (fun KK hKK => ?_)
 go_simp
 have hgo := bz1
 refine (unhide TA _ ((unhide HA).below (Bw8.trans (hgo.mono Bw8.size)) (Nat.le_refl _))).mono ?_
 rintro e wz24_2 ⟨vv1, rfl, oq1, bb⟩
 have bz2 : Below w8.heap.size w8 wz24_2 := bz1.trans (bb.mono bz1.size)
 replace oq1 := oq1.mono hgo.size
 obtain ⟨aoq1, koq1, rfl⟩ := oq1.form
 clear bz1 hgo bb
 clear hHeld
 refine hKK.out _ _ (unhide K _ bz2) (fun hHeld => ?_)
 clear hKK KK
 refine ready_at (i := 4) rfl (by kernel_rfl) (fun KK hKK => ?_)
 go_simp
 have hgo := bz2
 refine (unhide IM _ _ _ ((unhide HE).below (Bw8.trans (hgo.mono Bw8.size))) (oq1.ri (by omega))).mono ?_
 rintro e wz24_3 ⟨uH, rfl, oH, bb⟩
 have bz3 : Below w8.heap.size w8 wz24_3 := bz2.trans (bb.mono bz2.size)
 replace oq1 := oq1.below bb
 replace oH := oH.mono hgo.size
 obtain ⟨aoH, koH, rfl⟩ := oH.form
 clear bz2 hgo bb
 clear hHeld
 refine hKK.out _ _ (unhide K _ bz3) (fun hHeld => ?_)
 clear hKK KK
 refine tk 5 12 (v := ?_) rfl (hy := .inl ⟨by rfl, ?_⟩) (h := ?_); rotate_left
 ·intro w hSw; (try dsimp only at hSw); go_simp; (try with_reducible rfl)
 simp only [pU]
 clear hHeld
 refine wpAnyH_done (by kernel_rfl) ?_ _
 refine NoPanic.normal ?_
 have bb := bz3
 have Bwz24_3 := Bw8.trans (bb.mono Bw8.size)
 have swz24_3 := bb.size
 replace LC := LC.below bb LC.lt
 replace LA := LA.below bb LA.lt
 replace oW := oW.below bb
 replace oG := oG.below bb
 clear Bw8
 clear bb bz3 K
 clear oq1 IM TA TC
 go_wp2_with fail
 refine (eqB_yes _ _ x1 _ (oH.rb (by omega)) (oW.rb (by omega))).mono ?_
 rintro _ w9 ⟨rfl, bb⟩
 have Bw9 := Bwz24_3.trans (bb.mono Bwz24_3.size)
 have sw9 := bb.size
 replace LC := LC.below bb LC.lt
 replace LA := LA.below bb LA.lt
 replace oW := oW.below bb
 replace oG := oG.below bb
 replace oH := oH.below bb
 clear Bwz24_3
 clear bb
 go_wp2_with fail
 refine (heldB _ x1.length _ (oG.rb (by rw [marks_len]; omega))).mono ?_
 rintro _ w10 ⟨rfl, bb⟩
 have Bw10 := Bw9.trans (bb.mono Bw9.size)
 have sw10 := bb.size
 replace LC := LC.below bb LC.lt
 replace LA := LA.below bb LA.lt
 replace oW := oW.below bb
 replace oG := oG.below bb
 replace oH := oH.below bb
 clear Bw9
 clear bb
 go_wp2
 go_ret
 exact ⟨rfl, Bw10⟩

set_option maxHeartbeats 16000000 in
set_option maxRecDepth 100000 in
theorem fnSafeBytes_long (n f vo lo v : Int) (s : ByteArray) (ao : Option Addr) (ca k : Nat) (d : ByteArray) (w : World) (h : 1048576 < s.size + k + d.size) (hs : s.size ≤ maxLen) (hk : k ≤ maxLen) (hd : d.size ≤ maxLen) :
 Calls Tryz.prog 6 #[cv n f, sv vo lo v s (.slice ao k ca) d] w fun e w' => e = .returned (.bool true) ∧ Below w.heap.size w w' := by
 unfold maxLen at *
 have ZA := hide fun w => szSafe_no vo lo v s ao k ca d 1048576 w (by omega) (by omega) (by omega) (by omega) (by omega) (by omega)
 have B0 : Below w.heap.size w ((w.alloc (.cells #[.int .i64 n, .int .i64 f] 51)).alloc (.cells #[.int .i64 vo, .int .i64 lo, .int .i64 v, .string s, .slice ao k ca, .string d] 63)) := qalloc2 _ _ _
 go_enter Tryz.func6, Tryz.ntmps6
 go_wp2_with fail
 refine (unhide ZA _).mono ?_
 rintro _ w1 ⟨rfl, b1⟩
 go_wp2
 go_ret
 exact ⟨rfl, B0.trans (b1.mono B0.size)⟩
theorem fnSafeBytes_walk (n f vo lo v : Int) (s : ByteArray) (ao : Option Addr) (ca : Nat) (ys : List Int) (d : ByteArray) (w : World) (hs : s.size ≤ maxLen) (hy : ys.length ≤ maxLen) (hd : d.size ≤ maxLen) (ha : AIW w ao ys) (hE : Env w) :
 Calls Tryz.prog 6 #[cv n f, sv vo lo v s (.slice ao ys.length ca) d] w fun e w' => e = .returned (.bool true) ∧ Below w.heap.size w w' := by
 by_cases h1 : s.size + ys.length + d.size ≤ 1048576
 ·exact fnSafeBytes_short n f vo lo v s ao ca ys d w h1 hE (ha.ri (by omega))
 ·exact fnSafeBytes_long n f vo lo v s ao ca _ d w (by omega) hs hy hd
end Go.Proofs.YtbigcmcliamenaaGreatDoor
