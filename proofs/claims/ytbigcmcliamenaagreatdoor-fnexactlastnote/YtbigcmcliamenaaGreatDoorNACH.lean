/- The walk of laws.FnExactLastNote. -/
import Derived.Test.YtbigcmcliamenaaGreatDoorNABF
import Derived.Test.YtbigcmcliamenaaGreatDoorNABY
import Derived.Test.YtbigcmcliamenaaGreatDoorNABX
import Derived.Test.YtbigcmcliamenaaGreatDoorNABZ
import Derived.Test.YtbigcmcliamenaaGreatDoorNAAC
import Derived.Deep.DeepCutAuto
namespace Go.Proofs.YtbigcmcliamenaaGreatDoor
open Go.RowKit
set_option linter.unusedSectionVars false
variable [∀ (a b c d : Int), Decidable (Ok4 a b c d)]
variable [∀ (a b c d : Nat), Decidable (okN a b c d)]
variable [∀ (last : Int) (s : St), Decidable (GoodSt last s)]
variable [∀ (x : T4), Decidable (OkT x)]
variable [∀ (n : Int) (s : List Int), Decidable (OkL n s)]
variable [∀ (n f : Int), Decidable (COk n f)]

set_option maxHeartbeats 32000000 in
set_option maxRecDepth 100000 in
theorem fnLastNote_short (n f : Int) (ao : Option Addr) (ca : Nat) (xs : List Int) (w : World) (hz : xs.length ≤ 1048576) (hr : RB w (.slice ao xs.length ca) xs) (hb : BytesL xs) (hE : Env w) (hT : EnvT w) :
 Calls Tryz.prog 9 #[cv n f, .slice ao xs.length ca] w fun e w' => e = .returned (.bool true) ∧ Below w.heap.size w w' := by
 have HR := hide hr
 have HE := hide hE
 have HT := hide hT
 have TC := hide fun w => toConf_any n f w
 have TB := hide fun w h => toByte_any (.slice ao xs.length ca) xs w h
 have d1 : decide ((1048576 : Int) < (xs.length : Int)) = false := by simp; omega
 have SP := hide fun a k w h => specLastNote_any n f a k xs w (by omega) h hb _ (hide rfl)
 have IM := hide fun a k w h e t => implLastNote_any n f a k xs w (by omega) h hb e t _ (hide rfl)
 have hx1 := lastA_small hb n f
 obtain ⟨⟨⟨vo, lo, ⟨v, s, ys⟩, d⟩, p⟩, hx⟩ : ∃ y, lastA n f xs = y := ⟨_, rfl⟩
 rw [hx] at SP IM hx1
 clear hx
 simp only at SP IM hx1
 have MX : Hid (∀ base u w, OI w base u ys → Calls Tryz.prog 45 #[sv vo lo v s u d, .int .i64 1] w fun e w' => e = .returned (.int .i64 (1 + (ys.length : Int))) ∧ OI w' base u (imarks 1 ys.length) ∧ Kp w w' (fun k => u.ownBlock = some k)) := hide fun base u w h => markSafe_any vo lo v s base u d ys 1 w (by omega) (by omega) h
 have HD := hide fun u w h => heldSafe_any vo lo v s u d ys.length w h
 have d3 : decide ((1 : Int) + (xs.length : Int) < 0) = false := by simp; omega
 have d4 : decide ((1 : Int) + (ys.length : Int) < 0) = false := by simp; omega
 have nep : (p != p) = false := by simp
 clear hr hE hT hb
 obtain ⟨w0, hw0⟩ : ∃ w0, (w.alloc (.cells #[.int .i64 n, .int .i64 f] 51)) = w0 := ⟨_, rfl⟩
 have Bw0 : Below w.heap.size w w0 := hw0 ▸ (Below.refl _ _).alloc (Nat.le_refl _) _
 have LC : Loc w0 (w.heap.size) #[.int .i64 n, .int .i64 f] := hw0 ▸ loc_at (w) _ _ rfl
 have zw0 : w.heap.size + 1 ≤ w0.heap.size := by rw [← hw0]; simp
 go_enter Tryz.func9, Tryz.ntmps9
 have cLC0 := LC.cell 0 rfl
 have cLC1 := LC.cell 1 rfl
 go_wp2_with fail
 clear hw0
 refine (unhide TC _).mono ?_
 rintro _ w1 ⟨rfl, bb⟩
 clear cLC0 cLC1
 have Bw1 := Bw0.trans (bb.mono Bw0.size)
 have sw1 := bb.size
 replace LC := LC.below bb LC.lt
 clear Bw0
 clear bb
 go_wp2_with fail
 refine (unhide TB _ ((unhide HR).below Bw1 (Nat.le_refl _))).mono ?_
 rintro _ w2 ⟨u1, rfl, o1, bb⟩
 have Bw2 := Bw1.trans (bb.mono Bw1.size)
 have sw2 := bb.size
 replace LC := LC.below bb LC.lt
 clear Bw1
 clear bb
 have to1 := World.ownsRow.lt o1
 obtain ⟨ao1, ko1, rfl⟩ := o1.form
 go_wp2_with fail
 refine (unhide SP _ _ _ (o1.rb (by omega))).mono ?_
 rintro _ w3 ⟨uV, rfl, oV, bb⟩
 have Bw3 := Bw2.trans (bb.mono Bw2.size)
 have sw3 := bb.size
 replace LC := LC.below bb LC.lt
 replace o1 := o1.below bb
 clear Bw2
 clear bb
 have toV := World.ownsRow.lt oV
 obtain ⟨aoV, koV, rfl⟩ := oV.form
 obtain ⟨w4, hw4⟩ : ∃ x, w3.alloc (.cells #[.int .i64 vo, .int .i64 lo, .int .i64 v, .string s, .slice aoV ys.length koV, .string d] 30) = x := ⟨_, rfl⟩
 have bb : Below w3.heap.size w3 w4 := hw4 ▸ qalloc _ _
 have V : Loc w4 w3.heap.size #[.int .i64 vo, .int .i64 lo, .int .i64 v, .string s, .slice aoV ys.length koV, .string d] := hw4 ▸ loc_at w3 _ _ rfl
 have zw4 : w4.heap.size = w3.heap.size + 1 := by rw [← hw4]; simp
 have Bw4 := Bw3.trans (bb.mono Bw3.size)
 have sw4 := bb.size
 replace LC := LC.below bb LC.lt
 replace o1 := o1.below bb
 replace oV := oV.below bb
 clear Bw3
 clear bb
 clear SP to1
 go_wp2_with fail
 clear hw4
 refine (unhide TB _ ((unhide HR).below Bw4 (Nat.le_refl _))).mono ?_
 rintro _ w5 ⟨uX, rfl, oX, bb⟩
 have Bw5 := Bw4.trans (bb.mono Bw4.size)
 have sw5 := bb.size
 replace LC := LC.below bb LC.lt
 replace V := V.below bb V.lt
 replace oV := oV.below bb
 clear Bw4
 clear bb
 have toX := World.ownsRow.lt oX
 obtain ⟨aoX, koX, rfl⟩ := oX.form
 have cLC0 := LC.cell 0 rfl
 have cLC1 := LC.cell 1 rfl
 go_wp2_with fail
 refine (unhide TC _).mono ?_
 rintro _ w6 ⟨rfl, bb⟩
 clear cLC0 cLC1
 have Bw6 := Bw5.trans (bb.mono Bw5.size)
 have sw6 := bb.size
 replace LC := LC.below bb LC.lt
 replace V := V.below bb V.lt
 replace oV := oV.below bb
 replace oX := oX.below bb
 clear Bw5
 clear bb
 go_wp2_with fail
 refine (unhide IM _ _ _ (oX.rb (by omega)) ((unhide HE).below Bw6) ((unhide HT).below Bw6)).mono ?_
 rintro _ w7 ⟨uG, rfl, oG, bb⟩
 have Bw7 := Bw6.trans (bb.mono Bw6.size)
 have sw7 := bb.size
 replace LC := LC.below bb LC.lt
 replace V := V.below bb V.lt
 replace oV := oV.below bb
 replace oX := oX.below bb
 clear Bw6
 clear bb
 have toG := World.ownsRow.lt oG
 obtain ⟨aoG, koG, rfl⟩ := oG.form
 obtain ⟨w8, hw8⟩ : ∃ x, w7.alloc (.cells #[.int .i64 vo, .int .i64 lo, .int .i64 v, .string s, .slice aoG ys.length koG, .string d] 30) = x := ⟨_, rfl⟩
 have bb : Below w7.heap.size w7 w8 := hw8 ▸ qalloc _ _
 have G : Loc w8 w7.heap.size #[.int .i64 vo, .int .i64 lo, .int .i64 v, .string s, .slice aoG ys.length koG, .string d] := hw8 ▸ loc_at w7 _ _ rfl
 have zw8 : w8.heap.size = w7.heap.size + 1 := by rw [← hw8]; simp
 have Bw8 := Bw7.trans (bb.mono Bw7.size)
 have sw8 := bb.size
 replace LC := LC.below bb LC.lt
 replace V := V.below bb V.lt
 replace oV := oV.below bb
 replace oX := oX.below bb
 replace oG := oG.below bb
 clear Bw7
 clear bb
 have cG0 := G.cell 0 rfl
 have cG1 := G.cell 1 rfl
 have cG2 := G.cell 2 rfl
 have cG3 := G.cell 3 rfl
 have cG4 := G.cell 4 rfl
 have cG5 := G.cell 5 rfl
 have cV0 := V.cell 0 rfl
 have cV1 := V.cell 1 rfl
 have cV2 := V.cell 2 rfl
 have cV3 := V.cell 3 rfl
 have cV4 := V.cell 4 rfl
 have cV5 := V.cell 5 rfl
 go_wp2_with fail
 clear hw8
 refine (eqSafe_yes vo lo v s _ _ ys d _ (oG.ri (by omega)) (oV.ri (by omega))).mono ?_
 rintro _ w9 ⟨rfl, bb⟩
 clear cG0 cG1 cG2 cG3 cG4 cG5 cV0 cV1 cV2 cV3 cV4 cV5
 have Bw9 := Bw8.trans (bb.mono Bw8.size)
 have sw9 := bb.size
 replace LC := LC.below bb LC.lt
 replace V := V.below bb V.lt
 replace G := G.below bb G.lt
 replace oV := oV.below bb
 replace oX := oX.below bb
 replace oG := oG.below bb
 clear Bw8
 clear bb
 go_wp2_with fail
 refine (unhide TB _ ((unhide HR).below Bw9 (Nat.le_refl _))).mono ?_
 rintro _ w10 ⟨u2, rfl, o2, bb⟩
 have Bw10 := Bw9.trans (bb.mono Bw9.size)
 have sw10 := bb.size
 replace LC := LC.below bb LC.lt
 replace V := V.below bb V.lt
 replace G := G.below bb G.lt
 replace oV := oV.below bb
 replace oX := oX.below bb
 replace oG := oG.below bb
 clear Bw9
 clear bb
 have to2 := World.ownsRow.lt o2
 obtain ⟨ao2, ko2, rfl⟩ := o2.form
 go_wp2_with fail
 refine (eqB_yes _ _ xs _ (oX.rb (by omega)) (o2.rb (by omega))).mono ?_
 rintro _ w11 ⟨rfl, bb⟩
 have Bw11 := Bw10.trans (bb.mono Bw10.size)
 have sw11 := bb.size
 replace LC := LC.below bb LC.lt
 replace V := V.below bb V.lt
 replace G := G.below bb G.lt
 replace oV := oV.below bb
 replace oX := oX.below bb
 replace oG := oG.below bb
 replace o2 := o2.below bb
 clear Bw10
 clear bb
 clear o2 to2
 go_wp2_with fail
 refine (markB _ _ xs _ (by omega) oX).mono ?_
 rintro _ w12 ⟨rfl, oN, kN⟩
 have Bw12 := Below.kp Bw11 kN Bw11.size (fun k hk => by have := toX _ hk; omega)
 have sw12 := kN.size
 replace LC := LC.kp kN (fun h => by have := toX _ h; omega)
 replace V := V.kp kN (fun h => by have := toX _ h; omega)
 replace G := G.kp kN (fun h => by have := toX _ h; omega)
 replace oV := oV.kp kN (fun j hj h => by have := toV j hj; have := toX _ h; omega)
 replace oG := oG.kp kN (fun j hj h => by have := toG j hj; have := toX _ h; omega)
 clear Bw11
 clear oX kN
 clear oN
 have cG0 := G.cell 0 rfl
 have cG1 := G.cell 1 rfl
 have cG2 := G.cell 2 rfl
 have cG3 := G.cell 3 rfl
 have cG4 := G.cell 4 rfl
 have cG5 := G.cell 5 rfl
 have cV0 := V.cell 0 rfl
 have cV1 := V.cell 1 rfl
 have cV2 := V.cell 2 rfl
 have cV3 := V.cell 3 rfl
 have cV4 := V.cell 4 rfl
 have cV5 := V.cell 5 rfl
 go_wp2_with fail
 refine (eqSafe_yes vo lo v s _ _ ys d _ (oG.ri (by omega)) (oV.ri (by omega))).mono ?_
 rintro _ w13 ⟨rfl, bb⟩
 clear cG0 cG1 cG2 cG3 cG4 cG5 cV0 cV1 cV2 cV3 cV4 cV5
 have Bw13 := Bw12.trans (bb.mono Bw12.size)
 have sw13 := bb.size
 replace LC := LC.below bb LC.lt
 replace V := V.below bb V.lt
 replace G := G.below bb G.lt
 replace oV := oV.below bb
 replace oG := oG.below bb
 clear Bw12
 clear bb
 have cG0 := G.cell 0 rfl
 have cG1 := G.cell 1 rfl
 have cG2 := G.cell 2 rfl
 have cG3 := G.cell 3 rfl
 have cG4 := G.cell 4 rfl
 have cG5 := G.cell 5 rfl
 go_wp2_with fail
 refine (unhide MX _ _ _ oG).mono ?_
 rintro _ w14 ⟨rfl, oN, kN⟩
 clear cG0 cG1 cG2 cG3 cG4 cG5
 have Bw14 := Below.kp Bw13 kN Bw13.size (fun k hk => by have := toG _ hk; omega)
 have sw14 := kN.size
 replace LC := LC.kp kN (fun h => by have := toG _ h; omega)
 replace V := V.kp kN (fun h => by have := toG _ h; omega)
 replace G := G.kp kN (fun h => by have := toG _ h; omega)
 replace oV := oV.kp kN (fun j hj h => by have := toV j hj; have := toG _ h; omega)
 clear Bw13
 clear oG kN
 have oG := oN
 clear oN MX
 have cG0 := G.cell 0 rfl
 have cG1 := G.cell 1 rfl
 have cG2 := G.cell 2 rfl
 have cG3 := G.cell 3 rfl
 have cG4 := G.cell 4 rfl
 have cG5 := G.cell 5 rfl
 go_wp2_with fail
 refine (unhide HD _ _ (oG.ri (by rw [imarks_len]; omega))).mono ?_
 rintro _ w15 ⟨rfl, bb⟩
 clear cG0 cG1 cG2 cG3 cG4 cG5
 have Bw15 := Bw14.trans (bb.mono Bw14.size)
 have sw15 := bb.size
 replace LC := LC.below bb LC.lt
 replace V := V.below bb V.lt
 replace G := G.below bb G.lt
 replace oV := oV.below bb
 replace oG := oG.below bb
 clear Bw14
 clear bb
 have cLC0 := LC.cell 0 rfl
 have cLC1 := LC.cell 1 rfl
 go_wp2_with fail
 refine (unhide TC _).mono ?_
 rintro _ w16 ⟨rfl, bb⟩
 clear cLC0 cLC1
 have Bw16 := Bw15.trans (bb.mono Bw15.size)
 have sw16 := bb.size
 replace LC := LC.below bb LC.lt
 replace V := V.below bb V.lt
 replace G := G.below bb G.lt
 replace oV := oV.below bb
 replace oG := oG.below bb
 clear Bw15
 clear bb
 go_wp2_with fail
 refine (unhide TB _ ((unhide HR).below Bw16 (Nat.le_refl _))).mono ?_
 rintro _ w17 ⟨u3, rfl, o3, bb⟩
 have Bw17 := Bw16.trans (bb.mono Bw16.size)
 have sw17 := bb.size
 replace LC := LC.below bb LC.lt
 replace V := V.below bb V.lt
 replace G := G.below bb G.lt
 replace oV := oV.below bb
 replace oG := oG.below bb
 clear Bw16
 clear bb
 have to3 := World.ownsRow.lt o3
 obtain ⟨ao3, ko3, rfl⟩ := o3.form
 go_wp2_with fail
 refine (unhide IM _ _ _ (o3.rb (by omega)) ((unhide HE).below Bw17) ((unhide HT).below Bw17)).mono ?_
 rintro _ w18 ⟨uH, rfl, oH, bb⟩
 have Bw18 := Bw17.trans (bb.mono Bw17.size)
 have sw18 := bb.size
 replace LC := LC.below bb LC.lt
 replace V := V.below bb V.lt
 replace G := G.below bb G.lt
 replace oV := oV.below bb
 replace oG := oG.below bb
 replace o3 := o3.below bb
 clear Bw17
 clear bb
 have toH := World.ownsRow.lt oH
 obtain ⟨aoH, koH, rfl⟩ := oH.form
 obtain ⟨w19, hw19⟩ : ∃ x, w18.alloc (.cells #[.int .i64 vo, .int .i64 lo, .int .i64 v, .string s, .slice aoH ys.length koH, .string d] 30) = x := ⟨_, rfl⟩
 have bb : Below w18.heap.size w18 w19 := hw19 ▸ qalloc _ _
 have H : Loc w19 w18.heap.size #[.int .i64 vo, .int .i64 lo, .int .i64 v, .string s, .slice aoH ys.length koH, .string d] := hw19 ▸ loc_at w18 _ _ rfl
 have zw19 : w19.heap.size = w18.heap.size + 1 := by rw [← hw19]; simp
 have Bw19 := Bw18.trans (bb.mono Bw18.size)
 have sw19 := bb.size
 replace LC := LC.below bb LC.lt
 replace V := V.below bb V.lt
 replace G := G.below bb G.lt
 replace oV := oV.below bb
 replace oG := oG.below bb
 replace o3 := o3.below bb
 replace oH := oH.below bb
 clear Bw18
 clear bb
 clear IM to3
 have cH0 := H.cell 0 rfl
 have cH1 := H.cell 1 rfl
 have cH2 := H.cell 2 rfl
 have cH3 := H.cell 3 rfl
 have cH4 := H.cell 4 rfl
 have cH5 := H.cell 5 rfl
 have cV0 := V.cell 0 rfl
 have cV1 := V.cell 1 rfl
 have cV2 := V.cell 2 rfl
 have cV3 := V.cell 3 rfl
 have cV4 := V.cell 4 rfl
 have cV5 := V.cell 5 rfl
 go_wp2_with fail
 clear hw19
 refine (eqSafe_yes vo lo v s _ _ ys d _ (oH.ri (by omega)) (oV.ri (by omega))).mono ?_
 rintro _ w20 ⟨rfl, bb⟩
 clear cH0 cH1 cH2 cH3 cH4 cH5 cV0 cV1 cV2 cV3 cV4 cV5
 have Bw20 := Bw19.trans (bb.mono Bw19.size)
 have sw20 := bb.size
 replace LC := LC.below bb LC.lt
 replace V := V.below bb V.lt
 replace G := G.below bb G.lt
 replace H := H.below bb H.lt
 replace oV := oV.below bb
 replace oG := oG.below bb
 replace oH := oH.below bb
 clear Bw19
 clear bb
 have cG0 := G.cell 0 rfl
 have cG1 := G.cell 1 rfl
 have cG2 := G.cell 2 rfl
 have cG3 := G.cell 3 rfl
 have cG4 := G.cell 4 rfl
 have cG5 := G.cell 5 rfl
 go_wp2_with fail
 refine (unhide HD _ _ (oG.ri (by rw [imarks_len]; omega))).mono ?_
 rintro _ w21 ⟨rfl, bb⟩
 clear cG0 cG1 cG2 cG3 cG4 cG5
 have Bw21 := Bw20.trans (bb.mono Bw20.size)
 have sw21 := bb.size
 replace LC := LC.below bb LC.lt
 replace V := V.below bb V.lt
 replace G := G.below bb G.lt
 replace H := H.below bb H.lt
 replace oV := oV.below bb
 replace oG := oG.below bb
 replace oH := oH.below bb
 clear Bw20
 clear bb
 go_wp2
 go_ret
 exact ⟨rfl, Bw21⟩

set_option maxHeartbeats 16000000 in
set_option maxRecDepth 100000 in
theorem fnLastNote_long (n f : Int) (ao : Option Addr) (ca : Nat) (k : Nat) (w : World) (h : 1048576 < k) (hm : k ≤ maxLen) :
 Calls Tryz.prog 9 #[cv n f, .slice ao k ca] w fun e w' => e = .returned (.bool true) ∧ Below w.heap.size w w' := by
 unfold maxLen at hm
 have hd : decide ((1048576 : Int) < (k : Int)) = true := by simp; omega
 have B0 : Below w.heap.size w (w.alloc (.cells #[.int .i64 n, .int .i64 f] 51)) := conf_below _ _
 go_enter Tryz.func9, Tryz.ntmps9
 go_wp2
 go_ret
 exact ⟨rfl, B0⟩
theorem fnLastNote_walk (n f : Int) (ao : Option Addr) (ca : Nat) (xs : List Int) (w : World) (hm : xs.length ≤ maxLen) (hr : xs.length ≤ 1048576 → RB w (.slice ao xs.length ca) xs) (hb : BytesL xs) (hE : Env w) (hT : EnvT w) :
 Calls Tryz.prog 9 #[cv n f, .slice ao xs.length ca] w fun e w' => e = .returned (.bool true) ∧ Below w.heap.size w w' := by
 by_cases h1 : xs.length ≤ 1048576
 ·exact fnLastNote_short n f ao ca xs w h1 (hr h1) hb hE hT
 ·exact fnLastNote_long n f ao ca _ w (by omega) hm
end Go.Proofs.YtbigcmcliamenaaGreatDoor
