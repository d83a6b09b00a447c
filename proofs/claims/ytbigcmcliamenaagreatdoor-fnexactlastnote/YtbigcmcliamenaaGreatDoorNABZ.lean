/- Texts that belong together: BytesOpen, QcOfWalk. -/
import Derived.Test.YtbigcmcliamenaaGreatDoorNAAD
import Derived.Test.YtbigcmcliamenaaGreatDoorNAAC
import Derived.Test.YtbigcmcliamenaaGreatDoorNAAG
import Derived.Test.YtbigcmcliamenaaGreatDoorNAAF
import Derived.LaidHandle
import Derived.Test.YtbigcmcliamenaaGreatDoorNABF
import Derived.Test.YtbigcmcliamenaaGreatDoorNABY
import Derived.Test.YtbigcmcliamenaaGreatDoorNABX
import Derived.Deep.DeepCutAuto
namespace Go.Proofs.YtbigcmcliamenaaGreatDoor
open Go.ChangeShapes Go.WideShapes Go.ChangeAt Go.RowKit
set_option linter.unusedSectionVars false
variable [∀ (a b c d : Int), Decidable (Ok4 a b c d)]
variable [∀ (n f : Int), Decidable (COk n f)]

set_option maxRecDepth 100000 in
theorem open_bytesW {H : Type} {enc : TypeId × Value → H} {W : World} {base : Nat} {v : Value} {d : DataW H} {p : List MemPlace} (hv : Value.okWide Tryz.prog W .any base 22 v)
 (h : DataW.Trod enc Tryz.prog W 0 (fun _ => true) true 22 v d p) : ∃ ao ca, ∃ zs : List Int, v = .slice ao zs.length ca ∧ zs.length ≤ maxLen ∧ (zs.length ≤ 1048576 → RB W (.slice ao zs.length ca) zs) ∧ BytesL zs := by
 obtain ⟨a, len, cap, rfl⟩ := okWide_slice Tryz.underlying22 hv
 obtain ⟨fuel, hf⟩ := h
 rcases open_ints Tryz.underlying22 Tryz.underlying5 (by kernel_rfl) hf with ⟨hcs, _⟩ | ⟨x, l, c, zs, hcs, _, hl, hm, hz, _, hcell, hwz⟩
 ·simp [Value.cells] at hcs
  obtain ⟨rfl, rfl, rfl⟩ := hcs
  exact ⟨none, 0, [], rfl, by simp, fun _ => ⟨by simp, none, 0, rfl, ⟨by simp, by unfold maxLen; omega⟩, .inl rfl⟩, bytes_nil⟩
 ·simp [Value.cells] at hcs
  obtain ⟨rfl, rfl, rfl⟩ := hcs
  have hz' : zs.length = cap := by simpa using hz
  have hm' : cap ≤ maxLen := by first | exact hm | omega
  obtain ⟨e, ob⟩ := open_bytes (x := x) (cap := cap) hl hz' (fun i hi => hcell i (by omega))
  refine ⟨some x, cap, zs.take len, by rw [e], by rw [e]; omega, fun hs => ⟨by omega, some x, cap, rfl, ⟨by rw [e]; exact hl, hm'⟩, ob⟩, ?_⟩
  intro y hy
  have := bounds_u8 (hwz y (List.mem_of_mem_take hy))
  omega
theorem etName : Tryz.prog.globalNamed "errors.errorType" = some 0 := by kernel_rfl
theorem etRow : (Tryz.prog.cutTypes.find? (·.1 == "internal/reflectlite.rtype")).map (·.2) = some 186 := by kernel_rfl
theorem etOne : ((List.range 300).filter fun t => Tryz.prog.rowNamed t [101, 114, 114, 111, 114]) = [78] := by kernel_rfl
theorem etSize : Tryz.prog.types.size = 300 := by kernel_rfl
theorem handle_of_laid {W : World} (h : handlesMet Tryz.prog [("errors.errorType", Rows.laid_errors_errorType)] W) : EnvT W := by
 obtain ⟨name, u, ty, e1, e2, e3, e4, e5⟩ := h _ (List.mem_singleton.2 rfl)
 have en : name = [101, 114, 114, 111, 114] := (Option.some.inj e1).symm
 subst en
 obtain rfl := Option.some.inj (etRow.symm.trans e2)
 have hm : ty ∈ (List.range 300).filter fun t => Tryz.prog.rowNamed t [101, 114, 114, 111, 114] := List.mem_filter.2 ⟨List.mem_range.2 (by rw [← etSize]; exact e3), e4⟩
 rw [etOne] at hm
 obtain rfl := List.mem_singleton.1 hm
 have hh : typeHandle Tryz.prog 78 = .pointer (some ⟨8, 78, none⟩) := by kernel_rfl
 rw [hh] at e5
 unfold EnvT
 simpa using World.var?_cell etName e5 0
end Go.Proofs.YtbigcmcliamenaaGreatDoor
namespace Go.Proofs.YtbigcmcliamenaaGreatDoor
open Go.RowKit
set_option linter.unusedSectionVars false
variable [∀ (a b c d : Int), Decidable (Ok4 a b c d)]
variable [∀ (a b c d : Nat), Decidable (okN a b c d)]
variable [∀ (last : Int) (s : St), Decidable (GoodSt last s)]
variable [∀ (x : T4), Decidable (OkT x)]
variable [∀ (n : Int) (s : List Int), Decidable (OkL n s)]
variable [∀ (n f : Int), Decidable (COk n f)]

set_option maxHeartbeats 32000000 in
set_option maxRecDepth 100000 in
theorem fnQcOf_short (n f : Int) (ao : Option Addr) (ca : Nat) (xs : List Int) (pp : Int) (w : World) (hz : xs.length ≤ 1048576) (hr : RB w (.slice ao xs.length ca) xs) (hb : BytesL xs) (hE : Env w) (hT : EnvT w) :
 Calls Tryz.prog 5 #[cv n f, .slice ao xs.length ca, .int .i64 pp] w fun e w' => e = .returned (.bool true) ∧ Below w.heap.size w w' := by
 have HR := hide hr
 have HE := hide hE
 have HT := hide hT
 have TC := hide fun w => toConf_any n f w
 have TB := hide fun w h => toByte_any (.slice ao xs.length ca) xs w h
 have d1 : decide ((1048576 : Int) < (xs.length : Int)) = false := by simp; omega
 have SP := hide fun a k w h => specQcOf_any n f a k xs pp w (by omega) h hb _ _ (hide ⟨rfl, rfl⟩)
 have IM := hide fun a k w h e t => implQcOf_any n f a k xs pp w (by omega) h hb.get e t _ _ (hide ⟨rfl, rfl⟩)
 have hx1 := qcOf_small hb n f pp
 obtain ⟨b, hbb⟩ : ∃ y, (qcOfA 7 n f xs pp).isSome = y := ⟨_, rfl⟩
 obtain ⟨⟨⟨v, s, ys⟩, p⟩, hx⟩ : ∃ y, (qcOfA 7 n f xs pp).getD noQc = y := ⟨_, rfl⟩
 rw [hx, hbb] at SP IM
 rw [hx] at hx1
 clear hx hbb
 simp only at SP IM hx1
 have MX : Hid (∀ base u w, OI w base u ys → Calls Tryz.prog 37 #[qv v s u, .int .i64 1] w fun e w' => e = .returned (.int .i64 (1 + (ys.length : Int))) ∧ OI w' base u (imarks 1 ys.length) ∧ Kp w w' (fun k => u.ownBlock = some k)) := hide fun base u w h => markQc_any v s base u ys 1 w (by omega) (by omega) h
 have HD := hide fun u w h => heldQc_any v s u ys.length w h
 have d3 : decide ((1 : Int) + (xs.length : Int) < 0) = false := by simp; omega
 have d4 : decide ((1 : Int) + (ys.length : Int) < 0) = false := by simp; omega
 have nep : (p != p) = false := by simp
 have neb : (b != b) = false := by simp
 clear hr hE hT hb
 obtain ⟨w0, hw0⟩ : ∃ w0, (w.alloc (.cells #[.int .i64 n, .int .i64 f] 51)) = w0 := ⟨_, rfl⟩
 have Bw0 : Below w.heap.size w w0 := hw0 ▸ (Below.refl _ _).alloc (Nat.le_refl _) _
 have LC : Loc w0 (w.heap.size) #[.int .i64 n, .int .i64 f] := hw0 ▸ loc_at (w) _ _ rfl
 have zw0 : w.heap.size + 1 ≤ w0.heap.size := by rw [← hw0]; simp
 go_enter Tryz.func5, Tryz.ntmps5
 have cLC0 := LC.cell 0 rfl
 have cLC1 := LC.cell 1 rfl
 go_wp2_with fail
 clear hw0
 refine (unhide TC _).mono ?_
 rintro _ w1 ⟨rfl, bb⟩
 clear cLC0 cLC1
 have Bw1 := Bw0.trans (bb.mono Bw0.size)
 have sw1 := bb.size
 replace LC := LC.below bb LC.lt
 clear Bw0
 clear bb
 go_wp2_with fail
 refine (unhide TB _ ((unhide HR).below Bw1 (Nat.le_refl _))).mono ?_
 rintro _ w2 ⟨u1, rfl, o1, bb⟩
 have Bw2 := Bw1.trans (bb.mono Bw1.size)
 have sw2 := bb.size
 replace LC := LC.below bb LC.lt
 clear Bw1
 clear bb
 have to1 := World.ownsRow.lt o1
 obtain ⟨ao1, ko1, rfl⟩ := o1.form
 go_wp2_with fail
 refine (unhide SP _ _ _ (o1.rb (by omega))).mono ?_
 rintro _ w3 ⟨uV, rfl, oV, bb⟩
 have Bw3 := Bw2.trans (bb.mono Bw2.size)
 have sw3 := bb.size
 replace LC := LC.below bb LC.lt
 replace o1 := o1.below bb
 clear Bw2
 clear bb
 have toV := World.ownsRow.lt oV
 obtain ⟨aoV, koV, rfl⟩ := oV.form
 obtain ⟨w4, hw4⟩ : ∃ x, w3.alloc (.cells #[.int .i64 v, .string s, .slice aoV ys.length koV] 28) = x := ⟨_, rfl⟩
 have bb : Below w3.heap.size w3 w4 := hw4 ▸ qalloc _ _
 have V : Loc w4 w3.heap.size #[.int .i64 v, .string s, .slice aoV ys.length koV] := hw4 ▸ loc_at w3 _ _ rfl
 have zw4 : w4.heap.size = w3.heap.size + 1 := by rw [← hw4]; simp
 have Bw4 := Bw3.trans (bb.mono Bw3.size)
 have sw4 := bb.size
 replace LC := LC.below bb LC.lt
 replace o1 := o1.below bb
 replace oV := oV.below bb
 clear Bw3
 clear bb
 clear SP to1
 go_wp2_with fail
 clear hw4
 refine (unhide TB _ ((unhide HR).below Bw4 (Nat.le_refl _))).mono ?_
 rintro _ w5 ⟨uX, rfl, oX, bb⟩
 have Bw5 := Bw4.trans (bb.mono Bw4.size)
 have sw5 := bb.size
 replace LC := LC.below bb LC.lt
 replace V := V.below bb V.lt
 replace oV := oV.below bb
 clear Bw4
 clear bb
 have toX := World.ownsRow.lt oX
 obtain ⟨aoX, koX, rfl⟩ := oX.form
 have cLC0 := LC.cell 0 rfl
 have cLC1 := LC.cell 1 rfl
 go_wp2_with fail
 refine (unhide TC _).mono ?_
 rintro _ w6 ⟨rfl, bb⟩
 clear cLC0 cLC1
 have Bw6 := Bw5.trans (bb.mono Bw5.size)
 have sw6 := bb.size
 replace LC := LC.below bb LC.lt
 replace V := V.below bb V.lt
 replace oV := oV.below bb
 replace oX := oX.below bb
 clear Bw5
 clear bb
 go_wp2_with fail
 refine (unhide IM _ _ _ (oX.rb (by omega)) ((unhide HE).below Bw6) ((unhide HT).below Bw6)).mono ?_
 rintro _ w7 ⟨uG, rfl, oG, bb⟩
 have Bw7 := Bw6.trans (bb.mono Bw6.size)
 have sw7 := bb.size
 replace LC := LC.below bb LC.lt
 replace V := V.below bb V.lt
 replace oV := oV.below bb
 replace oX := oX.below bb
 clear Bw6
 clear bb
 have toG := World.ownsRow.lt oG
 obtain ⟨aoG, koG, rfl⟩ := oG.form
 obtain ⟨w8, hw8⟩ : ∃ x, w7.alloc (.cells #[.int .i64 v, .string s, .slice aoG ys.length koG] 28) = x := ⟨_, rfl⟩
 have bb : Below w7.heap.size w7 w8 := hw8 ▸ qalloc _ _
 have G : Loc w8 w7.heap.size #[.int .i64 v, .string s, .slice aoG ys.length koG] := hw8 ▸ loc_at w7 _ _ rfl
 have zw8 : w8.heap.size = w7.heap.size + 1 := by rw [← hw8]; simp
 have Bw8 := Bw7.trans (bb.mono Bw7.size)
 have sw8 := bb.size
 replace LC := LC.below bb LC.lt
 replace V := V.below bb V.lt
 replace oV := oV.below bb
 replace oX := oX.below bb
 replace oG := oG.below bb
 clear Bw7
 clear bb
 have cG0 := G.cell 0 rfl
 have cG1 := G.cell 1 rfl
 have cG2 := G.cell 2 rfl
 have cV0 := V.cell 0 rfl
 have cV1 := V.cell 1 rfl
 have cV2 := V.cell 2 rfl
 go_wp2_with fail
 clear hw8
 refine (eqQc_yes v s _ _ ys _ (oG.ri (by omega)) (oV.ri (by omega))).mono ?_
 rintro _ w9 ⟨rfl, bb⟩
 clear cG0 cG1 cG2 cV0 cV1 cV2
 have Bw9 := Bw8.trans (bb.mono Bw8.size)
 have sw9 := bb.size
 replace LC := LC.below bb LC.lt
 replace V := V.below bb V.lt
 replace G := G.below bb G.lt
 replace oV := oV.below bb
 replace oX := oX.below bb
 replace oG := oG.below bb
 clear Bw8
 clear bb
 go_wp2_with fail
 refine (unhide TB _ ((unhide HR).below Bw9 (Nat.le_refl _))).mono ?_
 rintro _ w10 ⟨u2, rfl, o2, bb⟩
 have Bw10 := Bw9.trans (bb.mono Bw9.size)
 have sw10 := bb.size
 replace LC := LC.below bb LC.lt
 replace V := V.below bb V.lt
 replace G := G.below bb G.lt
 replace oV := oV.below bb
 replace oX := oX.below bb
 replace oG := oG.below bb
 clear Bw9
 clear bb
 have to2 := World.ownsRow.lt o2
 obtain ⟨ao2, ko2, rfl⟩ := o2.form
 go_wp2_with fail
 refine (eqB_yes _ _ xs _ (oX.rb (by omega)) (o2.rb (by omega))).mono ?_
 rintro _ w11 ⟨rfl, bb⟩
 have Bw11 := Bw10.trans (bb.mono Bw10.size)
 have sw11 := bb.size
 replace LC := LC.below bb LC.lt
 replace V := V.below bb V.lt
 replace G := G.below bb G.lt
 replace oV := oV.below bb
 replace oX := oX.below bb
 replace oG := oG.below bb
 replace o2 := o2.below bb
 clear Bw10
 clear bb
 clear o2 to2
 go_wp2_with fail
 refine (markB _ _ xs _ (by omega) oX).mono ?_
 rintro _ w12 ⟨rfl, oN, kN⟩
 have Bw12 := Below.kp Bw11 kN Bw11.size (fun k hk => by have := toX _ hk; omega)
 have sw12 := kN.size
 replace LC := LC.kp kN (fun h => by have := toX _ h; omega)
 replace V := V.kp kN (fun h => by have := toX _ h; omega)
 replace G := G.kp kN (fun h => by have := toX _ h; omega)
 replace oV := oV.kp kN (fun j hj h => by have := toV j hj; have := toX _ h; omega)
 replace oG := oG.kp kN (fun j hj h => by have := toG j hj; have := toX _ h; omega)
 clear Bw11
 clear oX kN
 clear oN
 have cG0 := G.cell 0 rfl
 have cG1 := G.cell 1 rfl
 have cG2 := G.cell 2 rfl
 have cV0 := V.cell 0 rfl
 have cV1 := V.cell 1 rfl
 have cV2 := V.cell 2 rfl
 go_wp2_with fail
 refine (eqQc_yes v s _ _ ys _ (oG.ri (by omega)) (oV.ri (by omega))).mono ?_
 rintro _ w13 ⟨rfl, bb⟩
 clear cG0 cG1 cG2 cV0 cV1 cV2
 have Bw13 := Bw12.trans (bb.mono Bw12.size)
 have sw13 := bb.size
 replace LC := LC.below bb LC.lt
 replace V := V.below bb V.lt
 replace G := G.below bb G.lt
 replace oV := oV.below bb
 replace oG := oG.below bb
 clear Bw12
 clear bb
 have cG0 := G.cell 0 rfl
 have cG1 := G.cell 1 rfl
 have cG2 := G.cell 2 rfl
 go_wp2_with fail
 refine (unhide MX _ _ _ oG).mono ?_
 rintro _ w14 ⟨rfl, oN, kN⟩
 clear cG0 cG1 cG2
 have Bw14 := Below.kp Bw13 kN Bw13.size (fun k hk => by have := toG _ hk; omega)
 have sw14 := kN.size
 replace LC := LC.kp kN (fun h => by have := toG _ h; omega)
 replace V := V.kp kN (fun h => by have := toG _ h; omega)
 replace G := G.kp kN (fun h => by have := toG _ h; omega)
 replace oV := oV.kp kN (fun j hj h => by have := toV j hj; have := toG _ h; omega)
 clear Bw13
 clear oG kN
 have oG := oN
 clear oN MX
 have cG0 := G.cell 0 rfl
 have cG1 := G.cell 1 rfl
 have cG2 := G.cell 2 rfl
 go_wp2_with fail
 refine (unhide HD _ _ (oG.ri (by rw [imarks_len]; omega))).mono ?_
 rintro _ w15 ⟨rfl, bb⟩
 clear cG0 cG1 cG2
 have Bw15 := Bw14.trans (bb.mono Bw14.size)
 have sw15 := bb.size
 replace LC := LC.below bb LC.lt
 replace V := V.below bb V.lt
 replace G := G.below bb G.lt
 replace oV := oV.below bb
 replace oG := oG.below bb
 clear Bw14
 clear bb
 have cLC0 := LC.cell 0 rfl
 have cLC1 := LC.cell 1 rfl
 go_wp2_with fail
 refine (unhide TC _).mono ?_
 rintro _ w16 ⟨rfl, bb⟩
 clear cLC0 cLC1
 have Bw16 := Bw15.trans (bb.mono Bw15.size)
 have sw16 := bb.size
 replace LC := LC.below bb LC.lt
 replace V := V.below bb V.lt
 replace G := G.below bb G.lt
 replace oV := oV.below bb
 replace oG := oG.below bb
 clear Bw15
 clear bb
 go_wp2_with fail
 refine (unhide TB _ ((unhide HR).below Bw16 (Nat.le_refl _))).mono ?_
 rintro _ w17 ⟨u3, rfl, o3, bb⟩
 have Bw17 := Bw16.trans (bb.mono Bw16.size)
 have sw17 := bb.size
 replace LC := LC.below bb LC.lt
 replace V := V.below bb V.lt
 replace G := G.below bb G.lt
 replace oV := oV.below bb
 replace oG := oG.below bb
 clear Bw16
 clear bb
 have to3 := World.ownsRow.lt o3
 obtain ⟨ao3, ko3, rfl⟩ := o3.form
 go_wp2_with fail
 refine (unhide IM _ _ _ (o3.rb (by omega)) ((unhide HE).below Bw17) ((unhide HT).below Bw17)).mono ?_
 rintro _ w18 ⟨uH, rfl, oH, bb⟩
 have Bw18 := Bw17.trans (bb.mono Bw17.size)
 have sw18 := bb.size
 replace LC := LC.below bb LC.lt
 replace V := V.below bb V.lt
 replace G := G.below bb G.lt
 replace oV := oV.below bb
 replace oG := oG.below bb
 replace o3 := o3.below bb
 clear Bw17
 clear bb
 have toH := World.ownsRow.lt oH
 obtain ⟨aoH, koH, rfl⟩ := oH.form
 obtain ⟨w19, hw19⟩ : ∃ x, w18.alloc (.cells #[.int .i64 v, .string s, .slice aoH ys.length koH] 28) = x := ⟨_, rfl⟩
 have bb : Below w18.heap.size w18 w19 := hw19 ▸ qalloc _ _
 have H : Loc w19 w18.heap.size #[.int .i64 v, .string s, .slice aoH ys.length koH] := hw19 ▸ loc_at w18 _ _ rfl
 have zw19 : w19.heap.size = w18.heap.size + 1 := by rw [← hw19]; simp
 have Bw19 := Bw18.trans (bb.mono Bw18.size)
 have sw19 := bb.size
 replace LC := LC.below bb LC.lt
 replace V := V.below bb V.lt
 replace G := G.below bb G.lt
 replace oV := oV.below bb
 replace oG := oG.below bb
 replace o3 := o3.below bb
 replace oH := oH.below bb
 clear Bw18
 clear bb
 clear IM to3
 have cH0 := H.cell 0 rfl
 have cH1 := H.cell 1 rfl
 have cH2 := H.cell 2 rfl
 have cV0 := V.cell 0 rfl
 have cV1 := V.cell 1 rfl
 have cV2 := V.cell 2 rfl
 go_wp2_with fail
 clear hw19
 refine (eqQc_yes v s _ _ ys _ (oH.ri (by omega)) (oV.ri (by omega))).mono ?_
 rintro _ w20 ⟨rfl, bb⟩
 clear cH0 cH1 cH2 cV0 cV1 cV2
 have Bw20 := Bw19.trans (bb.mono Bw19.size)
 have sw20 := bb.size
 replace LC := LC.below bb LC.lt
 replace V := V.below bb V.lt
 replace G := G.below bb G.lt
 replace H := H.below bb H.lt
 replace oV := oV.below bb
 replace oG := oG.below bb
 replace oH := oH.below bb
 clear Bw19
 clear bb
 have cG0 := G.cell 0 rfl
 have cG1 := G.cell 1 rfl
 have cG2 := G.cell 2 rfl
 go_wp2_with fail
 refine (unhide HD _ _ (oG.ri (by rw [imarks_len]; omega))).mono ?_
 rintro _ w21 ⟨rfl, bb⟩
 clear cG0 cG1 cG2
 have Bw21 := Bw20.trans (bb.mono Bw20.size)
 have sw21 := bb.size
 replace LC := LC.below bb LC.lt
 replace V := V.below bb V.lt
 replace G := G.below bb G.lt
 replace H := H.below bb H.lt
 replace oV := oV.below bb
 replace oG := oG.below bb
 replace oH := oH.below bb
 clear Bw20
 clear bb
 go_wp2
 go_ret
 exact ⟨rfl, Bw21⟩

set_option maxHeartbeats 16000000 in
set_option maxRecDepth 100000 in
theorem fnQcOf_long (n f : Int) (ao : Option Addr) (ca : Nat) (k : Nat) (pp : Int) (w : World) (h : 1048576 < k) (hm : k ≤ maxLen) :
 Calls Tryz.prog 5 #[cv n f, .slice ao k ca, .int .i64 pp] w fun e w' => e = .returned (.bool true) ∧ Below w.heap.size w w' := by
 unfold maxLen at hm
 have hd : decide ((1048576 : Int) < (k : Int)) = true := by simp; omega
 have B0 : Below w.heap.size w (w.alloc (.cells #[.int .i64 n, .int .i64 f] 51)) := conf_below _ _
 go_enter Tryz.func5, Tryz.ntmps5
 go_wp2
 go_ret
 exact ⟨rfl, B0⟩
theorem fnQcOf_walk (n f : Int) (ao : Option Addr) (ca : Nat) (xs : List Int) (pp : Int) (w : World) (hm : xs.length ≤ maxLen) (hr : xs.length ≤ 1048576 → RB w (.slice ao xs.length ca) xs) (hb : BytesL xs) (hE : Env w) (hT : EnvT w) :
 Calls Tryz.prog 5 #[cv n f, .slice ao xs.length ca, .int .i64 pp] w fun e w' => e = .returned (.bool true) ∧ Below w.heap.size w w' := by
 by_cases h1 : xs.length ≤ 1048576
 ·exact fnQcOf_short n f ao ca xs pp w h1 (hr h1) hb hE hT
 ·exact fnQcOf_long n f ao ca _ pp w (by omega) hm
end Go.Proofs.YtbigcmcliamenaaGreatDoor
