/- Texts that belong together: RepNewI, RepNil, RepNewWalk, NotePut, RepFin. -/
import Derived.Test.YtndpjhiidmdlhaaGreatDoorRBBM
import Derived.Test.YtndpjhiidmdlhaaGreatDoorRBAQ
import Derived.Test.YtndpjhiidmdlhaaGreatDoorRBAA
import Derived.Test.YtndpjhiidmdlhaaGreatDoorRBAL
import Derived.Test.YtndpjhiidmdlhaaGreatDoorRBBA
import Derived.Test.YtndpjhiidmdlhaaGreatDoorRBAE
import Derived.Deep.DeepCutAuto
import Derived.Laws.EntriesVeiled
import Derived.Test.YtndpjhiidmdlhaaGreatDoorRBAS
import Derived.Test.YtndpjhiidmdlhaaGreatDoorRBBI
import Derived.Test.YtndpjhiidmdlhaaGreatDoorRBBD
import Derived.RegionTactic
import Derived.Test.YtndpjhiidmdlhaaGreatDoorRBAI
set_option maxRecDepth 100000
set_option maxHeartbeats 16000000
namespace Go.Proofs.YtndpjhiidmdlhaaGreatDoor
open Go Go.RowKit
set_option linter.unusedSectionVars false
variable [∀ (a b c d : Int), Decidable (Ok4 a b c d)]
variable [∀ (n f : Int), Decidable (COk n f)]
variable [∀ (a b c d : Nat), Decidable (okN a b c d)]
variable [∀ (x : T4), Decidable (OkT x)]
variable [∀ (last : Int) (s : St), Decidable (GoodSt last s)]
variable [∀ (n : Int) (s : List Int), Decidable (OkL n s)]
variable [∀ (x y : T4), Decidable (Bef x y)]
variable [∀ (ts : List T4), Decidable (Asc ts)]
variable [∀ (ts : List T4), Decidable (AllOk ts)]
variable [∀ (ts : List T4), Decidable (POk ts)]

theorem RI_.new (id : Int) : RI_ (newR id) := ⟨(Nat.zero_le _ : 0 ≤ 33554432), (Nat.zero_le _ : 0 ≤ 33554432), fun p hp => by simp [newR] at hp, fun j hj => by simp [newR] at hj⟩
set_option linter.unusedSimpArgs false in
theorem implRepNew (n f id : Int) (w : World) (hE : Env w) :
 Calls Tryz.prog 16 #[cv n f, .int .i64 id] w fun e w' => e = .returned (.tuple #[rpv (if repB n f (newR id) = true then newR id else zeroR) (.slice none 0 0) (.slice none 0 0) (.slice none 0 0) (.slice none 0 0) (.slice none 0 0), .bool (repB n f (newR id))]) ∧ Below w.heap.size w w' := by
 have RO := hide fun w he => implRepOk n f (newR id) none none none none none 0 0 0 0 0 w (RSm.new id) (RI_.new id) he (RRep.new w id)
 have SN := hide fun w => implSafeNew w
 have HE := hide hE
 clear hE
 generalize repB n f (newR id) = b0 at *
 obtain ⟨w0, hw0⟩ : ∃ w0, ((w.alloc (.cells #[.int .i64 n, .int .i64 f] 39)).alloc (.cells #[.int .i64 0, .int .i64 0, .int .i64 0, .int .i64 0, .int .i64 0, .int .i64 0, .string ⟨#[]⟩, .slice none 0 0, .string ⟨#[]⟩, .slice none 0 0, .slice none 0 0, .slice none 0 0, .int .i64 0, .slice none 0 0] 49)) = w0 := ⟨_, rfl⟩
 have Bw0 : Below w.heap.size w w0 := hw0 ▸ ((Below.refl _ _).alloc (Nat.le_refl _) _).alloc (by simp) _
 have LC : Loc w0 (w.heap.size) #[.int .i64 n, .int .i64 f] := hw0 ▸ (loc_at (w) _ _ rfl).alloc _
 have O : Loc w0 (w.heap.size + 1) #[.int .i64 0, .int .i64 0, .int .i64 0, .int .i64 0, .int .i64 0, .int .i64 0, .string ⟨#[]⟩, .slice none 0 0, .string ⟨#[]⟩, .slice none 0 0, .slice none 0 0, .slice none 0 0, .int .i64 0, .slice none 0 0] := hw0 ▸ loc_at (w.alloc _) _ _ (by simp)
 have zw0 : w.heap.size + 1 + 1 ≤ w0.heap.size := by rw [← hw0]; simp
 go_enter Tryz.func16, Tryz.ntmps16
 go_wp2_with fail
 clear hw0
 refine (SN.out _).mono ?_
 rintro _ w1 ⟨rfl, bb⟩
 have Bw1 := bu Bw0 bb
 have sw1 := bb.size
 replace LC := LC.up bb
 replace O := O.up bb
 clear Bw0
 clear bb
 go_upto_region 2 with (refine wstore (loc_at w1 #[.int .i64 0, .int .i64 0, .int .i64 0, .int .i64 0, .int .i64 0, .int .i64 0, .string ⟨#[]⟩, .slice none 0 0, .string ⟨#[]⟩, .slice none 0 0, .slice none 0 0, .slice none 0 0, .int .i64 0, .slice none 0 0] 49 rfl) 49 #[.int .i64 id, .int .i64 1, .int .i64 0, .int .i64 0, .int .i64 0, .int .i64 0, .string ⟨#[]⟩, .slice none 0 0, .string ⟨#[]⟩, .slice none 0 0, .slice none 0 0, .slice none 0 0, .int .i64 0, .slice none 0 0] rfl _ _ rfl rfl rfl (by kernel_rfl) rfl (by simp [Value.oneCell']) ?_)
 obtain ⟨w2, hw2⟩ : ∃ y, (w1.alloc (.cells #[.int .i64 0, .int .i64 0, .int .i64 0, .int .i64 0, .int .i64 0, .int .i64 0, .string ⟨#[]⟩, .slice none 0 0, .string ⟨#[]⟩, .slice none 0 0, .slice none 0 0, .slice none 0 0, .int .i64 0, .slice none 0 0] 49)).setRow w1.heap.size #[.int .i64 id, .int .i64 1, .int .i64 0, .int .i64 0, .int .i64 0, .int .i64 0, .string ⟨#[]⟩, .slice none 0 0, .string ⟨#[]⟩, .slice none 0 0, .slice none 0 0, .slice none 0 0, .int .i64 0, .slice none 0 0] = y := ⟨_, rfl⟩
 rw [hw2]
 have bb : Below w1.heap.size w1 w2 := hw2 ▸ box_below _ _ _ _
 have X : Loc w2 w1.heap.size #[.int .i64 id, .int .i64 1, .int .i64 0, .int .i64 0, .int .i64 0, .int .i64 0, .string ⟨#[]⟩, .slice none 0 0, .string ⟨#[]⟩, .slice none 0 0, .slice none 0 0, .slice none 0 0, .int .i64 0, .slice none 0 0] := hw2 ▸ box_loc _ _ _ _
 have zw2 : w2.heap.size = w1.heap.size + 1 := by rw [← hw2]; exact box_size _ _ _ _
 clear hw2
 have Bw2 := bu Bw1 bb
 have sw2 := bb.size
 replace LC := LC.up bb
 replace O := O.up bb
 clear Bw1
 clear bb
 have cLC0 := LC.cell 0 rfl
 have cLC1 := LC.cell 1 rfl
 go_wp2_with (first | (refine wload X 49 _ rfl _ rfl rfl Tryz.underlying49 rfl (by kernel_rfl) ?_))
 refine (RO.out _ (HE.out.below Bw2)).mono ?_
 rintro _ w3 ⟨rfl, bb⟩
 clear cLC0 cLC1
 have Bw3 := bu Bw2 bb
 have sw3 := bb.size
 replace LC := LC.up bb
 replace O := O.up bb
 replace X := X.up bb
 clear Bw2
 clear bb
 cases b0
 ·go_wp2_with (first | (refine wload X 49 _ rfl _ rfl rfl Tryz.underlying49 rfl (by kernel_rfl) ?_) | (refine wstore O 49 #[.int .i64 0, .int .i64 0, .int .i64 0, .int .i64 0, .int .i64 0, .int .i64 0, .string ⟨#[]⟩, .slice none 0 0, .string ⟨#[]⟩, .slice none 0 0, .slice none 0 0, .slice none 0 0, .int .i64 0, .slice none 0 0] rfl _ _ rfl rfl rfl (by kernel_rfl) rfl (by simp [Value.oneCell']) ?_))
  obtain ⟨wE, hwE⟩ : ∃ w9_, w3.setRow (w.heap.size + 1) #[.int .i64 0, .int .i64 0, .int .i64 0, .int .i64 0, .int .i64 0, .int .i64 0, .string ⟨#[]⟩, .slice none 0 0, .string ⟨#[]⟩, .slice none 0 0, .slice none 0 0, .slice none 0 0, .int .i64 0, .slice none 0 0] = w9_ := ⟨_, rfl⟩
  have kN : Kp w3 wE (fun k => k = w.heap.size + 1) := hwE ▸ row_kp _ _ _
  replace O : Loc wE (w.heap.size + 1) #[.int .i64 0, .int .i64 0, .int .i64 0, .int .i64 0, .int .i64 0, .int .i64 0, .string ⟨#[]⟩, .slice none 0 0, .string ⟨#[]⟩, .slice none 0 0, .slice none 0 0, .slice none 0 0, .int .i64 0, .slice none 0 0] := hwE ▸ O.row
  replace LC := LC.kp kN (by omega)
  replace X := X.kp kN (by omega)
  have BwE := Below.kp Bw3 kN Bw3.size (fun k hk => by omega)
  have swE := kN.size
  rw [hwE]
  clear hwE kN Bw3
  refine bodyPost_ret (v := .tuple #[rpv zeroR (.slice none 0 0) (.slice none 0 0) (.slice none 0 0) (.slice none 0 0) (.slice none 0 0), .bool false]) (res_row2 Tryz.results16 _ O rfl Tryz.underlying49 rfl (by kernel_rfl)) rfl ?_
  exact ⟨by simp, BwE⟩
 ·go_wp2_with (first | (refine wload X 49 _ rfl _ rfl rfl Tryz.underlying49 rfl (by kernel_rfl) ?_) | (refine wstore O 49 #[.int .i64 id, .int .i64 1, .int .i64 0, .int .i64 0, .int .i64 0, .int .i64 0, .string ⟨#[]⟩, .slice none 0 0, .string ⟨#[]⟩, .slice none 0 0, .slice none 0 0, .slice none 0 0, .int .i64 0, .slice none 0 0] rfl _ _ rfl rfl rfl (by kernel_rfl) rfl (by simp [Value.oneCell']) ?_))
  obtain ⟨wE, hwE⟩ : ∃ w9_, w3.setRow (w.heap.size + 1) #[.int .i64 id, .int .i64 1, .int .i64 0, .int .i64 0, .int .i64 0, .int .i64 0, .string ⟨#[]⟩, .slice none 0 0, .string ⟨#[]⟩, .slice none 0 0, .slice none 0 0, .slice none 0 0, .int .i64 0, .slice none 0 0] = w9_ := ⟨_, rfl⟩
  have kN : Kp w3 wE (fun k => k = w.heap.size + 1) := hwE ▸ row_kp _ _ _
  replace O : Loc wE (w.heap.size + 1) #[.int .i64 id, .int .i64 1, .int .i64 0, .int .i64 0, .int .i64 0, .int .i64 0, .string ⟨#[]⟩, .slice none 0 0, .string ⟨#[]⟩, .slice none 0 0, .slice none 0 0, .slice none 0 0, .int .i64 0, .slice none 0 0] := hwE ▸ O.row
  replace LC := LC.kp kN (by omega)
  replace X := X.kp kN (by omega)
  have BwE := Below.kp Bw3 kN Bw3.size (fun k hk => by omega)
  have swE := kN.size
  rw [hwE]
  clear hwE kN Bw3
  refine bodyPost_ret (v := .tuple #[rpv (newR id) (.slice none 0 0) (.slice none 0 0) (.slice none 0 0) (.slice none 0 0) (.slice none 0 0), .bool true]) (res_row2 Tryz.results16 _ O rfl Tryz.underlying49 rfl (by kernel_rfl)) rfl ?_
  exact ⟨by simp, BwE⟩
end Go.Proofs.YtndpjhiidmdlhaaGreatDoor
namespace Go.Proofs.YtndpjhiidmdlhaaGreatDoor
open Go Go.RowKit
set_option linter.unusedSectionVars false
variable [∀ (a b c d : Int), Decidable (Ok4 a b c d)]
variable [∀ (n f : Int), Decidable (COk n f)]
variable [∀ (a b c d : Nat), Decidable (okN a b c d)]
variable [∀ (x : T4), Decidable (OkT x)]

theorem markTxS_none (k0 : Int) (w : World) :
 Calls Tryz.prog 60 #[.slice none 0 0, .int .i64 k0] w fun e w' => e = .returned (.int .i64 k0) ∧ w' = w := by
 go_enter Tryz.func60, Tryz.ntmps60
 go_wp2
 refine wp_loop_rounds 1 ?_
 rw [rounds_succ]
 go_wp2
 go_ret
 exact ⟨rfl, rfl⟩
theorem markPartS_none (k0 : Int) (w : World) :
 Calls Tryz.prog 61 #[.slice none 0 0, .int .i64 k0] w fun e w' => e = .returned (.int .i64 k0) ∧ w' = w := by
 go_enter Tryz.func61, Tryz.ntmps61
 go_wp2
 refine wp_loop_rounds 1 ?_
 rw [rounds_succ]
 go_wp2
 go_ret
 exact ⟨rfl, rfl⟩
theorem markPostS_none (k0 : Int) (w : World) :
 Calls Tryz.prog 63 #[.slice none 0 0, .int .i64 k0] w fun e w' => e = .returned (.int .i64 k0) ∧ w' = w := by
 go_enter Tryz.func63, Tryz.ntmps63
 go_wp2
 refine wp_loop_rounds 1 ?_
 rw [rounds_succ]
 go_wp2
 go_ret
 exact ⟨rfl, rfl⟩
theorem heldTxS_none (k0 : Int) (w : World) :
 Calls Tryz.prog 65 #[.slice none 0 0, .int .i64 k0] w fun e w' => e = .returned (.int .i64 k0) ∧ w' = w := by
 go_enter Tryz.func65, Tryz.ntmps65
 go_wp2
 refine wp_loop_rounds 1 ?_
 rw [rounds_succ]
 go_wp2
 go_ret
 exact ⟨rfl, rfl⟩
theorem heldPartS_none (k0 : Int) (w : World) :
 Calls Tryz.prog 66 #[.slice none 0 0, .int .i64 k0] w fun e w' => e = .returned (.int .i64 k0) ∧ w' = w := by
 go_enter Tryz.func66, Tryz.ntmps66
 go_wp2
 refine wp_loop_rounds 1 ?_
 rw [rounds_succ]
 go_wp2
 go_ret
 exact ⟨rfl, rfl⟩
theorem heldPostS_none (k0 : Int) (w : World) :
 Calls Tryz.prog 68 #[.slice none 0 0, .int .i64 k0] w fun e w' => e = .returned (.int .i64 k0) ∧ w' = w := by
 go_enter Tryz.func68, Tryz.ntmps68
 go_wp2
 refine wp_loop_rounds 1 ?_
 rw [rounds_succ]
 go_wp2
 go_ret
 exact ⟨rfl, rfl⟩
theorem markRep_nil (t : RpT) (w : World) :
 Calls Tryz.prog 17 #[rpv t (.slice none 0 0) (.slice none 0 0) (.slice none 0 0) (.slice none 0 0) (.slice none 0 0), .int .i64 1] w fun e w' => e = .returned (.int .i64 1) ∧ Below w.heap.size w w' := by
 have T1 : Hid (∀ w, Calls Tryz.prog 33 #[sv t.vo t.lo t.n t.s (.slice none 0 0) t.d, .int .i64 1] w fun e w' => e = .returned (.int .i64 1) ∧ Below w.heap.size w w') := hide fun w => (markSafe_any t.vo t.lo t.n t.s w.heap.size (.slice none 0 0) t.d [] 1 w (by simp) (by omega) (World.ownsRow_nil _ _ _ _)).mono (by rintro e w' ⟨rfl, _, k⟩; exact ⟨rfl, Below.kp (Below.refl _ _) k (Nat.le_refl _) (fun k hk => by simp [Value.ownBlock] at hk)⟩)
 have T4_ : Hid (∀ w, Calls Tryz.prog 62 #[dv (.slice none 0 0) t.su, .int .i64 1] w fun e w' => e = .returned (.int .i64 1) ∧ Below w.heap.size w w') := hide fun w => (markDisk_any t.su w.heap.size (.slice none 0 0) [] 1 w (by simp) (by omega) (World.ownsRow_nil _ _ _ _)).mono (by rintro e w' ⟨rfl, _, k⟩; exact ⟨rfl, Below.kp (Below.refl _ _) k (Nat.le_refl _) (fun k hk => by simp [Value.ownBlock] at hk)⟩)
 obtain ⟨w0, hw0⟩ : ∃ w0, (w.alloc (.cells #[.int .i64 t.id, .int .i64 t.vw, .int .i64 t.ak, .int .i64 t.vo, .int .i64 t.lo, .int .i64 t.n, .string t.s, .slice none 0 0, .string t.d, .slice none 0 0, .slice none 0 0, .slice none 0 0, .int .i64 t.su, .slice none 0 0] 49)) = w0 := ⟨_, rfl⟩
 have Bw0 : Below w.heap.size w w0 := hw0 ▸ (Below.refl _ _).alloc (Nat.le_refl _) _
 have A : Loc w0 (w.heap.size) #[.int .i64 t.id, .int .i64 t.vw, .int .i64 t.ak, .int .i64 t.vo, .int .i64 t.lo, .int .i64 t.n, .string t.s, .slice none 0 0, .string t.d, .slice none 0 0, .slice none 0 0, .slice none 0 0, .int .i64 t.su, .slice none 0 0] := hw0 ▸ loc_at (w) _ _ rfl
 have zw0 : w.heap.size + 1 ≤ w0.heap.size := by rw [← hw0]; simp
 go_enter Tryz.func17, Tryz.ntmps17
 go_wp2_with (first | (refine wloadM [.int .i64 t.vo, .int .i64 t.lo, .int .i64 t.n, .string t.s, .slice none 0 0, .string t.d] (A.range 3 6 rfl) 43 _ rfl _ rfl rfl Tryz.underlying43 rfl (by kernel_rfl) ?_))
 clear hw0
 refine (T1.out _).mono ?_
 rintro _ w1 ⟨rfl, bb⟩
 have Bw1 := bu Bw0 bb
 have sw1 := bb.size
 replace A := A.up bb
 clear Bw0
 clear bb
 have cA9 := A.cell 9 rfl
 go_wp2_with fail
 refine (markTxS_none 1 _).mono ?_
 rintro _ w9 ⟨rfl, e9⟩
 rw [e9]
 clear e9
 clear cA9
 have cA10 := A.cell 10 rfl
 go_wp2_with fail
 refine (markPartS_none 1 _).mono ?_
 rintro _ w9 ⟨rfl, e9⟩
 rw [e9]
 clear e9
 clear cA10
 go_wp2_with (first | (refine wloadM [.slice none 0 0, .int .i64 t.su] (A.range 11 2 rfl) 46 _ rfl _ rfl rfl Tryz.underlying46 rfl (by kernel_rfl) ?_))
 refine (T4_.out _).mono ?_
 rintro _ w2 ⟨rfl, bb⟩
 have Bw2 := bu Bw1 bb
 have sw2 := bb.size
 replace A := A.up bb
 clear Bw1
 clear bb
 have cA13 := A.cell 13 rfl
 go_wp2_with fail
 refine (markPostS_none 1 _).mono ?_
 rintro _ w9 ⟨rfl, e9⟩
 rw [e9]
 clear e9
 clear cA13
 go_wp2
 go_ret
 exact ⟨rfl, Bw2⟩
theorem heldRep_nil (t : RpT) (w : World) :
 Calls Tryz.prog 18 #[rpv t (.slice none 0 0) (.slice none 0 0) (.slice none 0 0) (.slice none 0 0) (.slice none 0 0), .int .i64 1] w fun e w' => e = .returned (.int .i64 1) ∧ Below w.heap.size w w' := by
 have T1 : Hid (∀ w, Calls Tryz.prog 64 #[sv t.vo t.lo t.n t.s (.slice none 0 0) t.d, .int .i64 1] w fun e w' => e = .returned (.int .i64 1) ∧ Below w.heap.size w w') := hide fun w => heldSafe_any t.vo t.lo t.n t.s (.slice none 0 0) t.d 0 w ⟨Nat.zero_le _, none, 0, rfl, .inl rfl⟩
 have T4_ : Hid (∀ w, Calls Tryz.prog 67 #[dv (.slice none 0 0) t.su, .int .i64 1] w fun e w' => e = .returned (.int .i64 1) ∧ Below w.heap.size w w') := hide fun w => heldDisk_any (.slice none 0 0) t.su 0 w ⟨Nat.zero_le _, none, 0, rfl, ⟨Nat.zero_le _, Nat.zero_le _⟩, .inl rfl⟩
 obtain ⟨w0, hw0⟩ : ∃ w0, (w.alloc (.cells #[.int .i64 t.id, .int .i64 t.vw, .int .i64 t.ak, .int .i64 t.vo, .int .i64 t.lo, .int .i64 t.n, .string t.s, .slice none 0 0, .string t.d, .slice none 0 0, .slice none 0 0, .slice none 0 0, .int .i64 t.su, .slice none 0 0] 49)) = w0 := ⟨_, rfl⟩
 have Bw0 : Below w.heap.size w w0 := hw0 ▸ (Below.refl _ _).alloc (Nat.le_refl _) _
 have A : Loc w0 (w.heap.size) #[.int .i64 t.id, .int .i64 t.vw, .int .i64 t.ak, .int .i64 t.vo, .int .i64 t.lo, .int .i64 t.n, .string t.s, .slice none 0 0, .string t.d, .slice none 0 0, .slice none 0 0, .slice none 0 0, .int .i64 t.su, .slice none 0 0] := hw0 ▸ loc_at (w) _ _ rfl
 have zw0 : w.heap.size + 1 ≤ w0.heap.size := by rw [← hw0]; simp
 go_enter Tryz.func18, Tryz.ntmps18
 go_wp2_with (first | (refine wloadM [.int .i64 t.vo, .int .i64 t.lo, .int .i64 t.n, .string t.s, .slice none 0 0, .string t.d] (A.range 3 6 rfl) 43 _ rfl _ rfl rfl Tryz.underlying43 rfl (by kernel_rfl) ?_))
 clear hw0
 refine (T1.out _).mono ?_
 rintro _ w1 ⟨rfl, bb⟩
 have Bw1 := bu Bw0 bb
 have sw1 := bb.size
 replace A := A.up bb
 clear Bw0
 clear bb
 have cA9 := A.cell 9 rfl
 go_wp2_with fail
 refine (heldTxS_none 1 _).mono ?_
 rintro _ w9 ⟨rfl, e9⟩
 rw [e9]
 clear e9
 clear cA9
 have cA10 := A.cell 10 rfl
 go_wp2_with fail
 refine (heldPartS_none 1 _).mono ?_
 rintro _ w9 ⟨rfl, e9⟩
 rw [e9]
 clear e9
 clear cA10
 go_wp2_with (first | (refine wloadM [.slice none 0 0, .int .i64 t.su] (A.range 11 2 rfl) 46 _ rfl _ rfl rfl Tryz.underlying46 rfl (by kernel_rfl) ?_))
 refine (T4_.out _).mono ?_
 rintro _ w2 ⟨rfl, bb⟩
 have Bw2 := bu Bw1 bb
 have sw2 := bb.size
 replace A := A.up bb
 clear Bw1
 clear bb
 have cA13 := A.cell 13 rfl
 go_wp2_with fail
 refine (heldPostS_none 1 _).mono ?_
 rintro _ w9 ⟨rfl, e9⟩
 rw [e9]
 clear e9
 clear cA13
 go_wp2
 go_ret
 exact ⟨rfl, Bw2⟩

theorem fnRepNew_short (E : World → Prop) (hE : ∀ w w', E w → Below w.heap.size w w' → E w') (n f id : Int) (t : RpT) (b : Bool) (w : World) (hsm : RSm t) (hr : ∀ w, RRep w t (.slice none 0 0) (.slice none 0 0) (.slice none 0 0) (.slice none 0 0) (.slice none 0 0)) (he : E w) (SP0 : (∀ (w : World), Calls Tryz.prog 15 #[cv n f, .int .i64 id] w fun e w' => e = .returned (.tuple #[rpv t (.slice none 0 0) (.slice none 0 0) (.slice none 0 0) (.slice none 0 0) (.slice none 0 0), .bool b]) ∧ Below w.heap.size w w')) (IM0 : (∀ (w : World), E w → Calls Tryz.prog 16 #[cv n f, .int .i64 id] w fun e w' => e = .returned (.tuple #[rpv t (.slice none 0 0) (.slice none 0 0) (.slice none 0 0) (.slice none 0 0) (.slice none 0 0), .bool b]) ∧ Below w.heap.size w w')) :
 Calls Tryz.prog 4 #[cv n f, .int .i64 id] w fun e w' => e = .returned (.bool true) ∧ Below w.heap.size w w' := by
 have HE := hide he
 have EB := hide hE
 have SP := hide SP0
 have IM := hide IM0
 have TC := hide fun w => toConf_any n f w
 have MK := hide fun w => markRep_nil t w
 have HD := hide fun w => heldRep_nil t w
 have EQ := hide fun w => eqRep_yes t (.slice none 0 0) (.slice none 0 0) (.slice none 0 0) (.slice none 0 0) (.slice none 0 0) (.slice none 0 0) (.slice none 0 0) (.slice none 0 0) (.slice none 0 0) (.slice none 0 0) w hsm (hr w) (hr w)
 have hbb : (b != b) = false := by simp
 clear he hE SP0 IM0 hr hsm
 obtain ⟨w0, hw0⟩ : ∃ w0, (w.alloc (.cells #[.int .i64 n, .int .i64 f] 23)) = w0 := ⟨_, rfl⟩
 have Bw0 : Below w.heap.size w w0 := hw0 ▸ (Below.refl _ _).alloc (Nat.le_refl _) _
 have LC : Loc w0 (w.heap.size) #[.int .i64 n, .int .i64 f] := hw0 ▸ loc_at (w) _ _ rfl
 have zw0 : w.heap.size + 1 ≤ w0.heap.size := by rw [← hw0]; simp
 go_enter Tryz.func4, Tryz.ntmps4
 have cLC0 := LC.cell 0 rfl
 have cLC1 := LC.cell 1 rfl
 go_wp2_with fail
 clear hw0
 refine (TC.out _).mono ?_
 rintro _ w1 ⟨rfl, bb⟩
 clear cLC0 cLC1
 have Bw1 := bu Bw0 bb
 have sw1 := bb.size
 replace LC := LC.up bb
 clear Bw0
 clear bb
 go_wp2_with fail
 refine (SP.out _).mono ?_
 rintro _ w2 ⟨rfl, bb⟩
 have Bw2 := bu Bw1 bb
 have sw2 := bb.size
 replace LC := LC.up bb
 clear Bw1
 clear bb
 go_upto_region 2 with (refine wstore (loc_at w2 #[.int .i64 0, .int .i64 0, .int .i64 0, .int .i64 0, .int .i64 0, .int .i64 0, .string ⟨#[]⟩, .slice none 0 0, .string ⟨#[]⟩, .slice none 0 0, .slice none 0 0, .slice none 0 0, .int .i64 0, .slice none 0 0] 49 rfl) 49 #[.int .i64 t.id, .int .i64 t.vw, .int .i64 t.ak, .int .i64 t.vo, .int .i64 t.lo, .int .i64 t.n, .string t.s, .slice none 0 0, .string t.d, .slice none 0 0, .slice none 0 0, .slice none 0 0, .int .i64 t.su, .slice none 0 0] rfl _ _ rfl rfl rfl (by kernel_rfl) rfl (by simp [Value.oneCell']) ?_)
 obtain ⟨w3, hw3⟩ : ∃ y, (w2.alloc (.cells #[.int .i64 0, .int .i64 0, .int .i64 0, .int .i64 0, .int .i64 0, .int .i64 0, .string ⟨#[]⟩, .slice none 0 0, .string ⟨#[]⟩, .slice none 0 0, .slice none 0 0, .slice none 0 0, .int .i64 0, .slice none 0 0] 49)).setRow w2.heap.size #[.int .i64 t.id, .int .i64 t.vw, .int .i64 t.ak, .int .i64 t.vo, .int .i64 t.lo, .int .i64 t.n, .string t.s, .slice none 0 0, .string t.d, .slice none 0 0, .slice none 0 0, .slice none 0 0, .int .i64 t.su, .slice none 0 0] = y := ⟨_, rfl⟩
 rw [hw3]
 have bb : Below w2.heap.size w2 w3 := hw3 ▸ box_below _ _ _ _
 have X : Loc w3 w2.heap.size #[.int .i64 t.id, .int .i64 t.vw, .int .i64 t.ak, .int .i64 t.vo, .int .i64 t.lo, .int .i64 t.n, .string t.s, .slice none 0 0, .string t.d, .slice none 0 0, .slice none 0 0, .slice none 0 0, .int .i64 t.su, .slice none 0 0] := hw3 ▸ box_loc _ _ _ _
 have zw3 : w3.heap.size = w2.heap.size + 1 := by rw [← hw3]; exact box_size _ _ _ _
 clear hw3
 have Bw3 := bu Bw2 bb
 have sw3 := bb.size
 replace LC := LC.up bb
 clear Bw2
 clear bb
 have cLC0 := LC.cell 0 rfl
 have cLC1 := LC.cell 1 rfl
 go_wp2_with fail
 refine (TC.out _).mono ?_
 rintro _ w4 ⟨rfl, bb⟩
 clear cLC0 cLC1
 have Bw4 := bu Bw3 bb
 have sw4 := bb.size
 replace LC := LC.up bb
 replace X := X.up bb
 clear Bw3
 clear bb
 go_wp2_with fail
 refine (IM.out _ (EB.out _ _ HE.out Bw4)).mono ?_
 rintro _ w5 ⟨rfl, bb⟩
 have Bw5 := bu Bw4 bb
 have sw5 := bb.size
 replace LC := LC.up bb
 replace X := X.up bb
 clear Bw4
 clear bb
 go_upto_region 3 with (refine wstore (loc_at w5 #[.int .i64 0, .int .i64 0, .int .i64 0, .int .i64 0, .int .i64 0, .int .i64 0, .string ⟨#[]⟩, .slice none 0 0, .string ⟨#[]⟩, .slice none 0 0, .slice none 0 0, .slice none 0 0, .int .i64 0, .slice none 0 0] 49 rfl) 49 #[.int .i64 t.id, .int .i64 t.vw, .int .i64 t.ak, .int .i64 t.vo, .int .i64 t.lo, .int .i64 t.n, .string t.s, .slice none 0 0, .string t.d, .slice none 0 0, .slice none 0 0, .slice none 0 0, .int .i64 t.su, .slice none 0 0] rfl _ _ rfl rfl rfl (by kernel_rfl) rfl (by simp [Value.oneCell']) ?_)
 obtain ⟨w6, hw6⟩ : ∃ y, (w5.alloc (.cells #[.int .i64 0, .int .i64 0, .int .i64 0, .int .i64 0, .int .i64 0, .int .i64 0, .string ⟨#[]⟩, .slice none 0 0, .string ⟨#[]⟩, .slice none 0 0, .slice none 0 0, .slice none 0 0, .int .i64 0, .slice none 0 0] 49)).setRow w5.heap.size #[.int .i64 t.id, .int .i64 t.vw, .int .i64 t.ak, .int .i64 t.vo, .int .i64 t.lo, .int .i64 t.n, .string t.s, .slice none 0 0, .string t.d, .slice none 0 0, .slice none 0 0, .slice none 0 0, .int .i64 t.su, .slice none 0 0] = y := ⟨_, rfl⟩
 rw [hw6]
 have bb : Below w5.heap.size w5 w6 := hw6 ▸ box_below _ _ _ _
 have Y : Loc w6 w5.heap.size #[.int .i64 t.id, .int .i64 t.vw, .int .i64 t.ak, .int .i64 t.vo, .int .i64 t.lo, .int .i64 t.n, .string t.s, .slice none 0 0, .string t.d, .slice none 0 0, .slice none 0 0, .slice none 0 0, .int .i64 t.su, .slice none 0 0] := hw6 ▸ box_loc _ _ _ _
 have zw6 : w6.heap.size = w5.heap.size + 1 := by rw [← hw6]; exact box_size _ _ _ _
 clear hw6
 have Bw6 := bu Bw5 bb
 have sw6 := bb.size
 replace LC := LC.up bb
 replace X := X.up bb
 clear Bw5
 clear bb
 go_wp2_with (first | (refine wload X 49 _ rfl _ rfl rfl Tryz.underlying49 rfl (by kernel_rfl) ?_) | (refine wload Y 49 _ rfl _ rfl rfl Tryz.underlying49 rfl (by kernel_rfl) ?_))
 refine (EQ.out _).mono ?_
 rintro _ w7 ⟨rfl, bb⟩
 have Bw7 := bu Bw6 bb
 have sw7 := bb.size
 replace LC := LC.up bb
 replace X := X.up bb
 replace Y := Y.up bb
 clear Bw6
 clear bb
 go_wp2_with (first | (refine wload Y 49 _ rfl _ rfl rfl Tryz.underlying49 rfl (by kernel_rfl) ?_))
 refine (MK.out _).mono ?_
 rintro _ w8 ⟨rfl, bb⟩
 have Bw8 := bu Bw7 bb
 have sw8 := bb.size
 replace LC := LC.up bb
 replace X := X.up bb
 replace Y := Y.up bb
 clear Bw7
 clear bb
 go_wp2_with (first | (refine wload Y 49 _ rfl _ rfl rfl Tryz.underlying49 rfl (by kernel_rfl) ?_))
 refine (HD.out _).mono ?_
 rintro _ w9 ⟨rfl, bb⟩
 have Bw9 := bu Bw8 bb
 have sw9 := bb.size
 replace LC := LC.up bb
 replace X := X.up bb
 replace Y := Y.up bb
 clear Bw8
 clear bb
 have cLC0 := LC.cell 0 rfl
 have cLC1 := LC.cell 1 rfl
 go_wp2_with fail
 refine (TC.out _).mono ?_
 rintro _ w10 ⟨rfl, bb⟩
 clear cLC0 cLC1
 have Bw10 := bu Bw9 bb
 have sw10 := bb.size
 replace LC := LC.up bb
 replace X := X.up bb
 replace Y := Y.up bb
 clear Bw9
 clear bb
 go_wp2_with fail
 refine (IM.out _ (EB.out _ _ HE.out Bw10)).mono ?_
 rintro _ w11 ⟨rfl, bb⟩
 have Bw11 := bu Bw10 bb
 have sw11 := bb.size
 replace LC := LC.up bb
 replace X := X.up bb
 replace Y := Y.up bb
 clear Bw10
 clear bb
 go_upto_region 14 with (refine wstore (loc_at w11 #[.int .i64 0, .int .i64 0, .int .i64 0, .int .i64 0, .int .i64 0, .int .i64 0, .string ⟨#[]⟩, .slice none 0 0, .string ⟨#[]⟩, .slice none 0 0, .slice none 0 0, .slice none 0 0, .int .i64 0, .slice none 0 0] 49 rfl) 49 #[.int .i64 t.id, .int .i64 t.vw, .int .i64 t.ak, .int .i64 t.vo, .int .i64 t.lo, .int .i64 t.n, .string t.s, .slice none 0 0, .string t.d, .slice none 0 0, .slice none 0 0, .slice none 0 0, .int .i64 t.su, .slice none 0 0] rfl _ _ rfl rfl rfl (by kernel_rfl) rfl (by simp [Value.oneCell']) ?_)
 obtain ⟨w12, hw12⟩ : ∃ y, (w11.alloc (.cells #[.int .i64 0, .int .i64 0, .int .i64 0, .int .i64 0, .int .i64 0, .int .i64 0, .string ⟨#[]⟩, .slice none 0 0, .string ⟨#[]⟩, .slice none 0 0, .slice none 0 0, .slice none 0 0, .int .i64 0, .slice none 0 0] 49)).setRow w11.heap.size #[.int .i64 t.id, .int .i64 t.vw, .int .i64 t.ak, .int .i64 t.vo, .int .i64 t.lo, .int .i64 t.n, .string t.s, .slice none 0 0, .string t.d, .slice none 0 0, .slice none 0 0, .slice none 0 0, .int .i64 t.su, .slice none 0 0] = y := ⟨_, rfl⟩
 rw [hw12]
 have bb : Below w11.heap.size w11 w12 := hw12 ▸ box_below _ _ _ _
 have Z : Loc w12 w11.heap.size #[.int .i64 t.id, .int .i64 t.vw, .int .i64 t.ak, .int .i64 t.vo, .int .i64 t.lo, .int .i64 t.n, .string t.s, .slice none 0 0, .string t.d, .slice none 0 0, .slice none 0 0, .slice none 0 0, .int .i64 t.su, .slice none 0 0] := hw12 ▸ box_loc _ _ _ _
 have zw12 : w12.heap.size = w11.heap.size + 1 := by rw [← hw12]; exact box_size _ _ _ _
 clear hw12
 have Bw12 := bu Bw11 bb
 have sw12 := bb.size
 replace LC := LC.up bb
 replace X := X.up bb
 replace Y := Y.up bb
 clear Bw11
 clear bb
 go_wp2_with (first | (refine wload X 49 _ rfl _ rfl rfl Tryz.underlying49 rfl (by kernel_rfl) ?_) | (refine wload Z 49 _ rfl _ rfl rfl Tryz.underlying49 rfl (by kernel_rfl) ?_))
 refine (EQ.out _).mono ?_
 rintro _ w13 ⟨rfl, bb⟩
 have Bw13 := bu Bw12 bb
 have sw13 := bb.size
 replace LC := LC.up bb
 replace X := X.up bb
 replace Y := Y.up bb
 replace Z := Z.up bb
 clear Bw12
 clear bb
 go_wp2_with (first | (refine wload Y 49 _ rfl _ rfl rfl Tryz.underlying49 rfl (by kernel_rfl) ?_))
 refine (HD.out _).mono ?_
 rintro _ w14 ⟨rfl, bb⟩
 have Bw14 := bu Bw13 bb
 have sw14 := bb.size
 replace LC := LC.up bb
 replace X := X.up bb
 replace Y := Y.up bb
 replace Z := Z.up bb
 clear Bw13
 clear bb
 go_wp2
 go_ret
 exact ⟨rfl, Bw14⟩
end Go.Proofs.YtndpjhiidmdlhaaGreatDoor
namespace Go.Proofs.YtndpjhiidmdlhaaGreatDoor
open Go.RowKit
set_option linter.unusedSectionVars false
variable [∀ (a b c d : Int), Decidable (Ok4 a b c d)]
variable [∀ (a b c d : Nat), Decidable (okN a b c d)]
variable [∀ (last : Int) (s : St), Decidable (GoodSt last s)]
variable [∀ (x : T4), Decidable (OkT x)]
variable [∀ (n : Int) (s : List Int), Decidable (OkL n s)]
variable [∀ (n f : Int), Decidable (COk n f)]

theorem OB.nil (w : World) (base : Nat) : OB w base (.slice none 0 0) [] := World.ownsRow_nil _ _ _ _
end Go.Proofs.YtndpjhiidmdlhaaGreatDoor
namespace Go.Proofs.YtndpjhiidmdlhaaGreatDoor
open Go Go.RowKit
set_option linter.unusedSectionVars false
variable [∀ (a b c d : Int), Decidable (Ok4 a b c d)]
variable [∀ (n f : Int), Decidable (COk n f)]
variable [∀ (a b c d : Nat), Decidable (okN a b c d)]
variable [∀ (x : T4), Decidable (OkT x)]
variable [∀ (last : Int) (s : St), Decidable (GoodSt last s)]
variable [∀ (n : Int) (s : List Int), Decidable (OkL n s)]
variable [∀ (x y : T4), Decidable (Bef x y)]
variable [∀ (ts : List T4), Decidable (Asc ts)]
variable [∀ (ts : List T4), Decidable (AllOk ts)]
variable [∀ (ts : List T4), Decidable (POk ts)]

theorem RRep.zero (w : World) : RRep w zeroR (.slice none 0 0) (.slice none 0 0) (.slice none 0 0) (.slice none 0 0) (.slice none 0 0) :=
 ⟨⟨by simp [zeroR], none, 0, rfl, .inl rfl⟩, ⟨by simp [zeroR], none, 0, rfl, .inl rfl⟩, ⟨none, 0, rfl, .inl rfl⟩, ⟨by simp [zeroR], none, 0, rfl, ⟨by simp [zeroR], by unfold maxLen; omega⟩, .inl rfl⟩, RPo.nil w⟩
theorem RSm.zero : RSm zeroR := ⟨by simp [zeroR], by simp [zeroR], by simp [zeroR], by simp [zeroR], by simp [zeroR], fun p hp => by simp [zeroR] at hp, fun j hj => by simp [zeroR] at hj⟩
theorem rep_ri {t : RpT} {rs : List Pr} (ht : t.tab = rs.map prp) (g : (t.s.size : Int) + t.qw.length + t.d.size + t.pool.length + rs.length + psum rs + t.dsk.length + t.held.length + posum t.held ≤ 1048576) (hh : ∀ p ∈ t.held, (WfL p.2.bw ∧ WfL p.2.pw ∧ WfL p.2.qw) ∧ MI p.2) : RI_ t := by
 obtain ⟨_, ⟨s1, s2⟩, h1, h2⟩ := rep_small ht g
 refine ⟨by omega, by omega, fun p hp => by have := (h1 p hp).1; omega, fun j hj => ⟨?_, (hh _ (by rw [List.getD_eq_getElem?_getD, List.getElem?_eq_getElem hj]; exact List.getElem_mem hj)).2⟩⟩
 have := h2 j hj
 unfold msz at this
 exact ⟨by omega, by omega, by omega, by omega⟩
theorem bytes_of {xs : List Int} (h : ∀ k, k < xs.length → 0 ≤ xs.getD k 0 ∧ xs.getD k 0 ≤ 255) : BytesL xs := fun y hy => by
 obtain ⟨k, hk, rfl⟩ := List.mem_iff_getElem.1 hy
 have := h k hk
 rwa [List.getD_eq_getElem?_getD, List.getElem?_eq_getElem hk] at this
theorem fnRepOk_walk (n f : Int) (t : RpT) (ao bo co od oe : Option Addr) (ca cb cc cd ce : Nat) (rs : List Pr) (w : World) (ht : t.tab = rs.map prp) (hm : RMx t rs) (aq : AIW w ao t.qw) (ap : AR w bo t.pool) (at_ : ATab w co rs) (he : ∀ r ∈ rs, AIW w r.2.2.1 r.2.2.2.2 ∧ WfL r.2.2.2.2) (ad : ABW w od cd t.dsk ∧ ∀ k, k < t.dsk.length → 0 ≤ t.dsk.getD k 0 ∧ t.dsk.getD k 0 ≤ 255) (ah : RG (RPoA t.held) 18 w (.slice oe t.held.length ce) t.held.length) (hh : ∀ p ∈ t.held, (WfL p.2.bw ∧ WfL p.2.pw ∧ WfL p.2.qw) ∧ MI p.2) (hE : Env w) :
 Calls Tryz.prog 3 #[cv n f, rpv t (.slice ao t.qw.length ca) (.slice bo t.pool.length cb) (.slice co rs.length cc) (.slice od t.dsk.length cd) (.slice oe t.held.length ce)] w fun e w' => e = .returned (.bool true) ∧ Below w.heap.size w w' := by
 have hrl : rs.length = t.tab.length := by rw [ht]; simp
 rw [hrl]
 by_cases g : (t.s.size : Int) + t.qw.length + t.d.size + t.pool.length + rs.length + psum rs + t.dsk.length + t.held.length + posum t.held ≤ 1048576
 ·obtain ⟨hsm, hrs, hI⟩ := rep_came ht g aq ap at_ he ad.1 ah
  have hri := rep_ri ht g hh
  have hb := bytes_of ad.2
  exact fnRepOk_short Env (fun _ _ h b => h.below b) n f t ao bo co od oe ca cb cc cd ce rs w _ ht g at_ (RPoA.low ah) hsm hI hE (fun ao bo co od oe ca cb cc cd ce w h => specRepOk n f t ao bo co od oe ca cb cc cd ce w hsm hrs h) (fun ao bo co od oe ca cb cc cd ce w he h => implRepOk n f t ao bo co od oe ca cb cc cd ce w hsm hri he h)
 ·exact fnRepOk_long n f t ao bo co od oe ca cb cc cd ce rs w ht (by omega) at_ (RPoA.low ah) hm
theorem fnRepNew_walk (n f id : Int) (w : World) (hE : Env w) :
 Calls Tryz.prog 4 #[cv n f, .int .i64 id] w fun e w' => e = .returned (.bool true) ∧ Below w.heap.size w w' := by
 refine fnRepNew_short Env (fun _ _ h b => h.below b) n f id _ _ w ?_ ?_ hE (fun w => specRepNew n f id w) (fun w he => implRepNew n f id w he)
 ·split
  ·exact RSm.new id
  ·exact RSm.zero
 ·intro w
  split
  ·exact RRep.new w id
  ·exact RRep.zero w
end Go.Proofs.YtndpjhiidmdlhaaGreatDoor
