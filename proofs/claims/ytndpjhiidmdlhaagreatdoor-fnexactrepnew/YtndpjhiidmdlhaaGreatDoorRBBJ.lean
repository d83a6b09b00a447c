/- Texts that belong together: MsgOfP, MsgRight. -/
import Derived.Test.YtndpjhiidmdlhaaGreatDoorRBBI
set_option maxRecDepth 100000
set_option maxHeartbeats 16000000
namespace Go.Proofs.YtndpjhiidmdlhaaGreatDoor
open Go.RowKit
set_option linter.unusedSectionVars false
variable [∀ (a b c d : Int), Decidable (Ok4 a b c d)]
variable [∀ (a b c d : Nat), Decidable (okN a b c d)]
variable [∀ (last : Int) (s : St), Decidable (GoodSt last s)]
variable [∀ (x : T4), Decidable (OkT x)]
variable [∀ (n : Int) (s : List Int), Decidable (OkL n s)]
variable [∀ (n f : Int), Decidable (COk n f)]

theorem implMessageOf_1 (bn : ByteArray) (bv : Int) (bs : ByteArray) (xs : List Int) (u : Value) (hu : ∃ uo un uc, u = .slice uo un uc) (w : World) :
 Calls Tryz.prog 176 #[.iface 264 (sB bn bv bs u)] w fun e w' => e = .returned (mgv (mB bn bv bs xs) u nilL nilL) ∧ Below w.heap.size w w' := by
 have ta1 := ta11
 obtain ⟨uo, un, uc, rfl⟩ : ∃ uo un uc, u = .slice uo un uc := hu
 obtain ⟨w0, hw0⟩ : ∃ w0, (w.alloc (.cells #[.int .i64 0, .int .i64 0, .string ⟨#[]⟩, .int .i64 0, .string ⟨#[]⟩, .slice none 0 0, .int .i64 0, .string ⟨#[]⟩, .slice none 0 0, .int .i64 0, .string ⟨#[]⟩, .slice none 0 0, .int .i64 0, .int .i64 0, .int .i64 0, .int .i64 0, .int .i64 0] 86)) = w0 := ⟨_, rfl⟩
 have Bw0 : Below w.heap.size w w0 := hw0 ▸ (Below.refl _ _).alloc (Nat.le_refl _) _
 have R : Loc w0 (w.heap.size) #[.int .i64 0, .int .i64 0, .string ⟨#[]⟩, .int .i64 0, .string ⟨#[]⟩, .slice none 0 0, .int .i64 0, .string ⟨#[]⟩, .slice none 0 0, .int .i64 0, .string ⟨#[]⟩, .slice none 0 0, .int .i64 0, .int .i64 0, .int .i64 0, .int .i64 0, .int .i64 0] := hw0 ▸ loc_at (w) _ _ rfl
 have zw0 : w.heap.size + 1 ≤ w0.heap.size := by rw [← hw0]; simp
 go_enter Tryz.func176, Tryz.ntmps176
 go_upto_region 4 with (refine wstore (loc_at w0 #[.string ⟨#[]⟩, .int .i64 0, .string ⟨#[]⟩, .slice none 0 0] 264 rfl) 264 #[.string bn, .int .i64 bv, .string bs, .slice uo un uc] rfl _ _ rfl rfl rfl (by kernel_rfl) rfl (by simp [Value.oneCell']) ?_)
 clear hw0
 obtain ⟨w1, hw1⟩ : ∃ y, (w0.alloc (.cells #[.string ⟨#[]⟩, .int .i64 0, .string ⟨#[]⟩, .slice none 0 0] 264)).setRow w0.heap.size #[.string bn, .int .i64 bv, .string bs, .slice uo un uc] = y := ⟨_, rfl⟩
 rw [hw1]
 have bb : Below w0.heap.size w0 w1 := hw1 ▸ box_below _ _ _ _
 have X : Loc w1 w0.heap.size #[.string bn, .int .i64 bv, .string bs, .slice uo un uc] := hw1 ▸ box_loc _ _ _ _
 have zw1 : w1.heap.size = w0.heap.size + 1 := by rw [← hw1]; exact box_size _ _ _ _
 clear hw1
 have Bw1 := bu Bw0 bb
 have sw1 := bb.size
 replace R := R.up bb
 clear Bw0
 clear bb
 go_wp2_with (first | (refine wload X 264 _ rfl _ rfl rfl Tryz.underlying264 rfl (by kernel_rfl) ?_) | (refine wstore R 86 #[.int .i64 1, .int .i64 0, .string bn, .int .i64 bv, .string bs, .slice uo un uc, .int .i64 0, .string ⟨#[]⟩, .slice none 0 0, .int .i64 0, .string ⟨#[]⟩, .slice none 0 0, .int .i64 0, .int .i64 0, .int .i64 0, .int .i64 0, .int .i64 0] rfl _ _ rfl rfl rfl (by kernel_rfl) rfl (by simp [Value.oneCell']) ?_))
 obtain ⟨wE, hwE⟩ : ∃ w9_, w1.setRow (w.heap.size) #[.int .i64 1, .int .i64 0, .string bn, .int .i64 bv, .string bs, .slice uo un uc, .int .i64 0, .string ⟨#[]⟩, .slice none 0 0, .int .i64 0, .string ⟨#[]⟩, .slice none 0 0, .int .i64 0, .int .i64 0, .int .i64 0, .int .i64 0, .int .i64 0] = w9_ := ⟨_, rfl⟩
 have kN : Kp w1 wE (fun k => k = w.heap.size) := hwE ▸ row_kp _ _ _
 replace R : Loc wE (w.heap.size) #[.int .i64 1, .int .i64 0, .string bn, .int .i64 bv, .string bs, .slice uo un uc, .int .i64 0, .string ⟨#[]⟩, .slice none 0 0, .int .i64 0, .string ⟨#[]⟩, .slice none 0 0, .int .i64 0, .int .i64 0, .int .i64 0, .int .i64 0, .int .i64 0] := hwE ▸ R.row
 replace X := X.kp kN (by omega)
 have BwE := Below.kp Bw1 kN Bw1.size (fun k hk => by omega)
 have swE := kN.size
 rw [hwE]
 clear hwE kN Bw1
 refine bodyPost_ret (v := mgv (mB bn bv bs xs) (.slice uo un uc) nilL nilL) (res_row Tryz.results176 _ R rfl Tryz.underlying86 rfl (by kernel_rfl)) rfl ?_
 exact ⟨rfl, BwE⟩
theorem implMessageOf_2 (v : Int) (s : ByteArray) (xs : List Int) (u : Value) (hu : ∃ uo un uc, u = .slice uo un uc) (w : World) :
 Calls Tryz.prog 176 #[.iface 265 (sP v s u)] w fun e w' => e = .returned (mgv (mP v s xs) nilL u nilL) ∧ Below w.heap.size w w' := by
 have ta1 := ta21
 have ta2 := ta22
 obtain ⟨uo, un, uc, rfl⟩ : ∃ uo un uc, u = .slice uo un uc := hu
 obtain ⟨w0, hw0⟩ : ∃ w0, (w.alloc (.cells #[.int .i64 0, .int .i64 0, .string ⟨#[]⟩, .int .i64 0, .string ⟨#[]⟩, .slice none 0 0, .int .i64 0, .string ⟨#[]⟩, .slice none 0 0, .int .i64 0, .string ⟨#[]⟩, .slice none 0 0, .int .i64 0, .int .i64 0, .int .i64 0, .int .i64 0, .int .i64 0] 86)) = w0 := ⟨_, rfl⟩
 have Bw0 : Below w.heap.size w w0 := hw0 ▸ (Below.refl _ _).alloc (Nat.le_refl _) _
 have R : Loc w0 (w.heap.size) #[.int .i64 0, .int .i64 0, .string ⟨#[]⟩, .int .i64 0, .string ⟨#[]⟩, .slice none 0 0, .int .i64 0, .string ⟨#[]⟩, .slice none 0 0, .int .i64 0, .string ⟨#[]⟩, .slice none 0 0, .int .i64 0, .int .i64 0, .int .i64 0, .int .i64 0, .int .i64 0] := hw0 ▸ loc_at (w) _ _ rfl
 have zw0 : w.heap.size + 1 ≤ w0.heap.size := by rw [← hw0]; simp
 go_enter Tryz.func176, Tryz.ntmps176
 go_upto_region 7 with (refine wstore (loc_at w0 #[.int .i64 0, .string ⟨#[]⟩, .slice none 0 0] 265 rfl) 265 #[.int .i64 v, .string s, .slice uo un uc] rfl _ _ rfl rfl rfl (by kernel_rfl) rfl (by simp [Value.oneCell']) ?_)
 clear hw0
 obtain ⟨w1, hw1⟩ : ∃ y, (w0.alloc (.cells #[.int .i64 0, .string ⟨#[]⟩, .slice none 0 0] 265)).setRow w0.heap.size #[.int .i64 v, .string s, .slice uo un uc] = y := ⟨_, rfl⟩
 rw [hw1]
 have bb : Below w0.heap.size w0 w1 := hw1 ▸ box_below _ _ _ _
 have X : Loc w1 w0.heap.size #[.int .i64 v, .string s, .slice uo un uc] := hw1 ▸ box_loc _ _ _ _
 have zw1 : w1.heap.size = w0.heap.size + 1 := by rw [← hw1]; exact box_size _ _ _ _
 clear hw1
 have Bw1 := bu Bw0 bb
 have sw1 := bb.size
 replace R := R.up bb
 clear Bw0
 clear bb
 go_wp2_with (first | (refine wload X 265 _ rfl _ rfl rfl Tryz.underlying265 rfl (by kernel_rfl) ?_) | (refine wstore R 86 #[.int .i64 2, .int .i64 0, .string ⟨#[]⟩, .int .i64 0, .string ⟨#[]⟩, .slice none 0 0, .int .i64 v, .string s, .slice uo un uc, .int .i64 0, .string ⟨#[]⟩, .slice none 0 0, .int .i64 0, .int .i64 0, .int .i64 0, .int .i64 0, .int .i64 0] rfl _ _ rfl rfl rfl (by kernel_rfl) rfl (by simp [Value.oneCell']) ?_))
 obtain ⟨wE, hwE⟩ : ∃ w9_, w1.setRow (w.heap.size) #[.int .i64 2, .int .i64 0, .string ⟨#[]⟩, .int .i64 0, .string ⟨#[]⟩, .slice none 0 0, .int .i64 v, .string s, .slice uo un uc, .int .i64 0, .string ⟨#[]⟩, .slice none 0 0, .int .i64 0, .int .i64 0, .int .i64 0, .int .i64 0, .int .i64 0] = w9_ := ⟨_, rfl⟩
 have kN : Kp w1 wE (fun k => k = w.heap.size) := hwE ▸ row_kp _ _ _
 replace R : Loc wE (w.heap.size) #[.int .i64 2, .int .i64 0, .string ⟨#[]⟩, .int .i64 0, .string ⟨#[]⟩, .slice none 0 0, .int .i64 v, .string s, .slice uo un uc, .int .i64 0, .string ⟨#[]⟩, .slice none 0 0, .int .i64 0, .int .i64 0, .int .i64 0, .int .i64 0, .int .i64 0] := hwE ▸ R.row
 replace X := X.kp kN (by omega)
 have BwE := Below.kp Bw1 kN Bw1.size (fun k hk => by omega)
 have swE := kN.size
 rw [hwE]
 clear hwE kN Bw1
 refine bodyPost_ret (v := mgv (mP v s xs) nilL (.slice uo un uc) nilL) (res_row Tryz.results176 _ R rfl Tryz.underlying86 rfl (by kernel_rfl)) rfl ?_
 exact ⟨rfl, BwE⟩
theorem implMessageOf_3 (v h q : Int) (s : ByteArray) (xs : List Int) (u : Value) (hu : ∃ uo un uc, u = .slice uo un uc) (w : World) :
 Calls Tryz.prog 176 #[.iface 267 (sV v h q s u)] w fun e w' => e = .returned (mgv (mV v h q s xs) nilL nilL u) ∧ Below w.heap.size w w' := by
 have ta1 := ta31
 have ta2 := ta32
 have ta3 := ta33
 obtain ⟨uo, un, uc, rfl⟩ : ∃ uo un uc, u = .slice uo un uc := hu
 obtain ⟨w0, hw0⟩ : ∃ w0, (w.alloc (.cells #[.int .i64 0, .int .i64 0, .string ⟨#[]⟩, .int .i64 0, .string ⟨#[]⟩, .slice none 0 0, .int .i64 0, .string ⟨#[]⟩, .slice none 0 0, .int .i64 0, .string ⟨#[]⟩, .slice none 0 0, .int .i64 0, .int .i64 0, .int .i64 0, .int .i64 0, .int .i64 0] 86)) = w0 := ⟨_, rfl⟩
 have Bw0 : Below w.heap.size w w0 := hw0 ▸ (Below.refl _ _).alloc (Nat.le_refl _) _
 have R : Loc w0 (w.heap.size) #[.int .i64 0, .int .i64 0, .string ⟨#[]⟩, .int .i64 0, .string ⟨#[]⟩, .slice none 0 0, .int .i64 0, .string ⟨#[]⟩, .slice none 0 0, .int .i64 0, .string ⟨#[]⟩, .slice none 0 0, .int .i64 0, .int .i64 0, .int .i64 0, .int .i64 0, .int .i64 0] := hw0 ▸ loc_at (w) _ _ rfl
 have zw0 : w.heap.size + 1 ≤ w0.heap.size := by rw [← hw0]; simp
 go_enter Tryz.func176, Tryz.ntmps176
 go_upto_region 10 with (refine wstore (loc_at w0 #[.int .i64 0, .int .i64 0, .int .i64 0, .string ⟨#[]⟩, .slice none 0 0] 267 rfl) 267 #[.int .i64 v, .int .i64 h, .int .i64 q, .string s, .slice uo un uc] rfl _ _ rfl rfl rfl (by kernel_rfl) rfl (by simp [Value.oneCell']) ?_)
 clear hw0
 obtain ⟨w1, hw1⟩ : ∃ y, (w0.alloc (.cells #[.int .i64 0, .int .i64 0, .int .i64 0, .string ⟨#[]⟩, .slice none 0 0] 267)).setRow w0.heap.size #[.int .i64 v, .int .i64 h, .int .i64 q, .string s, .slice uo un uc] = y := ⟨_, rfl⟩
 rw [hw1]
 have bb : Below w0.heap.size w0 w1 := hw1 ▸ box_below _ _ _ _
 have X : Loc w1 w0.heap.size #[.int .i64 v, .int .i64 h, .int .i64 q, .string s, .slice uo un uc] := hw1 ▸ box_loc _ _ _ _
 have zw1 : w1.heap.size = w0.heap.size + 1 := by rw [← hw1]; exact box_size _ _ _ _
 clear hw1
 have Bw1 := bu Bw0 bb
 have sw1 := bb.size
 replace R := R.up bb
 clear Bw0
 clear bb
 have cX0 := X.cell 0 rfl
 have cX1 := X.cell 1 rfl
 have cX2 := X.cell 2 rfl
 have cX3 := X.cell 3 rfl
 have cX4 := X.cell 4 rfl
 go_wp2_with (first | (refine wstore R 86 #[.int .i64 3, .int .i64 v, .string ⟨#[]⟩, .int .i64 0, .string ⟨#[]⟩, .slice none 0 0, .int .i64 0, .string ⟨#[]⟩, .slice none 0 0, .int .i64 q, .string s, .slice uo un uc, .int .i64 h, .int .i64 0, .int .i64 0, .int .i64 0, .int .i64 0] rfl _ _ rfl rfl rfl (by kernel_rfl) rfl (by simp [Value.oneCell']) ?_))
 clear cX0 cX1 cX2 cX3 cX4
 obtain ⟨wE, hwE⟩ : ∃ w9_, w1.setRow (w.heap.size) #[.int .i64 3, .int .i64 v, .string ⟨#[]⟩, .int .i64 0, .string ⟨#[]⟩, .slice none 0 0, .int .i64 0, .string ⟨#[]⟩, .slice none 0 0, .int .i64 q, .string s, .slice uo un uc, .int .i64 h, .int .i64 0, .int .i64 0, .int .i64 0, .int .i64 0] = w9_ := ⟨_, rfl⟩
 have kN : Kp w1 wE (fun k => k = w.heap.size) := hwE ▸ row_kp _ _ _
 replace R : Loc wE (w.heap.size) #[.int .i64 3, .int .i64 v, .string ⟨#[]⟩, .int .i64 0, .string ⟨#[]⟩, .slice none 0 0, .int .i64 0, .string ⟨#[]⟩, .slice none 0 0, .int .i64 q, .string s, .slice uo un uc, .int .i64 h, .int .i64 0, .int .i64 0, .int .i64 0, .int .i64 0] := hwE ▸ R.row
 replace X := X.kp kN (by omega)
 have BwE := Below.kp Bw1 kN Bw1.size (fun k hk => by omega)
 have swE := kN.size
 rw [hwE]
 clear hwE kN Bw1
 refine bodyPost_ret (v := mgv (mV v h q s xs) nilL nilL (.slice uo un uc)) (res_row Tryz.results176 _ R rfl Tryz.underlying86 rfl (by kernel_rfl)) rfl ?_
 exact ⟨rfl, BwE⟩
theorem implMessageOf_4 (a b c d : Int) (w : World) :
 Calls Tryz.prog 176 #[.iface 268 (sX a b c d)] w fun e w' => e = .returned (mgv (mX a b c d) nilL nilL nilL) ∧ Below w.heap.size w w' := by
 have ta1 := ta41
 have ta2 := ta42
 have ta3 := ta43
 have ta4 := ta44
 obtain ⟨w0, hw0⟩ : ∃ w0, (w.alloc (.cells #[.int .i64 0, .int .i64 0, .string ⟨#[]⟩, .int .i64 0, .string ⟨#[]⟩, .slice none 0 0, .int .i64 0, .string ⟨#[]⟩, .slice none 0 0, .int .i64 0, .string ⟨#[]⟩, .slice none 0 0, .int .i64 0, .int .i64 0, .int .i64 0, .int .i64 0, .int .i64 0] 86)) = w0 := ⟨_, rfl⟩
 have Bw0 : Below w.heap.size w w0 := hw0 ▸ (Below.refl _ _).alloc (Nat.le_refl _) _
 have R : Loc w0 (w.heap.size) #[.int .i64 0, .int .i64 0, .string ⟨#[]⟩, .int .i64 0, .string ⟨#[]⟩, .slice none 0 0, .int .i64 0, .string ⟨#[]⟩, .slice none 0 0, .int .i64 0, .string ⟨#[]⟩, .slice none 0 0, .int .i64 0, .int .i64 0, .int .i64 0, .int .i64 0, .int .i64 0] := hw0 ▸ loc_at (w) _ _ rfl
 have zw0 : w.heap.size + 1 ≤ w0.heap.size := by rw [← hw0]; simp
 go_enter Tryz.func176, Tryz.ntmps176
 go_upto_region 13 with (refine wstore (loc_at w0 #[.int .i64 0, .int .i64 0, .int .i64 0, .int .i64 0] 268 rfl) 268 #[.int .i64 a, .int .i64 b, .int .i64 c, .int .i64 d] rfl _ _ rfl rfl rfl (by kernel_rfl) rfl (by simp [Value.oneCell']) ?_)
 clear hw0
 obtain ⟨w1, hw1⟩ : ∃ y, (w0.alloc (.cells #[.int .i64 0, .int .i64 0, .int .i64 0, .int .i64 0] 268)).setRow w0.heap.size #[.int .i64 a, .int .i64 b, .int .i64 c, .int .i64 d] = y := ⟨_, rfl⟩
 rw [hw1]
 have bb : Below w0.heap.size w0 w1 := hw1 ▸ box_below _ _ _ _
 have X : Loc w1 w0.heap.size #[.int .i64 a, .int .i64 b, .int .i64 c, .int .i64 d] := hw1 ▸ box_loc _ _ _ _
 have zw1 : w1.heap.size = w0.heap.size + 1 := by rw [← hw1]; exact box_size _ _ _ _
 clear hw1
 have Bw1 := bu Bw0 bb
 have sw1 := bb.size
 replace R := R.up bb
 clear Bw0
 clear bb
 go_wp2_with (first | (refine wload X 268 _ rfl _ rfl rfl Tryz.underlying268 rfl (by kernel_rfl) ?_) | (refine wstore R 86 #[.int .i64 4, .int .i64 0, .string ⟨#[]⟩, .int .i64 0, .string ⟨#[]⟩, .slice none 0 0, .int .i64 0, .string ⟨#[]⟩, .slice none 0 0, .int .i64 0, .string ⟨#[]⟩, .slice none 0 0, .int .i64 0, .int .i64 a, .int .i64 b, .int .i64 c, .int .i64 d] rfl _ _ rfl rfl rfl (by kernel_rfl) rfl (by simp [Value.oneCell']) ?_))
 obtain ⟨wE, hwE⟩ : ∃ w9_, w1.setRow (w.heap.size) #[.int .i64 4, .int .i64 0, .string ⟨#[]⟩, .int .i64 0, .string ⟨#[]⟩, .slice none 0 0, .int .i64 0, .string ⟨#[]⟩, .slice none 0 0, .int .i64 0, .string ⟨#[]⟩, .slice none 0 0, .int .i64 0, .int .i64 a, .int .i64 b, .int .i64 c, .int .i64 d] = w9_ := ⟨_, rfl⟩
 have kN : Kp w1 wE (fun k => k = w.heap.size) := hwE ▸ row_kp _ _ _
 replace R : Loc wE (w.heap.size) #[.int .i64 4, .int .i64 0, .string ⟨#[]⟩, .int .i64 0, .string ⟨#[]⟩, .slice none 0 0, .int .i64 0, .string ⟨#[]⟩, .slice none 0 0, .int .i64 0, .string ⟨#[]⟩, .slice none 0 0, .int .i64 0, .int .i64 a, .int .i64 b, .int .i64 c, .int .i64 d] := hwE ▸ R.row
 replace X := X.kp kN (by omega)
 have BwE := Below.kp Bw1 kN Bw1.size (fun k hk => by omega)
 have swE := kN.size
 rw [hwE]
 clear hwE kN Bw1
 refine bodyPost_ret (v := mgv (mX a b c d) nilL nilL nilL) (res_row Tryz.results176 _ R rfl Tryz.underlying86 rfl (by kernel_rfl)) rfl ?_
 exact ⟨rfl, BwE⟩

theorem implRightB (n f : Int) (bn : ByteArray) (bv : Int) (bs : ByteArray) (ao : Option Addr) (ca : Nat) (xs : List Int) (w : World) (h1 : bn.size ≤ 33554432) (h2 : bs.size ≤ 33554432) (hE : Env w) (ha : RI w (.slice ao xs.length ca) xs) :
 Calls Tryz.prog 364 #[sB bn bv bs (.slice ao xs.length ca), cv n f] w fun e w' => e = .returned (.bool (bokB n f bn bv bs xs)) ∧ Below w.heap.size w w' := by
 have BO := hide fun w hE h => implBlockOk n f bn bv bs ao ca xs w h1 h2 hE h
 have HE := hide hE
 have HA := hide ha
 clear hE ha h1 h2
 obtain ⟨w0, hw0⟩ : ∃ w0, ((w.alloc (.cells #[.string bn, .int .i64 bv, .string bs, .slice ao xs.length ca] 264)).alloc (.cells #[.int .i64 n, .int .i64 f] 39)) = w0 := ⟨_, rfl⟩
 have Bw0 : Below w.heap.size w w0 := hw0 ▸ ((Below.refl _ _).alloc (Nat.le_refl _) _).alloc (by simp) _
 have A : Loc w0 (w.heap.size) #[.string bn, .int .i64 bv, .string bs, .slice ao xs.length ca] := hw0 ▸ (loc_at (w) _ _ rfl).alloc _
 have LC : Loc w0 (w.heap.size + 1) #[.int .i64 n, .int .i64 f] := hw0 ▸ loc_at (w.alloc _) _ _ (by simp)
 have zw0 : w.heap.size + 1 + 1 ≤ w0.heap.size := by rw [← hw0]; simp
 go_enter Tryz.func364, Tryz.ntmps364
 have cA0 := A.cell 0 rfl
 have cA1 := A.cell 1 rfl
 have cA2 := A.cell 2 rfl
 have cA3 := A.cell 3 rfl
 have cLC0 := LC.cell 0 rfl
 have cLC1 := LC.cell 1 rfl
 go_wp2_with fail
 clear hw0
 refine (BO.out _ (HE.out.below Bw0) (HA.out.below Bw0)).mono ?_
 rintro _ w1 ⟨rfl, bb⟩
 clear cA0 cA1 cA2 cA3 cLC0 cLC1
 have Bw1 := bu Bw0 bb
 have sw1 := bb.size
 replace A := A.up bb
 replace LC := LC.up bb
 clear Bw0
 clear bb
 go_wp2
 go_ret
 exact ⟨rfl, Bw1⟩
theorem implRightP (n f v : Int) (s : ByteArray) (ao : Option Addr) (ca : Nat) (xs : List Int) (w : World) (h1 : s.size ≤ 33554432) (hE : Env w) (ha : RI w (.slice ao xs.length ca) xs) :
 Calls Tryz.prog 373 #[sP v s (.slice ao xs.length ca), cv n f] w fun e w' => e = .returned (.bool (pokB n f v s xs && !(s.toList == []))) ∧ Below w.heap.size w w' := by
 have PO := hide fun w hE h => implPartOk n f v s (.slice ao xs.length ca) xs w h1 hE h
 have HE := hide hE
 have HA := hide ha
 clear hE ha h1
 generalize pokB n f v s xs = r at *
 obtain ⟨z, hz⟩ : ∃ z, (s.toList == []) = z := ⟨_, rfl⟩
 rw [hz]
 obtain ⟨w0, hw0⟩ : ∃ w0, ((w.alloc (.cells #[.int .i64 v, .string s, .slice ao xs.length ca] 265)).alloc (.cells #[.int .i64 n, .int .i64 f] 39)) = w0 := ⟨_, rfl⟩
 have Bw0 : Below w.heap.size w w0 := hw0 ▸ ((Below.refl _ _).alloc (Nat.le_refl _) _).alloc (by simp) _
 have A : Loc w0 (w.heap.size) #[.int .i64 v, .string s, .slice ao xs.length ca] := hw0 ▸ (loc_at (w) _ _ rfl).alloc _
 have LC : Loc w0 (w.heap.size + 1) #[.int .i64 n, .int .i64 f] := hw0 ▸ loc_at (w.alloc _) _ _ (by simp)
 have zw0 : w.heap.size + 1 + 1 ≤ w0.heap.size := by rw [← hw0]; simp
 go_enter Tryz.func373, Tryz.ntmps373
 cases z
 ·have cA0 := A.cell 0 rfl
  have cA1 := A.cell 1 rfl
  have cA2 := A.cell 2 rfl
  have cLC0 := LC.cell 0 rfl
  have cLC1 := LC.cell 1 rfl
  go_wp2_with fail
  clear hw0
  refine (PO.out _ (HE.out.below Bw0) (HA.out.below Bw0)).mono ?_
  rintro _ w1 ⟨rfl, bb⟩
  clear cA0 cA1 cA2 cLC0 cLC1
  have Bw1 := bu Bw0 bb
  have sw1 := bb.size
  replace A := A.up bb
  replace LC := LC.up bb
  clear Bw0
  clear bb
  go_wp2
  go_ret
  exact ⟨by simp, Bw1⟩
 ·have cA0 := A.cell 0 rfl
  have cA1 := A.cell 1 rfl
  have cA2 := A.cell 2 rfl
  have cLC0 := LC.cell 0 rfl
  have cLC1 := LC.cell 1 rfl
  go_wp2
  clear hw0
  go_ret
  exact ⟨by simp, Bw0⟩
theorem implRightV (n f v h q : Int) (s : ByteArray) (ao : Option Addr) (ca : Nat) (xs : List Int) (w : World) (hn : IntKind.i64.wrap (n - 1) = n - 1) (h1 : s.size ≤ 33554432) (hE : Env w) (ha : RI w (.slice ao xs.length ca) xs) :
 Calls Tryz.prog 375 #[sV v h q s (.slice ao xs.length ca), cv n f] w fun e w' => e = .returned (.bool (decide (1 ≤ v ∧ v ≤ 60) && (qokB n f q s xs && decide (0 ≤ h ∧ h ≤ n - 1)))) ∧ Below w.heap.size w w' := by
 have QO := hide fun w hE h => implQcOk n f q s ao ca xs w h1 hE h
 have HE := hide hE
 have HA := hide ha
 have i1 := hide fun w => within_bool v 1 60 w
 have i2 := hide fun w => within_bool h 0 (n - 1) w
 clear hE ha h1
 generalize decide (1 ≤ v ∧ v ≤ 60) = r1 at *
 generalize decide (0 ≤ h ∧ h ≤ n - 1) = r3 at *
 generalize qokB n f q s xs = r2 at *
 obtain ⟨w0, hw0⟩ : ∃ w0, ((w.alloc (.cells #[.int .i64 v, .int .i64 h, .int .i64 q, .string s, .slice ao xs.length ca] 267)).alloc (.cells #[.int .i64 n, .int .i64 f] 39)) = w0 := ⟨_, rfl⟩
 have Bw0 : Below w.heap.size w w0 := hw0 ▸ ((Below.refl _ _).alloc (Nat.le_refl _) _).alloc (by simp) _
 have A : Loc w0 (w.heap.size) #[.int .i64 v, .int .i64 h, .int .i64 q, .string s, .slice ao xs.length ca] := hw0 ▸ (loc_at (w) _ _ rfl).alloc _
 have LC : Loc w0 (w.heap.size + 1) #[.int .i64 n, .int .i64 f] := hw0 ▸ loc_at (w.alloc _) _ _ (by simp)
 have zw0 : w.heap.size + 1 + 1 ≤ w0.heap.size := by rw [← hw0]; simp
 go_enter Tryz.func375, Tryz.ntmps375
 have cA0 := A.cell 0 rfl
 have cA1 := A.cell 1 rfl
 have cA2 := A.cell 2 rfl
 have cA3 := A.cell 3 rfl
 have cA4 := A.cell 4 rfl
 have cLC0 := LC.cell 0 rfl
 have cLC1 := LC.cell 1 rfl
 go_wp2_with fail
 clear hw0
 refine (i1.out _).mono ?_
 rintro _ w1 ⟨rfl, bb⟩
 clear cA0 cA1 cA2 cA3 cA4 cLC0 cLC1
 have Bw1 := bu Bw0 bb
 have sw1 := bb.size
 replace A := A.up bb
 replace LC := LC.up bb
 clear Bw0
 clear bb
 cases r1
 ·have cA0 := A.cell 0 rfl
  have cA1 := A.cell 1 rfl
  have cA2 := A.cell 2 rfl
  have cA3 := A.cell 3 rfl
  have cA4 := A.cell 4 rfl
  have cLC0 := LC.cell 0 rfl
  have cLC1 := LC.cell 1 rfl
  go_wp2
  go_ret
  exact ⟨by simp, Bw1⟩
 ·have cA0 := A.cell 0 rfl
  have cA1 := A.cell 1 rfl
  have cA2 := A.cell 2 rfl
  have cA3 := A.cell 3 rfl
  have cA4 := A.cell 4 rfl
  have cLC0 := LC.cell 0 rfl
  have cLC1 := LC.cell 1 rfl
  go_wp2_with fail
  refine (i2.out _).mono ?_
  rintro _ w2 ⟨rfl, bb⟩
  clear cA0 cA1 cA2 cA3 cA4 cLC0 cLC1
  have Bw2 := bu Bw1 bb
  have sw2 := bb.size
  replace A := A.up bb
  replace LC := LC.up bb
  clear Bw1
  clear bb
  cases r3
  ·have cA0 := A.cell 0 rfl
   have cA1 := A.cell 1 rfl
   have cA2 := A.cell 2 rfl
   have cA3 := A.cell 3 rfl
   have cA4 := A.cell 4 rfl
   have cLC0 := LC.cell 0 rfl
   have cLC1 := LC.cell 1 rfl
   go_wp2
   go_ret
   exact ⟨by simp, Bw2⟩
  ·have cA0 := A.cell 0 rfl
   have cA1 := A.cell 1 rfl
   have cA2 := A.cell 2 rfl
   have cA3 := A.cell 3 rfl
   have cA4 := A.cell 4 rfl
   have cLC0 := LC.cell 0 rfl
   have cLC1 := LC.cell 1 rfl
   go_wp2_with fail
   refine (QO.out _ (HE.out.below Bw2) (HA.out.below Bw2)).mono ?_
   rintro _ w3 ⟨rfl, bb⟩
   clear cA0 cA1 cA2 cA3 cA4 cLC0 cLC1
   have Bw3 := bu Bw2 bb
   have sw3 := bb.size
   replace A := A.up bb
   replace LC := LC.up bb
   clear Bw2
   clear bb
   go_wp2
   go_ret
   exact ⟨by simp, Bw3⟩
theorem implRightX (n f a b c d : Int) (w : World) :
 Calls Tryz.prog 377 #[sX a b c d, cv n f] w fun e w' => e = .returned (.bool (decide (Ok4 a b c d))) ∧ Below w.heap.size w w' := by
 have TO := hide fun w => implTxOk a b c d w
 generalize decide (Ok4 a b c d) = r at *
 obtain ⟨w0, hw0⟩ : ∃ w0, ((w.alloc (.cells #[.int .i64 a, .int .i64 b, .int .i64 c, .int .i64 d] 268)).alloc (.cells #[.int .i64 n, .int .i64 f] 39)) = w0 := ⟨_, rfl⟩
 have Bw0 : Below w.heap.size w w0 := hw0 ▸ ((Below.refl _ _).alloc (Nat.le_refl _) _).alloc (by simp) _
 have A : Loc w0 (w.heap.size) #[.int .i64 a, .int .i64 b, .int .i64 c, .int .i64 d] := hw0 ▸ (loc_at (w) _ _ rfl).alloc _
 have LC : Loc w0 (w.heap.size + 1) #[.int .i64 n, .int .i64 f] := hw0 ▸ loc_at (w.alloc _) _ _ (by simp)
 have zw0 : w.heap.size + 1 + 1 ≤ w0.heap.size := by rw [← hw0]; simp
 go_enter Tryz.func377, Tryz.ntmps377
 have cA0 := A.cell 0 rfl
 have cA1 := A.cell 1 rfl
 have cA2 := A.cell 2 rfl
 have cA3 := A.cell 3 rfl
 go_wp2_with fail
 clear hw0
 refine (TO.out _).mono ?_
 rintro _ w1 ⟨rfl, bb⟩
 clear cA0 cA1 cA2 cA3
 have Bw1 := bu Bw0 bb
 have sw1 := bb.size
 replace A := A.up bb
 replace LC := LC.up bb
 clear Bw0
 clear bb
 go_wp2
 go_ret
 exact ⟨rfl, Bw1⟩
end Go.Proofs.YtndpjhiidmdlhaaGreatDoor
