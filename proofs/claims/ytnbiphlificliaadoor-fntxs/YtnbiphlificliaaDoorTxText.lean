/- TxText of the program and of the specification. -/
import Derived.Test.YtnbiphlificliaaDoorToTx
import Derived.Test.YtnbiphlificliaaDoorDigits
import Derived.Test.YtnbiphlificliaaDoorNumPlain
import Derived.Test.YtnbiphlificliaaDoorHeld
import Derived.Deep.DeepCutAuto
namespace Go.Proofs.YtnbiphlificliaaDoor
open Go.RowKit
set_option linter.unusedSectionVars false
variable [∀ (a b c d : Int), Decidable (Ok4 a b c d)]

/-- The decimal numeral as a text. -/
def dg (n : Int) : ByteArray := ⟨(Lib.itoa n).toArray⟩
theorem dg_size (n : Int) (h0 : 0 ≤ n) (h1 : n ≤ 999999) : (⟨(Lib.itoa n).toArray⟩ : ByteArray).size ≤ 6 := by
  obtain ⟨m, rfl⟩ := Int.eq_ofNat_of_zero_le h0
  have := nDigits_six m (by omega)
  rw [itoa_nat]
  have e : (⟨(Lib.decDigits m).toArray⟩ : ByteArray).size = (Lib.decDigits m).length := by simp [ByteArray.size]
  rw [e, Lib.decDigits_length]; exact this
/-- The text of a payment. -/
def txs (a b c d : Int) : ByteArray := dg a ++ (⟨#[62]⟩ : ByteArray) ++ dg b ++ (⟨#[58]⟩ : ByteArray) ++ dg c ++ (⟨#[35]⟩ : ByteArray) ++ dg d

set_option maxHeartbeats 4000000 in
set_option maxRecDepth 100000 in
theorem implTxText_yes (a b c d : Int) (w : World) (h : Ok4 a b c d) (ht : Pow w) :
    Calls Tryd.prog 11 #[txv a b c d] w fun e w' => e = .returned (.string (txs a b c d)) ∧ Below w.heap.size w w' := by
  have OK := hide fun w => implTxOk_yes a b c d w h
  obtain ⟨⟨a1, a2⟩, ⟨b1, b2⟩, ⟨c1, c2⟩, ⟨d1, d2⟩⟩ := h
  have CA := hide fun w ht => implDigits_any a w (by omega) (by omega) ht
  have CB := hide fun w ht => implDigits_any b w (by omega) (by omega) ht
  have CC := hide fun w ht => implDigits_any c w (by omega) (by omega) ht
  have CD := hide fun w ht => implDigits_any d w (by omega) (by omega) ht
  have HX : Hid (txs a b c d = dg a ++ (⟨#[62]⟩ : ByteArray) ++ dg b ++ (⟨#[58]⟩ : ByteArray) ++ dg c ++ (⟨#[35]⟩ : ByteArray) ++ dg d) := rfl
  have HT := hide ht
  unfold dg at HX
  have za := dg_size a (by omega) (by omega)
  have zb := dg_size b (by omega) (by omega)
  have zc := dg_size c (by omega) (by omega)
  have zd := dg_size d (by omega) (by omega)
  generalize (⟨(Lib.itoa a).toArray⟩ : ByteArray) = sa at *
  generalize (⟨(Lib.itoa b).toArray⟩ : ByteArray) = sb at *
  generalize (⟨(Lib.itoa c).toArray⟩ : ByteArray) = sc at *
  generalize (⟨(Lib.itoa d).toArray⟩ : ByteArray) = sd at *
  generalize txs a b c d = r at *
  obtain ⟨s1, e1⟩ : ∃ x, x = sa ++ (⟨#[62]⟩ : ByteArray) := ⟨_, rfl⟩
  obtain ⟨s2, e2⟩ : ∃ x, x = s1 ++ sb := ⟨_, rfl⟩
  obtain ⟨s3, e3⟩ : ∃ x, x = s2 ++ (⟨#[58]⟩ : ByteArray) := ⟨_, rfl⟩
  obtain ⟨s4, e4⟩ : ∃ x, x = s3 ++ sc := ⟨_, rfl⟩
  obtain ⟨s5, e5⟩ : ∃ x, x = s4 ++ (⟨#[35]⟩ : ByteArray) := ⟨_, rfl⟩
  rw [← e1, ← e2, ← e3, ← e4, ← e5] at HX
  have o : ∀ c : UInt8, (⟨#[c]⟩ : ByteArray).size = 1 := fun _ => rfl
  have y1 : s1.size ≤ 7 := by rw [e1, ByteArray.size_append, o]; omega
  have y2 : s2.size ≤ 13 := by rw [e2, ByteArray.size_append]; omega
  have y3 : s3.size ≤ 14 := by rw [e3, ByteArray.size_append, o]; omega
  have y4 : s4.size ≤ 20 := by rw [e4, ByteArray.size_append]; omega
  have y5 : s5.size ≤ 21 := by rw [e5, ByteArray.size_append, o]; omega
  have q1 : ∀ w, (Op.stringOp .add sa (⟨#[62]⟩ : ByteArray)).run Tryd.prog w = .ok (.string s1) w := fun w => by rw [e1]; exact run_string_add_sum w _ _ (by rw [o]; omega)
  have q2 : ∀ w, (Op.stringOp .add s1 sb).run Tryd.prog w = .ok (.string s2) w := fun w => by rw [e2]; exact run_string_add_sum w _ _ (by omega)
  have q3 : ∀ w, (Op.stringOp .add s2 (⟨#[58]⟩ : ByteArray)).run Tryd.prog w = .ok (.string s3) w := fun w => by rw [e3]; exact run_string_add_sum w _ _ (by rw [o]; omega)
  have q4 : ∀ w, (Op.stringOp .add s3 sc).run Tryd.prog w = .ok (.string s4) w := fun w => by rw [e4]; exact run_string_add_sum w _ _ (by omega)
  have q5 : ∀ w, (Op.stringOp .add s4 (⟨#[35]⟩ : ByteArray)).run Tryd.prog w = .ok (.string s5) w := fun w => by rw [e5]; exact run_string_add_sum w _ _ (by rw [o]; omega)
  have q6 : ∀ w, (Op.stringOp .add s5 sd).run Tryd.prog w = .ok (.string r) w := fun w => by rw [unhide HX]; exact run_string_add_sum w _ _ (by omega)
  clear HX e1 e2 e3 e4 e5 y1 y2 y3 y4 y5 za zb zc zd o
  clear ht a1 a2 b1 b2 c1 c2 d1 d2
  go_enter Tryd.func11, Tryd.ntmps11
  go_wp2_with fail
  refine (unhide OK _).mono ?_
  rintro e w1 ⟨rfl, q1⟩
  have bel : Below w.heap.size w w1 := ((Below.refl _ _).alloc (Nat.le_refl _) _).trans (q1.mono (by simp))
  have hsz : w.heap.size + 1 ≤ w1.heap.size := by have := q1.size; simp at this; exact this
  have X1 := hide ((cells4_new w a b c d 25).below q1 (by simp))
  have P1 := hide ((unhide HT).below bel)
  have K : Hid (∀ w', Below w1.heap.size w1 w' → Below w1.heap.size w1 w' ∧ (w'.cell? ⟨w.heap.size, 0, none⟩ = some (.int .i64 a) ∧ w'.cell? ⟨w.heap.size, 1, none⟩ = some (.int .i64 b) ∧ w'.cell? ⟨w.heap.size, 2, none⟩ = some (.int .i64 c) ∧ w'.cell? ⟨w.heap.size, 3, none⟩ = some (.int .i64 d))) :=
    fun w' hb => ⟨hb, (unhide X1).below hb (by omega)⟩
  have hKeep := unhide K _ (Below.drew (Below.refl _ w1))
  have bA : Below w1.heap.size w1 w1.drew := Below.drew (Below.refl _ _)
  clear q1 HT
  go_upto_region 3 with fail
  first | go_region_held3 (fun w' => Below w1.heap.size w1 w' ∧ (w'.cell? ⟨w.heap.size, 0, none⟩ = some (.int .i64 a) ∧ w'.cell? ⟨w.heap.size, 1, none⟩ = some (.int .i64 b) ∧ w'.cell? ⟨w.heap.size, 2, none⟩ = some (.int .i64 c) ∧ w'.cell? ⟨w.heap.size, 3, none⟩ = some (.int .i64 d))) (exact hKeep) (first
    | (go_at_call 36; have hgo := bA; refine (unhide CA _ ((unhide P1).below hgo)).mono ?_; rintro e wa ⟨rfl, ba⟩
       have bB : Below w1.heap.size w1 wa := bA.trans ba
       have hKeep := unhide K _ bB; clear bA hgo)
    | (go_at_call 36; have hgo := bB; refine (unhide CB _ ((unhide P1).below hgo)).mono ?_; rintro e wb ⟨rfl, bb⟩
       have bC : Below w1.heap.size w1 wb := bB.trans (bb.mono bB.size)
       have hKeep := unhide K _ bC; clear bB hgo)
    | (go_at_call 36; have hgo := bC; refine (unhide CC _ ((unhide P1).below hgo)).mono ?_; rintro e wc ⟨rfl, bc⟩
       have bD : Below w1.heap.size w1 wc := bC.trans (bc.mono bC.size)
       have hKeep := unhide K _ bD; clear bC hgo)
    | (go_at_call 36; have hgo := bD; refine (unhide CD _ ((unhide P1).below hgo)).mono ?_; rintro e wd ⟨rfl, bd⟩
       have bE : Below w1.heap.size w1 wd := bD.trans (bd.mono bD.size)
       have hKeep := unhide K _ bE; clear bD hgo)) | fail
  all_goals
    go_wp2
    go_ret
    exact ⟨rfl, bel.trans (bE.mono (by omega))⟩

set_option maxHeartbeats 4000000 in
set_option maxRecDepth 100000 in
theorem specTxText_yes (a b c d : Int) (w : World) (h : Ok4 a b c d) :
    Calls Tryd.prog 21 #[txv a b c d] w fun e w' => e = .returned (.string (txs a b c d)) ∧ Below w.heap.size w w' := by
  have OK := hide fun w => specTxOk_yes a b c d w h
  obtain ⟨⟨a1, a2⟩, ⟨b1, b2⟩, ⟨c1, c2⟩, ⟨d1, d2⟩⟩ := h
  have CA := hide fun w => specDigits_any a w (by omega) (by omega)
  have CB := hide fun w => specDigits_any b w (by omega) (by omega)
  have CC := hide fun w => specDigits_any c w (by omega) (by omega)
  have CD := hide fun w => specDigits_any d w (by omega) (by omega)
  have HX : Hid (txs a b c d = dg a ++ (⟨#[62]⟩ : ByteArray) ++ dg b ++ (⟨#[58]⟩ : ByteArray) ++ dg c ++ (⟨#[35]⟩ : ByteArray) ++ dg d) := rfl
  unfold dg at HX
  have za := dg_size a (by omega) (by omega)
  have zb := dg_size b (by omega) (by omega)
  have zc := dg_size c (by omega) (by omega)
  have zd := dg_size d (by omega) (by omega)
  generalize (⟨(Lib.itoa a).toArray⟩ : ByteArray) = sa at *
  generalize (⟨(Lib.itoa b).toArray⟩ : ByteArray) = sb at *
  generalize (⟨(Lib.itoa c).toArray⟩ : ByteArray) = sc at *
  generalize (⟨(Lib.itoa d).toArray⟩ : ByteArray) = sd at *
  generalize txs a b c d = r at *
  obtain ⟨s1, e1⟩ : ∃ x, x = sa ++ (⟨#[62]⟩ : ByteArray) := ⟨_, rfl⟩
  obtain ⟨s2, e2⟩ : ∃ x, x = s1 ++ sb := ⟨_, rfl⟩
  obtain ⟨s3, e3⟩ : ∃ x, x = s2 ++ (⟨#[58]⟩ : ByteArray) := ⟨_, rfl⟩
  obtain ⟨s4, e4⟩ : ∃ x, x = s3 ++ sc := ⟨_, rfl⟩
  obtain ⟨s5, e5⟩ : ∃ x, x = s4 ++ (⟨#[35]⟩ : ByteArray) := ⟨_, rfl⟩
  rw [← e1, ← e2, ← e3, ← e4, ← e5] at HX
  have o : ∀ c : UInt8, (⟨#[c]⟩ : ByteArray).size = 1 := fun _ => rfl
  have y1 : s1.size ≤ 7 := by rw [e1, ByteArray.size_append, o]; omega
  have y2 : s2.size ≤ 13 := by rw [e2, ByteArray.size_append]; omega
  have y3 : s3.size ≤ 14 := by rw [e3, ByteArray.size_append, o]; omega
  have y4 : s4.size ≤ 20 := by rw [e4, ByteArray.size_append]; omega
  have y5 : s5.size ≤ 21 := by rw [e5, ByteArray.size_append, o]; omega
  have q1 : ∀ w, (Op.stringOp .add sa (⟨#[62]⟩ : ByteArray)).run Tryd.prog w = .ok (.string s1) w := fun w => by rw [e1]; exact run_string_add_sum w _ _ (by rw [o]; omega)
  have q2 : ∀ w, (Op.stringOp .add s1 sb).run Tryd.prog w = .ok (.string s2) w := fun w => by rw [e2]; exact run_string_add_sum w _ _ (by omega)
  have q3 : ∀ w, (Op.stringOp .add s2 (⟨#[58]⟩ : ByteArray)).run Tryd.prog w = .ok (.string s3) w := fun w => by rw [e3]; exact run_string_add_sum w _ _ (by rw [o]; omega)
  have q4 : ∀ w, (Op.stringOp .add s3 sc).run Tryd.prog w = .ok (.string s4) w := fun w => by rw [e4]; exact run_string_add_sum w _ _ (by omega)
  have q5 : ∀ w, (Op.stringOp .add s4 (⟨#[35]⟩ : ByteArray)).run Tryd.prog w = .ok (.string s5) w := fun w => by rw [e5]; exact run_string_add_sum w _ _ (by rw [o]; omega)
  have q6 : ∀ w, (Op.stringOp .add s5 sd).run Tryd.prog w = .ok (.string r) w := fun w => by rw [unhide HX]; exact run_string_add_sum w _ _ (by omega)
  clear HX e1 e2 e3 e4 e5 y1 y2 y3 y4 y5 za zb zc zd o
  clear a1 a2 b1 b2 c1 c2 d1 d2
  go_enter Tryd.func21, Tryd.ntmps21
  go_wp2_with fail
  refine (unhide OK _).mono ?_
  rintro e w1 ⟨rfl, q1⟩
  have bel : Below w.heap.size w w1 := ((Below.refl _ _).alloc (Nat.le_refl _) _).trans (q1.mono (by simp))
  have hsz : w.heap.size + 1 ≤ w1.heap.size := by have := q1.size; simp at this; exact this
  have X1 := hide ((cells4_new w a b c d 25).below q1 (by simp))
  have K : Hid (∀ w', Below w1.heap.size w1 w' → Below w1.heap.size w1 w' ∧ (w'.cell? ⟨w.heap.size, 0, none⟩ = some (.int .i64 a) ∧ w'.cell? ⟨w.heap.size, 1, none⟩ = some (.int .i64 b) ∧ w'.cell? ⟨w.heap.size, 2, none⟩ = some (.int .i64 c) ∧ w'.cell? ⟨w.heap.size, 3, none⟩ = some (.int .i64 d))) :=
    fun w' hb => ⟨hb, (unhide X1).below hb (by omega)⟩
  have hKeep := unhide K _ (Below.drew (Below.refl _ w1))
  have bA : Below w1.heap.size w1 w1.drew := Below.drew (Below.refl _ _)
  clear q1
  go_upto_region 3 with fail
  first | go_region_held3 (fun w' => Below w1.heap.size w1 w' ∧ (w'.cell? ⟨w.heap.size, 0, none⟩ = some (.int .i64 a) ∧ w'.cell? ⟨w.heap.size, 1, none⟩ = some (.int .i64 b) ∧ w'.cell? ⟨w.heap.size, 2, none⟩ = some (.int .i64 c) ∧ w'.cell? ⟨w.heap.size, 3, none⟩ = some (.int .i64 d))) (exact hKeep) (first
    | (go_at_call 37; have hgo := bA; refine (unhide CA _).mono ?_; rintro e wa ⟨rfl, ba⟩
       have bB : Below w1.heap.size w1 wa := bA.trans ba
       have hKeep := unhide K _ bB; clear bA hgo)
    | (go_at_call 37; have hgo := bB; refine (unhide CB _).mono ?_; rintro e wb ⟨rfl, bb⟩
       have bC : Below w1.heap.size w1 wb := bB.trans (bb.mono bB.size)
       have hKeep := unhide K _ bC; clear bB hgo)
    | (go_at_call 37; have hgo := bC; refine (unhide CC _).mono ?_; rintro e wc ⟨rfl, bc⟩
       have bD : Below w1.heap.size w1 wc := bC.trans (bc.mono bC.size)
       have hKeep := unhide K _ bD; clear bC hgo)
    | (go_at_call 37; have hgo := bD; refine (unhide CD _).mono ?_; rintro e wd ⟨rfl, bd⟩
       have bE : Below w1.heap.size w1 wd := bD.trans (bd.mono bD.size)
       have hKeep := unhide K _ bE; clear bD hgo)) | fail
  all_goals
    go_wp2
    go_ret
    exact ⟨rfl, bel.trans (bE.mono (by omega))⟩

set_option maxHeartbeats 800000 in
set_option maxRecDepth 100000 in
theorem implTxText_no (a b c d : Int) (w : World) (h : ¬ Ok4 a b c d) :
    Calls Tryd.prog 11 #[txv a b c d] w fun e w' => e = .returned (.string ⟨#[]⟩) ∧ Below w.heap.size w w' := by
  go_enter Tryd.func11, Tryd.ntmps11
  go_wp2_with fail
  refine (implTxOk_no a b c d _ h).mono ?_
  rintro e w1 ⟨rfl, q1⟩
  go_wp2
  go_ret
  exact ⟨rfl, ((Below.refl _ _).alloc (Nat.le_refl _) _).trans (q1.mono (by simp))⟩
set_option maxHeartbeats 800000 in
set_option maxRecDepth 100000 in
theorem specTxText_no (a b c d : Int) (w : World) (h : ¬ Ok4 a b c d) :
    Calls Tryd.prog 21 #[txv a b c d] w fun e w' => e = .returned (.string ⟨#[]⟩) ∧ Below w.heap.size w w' := by
  go_enter Tryd.func21, Tryd.ntmps21
  go_wp2_with fail
  refine (specTxOk_no a b c d _ h).mono ?_
  rintro e w1 ⟨rfl, q1⟩
  go_wp2
  go_ret
  exact ⟨rfl, ((Below.refl _ _).alloc (Nat.le_refl _) _).trans (q1.mono (by simp))⟩

/-- What TxText answers. -/
def txt (a b c d : Int) : ByteArray := if Ok4 a b c d then txs a b c d else ⟨#[]⟩
theorem implTxText (a b c d : Int) (w : World) (ht : Pow w) :
    Calls Tryd.prog 11 #[txv a b c d] w fun e w' => e = .returned (.string (txt a b c d)) ∧ Below w.heap.size w w' := by
  unfold txt
  by_cases h : Ok4 a b c d
  · rw [if_pos h]; exact implTxText_yes a b c d w h ht
  · rw [if_neg h]; exact implTxText_no a b c d w h
theorem specTxText (a b c d : Int) (w : World) :
    Calls Tryd.prog 21 #[txv a b c d] w fun e w' => e = .returned (.string (txt a b c d)) ∧ Below w.heap.size w w' := by
  unfold txt
  by_cases h : Ok4 a b c d
  · rw [if_pos h]; exact specTxText_yes a b c d w h
  · rw [if_neg h]; exact specTxText_no a b c d w h
end Go.Proofs.YtnbiphlificliaaDoor
