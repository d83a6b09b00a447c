/- Texts that belong together: DrawSets, FromL, QcPlain, BlockPlain, SpecNameOf, DrawName, SafePlain, Blk. -/
import Derived.Test.YtcclbejpgiogaaaGreatDoorNBAF
import Derived.Test.YtcclbejpgiogaaaGreatDoorNBAE
import Derived.Test.YtcclbejpgiogaaaGreatDoorNBAA
import Derived.Laws.Bits128
import Derived.Test.YtcclbejpgiogaaaGreatDoorNBAP
import Derived.Test.YtcclbejpgiogaaaGreatDoorNBAB
import Derived.Test.YtcclbejpgiogaaaGreatDoorNBAQ
import Derived.Test.YtcclbejpgiogaaaGreatDoorNBAR
import Derived.Test.YtcclbejpgiogaaaGreatDoorNBAO
import Derived.Lib.ItoaLen
import Derived.Test.YtcclbejpgiogaaaGreatDoorNBAJ
set_option maxRecDepth 100000
set_option maxHeartbeats 8000000
namespace Go.Proofs.YtcclbejpgiogaaaGreatDoor
open Go.RowKit

theorem kp_to {a b : World} {g : Nat} (h : Kp a b (fun k => k = g)) : a.grownBy b (some g) :=
 ⟨h.os, h.tape, h.output, h.size, fun j hj hx => h.block j hj (fun e => hx (e ▸ rfl))⟩
theorem kp_of {a b : World} {g : Nat} (h : a.grownBy b (some g)) : Kp a b (fun k => k = g) := (kp_grown h).mono fun k e => by simpa using e.symm

theorem wf_small {x : Int} (h0 : -256 ≤ x) (h1 : x ≤ 256) : (Lit.int .i64 x).wf = true := by
 simp only [Lit.wf, IntKind.min, IntKind.max, IntKind.signed, IntKind.bits, Bool.and_eq_true, decide_eq_true_eq, if_true]
 omega
theorem wf_add {xs : List Int} {x : Int} (h : WfL xs) (hx : (Lit.int .i64 x).wf = true) : WfL (addL xs x) := fun y hy => by
 rcases (mem_add xs x y).1 hy with h1 | rfl
 ·exact h y h1
 ·exact hx
theorem wf_snoc {xs : List Int} {x : Int} (h : WfL xs) (hx : (Lit.int .i64 x).wf = true) : WfL (xs ++ [x]) := fun y hy => by
 rcases List.mem_append.1 hy with h1 | h1
 ·exact h y h1
 ·simp at h1; subst h1; exact hx
theorem drawSet (base g ca : Nat) (ao : Option Addr) (zs : List Int) (n : Int) (w : World) (hB : base ≤ w.heap.size) (hn : 1 ≤ n) (hm : n ≤ 256) (h : Cur w base g ao ca zs) :
 Calls Tryz.prog 78 #[.pointer (some ⟨g, 0, none⟩), .int .i64 n] w fun e w' => ∃ v, ∃ xs : List Int, e = .returned v ∧ xs.length ≤ 9 ∧ Hid (WfL xs) ∧ OI w' w.heap.size v xs ∧ Cur w' base g ao ca zs ∧ w.grownBy w' (some g) := by
 have hlt := h.lt
 have O0 : OI (w.alloc (.cells #[] 3)) w.heap.size (.slice (some ⟨w.heap.size, 0, none⟩) 0 0) [] := by
  have := World.ownsRow_lit (base := w.heap.size) (e := 3) (size := 1) w #[] 0 (Nat.le_refl _) (by unfold maxLen; omega) (by simp)
  simpa [OI] using this
 have b0 : Below w.heap.size w (w.alloc (.cells #[] 3)) := (Below.refl _ _).alloc (Nat.le_refl _) _
 have C0 := h.below hB b0
 have K0 : Kp w (w.alloc (.cells #[] 3)) (fun k => k = g) := Below.kpOf b0 _
 clear h b0
 go_enter Tryz.func78, Tryz.ntmps78
 go_wp2
 go_loopw [5, 6] (fun out j wr => ∃ (k : Nat) (xs : List Int), k ≤ 8 ∧ j = .int .i64 k ∧ xs.length ≤ k ∧ Hid (WfL xs) ∧ OI wr w.heap.size out xs ∧ Cur wr base g ao ca zs ∧ Kp w wr (fun k => k = g)) (fun _ j _ => 8 - (intOf j).toNat)
 case atStart => exact ⟨0, [], by omega, rfl, by simp, hide (fun x hx => by simp at hx), O0, C0, K0⟩
 case round =>
  clear O0 C0 K0
  obtain ⟨k, xs, hk, rfl, hxl, WX, ho, C, K⟩ := hrel
  have sk := K.size
  obtain ⟨oa, oc, rfl⟩ := ho.form
  go_wp2_with fail
  refine (below_any base g ca ao zs 8 _ (by omega) (by omega) (by omega) C).mono ?_
  rintro _ w1 ⟨r, rfl, r0, r1, C1, g1⟩
  have k1 := kp_of g1
  have s1 := k1.size
  have l0 := World.ownsRow.lt ho
  have O1 := OI.kp ho k1 (fun j hj e => by have := (l0 j hj).1; omega)
  have K1 := K.trans k1
  clear C K g1 k1 ho l0
  by_cases hlt2 : (k : Int) < r
  ·have hd : decide ((k : Int) < r) = true := by simpa using hlt2
   go_wp2_with fail
   refine (below_any base g ca ao zs n _ (by omega) hn hm C1).mono ?_
   rintro _ w2 ⟨x, rfl, x0, x1, C2, g2⟩
   have k2 := kp_of g2
   have s2 := k2.size
   have l1 := World.ownsRow.lt O1
   have O2 := OI.kp O1 k2 (fun j hj e => by have := (l1 j hj).1; omega)
   have K2 := K1.trans k2
   have SA := hide (specSetAdd _ xs x w2 (O2.ri (by omega)) O2.cap (by omega))
   have hal := add_len xs x
   have WY := hide (wf_add WX.out (wf_small (by omega) (by omega) : (Lit.int .i64 x).wf = true))
   clear C1 K1 g2 k2 O1 l1 O2
   generalize addL xs x = ys at *
   go_wp2_with fail
   refine SA.out.mono ?_
   rintro _ w3 ⟨u, rfl, o3, b3⟩
   have C3 := C2.below (by omega) b3
   have K3 := K2.trans (Below.kpOf b3 _)
   have O3 := OI.mono o3 (show w.heap.size ≤ w2.heap.size by omega)
   obtain ⟨ua, uc, rfl⟩ := o3.form
   clear SA C2 K2 b3 o3
   go_wp2
   go_roundw
   case rel => exact ⟨k + 1, ys, by omega, by go_num, by omega, WY, O3, C3, K3⟩
   case measure => simp [intOf]; omega
  ·have hd : decide ((k : Int) < r) = false := by simpa using hlt2
   go_wp2_with fail
   refine (once_any base g ca ao zs 12 _ (by omega) (by omega) (by omega) C1).mono ?_
   rintro _ w2 ⟨q, rfl, C2, g2⟩
   have k2 := kp_of g2
   have s2 := k2.size
   have l1 := World.ownsRow.lt O1
   have O2 := OI.kp O1 k2 (fun j hj e => by have := (l1 j hj).1; omega)
   have K2 := K1.trans k2
   clear C1 K1 g2 k2 O1 l1
   cases q with
   | false =>
    go_wp2
    go_ret
    exact ⟨_, xs, rfl, by omega, WX, O2, C2, kp_to K2⟩
   | true =>
    obtain ⟨w3, hw3⟩ : ∃ w3, w2.alloc (.cells #[.int .i64 (-1), .int .i64 0, .int .i64 3, .int .i64 9] 3) = w3 := ⟨_, rfl⟩
    have b3 : Below w2.heap.size w2 w3 := hw3 ▸ (Below.refl _ _).alloc (Nat.le_refl _) _
    have h40 : w3.cell? ⟨w2.heap.size, 0, none⟩ = some (.int .i64 (-1)) := by rw [← hw3]; simp
    have h41 : w3.cell? ⟨w2.heap.size, 1, none⟩ = some (.int .i64 0) := by rw [← hw3]; simp
    have h42 : w3.cell? ⟨w2.heap.size, 2, none⟩ = some (.int .i64 3) := by rw [← hw3]; simp
    have h43 : w3.cell? ⟨w2.heap.size, 3, none⟩ = some (.int .i64 9) := by rw [← hw3]; simp
    have hc3 : ∀ k, k < ([-1, 0, 3, 9] : List Int).length → w3.cell? ⟨w2.heap.size, k, none⟩ = some (.int .i64 (([-1, 0, 3, 9] : List Int).getD k 0)) := fun k hk => by
     match k, hk with
     | 0, _ => exact h40
     | 1, _ => exact h41
     | 2, _ => exact h42
     | 3, _ => exact h43
     | k + 4, hk => simp at hk; omega
    have C3 := C2.below (by omega) b3
    have O3 := O2.below b3
    have K3 := K2.trans (Below.kpOf b3 _)
    have s3 := b3.size
    have hgl := C2.lt
    have PK := hide (pickInt_any base g ca w2.heap.size ao zs [-1, 0, 3, 9] w3 (by omega) (by omega) (by simp) (by simp) hc3 C3)
    clear C2 K2 O2 b3 hc3 h40 h41 h42 h43
    go_wp2_with fail
    refine PK.out.mono ?_
    rintro _ w4 ⟨kk, hkk, rfl, C4, g4⟩
    have k4 := kp_of g4
    have s4 := k4.size
    have l3 := World.ownsRow.lt O3
    have O4 := OI.kp O3 k4 (fun j hj e => by have := (l3 j hj).1; omega)
    have K4 := K3.trans k4
    have hdd : -256 ≤ ([-1, 0, 3, 9] : List Int).getD kk 0 ∧ ([-1, 0, 3, 9] : List Int).getD kk 0 ≤ 256 := by
     match kk, hkk with
     | 0, _ => decide
     | 1, _ => decide
     | 2, _ => decide
     | 3, _ => decide
     | k + 4, hk => simp at hk; omega
    generalize ([-1, 0, 3, 9] : List Int).getD kk 0 = dd at *
    have WY := hide (wf_snoc WX.out (wf_small hdd.1 hdd.2))
    have b5 : Below w4.heap.size w4 (w4.alloc (.cells #[.int .i64 dd] 3)) := (Below.refl _ _).alloc (Nat.le_refl _) _
    have O5 := O4.below b5
    have C5 := C4.below (by omega) b5
    have K5 := K4.trans (Below.kpOf b5 _)
    have l5 := World.ownsRow.lt O5
    clear hw3 PK C3 K3 O3 C4 O4 K4 g4 k4 l3 b5
    go_wp2_with (first | (at_builtin; refine append_ints rfl _ _ rfl w.heap.size (.slice oa xs.length oc) (.slice (some ⟨w4.heap.size, 0, none⟩) 1 1) xs [dd] rfl rfl O5 ⟨_, _, rfl, .inr ⟨_, rfl, cell_one_new _ _ _⟩⟩ (by simp; omega) (by simp; omega) ?_; intro v' w6 ho6 hg6 _; have C6 := C5.grownNew hg6 (fun j e => by have := (l5 j e).1; omega); have K6 := grown_new (kp_to K5) hg6 (fun j e => (l5 j e).1); clear hg6))
    go_ret
    exact ⟨_, xs ++ [dd], rfl, by simp; omega, WY, ho6, C6, K6⟩

structure SCode (w : World) (ao : Option Addr) (xs : List Int) : Prop where
 len : xs.length ≤ 1048576
 code : xs = [] ∨ ∃ b off, ao = some ⟨b, off, none⟩ ∧ ∀ k, k < xs.length → w.cell? ⟨b, off + k, none⟩ = some (.int .u8 (xs.getD k 0))
 fit : ∀ k, k < xs.length → 0 ≤ xs.getD k 0 ∧ xs.getD k 0 ≤ 255
theorem SCode.below {w w' : World} {ao : Option Addr} {xs : List Int} (h : SCode w ao xs) (hb : Below w.heap.size w w') : SCode w' ao xs := by
 refine ⟨h.len, ?_, h.fit⟩
 rcases h.code with h' | ⟨b, off, ha, hx⟩
 ·exact .inl h'
 ·exact .inr ⟨b, off, ha, fun k hk => (hb.cell (p := ⟨b, off + k, none⟩) (cell_lt (hx k hk))).trans (hx k hk)⟩

def fromL (f : Int) (k : Nat) : List Int := (List.range k).map fun (i : Nat) => f + (i : Int)
theorem fromL_len (f : Int) (k : Nat) : (fromL f k).length = k := by simp [fromL]
theorem fromL_succ (f : Int) (k : Nat) : fromL f (k + 1) = fromL f k ++ [f + (k : Int)] := by simp [fromL, List.range_succ]
theorem fromL_ok {n f : Int} {k : Nat} (h0 : 0 ≤ f) (h : f + (k : Int) ≤ n) : OkL n (fromL f k) := by
 refine ⟨fun x hx => ?_, ?_⟩
 ·obtain ⟨i, hi, rfl⟩ := List.mem_map.1 hx
  have := List.mem_range.1 hi
  omega
 ·unfold fromL
  rw [List.pairwise_map]
  exact List.pairwise_lt_range.imp fun h => by omega
theorem wf_ok {n : Int} {xs : List Int} (hn : n ≤ 256) (h : OkL n xs) : WfL xs := fun x hx => wf_small (by have := h.1 x hx; omega) (by have := h.1 x hx; omega)
theorem WfL.sub {xs ys : List Int} (h : WfL xs) (hs : ∀ y ∈ ys, y ∈ xs) : WfL ys := fun y hy => h y (hs y hy)
end Go.Proofs.YtcclbejpgiogaaaGreatDoor
namespace Go.Proofs.YtcclbejpgiogaaaGreatDoor
open Go.RowKit
set_option linter.unusedSectionVars false
variable [∀ (a b c d : Int), Decidable (Ok4 a b c d)]
variable [∀ (a b c d : Nat), Decidable (okN a b c d)]
variable [∀ (last : Int) (s : St), Decidable (GoodSt last s)]
variable [∀ (x : T4), Decidable (OkT x)]
variable [∀ (n : Int) (s : List Int), Decidable (OkL n s)]
variable [∀ (n f : Int), Decidable (COk n f)]

theorem steps_nil : stepsAns ⟨#[]⟩ = some [] := by simp [stepsAns]
theorem view_nil : viewAns ⟨#[]⟩ = 0 := by simp [viewAns, steps_nil]
theorem view_none {s : ByteArray} (h : (stepsAns s).isSome = false) : viewAns s = 0 := by
 cases e : stepsAns s with
 | none => simp [viewAns, e]
 | some ss => rw [e] at h; cases h
theorem view_pos {s : ByteArray} (h : (stepsAns s).isSome = true) (hs : s ≠ ⟨#[]⟩) : 0 < viewAns s := by
 obtain ⟨ss, e⟩ := Option.isSome_iff_exists.1 h
 have h1 := (height_view (s := s)).1
 unfold heightAns at h1
 rw [e] at h1
 have hne : ss ≠ [] := by
  rintro rfl
  have := ((names_iff _ _).1 e).1
  exact hs (ba_ext (by simpa [nm] using this))
 have := List.length_pos_iff.2 hne
 simp only at h1
 omega
theorem qok_eq (n f v : Int) (s : ByteArray) (xs : List Int) : (decide (COk n f) && (alikeB v 0 s ⟨#[]⟩ xs [] || votedB n f v s xs)) = qokB n f v s xs := by
 unfold qokB votedB alikeB
 by_cases hc : COk n f
 ·simp only [hc, decide_true, Bool.true_and]
  by_cases hs : s = ⟨#[]⟩
  ·subst hs
   rw [steps_nil, view_nil]
   by_cases hv : v = 0
   ·subst hv
    simp
   ·have h1 : (v == 0) = false := by simpa using hv
    have h2 : ((0 : Int) == v) = false := by simp; omega
    simp [h1, h2, hv]
  ·simp only [hs, false_and, and_false, decide_false, Bool.false_or, if_false]
   cases hn : (stepsAns s).isSome with
   | false =>
    rw [view_none hn]
    by_cases hv : v = 0
    ·subst hv; simp
    ·have h1 : (v == 0) = false := by simpa using hv
     simp [h1]
   | true =>
    have hp := view_pos hn hs
    by_cases hv : v = viewAns s
    ·subst hv
     have h1 : decide (0 < viewAns s) = true := by simpa using hp
     simp only [h1, beq_self_eq_true, Bool.true_and]
     rw [Bool.and_comm]
    ·have h1 : (v == viewAns s) = false := by simpa using hv
     have h2 : (viewAns s == v) = false := by simp; omega
     simp [h1, h2]
 ·simp [hc]
theorem implQcOk (n f v : Int) (s : ByteArray) (ao : Option Addr) (ca : Nat) (xs : List Int) (w : World) (hs : s.size ≤ 33554432) (hE : Env w) (ha : RI w (.slice ao xs.length ca) xs) :
 Calls Tryz.prog 50 #[cv n f, qv v s (.slice ao xs.length ca)] w fun e w' => e = .returned (.bool (qokB n f v s xs)) ∧ Below w.heap.size w w' := by
 have := implQcOk_at n f v s ao ca xs w hs hE ha
 rwa [qok_eq] at this

theorem qok_has {n f v : Int} {s : ByteArray} {xs : List Int} (h : qokB n f v s xs = true) (hs : s ≠ ⟨#[]⟩) : COk n f ∧ OkL n xs ∧ n - (n - 1) / 3 ≤ (xs.length : Int) := by
 unfold qokB at h
 simp only [hs, if_false, Bool.and_eq_true, decide_eq_true_eq] at h
 obtain ⟨⟨⟨hc, _⟩, _⟩, ho, hl⟩ := h
 exact ⟨hc, ho, by simpa [quorumOf, hc] using hl⟩

def bokB (n f : Int) (m : ByteArray) (v : Int) (s : ByteArray) (xs : List Int) : Bool := qokB n f v s xs && decide (0 < heightAns m) && decide (upAns m = s)
theorem height_pos (m : ByteArray) : decide (0 < heightAns m) = ((stepsAns m).isSome && decide (m ≠ ⟨#[]⟩)) := by
 unfold heightAns
 cases e : stepsAns m with
 | none => simp
 | some ss =>
  have h := ((names_iff _ _).1 e).1
  by_cases hm : m = ⟨#[]⟩
  ·subst hm
   rw [steps_nil] at e
   cases e
   simp
  ·have hne : ss ≠ [] := by
    rintro rfl
    exact hm (ba_ext (by simpa [nm] using h))
   have := List.length_pos_iff.2 hne
   simp [hm]
   omega
def bnewB (n f v : Int) (s : ByteArray) (xs : List Int) (view : Int) (ts : List T4) : Bool := bokB n f (nameAns s view ts) v s xs && (viewAns (nameAns s view ts) == view)
end Go.Proofs.YtcclbejpgiogaaaGreatDoor
namespace Go.Proofs.YtcclbejpgiogaaaGreatDoor
open Go.RowKit
set_option linter.unusedSectionVars false
variable [∀ (a b c d : Int), Decidable (Ok4 a b c d)]
variable [∀ (a b c d : Nat), Decidable (okN a b c d)]
variable [∀ (last : Int) (s : St), Decidable (GoodSt last s)]
variable [∀ (x : T4), Decidable (OkT x)]

theorem itoa_short (n : Int) (h0 : -9223372036854775808 ≤ n) (h1 : n ≤ 9223372036854775807) : (Lib.itoa n).length ≤ 21 := by
 unfold Lib.itoa
 split
 ·have := Lib.nDigits_le20 n.natAbs (by omega)
  rw [List.length_cons, Lib.decDigits_length]; omega
 ·have := Lib.nDigits_le20 n.toNat (by omega)
  rw [Lib.decDigits_length]; omega
theorem txsT_len (ts : List T4) : (txsT ts).size ≤ ts.length * 28 := by
 unfold txsT
 split
 ·rw [toB_size]; exact accT_len ts ts.length
 ·exact Nat.zero_le _

theorem specNameOfW (up : ByteArray) (view : Int) (v : Value) (xs : List T4) (w : World) (hu : up.size + xs.length * 28 + 100 ≤ 33554432) (hx : xs.length ≤ 1048577) (h0 : -9223372036854775808 ≤ view) (h1 : view ≤ 9223372036854775807) (h : RT w v xs) :
 Calls Tryz.prog 105 #[.string up, .int .i64 view, v] w fun e w' => e = .returned (.string (nameAns up view xs)) ∧ Below w.heap.size w w' := by
 have DG := hide fun w => specDigits_any view w (by omega) (by omega)
 have TT := hide fun w h => specTxsText v xs w (by omega) h
 have RTH := hide h
 have NO := hide fun w => specNameOk (toB (nmOut up view xs)) w (by
  have := itoa_short view h0 h1
  have := txsT_len xs
  rw [toB_size]; unfold nmOut
  simp only [List.length_append, List.length_cons, Array.length_toList, ByteArray.size_data]
  omega)
 obtain ⟨hl, ao, ca, rfl, ha⟩ := h
 go_enter Tryz.func105, Tryz.ntmps105
 go_wp2
 go_loopw [7] (fun i wr => ∃ k : Nat, k ≤ xs.length ∧ i = .int .i64 k ∧ Hid (∀ j, j < k → OkT (xs.getD j (0, 0, 0, 0))) ∧ Below w.heap.size w wr) (fun i _ => xs.length - (intOf i).toNat)
 case atStart => exact ⟨0, Nat.zero_le _, rfl, hide (fun j hj => by omega), Below.refl _ _⟩
 case round =>
  obtain ⟨k, hk, rfl, HK, br⟩ := hrel
  have hsr := br.size
  by_cases hlt : k < xs.length
  ·rcases ha with ha | ⟨g, rfl, ha⟩
   ·subst ha; simp at hlt
   obtain ⟨a0, a1, a2, a3⟩ := ha k hlt
   have hg : g < w.heap.size := cell_lt a0
   have c0 := (br.cell (p := ⟨g, k * 4, none⟩) hg).trans a0
   have c1 := (br.cell (p := ⟨g, k * 4 + 1, none⟩) hg).trans a1
   have c2 := (br.cell (p := ⟨g, k * 4 + 2, none⟩) hg).trans a2
   have c3 := (br.cell (p := ⟨g, k * 4 + 3, none⟩) hg).trans a3
   have HNO : Hid (¬ OkT (xs.getD k (0, 0, 0, 0)) → nameAns up view xs = ⟨#[]⟩) := hide fun h => if_neg fun h2 => h (h2.1 _ (by rw [List.getD_eq_getElem?_getD, List.getElem?_eq_getElem hlt]; exact List.getElem_mem hlt))
   clear ha a0 a1 a2 a3
   generalize hxk : xs.getD k (0, 0, 0, 0) = x at *
   obtain ⟨xa, xb, xc, xd⟩ := x
   simp only at c0 c1 c2 c3
   by_cases hok : OkT (xa, xb, xc, xd)
   ·have CK := hide fun w => specTxOk_yes xa xb xc xd w hok
    have HK' : Hid (∀ j, j < k + 1 → OkT (xs.getD j (0, 0, 0, 0))) := fun j hj => by
     by_cases e : j = k
     ·subst e; rw [hxk]; exact hok
     ·exact HK.out j (by omega)
    clear HK HNO hok hxk
    go_wp2_with fail
    refine (CK.out _).mono ?_
    rintro e w1 ⟨rfl, b1⟩
    have b1' := br.trans (b1.mono hsr)
    clear c0 c1 c2 c3 b1 CK
    go_wp2
    go_roundw
    case rel => exact ⟨k + 1, by omega, by go_num, HK', b1'⟩
    case measure => simp [intOf]; omega
   ·have CK := hide fun w => specTxOk_no xa xb xc xd w hok
    have HNO := hide (HNO.out hok)
    clear HK hok hxk
    go_wp2_with fail
    refine (CK.out _).mono ?_
    rintro e w1 ⟨rfl, b1⟩
    have b1' := br.trans (b1.mono hsr)
    clear c0 c1 c2 c3 b1 CK
    go_wp2
    go_ret
    exact ⟨by rw [HNO.out]; rfl, b1'⟩
  ·obtain rfl : k = xs.length := by omega
   have HA : Hid (∀ x ∈ xs, OkT x) := hide fun x hx => by
    obtain ⟨j, hj, rfl⟩ := List.getElem_of_mem hx
    have := HK.out j hj
    rwa [List.getD_eq_getElem?_getD, List.getElem?_eq_getElem hj] at this
   clear HK ha
   have NA : Hid (nameAns up view xs = if (stepsAns (toB (nmOut up view xs))).isSome then toB (nmOut up view xs) else ⟨#[]⟩) := hide (by
    unfold nameAns
    by_cases hq : (stepsAns (toB (nmOut up view xs))).isSome = true
    ·rw [if_pos ⟨HA.out, hq⟩, if_pos hq]
    ·rw [if_neg fun e => hq e.2, if_neg hq])
   have EQ : up ++ (⟨#[47]⟩ : ByteArray) ++ (⟨(Lib.itoa view).toArray⟩ : ByteArray) ++ (⟨#[124]⟩ : ByteArray) ++ txsT xs = toB (nmOut up view xs) := by
    apply ba_ext
    rw [toB_list]
    simp [nmOut, ByteArray.data_append]
   have hd : (⟨(Lib.itoa view).toArray⟩ : ByteArray).size ≤ 21 := by
    have := itoa_short view h0 h1
    simpa [ByteArray.size] using this
   have hts := txsT_len xs
   obtain ⟨z, hz⟩ : ∃ z, toB (nmOut up view xs) = z := ⟨_, rfl⟩
   rw [hz] at NA NO EQ
   generalize (⟨(Lib.itoa view).toArray⟩ : ByteArray) = d at *
   generalize txsT xs = tt at *
   obtain ⟨b, hb⟩ : ∃ b, (stepsAns z).isSome = b := ⟨_, rfl⟩
   rw [hb] at NA NO
   clear hz hb HA
   have q1 : ∀ w, (Op.stringOp .add (up ++ (⟨#[47]⟩ : ByteArray)) d).run Tryz.prog w = .ok (.string (up ++ (⟨#[47]⟩ : ByteArray) ++ d)) w := fun w => run_string_add_sum w _ _ (by simp [ByteArray.size_append]; show up.size + 1 + d.size ≤ _; omega)
   have q2 : ∀ w, (Op.stringOp .add (up ++ (⟨#[47]⟩ : ByteArray) ++ d) (⟨#[124]⟩ : ByteArray)).run Tryz.prog w = .ok (.string (up ++ (⟨#[47]⟩ : ByteArray) ++ d ++ (⟨#[124]⟩ : ByteArray))) w := fun w => run_string_add_sum w _ _ (by simp [ByteArray.size_append]; show up.size + 1 + d.size + 1 ≤ _; omega)
   have q3 : ∀ w, (Op.stringOp .add (up ++ (⟨#[47]⟩ : ByteArray) ++ d ++ (⟨#[124]⟩ : ByteArray)) tt).run Tryz.prog w = .ok (.string z) w := fun w => by
    rw [run_string_add_sum w _ _ (by simp [ByteArray.size_append]; show up.size + 1 + d.size + 1 + tt.size ≤ _; omega), EQ]
   clear EQ
   go_wp2_with fail
   refine (DG.out _).mono ?_
   rintro e w1 ⟨rfl, b1⟩
   have B1 := br.trans (b1.mono hsr)
   clear b1 DG
   generalize up ++ (⟨#[47]⟩ : ByteArray) = a1 at *
   generalize a1 ++ d = a2 at *
   generalize a2 ++ (⟨#[124]⟩ : ByteArray) = a3 at *
   go_wp2_with fail
   refine (TT.out _ (RTH.out.below B1)).mono ?_
   rintro e w2 ⟨rfl, b2⟩
   have B2 := bu B1 b2
   clear b2 TT
   go_wp2_with fail
   refine (NO.out _).mono ?_
   rintro e w3 ⟨rfl, b3⟩
   have B3 := bu B2 b3
   clear b3 NO
   cases b with
   | true =>
    go_wp2
    go_ret
    exact ⟨by rw [NA.out]; rfl, B3⟩
   | false =>
    go_wp2
    go_ret
    exact ⟨by rw [NA.out]; rfl, B3⟩
theorem specNameOf (up : ByteArray) (view : Int) (v : Value) (xs : List T4) (w : World) (hu : up.size + xs.length * 28 + 100 ≤ 1000000) (h0 : -999999 ≤ view) (h1 : view ≤ 999999) (h : RT w v xs) :
 Calls Tryz.prog 105 #[.string up, .int .i64 view, v] w fun e w' => e = .returned (.string (nameAns up view xs)) ∧ Below w.heap.size w w' :=
 specNameOfW up view v xs w (by omega) (by omega) (by omega) (by omega) h
end Go.Proofs.YtcclbejpgiogaaaGreatDoor
namespace Go.Proofs.YtcclbejpgiogaaaGreatDoor
open Go.RowKit
set_option linter.unusedSectionVars false
variable [∀ (a b c d : Int), Decidable (Ok4 a b c d)]
variable [∀ (a b c d : Nat), Decidable (okN a b c d)]
variable [∀ (x : T4), Decidable (OkT x)]
variable [∀ (last : Int) (s : St), Decidable (GoodSt last s)]

theorem grown_of_below {B : Nat} {w w' : World} (b : Below B w w') (h : B = w.heap.size) : w.grownBy w' none := by subst h; exact ⟨b.os, b.tape, b.output, b.size, fun k hk _ => b.block k hk⟩
theorem nm_len (ss : List St) (h : ∀ s ∈ ss, OkSt s) : (nm ss).length ≤ ss.length * 64 := by
 induction ss with
 | nil => simp [nm]
 | cons s ss ih =>
  have h1 := h s (by simp)
  have h2 := ih fun x hx => h x (by simp [hx])
  have h3 := txsT_len2 s.2 h1.2.1
  have h4 := nDigits_six s.1.toNat (by have := h1.1; omega)
  have e : nm (s :: ss) = 47 :: stText s ++ nm ss := by simp [nm]
  rw [e, List.length_append, List.length_cons, List.length_cons]
  unfold stText
  rw [List.length_append, List.length_cons, Lib.decDigits_length]
  have e2 : (txsT s.2).data.toList.length = (txsT s.2).size := by simp
  omega
theorem name_len {s : ByteArray} (h : (stepsAns s).isSome = true) : s.size ≤ 1920 := by
 cases hs : stepsAns s with
 | none => rw [hs] at h; cases h
 | some ss =>
  obtain ⟨h1, h2⟩ := (names_iff _ _).1 hs
  have h3 := nm_len ss h2.2.1
  have h4 := h2.1
  have e : s.size = s.data.toList.length := by simp
  rw [e, h1]; omega
theorem nameAns_len (up : ByteArray) (view : Int) (ts : List T4) : (nameAns up view ts).size ≤ 1920 := by
 unfold nameAns
 split
 ·rename_i h; exact name_len h.2
 ·exact Nat.zero_le _

theorem drawNameR (base g ca : Nat) (ao : Option Addr) (xs : List Int) (w : World) (hB : base ≤ w.heap.size) (h : Cur w base g ao ca xs) :
 Calls Tryz.prog 77 #[.pointer (some ⟨g, 0, none⟩)] w fun e w' => ∃ s : ByteArray, e = .returned (.string s) ∧ s.size ≤ 1920 ∧ Cur w' base g ao ca xs ∧ w.grownBy w' (some g) := by
 obtain ⟨i0, hi, hz0, hz1, hz2⟩ := info_parts Tryz.infoTx
 have hlt := h.lt
 have H0 := hide h
 clear h
 go_enter Tryz.func77, Tryz.ntmps77
 go_wp2
 go_loopw [3, 4, 5] (fun sv vv iv wr => ∃ (i : Nat) (view : Int) (s : ByteArray), i ≤ 6 ∧ iv = .int .i64 i ∧ vv = .int .i64 view ∧ 0 ≤ view ∧ view ≤ 3 * i ∧ sv = .string s ∧ s.size ≤ 1920 ∧ Cur wr base g ao ca xs ∧ w.grownBy wr (some g)) (fun _ _ iv _ => 7 - (intOf iv).toNat)
 case atStart => exact ⟨0, 0, ⟨#[]⟩, by omega, rfl, rfl, by omega, by omega, rfl, by decide, H0.out, grown_refl _ _⟩
 case round =>
  clear H0
  obtain ⟨i, view, s, hi6, rfl, rfl, v0, v1, rfl, hs, hc, hg⟩ := hrel
  have hsz := hg.size
  have P := hide (And.intro hc hg)
  clear hc hg
  go_wp2_with fail
  refine (below_any base g ca ao xs 6 _ (by omega) (by omega) (by omega) P.out.1).mono ?_
  rintro e w1 ⟨n, rfl, _, n1, c1, e1⟩
  have s1 := e1.size
  have P1 := hide (And.intro c1 (grown_trans P.out.2 e1))
  clear P c1 e1
  by_cases hin : (i : Int) < n
  ·go_wp2_with fail
   refine (below_any base g ca ao xs 4 _ (by omega) (by omega) (by omega) P1.out.1).mono ?_
   rintro e w2 ⟨q, rfl, q0, q1, c2, e2⟩
   have s2 := e2.size
   have P2 := hide (And.intro c2 (grown_trans P1.out.2 e2))
   clear P1 c2 e2
   have hqd : 0 ≤ q.tdiv 3 ∧ q.tdiv 3 ≤ 1 := by rw [Int.tdiv_eq_ediv_of_nonneg q0]; omega
   have hqe : 0 ≤ q / 3 ∧ q / 3 ≤ 1 := by omega
   have hw2 : w.heap.size ≤ w2.heap.size := by omega
   go_wp2
   go_loopw [6, 7] (fun lv kv w3 => ∃ (k : Nat) (ys : List T4), k ≤ 3 ∧ kv = .int .i64 k ∧ ys.length = k ∧ OT w3 w2.heap.size lv ys ∧ Cur w3 base g ao ca xs ∧ w.grownBy w3 (some g) ∧ w2.heap.size ≤ w3.heap.size) (fun _ kv _ => 4 - (intOf kv).toNat)
   case atStart => exact ⟨0, [], by omega, rfl, rfl, World.ownsRow_lit w2 #[] 0 (Nat.le_refl _) (by unfold maxLen; omega) rfl, P2.out.1.alloc (by omega) _, grown_trans P2.out.2 (World.grownBy_alloc _ _ _), by simp⟩
   case round =>
    clear P2
    obtain ⟨k, ys, hk, rfl, hyl, ho, hc, hg, hz⟩ := hrel
    have P := hide (And.intro ho (And.intro hc hg))
    clear ho hc hg
    go_wp2_with fail
    refine (below_any base g ca ao xs 3 _ (by omega) (by omega) (by omega) P.out.2.1).mono ?_
    rintro e w4 ⟨m, rfl, _, m1, c4, e4⟩
    have s4 := e4.size
    have P4 := hide (And.intro (P.out.1.grown e4 (by omega)) (And.intro c4 (grown_trans P.out.2.2 e4)))
    clear P c4 e4
    by_cases hkm : (k : Int) < m
    ·go_wp2_with fail
     refine (drawRight base g ca ao xs _ (by omega) P4.out.2.1).mono ?_
     rintro e w5 ⟨a, b, c, d, rfl, c5, e5⟩
     have s5 := e5.size
     have ho5 := ot_alloc (P4.out.1.grown e5 (by omega)) (.cells #[.int .i64 a, .int .i64 b, .int .i64 c, .int .i64 d] 123)
     have hc5 := c5.alloc (by omega) (.cells #[.int .i64 a, .int .i64 b, .int .i64 c, .int .i64 d] 123)
     have hg5 := grown_trans (grown_trans P4.out.2.2 e5) (World.grownBy_alloc w5 (.cells #[.int .i64 a, .int .i64 b, .int .i64 c, .int .i64 d] 123) (some g))
     clear P4 c5 e5
     go_wp2_with (first
      | (at_builtin; refine wpList_append_own _ rfl _ _ 121 rfl w2.heap.size 123 i0 (txv 0 0 0 0) 4 32 Tryz.underlying121 hi hz0 hz1 hz2 rfl (by decide) _ _ _ rfl ho5 ⟨w5.heap.size, 0, none⟩ 1 1 (tcell (a, b, c, d)) rfl rfl (four_cell w5 (a, b, c, d) 123) (four_plain _) (by unfold maxLen; omega) (by omega) (by simp; omega) ?_; intro v' w6 ho' hg' _; have hl2 := ho5.lt; have R := (show OT w6 w2.heap.size v' (ys ++ [(a, b, c, d)]) by unfold OT; rw [tcells_append, List.length_append]; simpa [tcells] using ho'); have RC := hc5.grownNew hg' (fun j e => by have := (hl2 j e).1; omega); have RG := grown_new hg5 hg' (fun j e => by have := (hl2 j e).1; omega); have SZ : w2.heap.size ≤ w6.heap.size := (by have := hg'.size; simp at this; omega); clear ho5 ho' hg' hg5 hc5 hl2))
     go_roundw
     case rel => exact ⟨k + 1, _, by omega, by go_num, by simp [hyl], R, RC, RG, SZ⟩
     case measure => simp [intOf]; omega
    ·have hd : decide ((k : Int) < m) = false := by simpa using hkm
     have hrt := P4.out.1.rt (by omega)
     have NM := hide fun vw h0 h1 => specNameOf s vw _ ys w4 (by omega) h0 h1 hrt
     clear hrt
     go_wp2_with fail
     refine (NM.out _ (by omega) (by omega)).mono ?_
     rintro e w5 ⟨rfl, b5⟩
     have hn := nameAns_len s (view + 1 + q.tdiv 3) ys
     have c5 := P4.out.2.1.grownNew (grown_of_below b5 rfl) (fun j e => by cases e)
     have g5 := grown_new P4.out.2.2 (grown_of_below b5 rfl) (fun j e => by cases e)
     have H5 := hide (And.intro c5 g5)
     clear NM P4 b5 c5 g5
     go_wp2
     go_roundw
     case rel => exact ⟨i + 1, _, _, by omega, by go_num, rfl, by omega, by omega, rfl, by assumption, H5.out.1, H5.out.2⟩
     case measure => simp [intOf]; omega
  ·have hd : decide ((i : Int) < n) = false := by simpa using hin
   go_wp2
   go_ret
   exact ⟨_, rfl, hs, P1.out.1, P1.out.2⟩

theorem drawName (base g ca : Nat) (ao : Option Addr) (xs : List Int) (w : World) (hB : base ≤ w.heap.size) (h : Cur w base g ao ca xs) :
 Calls Tryz.prog 79 #[.pointer (some ⟨g, 0, none⟩)] w fun e w' => ∃ s : ByteArray, e = .returned (.string s) ∧ s.size ≤ 8001 ∧ Cur w' base g ao ca xs ∧ w.grownBy w' (some g) := by
 have hlt := h.lt
 have H0 := hide h
 clear h
 go_enter Tryz.func79, Tryz.ntmps79
 go_wp2_with fail
 refine (once_any base g ca ao xs 20 _ (by omega) (by omega) (by omega) H0.out).mono ?_
 rintro e w1 ⟨b, rfl, c1, e1⟩
 have s1 := e1.size
 have P1 := hide (And.intro c1 e1)
 clear H0 c1 e1
 cases b with
 | true =>
  go_wp2
  go_loopw [3, 4] (fun sv iv wr => ∃ (i : Nat) (s : ByteArray), 1 ≤ i ∧ i ≤ 32 ∧ iv = .int .i64 i ∧ sv = .string s ∧ s.size ≤ i * 8 ∧ Cur wr base g ao ca xs ∧ w.grownBy wr (some g)) (fun _ iv _ => 33 - (intOf iv).toNat)
  case atStart => exact ⟨1, ⟨#[]⟩, by omega, by omega, by go_num, rfl, by decide, P1.out.1, P1.out.2⟩
  case round =>
   clear P1
   obtain ⟨i, s, hi1, hi2, rfl, rfl, hs, hc, hg⟩ := hrel
   have hsz := hg.size
   have P := hide (And.intro hc hg)
   clear hc hg
   go_wp2_with fail
   refine (below_any base g ca ao xs 2 _ (by omega) (by omega) (by omega) P.out.1).mono ?_
   rintro e w2 ⟨n, rfl, n0, n1, c2, e2⟩
   have s2 := e2.size
   have P2 := hide (And.intro c2 (grown_trans P.out.2 e2))
   clear P c2 e2
   by_cases hin : (i : Int) ≤ 30 + n
   ·have DG := hide fun w => specDigits_any (i : Int) w (by omega) (by omega)
    have hd : (⟨(Lib.itoa (i : Int)).toArray⟩ : ByteArray).size ≤ 6 := dg_size (i : Int) (by omega) (by omega)
    generalize (⟨(Lib.itoa (i : Int)).toArray⟩ : ByteArray) = d at *
    obtain ⟨y1, hy1⟩ : ∃ y, y = s ++ (⟨#[47]⟩ : ByteArray) := ⟨_, rfl⟩
    obtain ⟨y2, hy2⟩ : ∃ y, y = y1 ++ d := ⟨_, rfl⟩
    obtain ⟨y3, hy3⟩ : ∃ y, y = y2 ++ (⟨#[124]⟩ : ByteArray) := ⟨_, rfl⟩
    have z1 : y1.size = s.size + 1 := by rw [hy1, ByteArray.size_append]; rfl
    have z2 : y2.size = y1.size + d.size := by rw [hy2, ByteArray.size_append]
    have z3 : y3.size = y2.size + 1 := by rw [hy3, ByteArray.size_append]; rfl
    have q1 : ∀ w', (Op.stringOp .add s (⟨#[47]⟩ : ByteArray)).run Tryz.prog w' = .ok (.string y1) w' := (fun w' => by rw [hy1]; exact run_string_add_sum w' _ _ (by show s.size + 1 ≤ _; omega))
    have q2 : ∀ w', (Op.stringOp .add y1 d).run Tryz.prog w' = .ok (.string y2) w' := (fun w' => by rw [hy2]; exact run_string_add_sum w' _ _ (by omega))
    have q3 : ∀ w', (Op.stringOp .add y2 (⟨#[124]⟩ : ByteArray)).run Tryz.prog w' = .ok (.string y3) w' := (fun w' => by rw [hy3]; exact run_string_add_sum w' _ _ (by show y2.size + 1 ≤ _; omega))
    clear hy1 hy2 hy3
    go_wp2_with fail
    refine (DG.out _).mono ?_
    rintro e w3 ⟨rfl, b3⟩
    have c3 := P2.out.1.grownNew (grown_of_below b3 rfl) (fun j e => by cases e)
    have g3 := grown_new P2.out.2 (grown_of_below b3 rfl) (fun j e => by cases e)
    have H3 := hide (And.intro c3 g3)
    clear DG P2 b3 c3 g3
    go_wp2
    go_roundw
    case rel => exact ⟨i + 1, y3, by omega, by omega, by go_num, rfl, by omega, H3.out.1, H3.out.2⟩
    case measure => simp [intOf]; omega
   ·have hd : decide ((i : Int) ≤ 30 + n) = false := by simpa using hin
    go_wp2
    go_ret
    exact ⟨_, rfl, by omega, P2.out.1, P2.out.2⟩
 | false =>
  go_wp2_with fail
  refine (drawNameR base g ca ao xs _ (by omega) P1.out.1).mono ?_
  rintro e w2 ⟨s, rfl, hs, c2, e2⟩
  have s2 := e2.size
  have P2 := hide (And.intro c2 (grown_trans P1.out.2 e2))
  clear P1 c2 e2
  go_wp2_with fail
  refine (dent_cur base g ca ao xs s _ (by omega) (by omega) P2.out.1).mono ?_
  rintro e w3 ⟨t, rfl, ht, c3, e3⟩
  have P3 := hide (And.intro c3 (grown_trans P2.out.2 e3))
  clear P2 c3 e3
  go_wp2
  go_ret
  exact ⟨_, rfl, ht, P3.out.1, P3.out.2⟩
end Go.Proofs.YtcclbejpgiogaaaGreatDoor
namespace Go.Proofs.YtcclbejpgiogaaaGreatDoor
open Go.RowKit
set_option linter.unusedSectionVars false
variable [∀ (a b c d : Int), Decidable (Ok4 a b c d)]
variable [∀ (a b c d : Nat), Decidable (okN a b c d)]
variable [∀ (last : Int) (s : St), Decidable (GoodSt last s)]
variable [∀ (x : T4), Decidable (OkT x)]
variable [∀ (n : Int) (s : List Int), Decidable (OkL n s)]
variable [∀ (n f : Int), Decidable (COk n f)]

def up2 (s : ByteArray) : ByteArray := upAns (upAns s)
def stB (s : ByteArray) : Bool := decide (up2 s ≠ ⟨#[]⟩) && (viewAns s - viewAns (up2 s) == 2)
def stN (s : ByteArray) : ByteArray := if stB s = true then up2 s else ⟨#[]⟩
theorem up_none {s : ByteArray} (h : stepsAns s = none) : upAns s = ⟨#[]⟩ := by
 unfold upAns; rw [h]; rfl
theorem up_nil : upAns ⟨#[]⟩ = ⟨#[]⟩ := by unfold upAns; rw [steps_nil]; rfl
theorem up_size {s : ByteArray} : (upAns s).size ≤ 1920 := by
 cases h : stepsAns s with
 | none => rw [up_none h]; exact Nat.zero_le _
 | some ss => exact name_len (by rw [up_steps h]; rfl)
theorem up2_size {s : ByteArray} : (up2 s).size ≤ 1920 := up_size
theorem view_steps {s : ByteArray} {ss : List St} (h : stepsAns s = some ss) : viewAns s = (ss.getLast?.map (·.1)).getD 0 := by unfold viewAns; rw [h]; rfl
theorem st_none {s : ByteArray} (h : stepsAns s = none) : stB s = false := by
 unfold stB up2; rw [up_none h, up_nil]; simp
theorem st_few {s : ByteArray} {ss : List St} (h : stepsAns s = some ss) (hl : ss.length < 3) : stB s = false := by
 have h2 := up_steps (up_steps h)
 have he : ss.dropLast.dropLast = [] := List.length_eq_zero_iff.1 (by simp; omega)
 rw [he] at h2
 have : up2 s = ⟨#[]⟩ := ba_ext (by have := ((names_iff _ _).1 h2).1; simpa [nm, up2] using this)
 unfold stB; rw [this]; simp
theorem st_three {s : ByteArray} {tt : List St} {a b c : St} (h : stepsAns s = some (tt ++ [a, b, c])) : stB s = (c.1 == b.1 + 1 && b.1 == a.1 + 1) := by
 have h2 := up_steps (up_steps h)
 have e : (tt ++ [a, b, c]).dropLast.dropLast = tt ++ [a] := by
  rw [show tt ++ [a, b, c] = (tt ++ [a, b]) ++ [c] by simp, List.dropLast_concat, show tt ++ [a, b] = (tt ++ [a]) ++ [b] by simp, List.dropLast_concat]
 rw [e] at h2
 have hne : up2 s ≠ ⟨#[]⟩ := by
  intro e0
  unfold up2 at e0
  rw [e0, steps_nil] at h2
  simp at h2
 have ok := ((names_iff _ _).1 h).2.2.2
 rw [List.pairwise_append] at ok
 have hw := ok.2.1
 simp only [List.pairwise_cons, List.mem_cons, List.not_mem_nil, or_false] at hw
 have h1 := hw.1 b (.inl rfl)
 have h3 := hw.2.1 c rfl
 have v1 : viewAns s = c.1 := by rw [view_steps h]; simp
 have v2 : viewAns (up2 s) = a.1 := by unfold up2; rw [view_steps h2]; simp
 unfold stB
 rw [v1, v2, decide_eq_true hne, Bool.true_and, Bool.eq_iff_iff]
 simp only [Bool.and_eq_true, beq_iff_eq]
 omega
theorem last3 {ss : List St} (h : 3 ≤ ss.length) : ∃ tt, ss = tt ++ [ss.getD (ss.length - 3) zst, ss.getD (ss.length - 2) zst, ss.getD (ss.length - 1) zst] := by
 refine ⟨ss.take (ss.length - 3), ?_⟩
 conv => lhs; rw [← List.take_append_drop (ss.length - 3) ss]
 congr 1
 have d : ∀ k, k < ss.length → ss.drop k = ss.getD k zst :: ss.drop (k + 1) := fun k hk => by
  rw [List.drop_eq_getElem_cons hk, List.getD_eq_getElem?_getD, List.getElem?_eq_getElem hk]; rfl
 rw [d _ (by omega), d _ (by omega), d _ (by omega), show ss.length - 3 + 1 = ss.length - 2 by omega, show ss.length - 2 + 1 = ss.length - 1 by omega, List.drop_of_length_le (by omega)]
theorem st_last {s : ByteArray} {ss : List St} (h : stepsAns s = some ss) (hl : 3 ≤ ss.length) : stB s = ((ss.getD (ss.length - 1) zst).1 == (ss.getD (ss.length - 2) zst).1 + 1 && (ss.getD (ss.length - 2) zst).1 == (ss.getD (ss.length - 3) zst).1 + 1) := by
 obtain ⟨tt, e⟩ := last3 hl
 generalize ss.getD (ss.length - 1) zst = c at *
 generalize ss.getD (ss.length - 2) zst = b at *
 generalize ss.getD (ss.length - 3) zst = a at *
 rw [e] at h
 exact st_three h
theorem view_le (s : ByteArray) : 0 ≤ viewAns s ∧ viewAns s ≤ 60 := by
 refine ⟨?_, (height_view (s := s)).2.2⟩
 cases e : stepsAns s with
 | none => rw [view_none (by rw [e]; rfl)]; exact Int.le_refl _
 | some ss =>
  have := (height_view (s := s)).1
  unfold heightAns at this
  rw [e] at this
  simp only at this
  omega

def inB (x : Int) : Bool := decide (0 ≤ x) && decide (x ≤ 60)
def sokB (n f vo lo v : Int) (s : ByteArray) (xs : List Int) (d : ByteArray) : Bool := inB vo && inB lo && qokB n f v s xs && (stepsAns d).isSome
def ssamB (vo lo v : Int) (s : ByteArray) (xs : List Int) (d : ByteArray) (vo' lo' v' : Int) (s' : ByteArray) (xs' : List Int) (d' : ByteArray) : Bool := (vo == vo') && (lo == lo') && alikeB v v' s s' xs xs' && decide (d = d')
theorem ssam_me (vo lo v : Int) (s : ByteArray) (xs : List Int) (d : ByteArray) : ssamB vo lo v s xs d vo lo v s xs d = true := by simp [ssamB, alikeB]
def goB (n f vo lo v : Int) (s : ByteArray) (xs : List Int) (d : ByteArray) (v' : Int) (s' : ByteArray) (ys : List Int) : Bool := sokB n f vo lo v s xs d && qokB n f v' s' ys
def lockOf (lo : Int) (s' : ByteArray) : Int := if lo < viewAns (upAns s') then viewAns (upAns s') else lo
def doneOf (d s' : ByteArray) : ByteArray := if (stB s' && extB (up2 s') d) = true then up2 s' else d
def seeL (g : Bool) (lo : Int) (s' : ByteArray) : Int := if g = true then lockOf lo s' else lo
def seeV (g : Bool) (v v' : Int) : Int := if g = true then (if v < v' then v' else v) else v
def seeS (g : Bool) (v v' : Int) (s s' : ByteArray) : ByteArray := if g = true then (if v < v' then s' else s) else s
def seeX (g : Bool) (v v' : Int) (xs ys : List Int) : List Int := if g = true then (if v < v' then ys else xs) else xs
def seeD (g : Bool) (d s' : ByteArray) : ByteArray := if g = true then doneOf d s' else d
def mayB (n f vo lo v : Int) (s : ByteArray) (xs : List Int) (d m : ByteArray) (v' : Int) (s' : ByteArray) (ys : List Int) : Bool := sokB n f vo lo v s xs d && bokB n f m v' s' ys && decide (vo < viewAns m) && decide (lo ≤ v')
def votV (g : Bool) (vo : Int) (m : ByteArray) : Int := if g = true then viewAns m else vo
theorem sok_done {n f vo lo v : Int} {s : ByteArray} {xs : List Int} {d : ByteArray} (h : sokB n f vo lo v s xs d = true) : (0 ≤ vo ∧ vo ≤ 60) ∧ (0 ≤ lo ∧ lo ≤ 60) ∧ qokB n f v s xs = true ∧ (stepsAns d).isSome = true := by
 unfold sokB inB at h
 simp only [Bool.and_eq_true, decide_eq_true_eq] at h
 obtain ⟨⟨⟨⟨a, b⟩, ⟨c, e⟩⟩, q⟩, g⟩ := h
 exact ⟨⟨a, b⟩, ⟨c, e⟩, q, g⟩
end Go.Proofs.YtcclbejpgiogaaaGreatDoor
namespace Go.Proofs.YtcclbejpgiogaaaGreatDoor
open Go.RowKit

abbrev bv (m : ByteArray) (n : Int) (s : ByteArray) (v : Value) : Value := .agg #[.string m, .int .i64 n, .string s, v]

theorem Kp.same (w : World) (X : Nat → Prop) : Kp w w X := Below.kpOf (Below.refl w.heap.size w) X
theorem Kp.put {a b : World} {X : Nat → Prop} (h : Kp a b X) {g : Nat} (hg : X g) (j : Nat) (v : Value) : Kp a (b.setCell ⟨g, j, none⟩ v) X := h.trans ((set_kp _ _ _ _).mono fun _ e => e ▸ hg)
abbrev zb : Array Value := #[.string ⟨#[]⟩, .int .i64 0, .string ⟨#[]⟩, .slice none 0 0]
theorem kp4 (w : World) (g : Nat) (a b c d : Value) : Kp w ((((w.setCell ⟨g, 0, none⟩ a).setCell ⟨g, 1, none⟩ b).setCell ⟨g, 2, none⟩ c).setCell ⟨g, 3, none⟩ d) (fun k => k = g) :=
 (((set_kp _ _ _ _).trans (set_kp _ _ _ _)).trans (set_kp _ _ _ _)).trans (set_kp _ _ _ _)
theorem Loc.set4 {w : World} {g : Nat} {x y z u : Value} (h : Loc w g #[x, y, z, u]) (a b c d : Value) : Loc ((((w.setCell ⟨g, 0, none⟩ a).setCell ⟨g, 1, none⟩ b).setCell ⟨g, 2, none⟩ c).setCell ⟨g, 3, none⟩ d) g #[a, b, c, d] :=
 (((h.set 0 a (cs' := #[a, y, z, u]) rfl).set 1 b (cs' := #[a, b, z, u]) rfl).set 2 c (cs' := #[a, b, c, u]) rfl).set 3 d (cs' := #[a, b, c, d]) rfl
end Go.Proofs.YtcclbejpgiogaaaGreatDoor
