/- Texts that belong together: DrawSets, FromL, QcPlain, BlockPlain, DrawTx, Dent, Dent5. -/
import Derived.Test.YtmpmedbojfjnaaaGreatDoorFSAJ
import Derived.Test.YtmpmedbojfjnaaaGreatDoorFSAA
import Derived.Laws.Bits128
import Derived.Test.YtmpmedbojfjnaaaGreatDoorFSAS
import Derived.Test.YtmpmedbojfjnaaaGreatDoorFSAR
import Derived.Test.YtmpmedbojfjnaaaGreatDoorFSAW
import Derived.Test.YtmpmedbojfjnaaaGreatDoorFSAX
import Derived.Test.YtmpmedbojfjnaaaGreatDoorFSAI
import Derived.Test.YtmpmedbojfjnaaaGreatDoorFSAK
import Derived.Deep.RegionHeld3
import Derived.Deep.DeepCutAuto
namespace Go.Proofs.YtmpmedbojfjnaaaGreatDoor
open Go.RowKit

theorem kp_to {a b : World} {g : Nat} (h : Kp a b (fun k => k = g)) : a.grownBy b (some g) :=
 ⟨h.os, h.tape, h.output, h.size, fun j hj hx => h.block j hj (fun e => hx (e ▸ rfl))⟩
theorem kp_of {a b : World} {g : Nat} (h : a.grownBy b (some g)) : Kp a b (fun k => k = g) := (kp_grown h).mono fun k e => by simpa using e.symm

theorem wf_small {x : Int} (h0 : -256 ≤ x) (h1 : x ≤ 256) : (Lit.int .i64 x).wf = true := by
 simp only [Lit.wf, IntKind.min, IntKind.max, IntKind.signed, IntKind.bits, Bool.and_eq_true, decide_eq_true_eq, if_true]
 omega
theorem wf_add {xs : List Int} {x : Int} (h : WfL xs) (hx : (Lit.int .i64 x).wf = true) : WfL (addL xs x) := fun y hy => by
 rcases (mem_add xs x y).1 hy with h1 | rfl
 ·exact h y h1
 ·exact hx
theorem wf_snoc {xs : List Int} {x : Int} (h : WfL xs) (hx : (Lit.int .i64 x).wf = true) : WfL (xs ++ [x]) := fun y hy => by
 rcases List.mem_append.1 hy with h1 | h1
 ·exact h y h1
 ·simp at h1; subst h1; exact hx
set_option maxHeartbeats 8000000 in
set_option maxRecDepth 100000 in
theorem drawSet (base g ca : Nat) (ao : Option Addr) (zs : List Int) (n : Int) (w : World) (hB : base ≤ w.heap.size) (hn : 1 ≤ n) (hm : n ≤ 256) (h : Cur w base g ao ca zs) :
 Calls Tryz.prog 121 #[.pointer (some ⟨g, 0, none⟩), .int .i64 n] w fun e w' => ∃ v, ∃ xs : List Int, e = .returned v ∧ xs.length ≤ 9 ∧ Hid (WfL xs) ∧ OI w' w.heap.size v xs ∧ Cur w' base g ao ca zs ∧ w.grownBy w' (some g) := by
 have hlt := h.lt
 have O0 : OI (w.alloc (.cells #[] 3)) w.heap.size (.slice (some ⟨w.heap.size, 0, none⟩) 0 0) [] := by
  have := World.ownsRow_lit (base := w.heap.size) (e := 3) (size := 1) w #[] 0 (Nat.le_refl _) (by unfold maxLen; omega) (by simp)
  simpa [OI] using this
 have b0 : Below w.heap.size w (w.alloc (.cells #[] 3)) := (Below.refl _ _).alloc (Nat.le_refl _) _
 have C0 := h.below hB b0
 have K0 : Kp w (w.alloc (.cells #[] 3)) (fun k => k = g) := Below.kpOf b0 _
 clear h b0
 go_enter Tryz.func121, Tryz.ntmps121
 go_wp2
 go_loopw [5, 6] (fun out j wr => ∃ (k : Nat) (xs : List Int), k ≤ 8 ∧ j = .int .i64 k ∧ xs.length ≤ k ∧ Hid (WfL xs) ∧ OI wr w.heap.size out xs ∧ Cur wr base g ao ca zs ∧ Kp w wr (fun k => k = g)) (fun _ j _ => 8 - (intOf j).toNat)
 case atStart => exact ⟨0, [], by omega, rfl, by simp, hide (fun x hx => by simp at hx), O0, C0, K0⟩
 case round =>
  clear O0 C0 K0
  obtain ⟨k, xs, hk, rfl, hxl, WX, ho, C, K⟩ := hrel
  have sk := K.size
  obtain ⟨oa, oc, rfl⟩ := ho.form
  go_wp2_with fail
  refine (below_any base g ca ao zs 8 _ (by omega) (by omega) (by omega) C).mono ?_
  rintro _ w1 ⟨r, rfl, r0, r1, C1, g1⟩
  have k1 := kp_of g1
  have s1 := k1.size
  have l0 := World.ownsRow.lt ho
  have O1 := OI.kp ho k1 (fun j hj e => by have := (l0 j hj).1; omega)
  have K1 := K.trans k1
  clear C K g1 k1 ho l0
  by_cases hlt2 : (k : Int) < r
  ·have hd : decide ((k : Int) < r) = true := by simpa using hlt2
   go_wp2_with fail
   refine (below_any base g ca ao zs n _ (by omega) hn hm C1).mono ?_
   rintro _ w2 ⟨x, rfl, x0, x1, C2, g2⟩
   have k2 := kp_of g2
   have s2 := k2.size
   have l1 := World.ownsRow.lt O1
   have O2 := OI.kp O1 k2 (fun j hj e => by have := (l1 j hj).1; omega)
   have K2 := K1.trans k2
   have SA := hide (specSetAdd _ xs x w2 (O2.ri (by omega)) O2.cap (by omega))
   have hal := add_len xs x
   have WY := hide (wf_add (unhide WX) (wf_small (by omega) (by omega) : (Lit.int .i64 x).wf = true))
   clear C1 K1 g2 k2 O1 l1 O2
   generalize addL xs x = ys at *
   go_wp2_with fail
   refine (unhide SA).mono ?_
   rintro _ w3 ⟨u, rfl, o3, b3⟩
   have C3 := C2.below (by omega) b3
   have K3 := K2.trans (Below.kpOf b3 _)
   have O3 := OI.mono o3 (show w.heap.size ≤ w2.heap.size by omega)
   obtain ⟨ua, uc, rfl⟩ := o3.form
   clear SA C2 K2 b3 o3
   go_wp2
   go_roundw
   case rel => exact ⟨k + 1, ys, by omega, by go_num, by omega, WY, O3, C3, K3⟩
   case measure => simp [intOf]; omega
  ·have hd : decide ((k : Int) < r) = false := by simpa using hlt2
   go_wp2_with fail
   refine (once_any base g ca ao zs 12 _ (by omega) (by omega) (by omega) C1).mono ?_
   rintro _ w2 ⟨q, rfl, C2, g2⟩
   have k2 := kp_of g2
   have s2 := k2.size
   have l1 := World.ownsRow.lt O1
   have O2 := OI.kp O1 k2 (fun j hj e => by have := (l1 j hj).1; omega)
   have K2 := K1.trans k2
   clear C1 K1 g2 k2 O1 l1
   cases q with
   | false =>
    go_wp2
    go_ret
    exact ⟨_, xs, rfl, by omega, WX, O2, C2, kp_to K2⟩
   | true =>
    obtain ⟨w3, hw3⟩ : ∃ w3, w2.alloc (.cells #[.int .i64 (-1), .int .i64 0, .int .i64 3, .int .i64 9] 3) = w3 := ⟨_, rfl⟩
    have b3 : Below w2.heap.size w2 w3 := hw3 ▸ (Below.refl _ _).alloc (Nat.le_refl _) _
    have h40 : w3.cell? ⟨w2.heap.size, 0, none⟩ = some (.int .i64 (-1)) := by rw [← hw3]; simp
    have h41 : w3.cell? ⟨w2.heap.size, 1, none⟩ = some (.int .i64 0) := by rw [← hw3]; simp
    have h42 : w3.cell? ⟨w2.heap.size, 2, none⟩ = some (.int .i64 3) := by rw [← hw3]; simp
    have h43 : w3.cell? ⟨w2.heap.size, 3, none⟩ = some (.int .i64 9) := by rw [← hw3]; simp
    have hc3 : ∀ k, k < ([-1, 0, 3, 9] : List Int).length → w3.cell? ⟨w2.heap.size, k, none⟩ = some (.int .i64 (([-1, 0, 3, 9] : List Int).getD k 0)) := fun k hk => by
     match k, hk with
     | 0, _ => exact h40
     | 1, _ => exact h41
     | 2, _ => exact h42
     | 3, _ => exact h43
     | k + 4, hk => simp at hk; omega
    have C3 := C2.below (by omega) b3
    have O3 := O2.below b3
    have K3 := K2.trans (Below.kpOf b3 _)
    have s3 := b3.size
    have hgl := C2.lt
    have PK := hide (pickInt_any base g ca w2.heap.size ao zs [-1, 0, 3, 9] w3 (by omega) (by omega) (by simp) (by simp) hc3 C3)
    clear C2 K2 O2 b3 hc3 h40 h41 h42 h43
    go_wp2_with fail
    refine (unhide PK).mono ?_
    rintro _ w4 ⟨kk, hkk, rfl, C4, g4⟩
    have k4 := kp_of g4
    have s4 := k4.size
    have l3 := World.ownsRow.lt O3
    have O4 := OI.kp O3 k4 (fun j hj e => by have := (l3 j hj).1; omega)
    have K4 := K3.trans k4
    have hdd : -256 ≤ ([-1, 0, 3, 9] : List Int).getD kk 0 ∧ ([-1, 0, 3, 9] : List Int).getD kk 0 ≤ 256 := by
     match kk, hkk with
     | 0, _ => decide
     | 1, _ => decide
     | 2, _ => decide
     | 3, _ => decide
     | k + 4, hk => simp at hk; omega
    generalize ([-1, 0, 3, 9] : List Int).getD kk 0 = dd at *
    have WY := hide (wf_snoc (unhide WX) (wf_small hdd.1 hdd.2))
    have b5 : Below w4.heap.size w4 (w4.alloc (.cells #[.int .i64 dd] 3)) := (Below.refl _ _).alloc (Nat.le_refl _) _
    have O5 := O4.below b5
    have C5 := C4.below (by omega) b5
    have K5 := K4.trans (Below.kpOf b5 _)
    have l5 := World.ownsRow.lt O5
    clear hw3 PK C3 K3 O3 C4 O4 K4 g4 k4 l3 b5
    go_wp2_with (first | (at_builtin; refine append_ints rfl _ _ rfl w.heap.size (.slice oa xs.length oc) (.slice (some ⟨w4.heap.size, 0, none⟩) 1 1) xs [dd] rfl rfl O5 ⟨_, _, rfl, .inr ⟨_, rfl, cell_one_new _ _ _⟩⟩ (by simp; omega) (by simp; omega) ?_; intro v' w6 ho6 hg6 _; have C6 := C5.grownNew hg6 (fun j e => by have := (l5 j e).1; omega); have K6 := grown_new (kp_to K5) hg6 (fun j e => (l5 j e).1); clear hg6))
    go_ret
    exact ⟨_, xs ++ [dd], rfl, by simp; omega, WY, ho6, C6, K6⟩

structure SCode (w : World) (ao : Option Addr) (xs : List Int) : Prop where
 len : xs.length ≤ 1048576
 code : xs = [] ∨ ∃ b off, ao = some ⟨b, off, none⟩ ∧ ∀ k, k < xs.length → w.cell? ⟨b, off + k, none⟩ = some (.int .u8 (xs.getD k 0))
 fit : ∀ k, k < xs.length → 0 ≤ xs.getD k 0 ∧ xs.getD k 0 ≤ 255
theorem SCode.below {w w' : World} {ao : Option Addr} {xs : List Int} (h : SCode w ao xs) (hb : Below w.heap.size w w') : SCode w' ao xs := by
 refine ⟨h.len, ?_, h.fit⟩
 rcases h.code with h' | ⟨b, off, ha, hx⟩
 ·exact .inl h'
 ·exact .inr ⟨b, off, ha, fun k hk => (hb.cell (p := ⟨b, off + k, none⟩) (cell_lt (hx k hk))).trans (hx k hk)⟩

def fromL (f : Int) (k : Nat) : List Int := (List.range k).map fun (i : Nat) => f + (i : Int)
theorem fromL_len (f : Int) (k : Nat) : (fromL f k).length = k := by simp [fromL]
theorem fromL_succ (f : Int) (k : Nat) : fromL f (k + 1) = fromL f k ++ [f + (k : Int)] := by simp [fromL, List.range_succ]
theorem fromL_ok {n f : Int} {k : Nat} (h0 : 0 ≤ f) (h : f + (k : Int) ≤ n) : OkL n (fromL f k) := by
 refine ⟨fun x hx => ?_, ?_⟩
 ·obtain ⟨i, hi, rfl⟩ := List.mem_map.1 hx
  have := List.mem_range.1 hi
  omega
 ·unfold fromL
  rw [List.pairwise_map]
  exact List.pairwise_lt_range.imp fun h => by omega
theorem wf_ok {n : Int} {xs : List Int} (hn : n ≤ 256) (h : OkL n xs) : WfL xs := fun x hx => wf_small (by have := h.1 x hx; omega) (by have := h.1 x hx; omega)
theorem WfL.sub {xs ys : List Int} (h : WfL xs) (hs : ∀ y ∈ ys, y ∈ xs) : WfL ys := fun y hy => h y (hs y hy)
end Go.Proofs.YtmpmedbojfjnaaaGreatDoor
namespace Go.Proofs.YtmpmedbojfjnaaaGreatDoor
open Go.RowKit
set_option linter.unusedSectionVars false
variable [∀ (a b c d : Int), Decidable (Ok4 a b c d)]
variable [∀ (a b c d : Nat), Decidable (okN a b c d)]
variable [∀ (last : Int) (s : St), Decidable (GoodSt last s)]
variable [∀ (x : T4), Decidable (OkT x)]
variable [∀ (n : Int) (s : List Int), Decidable (OkL n s)]
variable [∀ (n f : Int), Decidable (COk n f)]

theorem steps_nil : stepsAns ⟨#[]⟩ = some [] := by simp [stepsAns]
theorem view_nil : viewAns ⟨#[]⟩ = 0 := by simp [viewAns, steps_nil]
theorem view_none {s : ByteArray} (h : (stepsAns s).isSome = false) : viewAns s = 0 := by
 cases e : stepsAns s with
 | none => simp [viewAns, e]
 | some ss => rw [e] at h; cases h
theorem view_pos {s : ByteArray} (h : (stepsAns s).isSome = true) (hs : s ≠ ⟨#[]⟩) : 0 < viewAns s := by
 obtain ⟨ss, e⟩ := Option.isSome_iff_exists.1 h
 have h1 := (height_view (s := s)).1
 unfold heightAns at h1
 rw [e] at h1
 have hne : ss ≠ [] := by
  rintro rfl
  have := ((names_iff _ _).1 e).1
  exact hs (ba_ext (by simpa [nm] using this))
 have := List.length_pos_iff.2 hne
 simp only at h1
 omega
theorem qok_eq (n f v : Int) (s : ByteArray) (xs : List Int) : (decide (COk n f) && (alikeB v 0 s ⟨#[]⟩ xs [] || votedB n f v s xs)) = qokB n f v s xs := by
 unfold qokB votedB alikeB
 by_cases hc : COk n f
 ·simp only [hc, decide_true, Bool.true_and]
  by_cases hs : s = ⟨#[]⟩
  ·subst hs
   rw [steps_nil, view_nil]
   by_cases hv : v = 0
   ·subst hv
    simp
   ·have h1 : (v == 0) = false := by simpa using hv
    have h2 : ((0 : Int) == v) = false := by simp; omega
    simp [h1, h2, hv]
  ·simp only [hs, false_and, and_false, decide_false, Bool.false_or, if_false]
   cases hn : (stepsAns s).isSome with
   | false =>
    rw [view_none hn]
    by_cases hv : v = 0
    ·subst hv; simp
    ·have h1 : (v == 0) = false := by simpa using hv
     simp [h1]
   | true =>
    have hp := view_pos hn hs
    by_cases hv : v = viewAns s
    ·subst hv
     have h1 : decide (0 < viewAns s) = true := by simpa using hp
     simp only [h1, beq_self_eq_true, Bool.true_and]
     rw [Bool.and_comm]
    ·have h1 : (v == viewAns s) = false := by simpa using hv
     have h2 : (viewAns s == v) = false := by simp; omega
     simp [h1, h2]
 ·simp [hc]
theorem implQcOk (n f v : Int) (s : ByteArray) (ao : Option Addr) (ca : Nat) (xs : List Int) (w : World) (hs : s.size ≤ 33554432) (hE : Env w) (ha : RI w (.slice ao xs.length ca) xs) :
 Calls Tryz.prog 25 #[cv n f, qv v s (.slice ao xs.length ca)] w fun e w' => e = .returned (.bool (qokB n f v s xs)) ∧ Below w.heap.size w w' := by
 have := implQcOk_at n f v s ao ca xs w hs hE ha
 rwa [qok_eq] at this

def bokB (n f : Int) (m : ByteArray) (v : Int) (s : ByteArray) (xs : List Int) : Bool := qokB n f v s xs && decide (0 < heightAns m) && decide (upAns m = s)
theorem height_pos (m : ByteArray) : decide (0 < heightAns m) = ((stepsAns m).isSome && decide (m ≠ ⟨#[]⟩)) := by
 unfold heightAns
 cases e : stepsAns m with
 | none => simp
 | some ss =>
  have h := ((names_iff _ _).1 e).1
  by_cases hm : m = ⟨#[]⟩
  ·subst hm
   rw [steps_nil] at e
   cases e
   simp
  ·have hne : ss ≠ [] := by
    rintro rfl
    exact hm (ba_ext (by simpa [nm] using h))
   have := List.length_pos_iff.2 hne
   simp [hm]
   omega
def bnewB (n f v : Int) (s : ByteArray) (xs : List Int) (view : Int) (ts : List T4) : Bool := bokB n f (nameAns s view ts) v s xs && (viewAns (nameAns s view ts) == view)
end Go.Proofs.YtmpmedbojfjnaaaGreatDoor
namespace Go.Proofs.YtmpmedbojfjnaaaGreatDoor
open Go.RowKit
set_option linter.unusedSectionVars false
variable [∀ (a b c d : Int), Decidable (Ok4 a b c d)]
variable [∀ (a b c d : Nat), Decidable (okN a b c d)]
variable [∀ (x : T4), Decidable (OkT x)]

theorem c4_grown {w w' : World} {r g : Nat} {a b c d : Int} (h : Cells4 w r a b c d) (hg : w.grownBy w' (some g)) (hr : r ≠ g) : Cells4 w' r a b c d :=
 ⟨hg.cell h.1 (by simpa using hr), hg.cell h.2.1 (by simpa using hr), hg.cell h.2.2.1 (by simpa using hr), hg.cell h.2.2.2 (by simpa using hr)⟩
theorem fr_grown {w w' : World} {r g : Nat} (h : ∀ j, w.frozen? ⟨r, j, none⟩ = false) (hl : r < w.heap.size) (hg : w.grownBy w' (some g)) (hr : r ≠ g) : ∀ j, w'.frozen? ⟨r, j, none⟩ = false := fun j =>
 (World.frozen?_of_block (a := ⟨r, j, none⟩) (hg.block r hl (by simpa using hr))).trans (h j)
theorem grown_set {w w' : World} {row : Option Nat} (h : w.grownBy w' row) {r : Nat} (hr : w.heap.size ≤ r) (j : Nat) (v : Value) : w.grownBy (w'.setCell ⟨r, j, none⟩ v) row :=
 grown_new h (set_grown w' r j v) (fun k e => by simp at e; omega)
theorem Cur.set {w : World} {base g ca : Nat} {ao : Option Addr} {xs : List Int} (h : Cur w base g ao ca xs) {r : Nat} (hr : g < r) (j : Nat) (v : Value) : Cur (w.setCell ⟨r, j, none⟩ v) base g ao ca xs :=
 h.grownNew (set_grown w r j v) (fun k e => by simp at e; omega)

set_option maxHeartbeats 2000000 in
set_option maxRecDepth 100000 in
theorem drawRight (base g ca : Nat) (ao : Option Addr) (xs : List Int) (w : World) (hB : base ≤ w.heap.size) (h : Cur w base g ao ca xs) :
 Calls Tryz.prog 146 #[.pointer (some ⟨g, 0, none⟩)] w fun e w' => ∃ a b c d : Int, e = .returned (txv a b c d) ∧ Cur w' base g ao ca xs ∧ w.grownBy w' (some g) := by
 have hlt := h.lt
 have h0 := h.alloc hB (.cells #[.int .i64 0, .int .i64 0, .int .i64 0, .int .i64 0] 168)
 have g0 := World.grownBy_alloc w (.cells #[.int .i64 0, .int .i64 0, .int .i64 0, .int .i64 0] 168) (some g)
 have z0 := cells4_new w 0 0 0 0 168
 have f0 : ∀ j, (w.alloc (.cells #[.int .i64 0, .int .i64 0, .int .i64 0, .int .i64 0] 168)).frozen? ⟨w.heap.size, j, none⟩ = false := fun j => by simp [go_sem]
 clear h
 have P := hide (And.intro h0 (And.intro g0 (And.intro z0 f0)))
 clear h0 g0 z0 f0
 go_enter Tryz.func146, Tryz.ntmps146
 go_wp2_with fail
 refine (below_any base g ca ao xs 4 _ (by simp; omega) (by omega) (by omega) (unhide P).1).mono ?_
 rintro e w1 ⟨a, rfl, _, _, c1, e1⟩
 have P1 := hide (And.intro c1 (And.intro (grown_trans (unhide P).2.1 e1) (And.intro (c4_grown (unhide P).2.2.1 e1 (by omega)) (fr_grown (unhide P).2.2.2 (by simp) e1 (by omega)))))
 have s1 : w.heap.size + 1 ≤ w1.heap.size := by have := e1.size; simp at this; omega
 clear P c1 e1
 go_wp2_with fail
 refine (below_any base g ca ao xs 4 _ (by omega) (by omega) (by omega) (unhide P1).1).mono ?_
 rintro e w2 ⟨b, rfl, _, _, c2, e2⟩
 have P2 := hide (And.intro c2 (And.intro (grown_trans (unhide P1).2.1 e2) (And.intro (c4_grown (unhide P1).2.2.1 e2 (by omega)) (fr_grown (unhide P1).2.2.2 (by omega) e2 (by omega)))))
 have s2 : w.heap.size + 1 ≤ w2.heap.size := by have := e2.size; omega
 clear P1 c2 e2
 go_wp2_with fail
 refine (pickInt_lit base g ca ao xs [0, 5, 60, 100, 1000] w2 (by omega) (by decide) (by decide) (unhide P2).1).mono ?_
 rintro e w3 ⟨c, rfl, _, c3, e3⟩
 have P3 := hide (And.intro c3 (And.intro (grown_trans (unhide P2).2.1 e3) (And.intro (c4_grown (unhide P2).2.2.1 e3 (by omega)) (fr_grown (unhide P2).2.2.2 (by omega) e3 (by omega)))))
 have s3 : w.heap.size + 1 ≤ w3.heap.size := by have := e3.size; omega
 clear P2 c3 e3
 go_wp2_with fail
 refine (below_any base g ca ao xs 3 _ (by omega) (by omega) (by omega) (unhide P3).1).mono ?_
 rintro e w4 ⟨d, rfl, _, _, c4, e4⟩
 have gg := grown_trans (unhide P3).2.1 e4
 obtain ⟨z0, z1, z2, z3⟩ := c4_grown (unhide P3).2.2.1 e4 (by omega)
 have zf := fr_grown (unhide P3).2.2.2 (by omega) e4 (by omega)
 have HC := hide c4
 clear P3 e4 c4
 go_wp2
 refine bodyPost_ret (v := txv a b c d) (by simp [results, Tryz.results146, go_sem, z0, z1, z2, z3]) rfl ?_
 exact ⟨a, b, c, d, rfl, ((((unhide HC).set (by omega) _ _).set (by omega) _ _).set (by omega) _ _).set (by omega) _ _, grown_set (grown_set (grown_set (grown_set gg (Nat.le_refl _) _ _) (Nat.le_refl _) _ _) (Nat.le_refl _) _ _) (Nat.le_refl _) _ _⟩

theorem OT.grown {w w' : World} {base g : Nat} {v : Value} {xs : List T4} (h : OT w base v xs) (hg : w.grownBy w' (some g)) (hlt : g < base) : OT w' base v xs :=
 World.ownsRow.kept h hg (by
  cases hv : v.ownBlock with
  | none => exact .inl rfl
  | some k => exact .inr fun e => by have := (World.ownsRow.lt h k hv).1; simp at e; omega)

def dents : List ByteArray := [⟨#[48]⟩, ⟨#[44]⟩, ⟨#[62]⟩, ⟨#[47]⟩, ⟨#[124]⟩, ⟨#[120]⟩, ⟨#[49]⟩]
theorem dents_size {q : ByteArray} (h : q ∈ dents) : q.size = 1 := by
 simp only [dents, List.mem_cons, List.not_mem_nil, or_false] at h
 rcases h with rfl | rfl | rfl | rfl | rfl | rfl | rfl <;> rfl

theorem cur_drew {w : World} {base g ca : Nat} {ao : Option Addr} {xs : List Int} (h : Cur w base g ao ca xs) : Cur w.drew base g ao ca xs := ⟨h.low, h.len, h.cells, h.code⟩
theorem grown_undrew {w w' : World} {row : Option Nat} (h : w.drew.grownBy w' row) : w.grownBy w' row := ⟨h.os, h.tape, h.output, h.size, h.block⟩

set_option maxHeartbeats 4000000 in
set_option maxRecDepth 100000 in
theorem below_far (base g ca : Nat) (ao : Option Addr) (xs : List Int) (n : Int) (w : World) (hB : base ≤ w.heap.size) (hn : 257 ≤ n) (hm : n ≤ 1000000) (h : Cur w base g ao ca xs) :
 Calls Tryz.prog 92 #[.pointer (some ⟨g, 0, none⟩), .int .i64 n] w fun e w' => ∃ x : Int, e = .returned (.int .i64 x) ∧ 0 ≤ x ∧ x < n ∧ Cur w' base g ao ca xs ∧ w.grownBy w' (some g) := by
 have H0 := hide h
 clear h
 go_enter Tryz.func92, Tryz.ntmps92
 go_wp2_with fail
 refine (byte_any base g ca ao xs _ (by omega) (unhide H0)).mono ?_
 rintro e w1 ⟨x1, rfl, a0, a1, c1, g1⟩
 have s1 := g1.size
 have H1 := hide (And.intro c1 g1)
 clear H0 c1 g1
 go_wp2_with fail
 refine (byte_any base g ca ao xs _ (by omega) (unhide H1).1).mono ?_
 rintro e w2 ⟨x2, rfl, b0, b1, c2, g2⟩
 have s2 := g2.size
 have H2 := hide (And.intro c2 (grown_trans (unhide H1).2 g2))
 clear H1 c2 g2
 go_wp2_with fail
 refine (byte_any base g ca ao xs _ (by omega) (unhide H2).1).mono ?_
 rintro e w3 ⟨x3, rfl, d0, d1, c3, g3⟩
 have s3 := g3.size
 have H3 := hide (And.intro c3 (grown_trans (unhide H2).2 g3))
 clear H2 c3 g3
 go_wp2_with fail
 refine (byte_any base g ca ao xs _ (by omega) (unhide H3).1).mono ?_
 rintro e w4 ⟨x4, rfl, f0, f1, c4, g4⟩
 have H4 := hide (And.intro c4 (grown_trans (unhide H3).2 g4))
 clear H3 c4 g4
 go_wp2
 go_ret
 exact ⟨_, rfl, Int.emod_nonneg _ (by omega), Int.emod_lt_of_pos _ (by omega), (unhide H4).1, (unhide H4).2⟩
theorem below_all (base g ca : Nat) (ao : Option Addr) (xs : List Int) (n : Int) (w : World) (hB : base ≤ w.heap.size) (hn : 1 ≤ n) (hm : n ≤ 1000000) (h : Cur w base g ao ca xs) :
 Calls Tryz.prog 92 #[.pointer (some ⟨g, 0, none⟩), .int .i64 n] w fun e w' => ∃ x : Int, e = .returned (.int .i64 x) ∧ 0 ≤ x ∧ x < n ∧ Cur w' base g ao ca xs ∧ w.grownBy w' (some g) := by
 by_cases h1 : n ≤ 256
 ·exact below_any base g ca ao xs n w hB hn h1 h
 ·exact below_far base g ca ao xs n w hB (by omega) hm h

set_option maxHeartbeats 4000000 in
set_option maxRecDepth 100000 in
theorem dent_cur (base g ca : Nat) (ao : Option Addr) (xs : List Int) (s : ByteArray) (w : World) (hB : base ≤ w.heap.size) (hs : s.size ≤ 4000) (h : Cur w base g ao ca xs) :
 Calls Tryz.prog 128 #[.pointer (some ⟨g, 0, none⟩), .string s] w fun e w' => ∃ t : ByteArray, e = .returned (.string t) ∧ t.size ≤ 8001 ∧ Cur w' base g ao ca xs ∧ w.grownBy w' (some g) := by
 have P := hide h
 clear h
 go_enter Tryz.func128, Tryz.ntmps128
 go_wp2_with fail
 refine (below_all base g ca ao xs ((s.size : Int) + 1) _ hB (by omega) (by omega) (unhide P)).mono ?_
 rintro e w1 ⟨a, rfl, a0, a1, c1, e1⟩
 have P1 := hide (And.intro c1 e1)
 have s1 := e1.size
 clear P c1 e1
 obtain ⟨at', rfl⟩ := Int.eq_ofNat_of_zero_le a0
 have hat : at' ≤ s.size := by omega
 clear a0 a1
 go_wp2_with fail
 refine (below_any base g ca ao xs 5 _ (by omega) (by omega) (by omega) (unhide P1).1).mono ?_
 rintro e w2 ⟨k, rfl, k0, k1, c2, e2⟩
 have s2 := e2.size
 have gg := grown_trans (unhide P1).2 e2
 have HC := hide c2
 clear P1 c2 e2
 have z1 : (s.extract 0 at').size ≤ s.size := ext_size s 0 at'
 have z2 : (s.extract at' s.size).size ≤ s.size := ext_size s at' s.size
 by_cases h0 : k = 0
 ·subst h0
  go_wp2
  go_ret
  exact ⟨_, rfl, by omega, unhide HC, gg⟩
 ·have n0 : (k == 0) = false := by simp [h0]
  by_cases h1 : k = 1
  ·subst h1
   clear h0
   obtain ⟨u, hu⟩ : ∃ u, s.extract 0 at' = u := ⟨_, rfl⟩
   obtain ⟨v, hv⟩ : ∃ v, s.extract at' s.size = v := ⟨_, rfl⟩
   have t1 : ∀ w', (Instr.slice 9 (.string s) none (some (.int .i64 (at' : Int))) none).run Tryz.prog w' = .ok (.string u) w' := fun w' => by
    rw [← hu]; simp [Instr.slice, go_sem, run_underlying Tryz.underlying9, hat]
   have t2 : ∀ w', (Instr.slice 9 (.string s) (some (.int .i64 (at' : Int))) none none).run Tryz.prog w' = .ok (.string v) w' := fun w' => by
    rw [← hv]; simp [Instr.slice, go_sem, run_underlying Tryz.underlying9, hat]
   have zu : u.size ≤ 4000 := by rw [← hu]; omega
   have zv : v.size ≤ 4000 := by rw [← hv]; omega
   clear hu hv z1 z2 hat
   go_wp2_with fail
   go_region_held3 (fun _ => True) (trivial) (first
    | (go_at_call 154; refine (pick_lit base g ca ao xs dents w2.drew (by simp; omega) (by decide) (by decide) (cur_drew (unhide HC))).mono ?_; rintro e w3 ⟨q, rfl, hq, c3, e3⟩
       have zq := dents_size hq
       have HC3 := hide c3
       clear c3
       have gg3 := grown_trans gg (grown_undrew e3)
       obtain ⟨y1, hy1⟩ : ∃ y, y = u ++ q := ⟨_, rfl⟩
       obtain ⟨y2, hy2⟩ : ∃ y, y = y1 ++ v := ⟨_, rfl⟩
       have zy1 : y1.size ≤ 4001 := (by rw [hy1, ByteArray.size_append]; omega)
       have zy2 : y2.size ≤ 8001 := (by rw [hy2, ByteArray.size_append]; omega)
       have q1 : ∀ w', (Op.stringOp .add u q).run Tryz.prog w' = .ok (.string y1) w' := (fun w' => by rw [hy1]; exact run_string_add_sum w' _ _ (by omega))
       have q2 : ∀ w', (Op.stringOp .add y1 v).run Tryz.prog w' = .ok (.string y2) w' := (fun w' => by rw [hy2]; exact run_string_add_sum w' _ _ (by omega))
       clear hy1 hy2))
   all_goals
    go_wp2
    go_ret
    exact ⟨_, rfl, zy2, unhide HC3, gg3⟩
  ·have n1 : (k == 1) = false := by simp [h1]
   clear h0 h1
   go_wp2
   go_ret
   exact ⟨_, rfl, by omega, unhide HC, gg⟩
end Go.Proofs.YtmpmedbojfjnaaaGreatDoor
