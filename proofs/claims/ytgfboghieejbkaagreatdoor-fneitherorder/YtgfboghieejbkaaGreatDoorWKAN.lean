/- Texts that belong together: DrawSets, FromL, QcPlain, BlockPlain, DrawTx, Dent, Dent5, SpecNameOf, DrawName, SafePlain, Blk. -/
import Derived.Test.YtgfboghieejbkaaGreatDoorWKAF
import Derived.Test.YtgfboghieejbkaaGreatDoorWKAA
import Derived.Laws.Bits128
import Derived.Test.YtgfboghieejbkaaGreatDoorWKAI
import Derived.Test.YtgfboghieejbkaaGreatDoorWKAL
import Derived.Test.YtgfboghieejbkaaGreatDoorWKAM
import Derived.Test.YtgfboghieejbkaaGreatDoorWKAG
import Derived.Deep.RegionHeld3
import Derived.Deep.DeepCutAuto
import Derived.Test.YtgfboghieejbkaaGreatDoorWKAH
import Derived.Lib.ItoaLen
import Derived.Test.YtgfboghieejbkaaGreatDoorWKAJ
namespace Go.Proofs.YtgfboghieejbkaaGreatDoor
open Go.RowKit

theorem kp_to {a b : World} {g : Nat} (h : Kp a b (fun k => k = g)) : a.grownBy b (some g) :=
  ⟨h.os, h.tape, h.output, h.size, fun j hj hx => h.block j hj (fun e => hx (e ▸ rfl))⟩
theorem kp_of {a b : World} {g : Nat} (h : a.grownBy b (some g)) : Kp a b (fun k => k = g) := (kp_grown h).mono fun k e => by simpa using e.symm

theorem wf_small {x : Int} (h0 : -256 ≤ x) (h1 : x ≤ 256) : (Lit.int .i64 x).wf = true := by
  simp only [Lit.wf, IntKind.min, IntKind.max, IntKind.signed, IntKind.bits, Bool.and_eq_true, decide_eq_true_eq, if_true]
  omega
theorem wf_add {xs : List Int} {x : Int} (h : WfL xs) (hx : (Lit.int .i64 x).wf = true) : WfL (addL xs x) := fun y hy => by
  rcases (mem_add xs x y).1 hy with h1 | rfl
  · exact h y h1
  · exact hx
theorem wf_snoc {xs : List Int} {x : Int} (h : WfL xs) (hx : (Lit.int .i64 x).wf = true) : WfL (xs ++ [x]) := fun y hy => by
  rcases List.mem_append.1 hy with h1 | h1
  · exact h y h1
  · simp at h1; subst h1; exact hx
set_option maxHeartbeats 8000000 in
set_option maxRecDepth 100000 in
theorem drawSet (base g ca : Nat) (ao : Option Addr) (zs : List Int) (n : Int) (w : World) (hB : base ≤ w.heap.size) (hn : 1 ≤ n) (hm : n ≤ 256) (h : Cur w base g ao ca zs) :
    Calls Tryz.prog 154 #[.pointer (some ⟨g, 0, none⟩), .int .i64 n] w fun e w' => ∃ v, ∃ xs : List Int, e = .returned v ∧ xs.length ≤ 9 ∧ Hid (WfL xs) ∧ OI w' w.heap.size v xs ∧ Cur w' base g ao ca zs ∧ w.grownBy w' (some g) := by
  have hlt := h.lt
  have O0 : OI (w.alloc (.cells #[] 3)) w.heap.size (.slice (some ⟨w.heap.size, 0, none⟩) 0 0) [] := by
    have := World.ownsRow_lit (base := w.heap.size) (e := 3) (size := 1) w #[] 0 (Nat.le_refl _) (by unfold maxLen; omega) (by simp)
    simpa [OI] using this
  have b0 : Below w.heap.size w (w.alloc (.cells #[] 3)) := (Below.refl _ _).alloc (Nat.le_refl _) _
  have C0 := h.below hB b0
  have K0 : Kp w (w.alloc (.cells #[] 3)) (fun k => k = g) := Below.kpOf b0 _
  clear h b0
  go_enter Tryz.func154, Tryz.ntmps154
  go_wp2
  go_loopw [5, 6] (fun out j wr => ∃ (k : Nat) (xs : List Int), k ≤ 8 ∧ j = .int .i64 k ∧ xs.length ≤ k ∧ Hid (WfL xs) ∧ OI wr w.heap.size out xs ∧ Cur wr base g ao ca zs ∧ Kp w wr (fun k => k = g)) (fun _ j _ => 8 - (intOf j).toNat)
  case atStart => exact ⟨0, [], by omega, rfl, by simp, hide (fun x hx => by simp at hx), O0, C0, K0⟩
  case round =>
    clear O0 C0 K0
    obtain ⟨k, xs, hk, rfl, hxl, WX, ho, C, K⟩ := hrel
    have sk := K.size
    obtain ⟨oa, oc, rfl⟩ := ho.form
    go_wp2_with fail
    refine (below_any base g ca ao zs 8 _ (by omega) (by omega) (by omega) C).mono ?_
    rintro _ w1 ⟨r, rfl, r0, r1, C1, g1⟩
    have k1 := kp_of g1
    have s1 := k1.size
    have l0 := World.ownsRow.lt ho
    have O1 := OI.kp ho k1 (fun j hj e => by have := (l0 j hj).1; omega)
    have K1 := K.trans k1
    clear C K g1 k1 ho l0
    by_cases hlt2 : (k : Int) < r
    · have hd : decide ((k : Int) < r) = true := by simpa using hlt2
      go_wp2_with fail
      refine (below_any base g ca ao zs n _ (by omega) hn hm C1).mono ?_
      rintro _ w2 ⟨x, rfl, x0, x1, C2, g2⟩
      have k2 := kp_of g2
      have s2 := k2.size
      have l1 := World.ownsRow.lt O1
      have O2 := OI.kp O1 k2 (fun j hj e => by have := (l1 j hj).1; omega)
      have K2 := K1.trans k2
      have SA := hide (specSetAdd _ xs x w2 (O2.ri (by omega)) O2.cap (by omega))
      have hal := add_len xs x
      have WY := hide (wf_add (unhide WX) (wf_small (by omega) (by omega) : (Lit.int .i64 x).wf = true))
      clear C1 K1 g2 k2 O1 l1 O2
      generalize addL xs x = ys at *
      go_wp2_with fail
      refine (unhide SA).mono ?_
      rintro _ w3 ⟨u, rfl, o3, b3⟩
      have C3 := C2.below (by omega) b3
      have K3 := K2.trans (Below.kpOf b3 _)
      have O3 := OI.mono o3 (show w.heap.size ≤ w2.heap.size by omega)
      obtain ⟨ua, uc, rfl⟩ := o3.form
      clear SA C2 K2 b3 o3
      go_wp2
      go_roundw
      case rel => exact ⟨k + 1, ys, by omega, by go_num, by omega, WY, O3, C3, K3⟩
      case measure => simp [intOf]; omega
    · have hd : decide ((k : Int) < r) = false := by simpa using hlt2
      go_wp2_with fail
      refine (once_any base g ca ao zs 12 _ (by omega) (by omega) (by omega) C1).mono ?_
      rintro _ w2 ⟨q, rfl, C2, g2⟩
      have k2 := kp_of g2
      have s2 := k2.size
      have l1 := World.ownsRow.lt O1
      have O2 := OI.kp O1 k2 (fun j hj e => by have := (l1 j hj).1; omega)
      have K2 := K1.trans k2
      clear C1 K1 g2 k2 O1 l1
      cases q with
      | false =>
        go_wp2
        go_ret
        exact ⟨_, xs, rfl, by omega, WX, O2, C2, kp_to K2⟩
      | true =>
        obtain ⟨w3, hw3⟩ : ∃ w3, w2.alloc (.cells #[.int .i64 (-1), .int .i64 0, .int .i64 3, .int .i64 9] 3) = w3 := ⟨_, rfl⟩
        have b3 : Below w2.heap.size w2 w3 := hw3 ▸ (Below.refl _ _).alloc (Nat.le_refl _) _
        have h40 : w3.cell? ⟨w2.heap.size, 0, none⟩ = some (.int .i64 (-1)) := by rw [← hw3]; simp
        have h41 : w3.cell? ⟨w2.heap.size, 1, none⟩ = some (.int .i64 0) := by rw [← hw3]; simp
        have h42 : w3.cell? ⟨w2.heap.size, 2, none⟩ = some (.int .i64 3) := by rw [← hw3]; simp
        have h43 : w3.cell? ⟨w2.heap.size, 3, none⟩ = some (.int .i64 9) := by rw [← hw3]; simp
        have hc3 : ∀ k, k < ([-1, 0, 3, 9] : List Int).length → w3.cell? ⟨w2.heap.size, k, none⟩ = some (.int .i64 (([-1, 0, 3, 9] : List Int).getD k 0)) := fun k hk => by
          match k, hk with
          | 0, _ => exact h40
          | 1, _ => exact h41
          | 2, _ => exact h42
          | 3, _ => exact h43
          | k + 4, hk => simp at hk; omega
        have C3 := C2.below (by omega) b3
        have O3 := O2.below b3
        have K3 := K2.trans (Below.kpOf b3 _)
        have s3 := b3.size
        have hgl := C2.lt
        have PK := hide (pickInt_any base g ca w2.heap.size ao zs [-1, 0, 3, 9] w3 (by omega) (by omega) (by simp) (by simp) hc3 C3)
        clear C2 K2 O2 b3 hc3 h40 h41 h42 h43
        go_wp2_with fail
        refine (unhide PK).mono ?_
        rintro _ w4 ⟨kk, hkk, rfl, C4, g4⟩
        have k4 := kp_of g4
        have s4 := k4.size
        have l3 := World.ownsRow.lt O3
        have O4 := OI.kp O3 k4 (fun j hj e => by have := (l3 j hj).1; omega)
        have K4 := K3.trans k4
        have hdd : -256 ≤ ([-1, 0, 3, 9] : List Int).getD kk 0 ∧ ([-1, 0, 3, 9] : List Int).getD kk 0 ≤ 256 := by
          match kk, hkk with
          | 0, _ => decide
          | 1, _ => decide
          | 2, _ => decide
          | 3, _ => decide
          | k + 4, hk => simp at hk; omega
        generalize ([-1, 0, 3, 9] : List Int).getD kk 0 = dd at *
        have WY := hide (wf_snoc (unhide WX) (wf_small hdd.1 hdd.2))
        have b5 : Below w4.heap.size w4 (w4.alloc (.cells #[.int .i64 dd] 3)) := (Below.refl _ _).alloc (Nat.le_refl _) _
        have O5 := O4.below b5
        have C5 := C4.below (by omega) b5
        have K5 := K4.trans (Below.kpOf b5 _)
        have l5 := World.ownsRow.lt O5
        clear hw3 PK C3 K3 O3 C4 O4 K4 g4 k4 l3 b5
        go_wp2_with (first | (at_builtin; refine append_ints rfl _ _ rfl w.heap.size (.slice oa xs.length oc) (.slice (some ⟨w4.heap.size, 0, none⟩) 1 1) xs [dd] rfl rfl O5 ⟨_, _, rfl, .inr ⟨_, rfl, cell_one_new _ _ _⟩⟩ (by simp; omega) (by simp; omega) ?_; intro v' w6 ho6 hg6 _; have C6 := C5.grownNew hg6 (fun j e => by have := (l5 j e).1; omega); have K6 := grown_new (kp_to K5) hg6 (fun j e => (l5 j e).1); clear hg6))
        go_ret
        exact ⟨_, xs ++ [dd], rfl, by simp; omega, WY, ho6, C6, K6⟩

structure SCode (w : World) (ao : Option Addr) (xs : List Int) : Prop where
  len : xs.length ≤ 1048576
  code : xs = [] ∨ ∃ b off, ao = some ⟨b, off, none⟩ ∧ ∀ k, k < xs.length → w.cell? ⟨b, off + k, none⟩ = some (.int .u8 (xs.getD k 0))
  fit : ∀ k, k < xs.length → 0 ≤ xs.getD k 0 ∧ xs.getD k 0 ≤ 255
theorem SCode.below {w w' : World} {ao : Option Addr} {xs : List Int} (h : SCode w ao xs) (hb : Below w.heap.size w w') : SCode w' ao xs := by
  refine ⟨h.len, ?_, h.fit⟩
  rcases h.code with h' | ⟨b, off, ha, hx⟩
  · exact .inl h'
  · exact .inr ⟨b, off, ha, fun k hk => (hb.cell (p := ⟨b, off + k, none⟩) (cell_lt (hx k hk))).trans (hx k hk)⟩

def fromL (f : Int) (k : Nat) : List Int := (List.range k).map fun (i : Nat) => f + (i : Int)
theorem fromL_len (f : Int) (k : Nat) : (fromL f k).length = k := by simp [fromL]
theorem fromL_succ (f : Int) (k : Nat) : fromL f (k + 1) = fromL f k ++ [f + (k : Int)] := by simp [fromL, List.range_succ]
theorem fromL_ok {n f : Int} {k : Nat} (h0 : 0 ≤ f) (h : f + (k : Int) ≤ n) : OkL n (fromL f k) := by
  refine ⟨fun x hx => ?_, ?_⟩
  · obtain ⟨i, hi, rfl⟩ := List.mem_map.1 hx
    have := List.mem_range.1 hi
    omega
  · unfold fromL
    rw [List.pairwise_map]
    exact List.pairwise_lt_range.imp fun h => by omega
theorem wf_ok {n : Int} {xs : List Int} (hn : n ≤ 256) (h : OkL n xs) : WfL xs := fun x hx => wf_small (by have := h.1 x hx; omega) (by have := h.1 x hx; omega)
theorem WfL.sub {xs ys : List Int} (h : WfL xs) (hs : ∀ y ∈ ys, y ∈ xs) : WfL ys := fun y hy => h y (hs y hy)
end Go.Proofs.YtgfboghieejbkaaGreatDoor
namespace Go.Proofs.YtgfboghieejbkaaGreatDoor
open Go.RowKit
set_option linter.unusedSectionVars false
variable [∀ (a b c d : Int), Decidable (Ok4 a b c d)]
variable [∀ (a b c d : Nat), Decidable (okN a b c d)]
variable [∀ (last : Int) (s : St), Decidable (GoodSt last s)]
variable [∀ (x : T4), Decidable (OkT x)]
variable [∀ (n : Int) (s : List Int), Decidable (OkL n s)]
variable [∀ (n f : Int), Decidable (COk n f)]

theorem steps_nil : stepsAns ⟨#[]⟩ = some [] := by simp [stepsAns]
theorem view_nil : viewAns ⟨#[]⟩ = 0 := by simp [viewAns, steps_nil]
theorem view_none {s : ByteArray} (h : (stepsAns s).isSome = false) : viewAns s = 0 := by
  cases e : stepsAns s with
  | none => simp [viewAns, e]
  | some ss => rw [e] at h; cases h
theorem view_pos {s : ByteArray} (h : (stepsAns s).isSome = true) (hs : s ≠ ⟨#[]⟩) : 0 < viewAns s := by
  obtain ⟨ss, e⟩ := Option.isSome_iff_exists.1 h
  have h1 := (height_view (s := s)).1
  unfold heightAns at h1
  rw [e] at h1
  have hne : ss ≠ [] := by
    rintro rfl
    have := ((names_iff _ _).1 e).1
    exact hs (ba_ext (by simpa [nm] using this))
  have := List.length_pos_iff.2 hne
  simp only at h1
  omega
theorem qok_eq (n f v : Int) (s : ByteArray) (xs : List Int) : (decide (COk n f) && (alikeB v 0 s ⟨#[]⟩ xs [] || votedB n f v s xs)) = qokB n f v s xs := by
  unfold qokB votedB alikeB
  by_cases hc : COk n f
  · simp only [hc, decide_true, Bool.true_and]
    by_cases hs : s = ⟨#[]⟩
    · subst hs
      rw [steps_nil, view_nil]
      by_cases hv : v = 0
      · subst hv
        simp
      · have h1 : (v == 0) = false := by simpa using hv
        have h2 : ((0 : Int) == v) = false := by simp; omega
        simp [h1, h2, hv]
    · simp only [hs, false_and, and_false, decide_false, Bool.false_or, if_false]
      cases hn : (stepsAns s).isSome with
      | false =>
        rw [view_none hn]
        by_cases hv : v = 0
        · subst hv; simp
        · have h1 : (v == 0) = false := by simpa using hv
          simp [h1]
      | true =>
        have hp := view_pos hn hs
        by_cases hv : v = viewAns s
        · subst hv
          have h1 : decide (0 < viewAns s) = true := by simpa using hp
          simp only [h1, beq_self_eq_true, Bool.true_and]
          rw [Bool.and_comm]
        · have h1 : (v == viewAns s) = false := by simpa using hv
          have h2 : (viewAns s == v) = false := by simp; omega
          simp [h1, h2]
  · simp [hc]
theorem implQcOk (n f v : Int) (s : ByteArray) (ao : Option Addr) (ca : Nat) (xs : List Int) (w : World) (hs : s.size ≤ 33554432) (hE : Env w) (ha : RI w (.slice ao xs.length ca) xs) :
    Calls Tryz.prog 38 #[cv n f, qv v s (.slice ao xs.length ca)] w fun e w' => e = .returned (.bool (qokB n f v s xs)) ∧ Below w.heap.size w w' := by
  have := implQcOk_at n f v s ao ca xs w hs hE ha
  rwa [qok_eq] at this

def bokB (n f : Int) (m : ByteArray) (v : Int) (s : ByteArray) (xs : List Int) : Bool := qokB n f v s xs && decide (0 < heightAns m) && decide (upAns m = s)
theorem height_pos (m : ByteArray) : decide (0 < heightAns m) = ((stepsAns m).isSome && decide (m ≠ ⟨#[]⟩)) := by
  unfold heightAns
  cases e : stepsAns m with
  | none => simp
  | some ss =>
    have h := ((names_iff _ _).1 e).1
    by_cases hm : m = ⟨#[]⟩
    · subst hm
      rw [steps_nil] at e
      cases e
      simp
    · have hne : ss ≠ [] := by
        rintro rfl
        exact hm (ba_ext (by simpa [nm] using h))
      have := List.length_pos_iff.2 hne
      simp [hm]
      omega
def bnewB (n f v : Int) (s : ByteArray) (xs : List Int) (view : Int) (ts : List T4) : Bool := bokB n f (nameAns s view ts) v s xs && (viewAns (nameAns s view ts) == view)
end Go.Proofs.YtgfboghieejbkaaGreatDoor
namespace Go.Proofs.YtgfboghieejbkaaGreatDoor
open Go.RowKit
set_option linter.unusedSectionVars false
variable [∀ (a b c d : Int), Decidable (Ok4 a b c d)]
variable [∀ (a b c d : Nat), Decidable (okN a b c d)]
variable [∀ (x : T4), Decidable (OkT x)]

theorem c4_grown {w w' : World} {r g : Nat} {a b c d : Int} (h : Cells4 w r a b c d) (hg : w.grownBy w' (some g)) (hr : r ≠ g) : Cells4 w' r a b c d :=
  ⟨hg.cell h.1 (by simpa using hr), hg.cell h.2.1 (by simpa using hr), hg.cell h.2.2.1 (by simpa using hr), hg.cell h.2.2.2 (by simpa using hr)⟩
theorem fr_grown {w w' : World} {r g : Nat} (h : ∀ j, w.frozen? ⟨r, j, none⟩ = false) (hl : r < w.heap.size) (hg : w.grownBy w' (some g)) (hr : r ≠ g) : ∀ j, w'.frozen? ⟨r, j, none⟩ = false := fun j =>
  (World.frozen?_of_block (a := ⟨r, j, none⟩) (hg.block r hl (by simpa using hr))).trans (h j)
theorem grown_set {w w' : World} {row : Option Nat} (h : w.grownBy w' row) {r : Nat} (hr : w.heap.size ≤ r) (j : Nat) (v : Value) : w.grownBy (w'.setCell ⟨r, j, none⟩ v) row :=
  grown_new h (set_grown w' r j v) (fun k e => by simp at e; omega)
theorem Cur.set {w : World} {base g ca : Nat} {ao : Option Addr} {xs : List Int} (h : Cur w base g ao ca xs) {r : Nat} (hr : g < r) (j : Nat) (v : Value) : Cur (w.setCell ⟨r, j, none⟩ v) base g ao ca xs :=
  h.grownNew (set_grown w r j v) (fun k e => by simp at e; omega)

set_option maxHeartbeats 2000000 in
set_option maxRecDepth 100000 in
theorem drawRight (base g ca : Nat) (ao : Option Addr) (xs : List Int) (w : World) (hB : base ≤ w.heap.size) (h : Cur w base g ao ca xs) :
    Calls Tryz.prog 164 #[.pointer (some ⟨g, 0, none⟩)] w fun e w' => ∃ a b c d : Int, e = .returned (txv a b c d) ∧ Cur w' base g ao ca xs ∧ w.grownBy w' (some g) := by
  have hlt := h.lt
  have h0 := h.alloc hB (.cells #[.int .i64 0, .int .i64 0, .int .i64 0, .int .i64 0] 183)
  have g0 := World.grownBy_alloc w (.cells #[.int .i64 0, .int .i64 0, .int .i64 0, .int .i64 0] 183) (some g)
  have z0 := cells4_new w 0 0 0 0 183
  have f0 : ∀ j, (w.alloc (.cells #[.int .i64 0, .int .i64 0, .int .i64 0, .int .i64 0] 183)).frozen? ⟨w.heap.size, j, none⟩ = false := fun j => by simp [go_sem]
  clear h
  have P := hide (And.intro h0 (And.intro g0 (And.intro z0 f0)))
  clear h0 g0 z0 f0
  go_enter Tryz.func164, Tryz.ntmps164
  go_wp2_with fail
  refine (below_any base g ca ao xs 4 _ (by simp; omega) (by omega) (by omega) (unhide P).1).mono ?_
  rintro e w1 ⟨a, rfl, _, _, c1, e1⟩
  have P1 := hide (And.intro c1 (And.intro (grown_trans (unhide P).2.1 e1) (And.intro (c4_grown (unhide P).2.2.1 e1 (by omega)) (fr_grown (unhide P).2.2.2 (by simp) e1 (by omega)))))
  have s1 : w.heap.size + 1 ≤ w1.heap.size := by have := e1.size; simp at this; omega
  clear P c1 e1
  go_wp2_with fail
  refine (below_any base g ca ao xs 4 _ (by omega) (by omega) (by omega) (unhide P1).1).mono ?_
  rintro e w2 ⟨b, rfl, _, _, c2, e2⟩
  have P2 := hide (And.intro c2 (And.intro (grown_trans (unhide P1).2.1 e2) (And.intro (c4_grown (unhide P1).2.2.1 e2 (by omega)) (fr_grown (unhide P1).2.2.2 (by omega) e2 (by omega)))))
  have s2 : w.heap.size + 1 ≤ w2.heap.size := by have := e2.size; omega
  clear P1 c2 e2
  go_wp2_with fail
  refine (pickInt_lit base g ca ao xs [0, 5, 60, 100, 1000] w2 (by omega) (by decide) (by decide) (unhide P2).1).mono ?_
  rintro e w3 ⟨c, rfl, _, c3, e3⟩
  have P3 := hide (And.intro c3 (And.intro (grown_trans (unhide P2).2.1 e3) (And.intro (c4_grown (unhide P2).2.2.1 e3 (by omega)) (fr_grown (unhide P2).2.2.2 (by omega) e3 (by omega)))))
  have s3 : w.heap.size + 1 ≤ w3.heap.size := by have := e3.size; omega
  clear P2 c3 e3
  go_wp2_with fail
  refine (below_any base g ca ao xs 3 _ (by omega) (by omega) (by omega) (unhide P3).1).mono ?_
  rintro e w4 ⟨d, rfl, _, _, c4, e4⟩
  have gg := grown_trans (unhide P3).2.1 e4
  obtain ⟨z0, z1, z2, z3⟩ := c4_grown (unhide P3).2.2.1 e4 (by omega)
  have zf := fr_grown (unhide P3).2.2.2 (by omega) e4 (by omega)
  have HC := hide c4
  clear P3 e4 c4
  go_wp2
  refine bodyPost_ret (v := txv a b c d) (by simp [results, Tryz.results164, go_sem, z0, z1, z2, z3]) rfl ?_
  exact ⟨a, b, c, d, rfl, ((((unhide HC).set (by omega) _ _).set (by omega) _ _).set (by omega) _ _).set (by omega) _ _, grown_set (grown_set (grown_set (grown_set gg (Nat.le_refl _) _ _) (Nat.le_refl _) _ _) (Nat.le_refl _) _ _) (Nat.le_refl _) _ _⟩

theorem OT.grown {w w' : World} {base g : Nat} {v : Value} {xs : List T4} (h : OT w base v xs) (hg : w.grownBy w' (some g)) (hlt : g < base) : OT w' base v xs :=
  World.ownsRow.kept h hg (by
    cases hv : v.ownBlock with
    | none => exact .inl rfl
    | some k => exact .inr fun e => by have := (World.ownsRow.lt h k hv).1; simp at e; omega)

def dents : List ByteArray := [⟨#[48]⟩, ⟨#[44]⟩, ⟨#[62]⟩, ⟨#[47]⟩, ⟨#[124]⟩, ⟨#[120]⟩, ⟨#[49]⟩]
theorem dents_size {q : ByteArray} (h : q ∈ dents) : q.size = 1 := by
  simp only [dents, List.mem_cons, List.not_mem_nil, or_false] at h
  rcases h with rfl | rfl | rfl | rfl | rfl | rfl | rfl <;> rfl

theorem cur_drew {w : World} {base g ca : Nat} {ao : Option Addr} {xs : List Int} (h : Cur w base g ao ca xs) : Cur w.drew base g ao ca xs := ⟨h.low, h.len, h.cells, h.code⟩
theorem grown_undrew {w w' : World} {row : Option Nat} (h : w.drew.grownBy w' row) : w.grownBy w' row := ⟨h.os, h.tape, h.output, h.size, h.block⟩

set_option maxHeartbeats 4000000 in
set_option maxRecDepth 100000 in
theorem below_far (base g ca : Nat) (ao : Option Addr) (xs : List Int) (n : Int) (w : World) (hB : base ≤ w.heap.size) (hn : 257 ≤ n) (hm : n ≤ 1000000) (h : Cur w base g ao ca xs) :
    Calls Tryz.prog 90 #[.pointer (some ⟨g, 0, none⟩), .int .i64 n] w fun e w' => ∃ x : Int, e = .returned (.int .i64 x) ∧ 0 ≤ x ∧ x < n ∧ Cur w' base g ao ca xs ∧ w.grownBy w' (some g) := by
  have H0 := hide h
  clear h
  go_enter Tryz.func90, Tryz.ntmps90
  go_wp2_with fail
  refine (byte_any base g ca ao xs _ (by omega) (unhide H0)).mono ?_
  rintro e w1 ⟨x1, rfl, a0, a1, c1, g1⟩
  have s1 := g1.size
  have H1 := hide (And.intro c1 g1)
  clear H0 c1 g1
  go_wp2_with fail
  refine (byte_any base g ca ao xs _ (by omega) (unhide H1).1).mono ?_
  rintro e w2 ⟨x2, rfl, b0, b1, c2, g2⟩
  have s2 := g2.size
  have H2 := hide (And.intro c2 (grown_trans (unhide H1).2 g2))
  clear H1 c2 g2
  go_wp2_with fail
  refine (byte_any base g ca ao xs _ (by omega) (unhide H2).1).mono ?_
  rintro e w3 ⟨x3, rfl, d0, d1, c3, g3⟩
  have s3 := g3.size
  have H3 := hide (And.intro c3 (grown_trans (unhide H2).2 g3))
  clear H2 c3 g3
  go_wp2_with fail
  refine (byte_any base g ca ao xs _ (by omega) (unhide H3).1).mono ?_
  rintro e w4 ⟨x4, rfl, f0, f1, c4, g4⟩
  have H4 := hide (And.intro c4 (grown_trans (unhide H3).2 g4))
  clear H3 c4 g4
  go_wp2
  go_ret
  exact ⟨_, rfl, Int.emod_nonneg _ (by omega), Int.emod_lt_of_pos _ (by omega), (unhide H4).1, (unhide H4).2⟩
theorem below_all (base g ca : Nat) (ao : Option Addr) (xs : List Int) (n : Int) (w : World) (hB : base ≤ w.heap.size) (hn : 1 ≤ n) (hm : n ≤ 1000000) (h : Cur w base g ao ca xs) :
    Calls Tryz.prog 90 #[.pointer (some ⟨g, 0, none⟩), .int .i64 n] w fun e w' => ∃ x : Int, e = .returned (.int .i64 x) ∧ 0 ≤ x ∧ x < n ∧ Cur w' base g ao ca xs ∧ w.grownBy w' (some g) := by
  by_cases h1 : n ≤ 256
  · exact below_any base g ca ao xs n w hB hn h1 h
  · exact below_far base g ca ao xs n w hB (by omega) hm h

set_option maxHeartbeats 4000000 in
set_option maxRecDepth 100000 in
theorem dent_cur (base g ca : Nat) (ao : Option Addr) (xs : List Int) (s : ByteArray) (w : World) (hB : base ≤ w.heap.size) (hs : s.size ≤ 4000) (h : Cur w base g ao ca xs) :
    Calls Tryz.prog 175 #[.pointer (some ⟨g, 0, none⟩), .string s] w fun e w' => ∃ t : ByteArray, e = .returned (.string t) ∧ t.size ≤ 8001 ∧ Cur w' base g ao ca xs ∧ w.grownBy w' (some g) := by
  have P := hide h
  clear h
  go_enter Tryz.func175, Tryz.ntmps175
  go_wp2_with fail
  refine (below_all base g ca ao xs ((s.size : Int) + 1) _ hB (by omega) (by omega) (unhide P)).mono ?_
  rintro e w1 ⟨a, rfl, a0, a1, c1, e1⟩
  have P1 := hide (And.intro c1 e1)
  have s1 := e1.size
  clear P c1 e1
  obtain ⟨at', rfl⟩ := Int.eq_ofNat_of_zero_le a0
  have hat : at' ≤ s.size := by omega
  clear a0 a1
  go_wp2_with fail
  refine (below_any base g ca ao xs 5 _ (by omega) (by omega) (by omega) (unhide P1).1).mono ?_
  rintro e w2 ⟨k, rfl, k0, k1, c2, e2⟩
  have s2 := e2.size
  have gg := grown_trans (unhide P1).2 e2
  have HC := hide c2
  clear P1 c2 e2
  have z1 : (s.extract 0 at').size ≤ s.size := ext_size s 0 at'
  have z2 : (s.extract at' s.size).size ≤ s.size := ext_size s at' s.size
  by_cases h0 : k = 0
  · subst h0
    go_wp2
    go_ret
    exact ⟨_, rfl, by omega, unhide HC, gg⟩
  · have n0 : (k == 0) = false := by simp [h0]
    by_cases h1 : k = 1
    · subst h1
      clear h0
      obtain ⟨u, hu⟩ : ∃ u, s.extract 0 at' = u := ⟨_, rfl⟩
      obtain ⟨v, hv⟩ : ∃ v, s.extract at' s.size = v := ⟨_, rfl⟩
      have t1 : ∀ w', (Instr.slice 9 (.string s) none (some (.int .i64 (at' : Int))) none).run Tryz.prog w' = .ok (.string u) w' := fun w' => by
        rw [← hu]; simp [Instr.slice, go_sem, run_underlying Tryz.underlying9, hat]
      have t2 : ∀ w', (Instr.slice 9 (.string s) (some (.int .i64 (at' : Int))) none none).run Tryz.prog w' = .ok (.string v) w' := fun w' => by
        rw [← hv]; simp [Instr.slice, go_sem, run_underlying Tryz.underlying9, hat]
      have zu : u.size ≤ 4000 := by rw [← hu]; omega
      have zv : v.size ≤ 4000 := by rw [← hv]; omega
      clear hu hv z1 z2 hat
      go_wp2_with fail
      go_region_held3 (fun _ => True) (trivial) (first
        | (go_at_call 197; refine (pick_lit base g ca ao xs dents w2.drew (by simp; omega) (by decide) (by decide) (cur_drew (unhide HC))).mono ?_; rintro e w3 ⟨q, rfl, hq, c3, e3⟩
           have zq := dents_size hq
           have HC3 := hide c3
           clear c3
           have gg3 := grown_trans gg (grown_undrew e3)
           obtain ⟨y1, hy1⟩ : ∃ y, y = u ++ q := ⟨_, rfl⟩
           obtain ⟨y2, hy2⟩ : ∃ y, y = y1 ++ v := ⟨_, rfl⟩
           have zy1 : y1.size ≤ 4001 := (by rw [hy1, ByteArray.size_append]; omega)
           have zy2 : y2.size ≤ 8001 := (by rw [hy2, ByteArray.size_append]; omega)
           have q1 : ∀ w', (Op.stringOp .add u q).run Tryz.prog w' = .ok (.string y1) w' := (fun w' => by rw [hy1]; exact run_string_add_sum w' _ _ (by omega))
           have q2 : ∀ w', (Op.stringOp .add y1 v).run Tryz.prog w' = .ok (.string y2) w' := (fun w' => by rw [hy2]; exact run_string_add_sum w' _ _ (by omega))
           clear hy1 hy2))
      all_goals
        go_wp2
        go_ret
        exact ⟨_, rfl, zy2, unhide HC3, gg3⟩
    · have n1 : (k == 1) = false := by simp [h1]
      clear h0 h1
      go_wp2
      go_ret
      exact ⟨_, rfl, by omega, unhide HC, gg⟩
end Go.Proofs.YtgfboghieejbkaaGreatDoor
namespace Go.Proofs.YtgfboghieejbkaaGreatDoor
open Go.RowKit
set_option linter.unusedSectionVars false
variable [∀ (a b c d : Int), Decidable (Ok4 a b c d)]
variable [∀ (a b c d : Nat), Decidable (okN a b c d)]
variable [∀ (last : Int) (s : St), Decidable (GoodSt last s)]
variable [∀ (x : T4), Decidable (OkT x)]

theorem itoa_short (n : Int) (h0 : -9223372036854775808 ≤ n) (h1 : n ≤ 9223372036854775807) : (Lib.itoa n).length ≤ 21 := by
  unfold Lib.itoa
  split
  · have := Lib.nDigits_le20 n.natAbs (by omega)
    rw [List.length_cons, Lib.decDigits_length]; omega
  · have := Lib.nDigits_le20 n.toNat (by omega)
    rw [Lib.decDigits_length]; omega
theorem txsT_len (ts : List T4) : (txsT ts).size ≤ ts.length * 28 := by
  unfold txsT
  split
  · rw [toB_size]; exact accT_len ts ts.length
  · exact Nat.zero_le _

set_option maxHeartbeats 8000000 in
set_option maxRecDepth 100000 in
theorem specNameOfW (up : ByteArray) (view : Int) (v : Value) (xs : List T4) (w : World) (hu : up.size + xs.length * 28 + 100 ≤ 33554432) (hx : xs.length ≤ 1048577) (h0 : -9223372036854775808 ≤ view) (h1 : view ≤ 9223372036854775807) (h : RT w v xs) :
    Calls Tryz.prog 165 #[.string up, .int .i64 view, v] w fun e w' => e = .returned (.string (nameAns up view xs)) ∧ Below w.heap.size w w' := by
  have DG := hide fun w => specDigits_any view w (by omega) (by omega)
  have TT := hide fun w h => specTxsText v xs w (by omega) h
  have RTH := hide h
  have NO := hide fun w => specNameOk (toB (nmOut up view xs)) w (by
    have := itoa_short view h0 h1
    have := txsT_len xs
    rw [toB_size]; unfold nmOut
    simp only [List.length_append, List.length_cons, Array.length_toList, ByteArray.size_data]
    omega)
  obtain ⟨hl, ao, ca, rfl, ha⟩ := h
  go_enter Tryz.func165, Tryz.ntmps165
  go_wp2
  go_loopw [7] (fun i wr => ∃ k : Nat, k ≤ xs.length ∧ i = .int .i64 k ∧ Hid (∀ j, j < k → OkT (xs.getD j (0, 0, 0, 0))) ∧ Below w.heap.size w wr) (fun i _ => xs.length - (intOf i).toNat)
  case atStart => exact ⟨0, Nat.zero_le _, rfl, hide (fun j hj => by omega), Below.refl _ _⟩
  case round =>
    obtain ⟨k, hk, rfl, HK, br⟩ := hrel
    have hsr := br.size
    by_cases hlt : k < xs.length
    · rcases ha with ha | ⟨g, rfl, ha⟩
      · subst ha; simp at hlt
      obtain ⟨a0, a1, a2, a3⟩ := ha k hlt
      have hg : g < w.heap.size := cell_lt a0
      have c0 := (br.cell (p := ⟨g, k * 4, none⟩) hg).trans a0
      have c1 := (br.cell (p := ⟨g, k * 4 + 1, none⟩) hg).trans a1
      have c2 := (br.cell (p := ⟨g, k * 4 + 2, none⟩) hg).trans a2
      have c3 := (br.cell (p := ⟨g, k * 4 + 3, none⟩) hg).trans a3
      have HNO : Hid (¬ OkT (xs.getD k (0, 0, 0, 0)) → nameAns up view xs = ⟨#[]⟩) := hide fun h => if_neg fun h2 => h (h2.1 _ (by rw [List.getD_eq_getElem?_getD, List.getElem?_eq_getElem hlt]; exact List.getElem_mem hlt))
      clear ha a0 a1 a2 a3
      generalize hxk : xs.getD k (0, 0, 0, 0) = x at *
      obtain ⟨xa, xb, xc, xd⟩ := x
      simp only at c0 c1 c2 c3
      by_cases hok : OkT (xa, xb, xc, xd)
      · have CK := hide fun w => specTxOk_yes xa xb xc xd w hok
        have HK' : Hid (∀ j, j < k + 1 → OkT (xs.getD j (0, 0, 0, 0))) := fun j hj => by
          by_cases e : j = k
          · subst e; rw [hxk]; exact hok
          · exact HK.out j (by omega)
        clear HK HNO hok hxk
        go_wp2_with fail
        refine (unhide CK _).mono ?_
        rintro e w1 ⟨rfl, b1⟩
        have b1' := br.trans (b1.mono hsr)
        clear c0 c1 c2 c3 b1 CK
        go_wp2
        go_roundw
        case rel => exact ⟨k + 1, by omega, by go_num, HK', b1'⟩
        case measure => simp [intOf]; omega
      · have CK := hide fun w => specTxOk_no xa xb xc xd w hok
        have HNO := hide (unhide HNO hok)
        clear HK hok hxk
        go_wp2_with fail
        refine (unhide CK _).mono ?_
        rintro e w1 ⟨rfl, b1⟩
        have b1' := br.trans (b1.mono hsr)
        clear c0 c1 c2 c3 b1 CK
        go_wp2
        go_ret
        exact ⟨by rw [unhide HNO]; rfl, b1'⟩
    · obtain rfl : k = xs.length := by omega
      have HA : Hid (∀ x ∈ xs, OkT x) := hide fun x hx => by
        obtain ⟨j, hj, rfl⟩ := List.getElem_of_mem hx
        have := HK.out j hj
        rwa [List.getD_eq_getElem?_getD, List.getElem?_eq_getElem hj] at this
      clear HK ha
      have NA : Hid (nameAns up view xs = if (stepsAns (toB (nmOut up view xs))).isSome then toB (nmOut up view xs) else ⟨#[]⟩) := hide (by
        unfold nameAns
        by_cases hq : (stepsAns (toB (nmOut up view xs))).isSome = true
        · rw [if_pos ⟨unhide HA, hq⟩, if_pos hq]
        · rw [if_neg fun e => hq e.2, if_neg hq])
      have EQ : up ++ (⟨#[47]⟩ : ByteArray) ++ (⟨(Lib.itoa view).toArray⟩ : ByteArray) ++ (⟨#[124]⟩ : ByteArray) ++ txsT xs = toB (nmOut up view xs) := by
        apply ba_ext
        rw [toB_list]
        simp [nmOut, ByteArray.data_append]
      have hd : (⟨(Lib.itoa view).toArray⟩ : ByteArray).size ≤ 21 := by
        have := itoa_short view h0 h1
        simpa [ByteArray.size] using this
      have hts := txsT_len xs
      obtain ⟨z, hz⟩ : ∃ z, toB (nmOut up view xs) = z := ⟨_, rfl⟩
      rw [hz] at NA NO EQ
      generalize (⟨(Lib.itoa view).toArray⟩ : ByteArray) = d at *
      generalize txsT xs = tt at *
      obtain ⟨b, hb⟩ : ∃ b, (stepsAns z).isSome = b := ⟨_, rfl⟩
      rw [hb] at NA NO
      clear hz hb HA
      have q1 : ∀ w, (Op.stringOp .add (up ++ (⟨#[47]⟩ : ByteArray)) d).run Tryz.prog w = .ok (.string (up ++ (⟨#[47]⟩ : ByteArray) ++ d)) w := fun w => run_string_add_sum w _ _ (by simp [ByteArray.size_append]; show up.size + 1 + d.size ≤ _; omega)
      have q2 : ∀ w, (Op.stringOp .add (up ++ (⟨#[47]⟩ : ByteArray) ++ d) (⟨#[124]⟩ : ByteArray)).run Tryz.prog w = .ok (.string (up ++ (⟨#[47]⟩ : ByteArray) ++ d ++ (⟨#[124]⟩ : ByteArray))) w := fun w => run_string_add_sum w _ _ (by simp [ByteArray.size_append]; show up.size + 1 + d.size + 1 ≤ _; omega)
      have q3 : ∀ w, (Op.stringOp .add (up ++ (⟨#[47]⟩ : ByteArray) ++ d ++ (⟨#[124]⟩ : ByteArray)) tt).run Tryz.prog w = .ok (.string z) w := fun w => by
        rw [run_string_add_sum w _ _ (by simp [ByteArray.size_append]; show up.size + 1 + d.size + 1 + tt.size ≤ _; omega), EQ]
      clear EQ
      go_wp2_with fail
      refine (unhide DG _).mono ?_
      rintro e w1 ⟨rfl, b1⟩
      have B1 := br.trans (b1.mono hsr)
      clear b1 DG
      generalize up ++ (⟨#[47]⟩ : ByteArray) = a1 at *
      generalize a1 ++ d = a2 at *
      generalize a2 ++ (⟨#[124]⟩ : ByteArray) = a3 at *
      go_wp2_with fail
      refine (unhide TT _ ((unhide RTH).below B1)).mono ?_
      rintro e w2 ⟨rfl, b2⟩
      have B2 := B1.trans (b2.mono B1.size)
      clear b2 TT
      go_wp2_with fail
      refine (unhide NO _).mono ?_
      rintro e w3 ⟨rfl, b3⟩
      have B3 := B2.trans (b3.mono B2.size)
      clear b3 NO
      cases b with
      | true =>
        go_wp2
        go_ret
        exact ⟨by rw [unhide NA]; rfl, B3⟩
      | false =>
        go_wp2
        go_ret
        exact ⟨by rw [unhide NA]; rfl, B3⟩
theorem specNameOf (up : ByteArray) (view : Int) (v : Value) (xs : List T4) (w : World) (hu : up.size + xs.length * 28 + 100 ≤ 1000000) (h0 : -999999 ≤ view) (h1 : view ≤ 999999) (h : RT w v xs) :
    Calls Tryz.prog 165 #[.string up, .int .i64 view, v] w fun e w' => e = .returned (.string (nameAns up view xs)) ∧ Below w.heap.size w w' :=
  specNameOfW up view v xs w (by omega) (by omega) (by omega) (by omega) h
end Go.Proofs.YtgfboghieejbkaaGreatDoor
namespace Go.Proofs.YtgfboghieejbkaaGreatDoor
open Go.RowKit
set_option linter.unusedSectionVars false
variable [∀ (a b c d : Int), Decidable (Ok4 a b c d)]
variable [∀ (a b c d : Nat), Decidable (okN a b c d)]
variable [∀ (x : T4), Decidable (OkT x)]
variable [∀ (last : Int) (s : St), Decidable (GoodSt last s)]

theorem grown_of_below {B : Nat} {w w' : World} (b : Below B w w') (h : B = w.heap.size) : w.grownBy w' none := by subst h; exact ⟨b.os, b.tape, b.output, b.size, fun k hk _ => b.block k hk⟩
theorem nm_len (ss : List St) (h : ∀ s ∈ ss, OkSt s) : (nm ss).length ≤ ss.length * 64 := by
  induction ss with
  | nil => simp [nm]
  | cons s ss ih =>
    have h1 := h s (by simp)
    have h2 := ih fun x hx => h x (by simp [hx])
    have h3 := txsT_len2 s.2 h1.2.1
    have h4 := nDigits_six s.1.toNat (by have := h1.1; omega)
    have e : nm (s :: ss) = 47 :: stText s ++ nm ss := by simp [nm]
    rw [e, List.length_append, List.length_cons, List.length_cons]
    unfold stText
    rw [List.length_append, List.length_cons, Lib.decDigits_length]
    have e2 : (txsT s.2).data.toList.length = (txsT s.2).size := by simp
    omega
theorem name_len {s : ByteArray} (h : (stepsAns s).isSome = true) : s.size ≤ 1920 := by
  cases hs : stepsAns s with
  | none => rw [hs] at h; cases h
  | some ss =>
    obtain ⟨h1, h2⟩ := (names_iff _ _).1 hs
    have h3 := nm_len ss h2.2.1
    have h4 := h2.1
    have e : s.size = s.data.toList.length := by simp
    rw [e, h1]; omega
theorem nameAns_len (up : ByteArray) (view : Int) (ts : List T4) : (nameAns up view ts).size ≤ 1920 := by
  unfold nameAns
  split
  · rename_i h; exact name_len h.2
  · exact Nat.zero_le _

set_option maxHeartbeats 8000000 in
set_option maxRecDepth 100000 in
theorem drawNameR (base g ca : Nat) (ao : Option Addr) (xs : List Int) (w : World) (hB : base ≤ w.heap.size) (h : Cur w base g ao ca xs) :
    Calls Tryz.prog 98 #[.pointer (some ⟨g, 0, none⟩)] w fun e w' => ∃ s : ByteArray, e = .returned (.string s) ∧ s.size ≤ 1920 ∧ Cur w' base g ao ca xs ∧ w.grownBy w' (some g) := by
  obtain ⟨i0, hi, hz0, hz1, hz2⟩ := info_parts Tryz.infoTx
  have hlt := h.lt
  have H0 := hide h
  clear h
  go_enter Tryz.func98, Tryz.ntmps98
  go_wp2
  go_loopw [3, 4, 5] (fun sv vv iv wr => ∃ (i : Nat) (view : Int) (s : ByteArray), i ≤ 6 ∧ iv = .int .i64 i ∧ vv = .int .i64 view ∧ 0 ≤ view ∧ view ≤ 3 * i ∧ sv = .string s ∧ s.size ≤ 1920 ∧ Cur wr base g ao ca xs ∧ w.grownBy wr (some g)) (fun _ _ iv _ => 7 - (intOf iv).toNat)
  case atStart => exact ⟨0, 0, ⟨#[]⟩, by omega, rfl, rfl, by omega, by omega, rfl, by decide, unhide H0, grown_refl _ _⟩
  case round =>
    clear H0
    obtain ⟨i, view, s, hi6, rfl, rfl, v0, v1, rfl, hs, hc, hg⟩ := hrel
    have hsz := hg.size
    have P := hide (And.intro hc hg)
    clear hc hg
    go_wp2_with fail
    refine (below_any base g ca ao xs 6 _ (by omega) (by omega) (by omega) (unhide P).1).mono ?_
    rintro e w1 ⟨n, rfl, _, n1, c1, e1⟩
    have s1 := e1.size
    have P1 := hide (And.intro c1 (grown_trans (unhide P).2 e1))
    clear P c1 e1
    by_cases hin : (i : Int) < n
    · go_wp2_with fail
      refine (below_any base g ca ao xs 4 _ (by omega) (by omega) (by omega) (unhide P1).1).mono ?_
      rintro e w2 ⟨q, rfl, q0, q1, c2, e2⟩
      have s2 := e2.size
      have P2 := hide (And.intro c2 (grown_trans (unhide P1).2 e2))
      clear P1 c2 e2
      have hqd : 0 ≤ q.tdiv 3 ∧ q.tdiv 3 ≤ 1 := by rw [Int.tdiv_eq_ediv_of_nonneg q0]; omega
      have hqe : 0 ≤ q / 3 ∧ q / 3 ≤ 1 := by omega
      have hw2 : w.heap.size ≤ w2.heap.size := by omega
      go_wp2
      go_loopw [6, 7] (fun lv kv w3 => ∃ (k : Nat) (ys : List T4), k ≤ 3 ∧ kv = .int .i64 k ∧ ys.length = k ∧ OT w3 w2.heap.size lv ys ∧ Cur w3 base g ao ca xs ∧ w.grownBy w3 (some g) ∧ w2.heap.size ≤ w3.heap.size) (fun _ kv _ => 4 - (intOf kv).toNat)
      case atStart => exact ⟨0, [], by omega, rfl, rfl, World.ownsRow_lit w2 #[] 0 (Nat.le_refl _) (by unfold maxLen; omega) rfl, (unhide P2).1.alloc (by omega) _, grown_trans (unhide P2).2 (World.grownBy_alloc _ _ _), by simp⟩
      case round =>
        clear P2
        obtain ⟨k, ys, hk, rfl, hyl, ho, hc, hg, hz⟩ := hrel
        have P := hide (And.intro ho (And.intro hc hg))
        clear ho hc hg
        go_wp2_with fail
        refine (below_any base g ca ao xs 3 _ (by omega) (by omega) (by omega) (unhide P).2.1).mono ?_
        rintro e w4 ⟨m, rfl, _, m1, c4, e4⟩
        have s4 := e4.size
        have P4 := hide (And.intro ((unhide P).1.grown e4 (by omega)) (And.intro c4 (grown_trans (unhide P).2.2 e4)))
        clear P c4 e4
        by_cases hkm : (k : Int) < m
        · go_wp2_with fail
          refine (drawRight base g ca ao xs _ (by omega) (unhide P4).2.1).mono ?_
          rintro e w5 ⟨a, b, c, d, rfl, c5, e5⟩
          have s5 := e5.size
          have ho5 := ot_alloc ((unhide P4).1.grown e5 (by omega)) (.cells #[.int .i64 a, .int .i64 b, .int .i64 c, .int .i64 d] 183)
          have hc5 := c5.alloc (by omega) (.cells #[.int .i64 a, .int .i64 b, .int .i64 c, .int .i64 d] 183)
          have hg5 := grown_trans (grown_trans (unhide P4).2.2 e5) (World.grownBy_alloc w5 (.cells #[.int .i64 a, .int .i64 b, .int .i64 c, .int .i64 d] 183) (some g))
          clear P4 c5 e5
          go_wp2_with (first
            | (at_builtin; refine wpList_append_own _ rfl _ _ 157 rfl w2.heap.size 183 i0 (txv 0 0 0 0) 4 32 Tryz.underlying157 hi hz0 hz1 hz2 rfl (by decide) _ _ _ rfl ho5 ⟨w5.heap.size, 0, none⟩ 1 1 (tcell (a, b, c, d)) rfl rfl (four_cell w5 (a, b, c, d) 183) (four_plain _) (by unfold maxLen; omega) (by omega) (by simp; omega) ?_; intro v' w6 ho' hg' _; have hl2 := ho5.lt; have R := (show OT w6 w2.heap.size v' (ys ++ [(a, b, c, d)]) by unfold OT; rw [tcells_append, List.length_append]; simpa [tcells] using ho'); have RC := hc5.grownNew hg' (fun j e => by have := (hl2 j e).1; omega); have RG := grown_new hg5 hg' (fun j e => by have := (hl2 j e).1; omega); have SZ : w2.heap.size ≤ w6.heap.size := (by have := hg'.size; simp at this; omega); clear ho5 ho' hg' hg5 hc5 hl2))
          go_roundw
          case rel => exact ⟨k + 1, _, by omega, by go_num, by simp [hyl], R, RC, RG, SZ⟩
          case measure => simp [intOf]; omega
        · have hd : decide ((k : Int) < m) = false := by simpa using hkm
          have hrt := (unhide P4).1.rt (by omega)
          have NM := hide fun vw h0 h1 => specNameOf s vw _ ys w4 (by omega) h0 h1 hrt
          clear hrt
          go_wp2_with fail
          refine (unhide NM _ (by omega) (by omega)).mono ?_
          rintro e w5 ⟨rfl, b5⟩
          have hn := nameAns_len s (view + 1 + q.tdiv 3) ys
          have c5 := (unhide P4).2.1.grownNew (grown_of_below b5 rfl) (fun j e => by cases e)
          have g5 := grown_new (unhide P4).2.2 (grown_of_below b5 rfl) (fun j e => by cases e)
          have H5 := hide (And.intro c5 g5)
          clear NM P4 b5 c5 g5
          go_wp2
          go_roundw
          case rel => exact ⟨i + 1, _, _, by omega, by go_num, rfl, by omega, by omega, rfl, by assumption, (unhide H5).1, (unhide H5).2⟩
          case measure => simp [intOf]; omega
    · have hd : decide ((i : Int) < n) = false := by simpa using hin
      go_wp2
      go_ret
      exact ⟨_, rfl, hs, (unhide P1).1, (unhide P1).2⟩

set_option maxHeartbeats 8000000 in
set_option maxRecDepth 100000 in
theorem drawName (base g ca : Nat) (ao : Option Addr) (xs : List Int) (w : World) (hB : base ≤ w.heap.size) (h : Cur w base g ao ca xs) :
    Calls Tryz.prog 129 #[.pointer (some ⟨g, 0, none⟩)] w fun e w' => ∃ s : ByteArray, e = .returned (.string s) ∧ s.size ≤ 8001 ∧ Cur w' base g ao ca xs ∧ w.grownBy w' (some g) := by
  have hlt := h.lt
  have H0 := hide h
  clear h
  go_enter Tryz.func129, Tryz.ntmps129
  go_wp2_with fail
  refine (once_any base g ca ao xs 20 _ (by omega) (by omega) (by omega) (unhide H0)).mono ?_
  rintro e w1 ⟨b, rfl, c1, e1⟩
  have s1 := e1.size
  have P1 := hide (And.intro c1 e1)
  clear H0 c1 e1
  cases b with
  | true =>
    go_wp2
    go_loopw [3, 4] (fun sv iv wr => ∃ (i : Nat) (s : ByteArray), 1 ≤ i ∧ i ≤ 32 ∧ iv = .int .i64 i ∧ sv = .string s ∧ s.size ≤ i * 8 ∧ Cur wr base g ao ca xs ∧ w.grownBy wr (some g)) (fun _ iv _ => 33 - (intOf iv).toNat)
    case atStart => exact ⟨1, ⟨#[]⟩, by omega, by omega, by go_num, rfl, by decide, (unhide P1).1, (unhide P1).2⟩
    case round =>
      clear P1
      obtain ⟨i, s, hi1, hi2, rfl, rfl, hs, hc, hg⟩ := hrel
      have hsz := hg.size
      have P := hide (And.intro hc hg)
      clear hc hg
      go_wp2_with fail
      refine (below_any base g ca ao xs 2 _ (by omega) (by omega) (by omega) (unhide P).1).mono ?_
      rintro e w2 ⟨n, rfl, n0, n1, c2, e2⟩
      have s2 := e2.size
      have P2 := hide (And.intro c2 (grown_trans (unhide P).2 e2))
      clear P c2 e2
      by_cases hin : (i : Int) ≤ 30 + n
      · have DG := hide fun w => specDigits_any (i : Int) w (by omega) (by omega)
        have hd : (⟨(Lib.itoa (i : Int)).toArray⟩ : ByteArray).size ≤ 6 := dg_size (i : Int) (by omega) (by omega)
        generalize (⟨(Lib.itoa (i : Int)).toArray⟩ : ByteArray) = d at *
        obtain ⟨y1, hy1⟩ : ∃ y, y = s ++ (⟨#[47]⟩ : ByteArray) := ⟨_, rfl⟩
        obtain ⟨y2, hy2⟩ : ∃ y, y = y1 ++ d := ⟨_, rfl⟩
        obtain ⟨y3, hy3⟩ : ∃ y, y = y2 ++ (⟨#[124]⟩ : ByteArray) := ⟨_, rfl⟩
        have z1 : y1.size = s.size + 1 := by rw [hy1, ByteArray.size_append]; rfl
        have z2 : y2.size = y1.size + d.size := by rw [hy2, ByteArray.size_append]
        have z3 : y3.size = y2.size + 1 := by rw [hy3, ByteArray.size_append]; rfl
        have q1 : ∀ w', (Op.stringOp .add s (⟨#[47]⟩ : ByteArray)).run Tryz.prog w' = .ok (.string y1) w' := (fun w' => by rw [hy1]; exact run_string_add_sum w' _ _ (by show s.size + 1 ≤ _; omega))
        have q2 : ∀ w', (Op.stringOp .add y1 d).run Tryz.prog w' = .ok (.string y2) w' := (fun w' => by rw [hy2]; exact run_string_add_sum w' _ _ (by omega))
        have q3 : ∀ w', (Op.stringOp .add y2 (⟨#[124]⟩ : ByteArray)).run Tryz.prog w' = .ok (.string y3) w' := (fun w' => by rw [hy3]; exact run_string_add_sum w' _ _ (by show y2.size + 1 ≤ _; omega))
        clear hy1 hy2 hy3
        go_wp2_with fail
        refine (unhide DG _).mono ?_
        rintro e w3 ⟨rfl, b3⟩
        have c3 := (unhide P2).1.grownNew (grown_of_below b3 rfl) (fun j e => by cases e)
        have g3 := grown_new (unhide P2).2 (grown_of_below b3 rfl) (fun j e => by cases e)
        have H3 := hide (And.intro c3 g3)
        clear DG P2 b3 c3 g3
        go_wp2
        go_roundw
        case rel => exact ⟨i + 1, y3, by omega, by omega, by go_num, rfl, by omega, (unhide H3).1, (unhide H3).2⟩
        case measure => simp [intOf]; omega
      · have hd : decide ((i : Int) ≤ 30 + n) = false := by simpa using hin
        go_wp2
        go_ret
        exact ⟨_, rfl, by omega, (unhide P2).1, (unhide P2).2⟩
  | false =>
    go_wp2_with fail
    refine (drawNameR base g ca ao xs _ (by omega) (unhide P1).1).mono ?_
    rintro e w2 ⟨s, rfl, hs, c2, e2⟩
    have s2 := e2.size
    have P2 := hide (And.intro c2 (grown_trans (unhide P1).2 e2))
    clear P1 c2 e2
    go_wp2_with fail
    refine (dent_cur base g ca ao xs s _ (by omega) (by omega) (unhide P2).1).mono ?_
    rintro e w3 ⟨t, rfl, ht, c3, e3⟩
    have P3 := hide (And.intro c3 (grown_trans (unhide P2).2 e3))
    clear P2 c3 e3
    go_wp2
    go_ret
    exact ⟨_, rfl, ht, (unhide P3).1, (unhide P3).2⟩
end Go.Proofs.YtgfboghieejbkaaGreatDoor
namespace Go.Proofs.YtgfboghieejbkaaGreatDoor
open Go.RowKit
set_option linter.unusedSectionVars false
variable [∀ (a b c d : Int), Decidable (Ok4 a b c d)]
variable [∀ (a b c d : Nat), Decidable (okN a b c d)]
variable [∀ (last : Int) (s : St), Decidable (GoodSt last s)]
variable [∀ (x : T4), Decidable (OkT x)]
variable [∀ (n : Int) (s : List Int), Decidable (OkL n s)]
variable [∀ (n f : Int), Decidable (COk n f)]

def up2 (s : ByteArray) : ByteArray := upAns (upAns s)
def stB (s : ByteArray) : Bool := decide (up2 s ≠ ⟨#[]⟩) && (viewAns s - viewAns (up2 s) == 2)
def stN (s : ByteArray) : ByteArray := if stB s = true then up2 s else ⟨#[]⟩
theorem up_none {s : ByteArray} (h : stepsAns s = none) : upAns s = ⟨#[]⟩ := by
  unfold upAns; rw [h]; rfl
theorem up_nil : upAns ⟨#[]⟩ = ⟨#[]⟩ := by unfold upAns; rw [steps_nil]; rfl
theorem up_size {s : ByteArray} : (upAns s).size ≤ 1920 := by
  cases h : stepsAns s with
  | none => rw [up_none h]; exact Nat.zero_le _
  | some ss => exact name_len (by rw [up_steps h]; rfl)
theorem up2_size {s : ByteArray} : (up2 s).size ≤ 1920 := up_size
theorem up_some (s : ByteArray) : (stepsAns (upAns s)).isSome = true := by
  cases h : stepsAns s with
  | none => rw [up_none h, steps_nil]; rfl
  | some ss => rw [up_steps h]; rfl
theorem up2_some (s : ByteArray) : (stepsAns (up2 s)).isSome = true := up_some _
theorem view_steps {s : ByteArray} {ss : List St} (h : stepsAns s = some ss) : viewAns s = (ss.getLast?.map (·.1)).getD 0 := by unfold viewAns; rw [h]; rfl
theorem st_none {s : ByteArray} (h : stepsAns s = none) : stB s = false := by
  unfold stB up2; rw [up_none h, up_nil]; simp
theorem st_few {s : ByteArray} {ss : List St} (h : stepsAns s = some ss) (hl : ss.length < 3) : stB s = false := by
  have h2 := up_steps (up_steps h)
  have he : ss.dropLast.dropLast = [] := List.length_eq_zero_iff.1 (by simp; omega)
  rw [he] at h2
  have : up2 s = ⟨#[]⟩ := ba_ext (by have := ((names_iff _ _).1 h2).1; simpa [nm, up2] using this)
  unfold stB; rw [this]; simp
theorem st_three {s : ByteArray} {tt : List St} {a b c : St} (h : stepsAns s = some (tt ++ [a, b, c])) : stB s = (c.1 == b.1 + 1 && b.1 == a.1 + 1) := by
  have h2 := up_steps (up_steps h)
  have e : (tt ++ [a, b, c]).dropLast.dropLast = tt ++ [a] := by
    rw [show tt ++ [a, b, c] = (tt ++ [a, b]) ++ [c] by simp, List.dropLast_concat, show tt ++ [a, b] = (tt ++ [a]) ++ [b] by simp, List.dropLast_concat]
  rw [e] at h2
  have hne : up2 s ≠ ⟨#[]⟩ := by
    intro e0
    unfold up2 at e0
    rw [e0, steps_nil] at h2
    simp at h2
  have ok := ((names_iff _ _).1 h).2.2.2
  rw [List.pairwise_append] at ok
  have hw := ok.2.1
  simp only [List.pairwise_cons, List.mem_cons, List.not_mem_nil, or_false] at hw
  have h1 := hw.1 b (.inl rfl)
  have h3 := hw.2.1 c rfl
  have v1 : viewAns s = c.1 := by rw [view_steps h]; simp
  have v2 : viewAns (up2 s) = a.1 := by unfold up2; rw [view_steps h2]; simp
  unfold stB
  rw [v1, v2, decide_eq_true hne, Bool.true_and, Bool.eq_iff_iff]
  simp only [Bool.and_eq_true, beq_iff_eq]
  omega
theorem last3 {ss : List St} (h : 3 ≤ ss.length) : ∃ tt, ss = tt ++ [ss.getD (ss.length - 3) zst, ss.getD (ss.length - 2) zst, ss.getD (ss.length - 1) zst] := by
  refine ⟨ss.take (ss.length - 3), ?_⟩
  conv => lhs; rw [← List.take_append_drop (ss.length - 3) ss]
  congr 1
  have d : ∀ k, k < ss.length → ss.drop k = ss.getD k zst :: ss.drop (k + 1) := fun k hk => by
    rw [List.drop_eq_getElem_cons hk, List.getD_eq_getElem?_getD, List.getElem?_eq_getElem hk]; rfl
  rw [d _ (by omega), d _ (by omega), d _ (by omega), show ss.length - 3 + 1 = ss.length - 2 by omega, show ss.length - 2 + 1 = ss.length - 1 by omega, List.drop_of_length_le (by omega)]
theorem st_last {s : ByteArray} {ss : List St} (h : stepsAns s = some ss) (hl : 3 ≤ ss.length) : stB s = ((ss.getD (ss.length - 1) zst).1 == (ss.getD (ss.length - 2) zst).1 + 1 && (ss.getD (ss.length - 2) zst).1 == (ss.getD (ss.length - 3) zst).1 + 1) := by
  obtain ⟨tt, e⟩ := last3 hl
  generalize ss.getD (ss.length - 1) zst = c at *
  generalize ss.getD (ss.length - 2) zst = b at *
  generalize ss.getD (ss.length - 3) zst = a at *
  rw [e] at h
  exact st_three h
theorem view_le (s : ByteArray) : 0 ≤ viewAns s ∧ viewAns s ≤ 60 := by
  refine ⟨?_, (height_view (s := s)).2.2⟩
  cases e : stepsAns s with
  | none => rw [view_none (by rw [e]; rfl)]; exact Int.le_refl _
  | some ss =>
    have := (height_view (s := s)).1
    unfold heightAns at this
    rw [e] at this
    simp only at this
    omega

def inB (x : Int) : Bool := decide (0 ≤ x) && decide (x ≤ 60)
def sokB (n f vo lo v : Int) (s : ByteArray) (xs : List Int) (d : ByteArray) : Bool := inB vo && inB lo && qokB n f v s xs && (stepsAns d).isSome
def ssamB (vo lo v : Int) (s : ByteArray) (xs : List Int) (d : ByteArray) (vo' lo' v' : Int) (s' : ByteArray) (xs' : List Int) (d' : ByteArray) : Bool := (vo == vo') && (lo == lo') && alikeB v v' s s' xs xs' && decide (d = d')
theorem ssam_me (vo lo v : Int) (s : ByteArray) (xs : List Int) (d : ByteArray) : ssamB vo lo v s xs d vo lo v s xs d = true := by simp [ssamB, alikeB]
def goB (n f vo lo v : Int) (s : ByteArray) (xs : List Int) (d : ByteArray) (v' : Int) (s' : ByteArray) (ys : List Int) : Bool := sokB n f vo lo v s xs d && qokB n f v' s' ys
def lockOf (lo : Int) (s' : ByteArray) : Int := if lo < viewAns (upAns s') then viewAns (upAns s') else lo
def doneOf (d s' : ByteArray) : ByteArray := if (stB s' && extB (up2 s') d) = true then up2 s' else d
def seeL (g : Bool) (lo : Int) (s' : ByteArray) : Int := if g = true then lockOf lo s' else lo
def seeV (g : Bool) (v v' : Int) : Int := if g = true then (if v < v' then v' else v) else v
def seeS (g : Bool) (v v' : Int) (s s' : ByteArray) : ByteArray := if g = true then (if v < v' then s' else s) else s
def seeX (g : Bool) (v v' : Int) (xs ys : List Int) : List Int := if g = true then (if v < v' then ys else xs) else xs
def seeD (g : Bool) (d s' : ByteArray) : ByteArray := if g = true then doneOf d s' else d
def mayB (n f vo lo v : Int) (s : ByteArray) (xs : List Int) (d m : ByteArray) (v' : Int) (s' : ByteArray) (ys : List Int) : Bool := sokB n f vo lo v s xs d && bokB n f m v' s' ys && decide (vo < viewAns m) && decide (lo ≤ v')
def votV (g : Bool) (vo : Int) (m : ByteArray) : Int := if g = true then viewAns m else vo
theorem sok_done {n f vo lo v : Int} {s : ByteArray} {xs : List Int} {d : ByteArray} (h : sokB n f vo lo v s xs d = true) : (0 ≤ vo ∧ vo ≤ 60) ∧ (0 ≤ lo ∧ lo ≤ 60) ∧ qokB n f v s xs = true ∧ (stepsAns d).isSome = true := by
  unfold sokB inB at h
  simp only [Bool.and_eq_true, decide_eq_true_eq] at h
  obtain ⟨⟨⟨⟨a, b⟩, ⟨c, e⟩⟩, q⟩, g⟩ := h
  exact ⟨⟨a, b⟩, ⟨c, e⟩, q, g⟩
theorem sok_mk {n f vo lo v : Int} {s : ByteArray} {xs : List Int} {d : ByteArray} (h1 : 0 ≤ vo) (h2 : vo ≤ 60) (h3 : 0 ≤ lo) (h4 : lo ≤ 60) (h5 : qokB n f v s xs = true) (h6 : (stepsAns d).isSome = true) : sokB n f vo lo v s xs d = true := by
  simp [sokB, inB, h1, h2, h3, h4, h5, h6]
theorem lock_le (lo : Int) (s' : ByteArray) : lo ≤ lockOf lo s' ∧ (lo ≤ 60 → lockOf lo s' ≤ 60) := by
  have := view_le (upAns s')
  unfold lockOf; split <;> omega
theorem see_ok {n f vo lo v : Int} {s : ByteArray} {xs : List Int} {d : ByteArray} {v' : Int} {s' : ByteArray} {ys : List Int} (g : Bool) (hg : goB n f vo lo v s xs d v' s' ys = g) (h : sokB n f vo lo v s xs d = true) : sokB n f vo (seeL g lo s') (seeV g v v') (seeS g v v' s s') (seeX g v v' xs ys) (seeD g d s') = true := by
  cases g with
  | false => simpa [seeL, seeV, seeS, seeX, seeD] using h
  | true =>
    obtain ⟨h1, h2, h3, h4⟩ := sok_done h
    have hq : qokB n f v' s' ys = true := by unfold goB at hg; simp only [Bool.and_eq_true] at hg; exact hg.2
    have hl := lock_le lo s'
    refine sok_mk h1.1 h1.2 ?_ ?_ ?_ ?_
    · show 0 ≤ lockOf lo s'; omega
    · exact hl.2 h2.2
    · unfold seeV seeS seeX; simp only [if_true]; split
      · exact hq
      · exact h3
    · show (stepsAns (doneOf d s')).isSome = true
      unfold doneOf; split
      · exact up2_some _
      · exact h4
theorem may_again (n f lo v : Int) (s : ByteArray) (xs : List Int) (d m : ByteArray) (v' : Int) (s' : ByteArray) (ys : List Int) : mayB n f (viewAns m) lo v s xs d m v' s' ys = false := by
  unfold mayB; simp
theorem may_lock (n f vo v : Int) (s : ByteArray) (xs : List Int) (d m : ByteArray) (v' : Int) (s' : ByteArray) (ys : List Int) : mayB n f vo (v' + 1) v s xs d m v' s' ys = false := by
  unfold mayB
  have : decide (v' + 1 ≤ v') = false := by simp; omega
  rw [this, Bool.and_false]
theorem goB_eq {n f vo lo v : Int} {s : ByteArray} {xs : List Int} {d : ByteArray} (h : sokB n f vo lo v s xs d = true) (v' : Int) (s' : ByteArray) (ys : List Int) : goB n f vo lo v s xs d v' s' ys = qokB n f v' s' ys := by unfold goB; rw [h]; rfl
theorem goB_no {n f vo lo v : Int} {s : ByteArray} {xs : List Int} {d : ByteArray} (h : sokB n f vo lo v s xs d = false) (v' : Int) (s' : ByteArray) (ys : List Int) : goB n f vo lo v s xs d v' s' ys = false := by unfold goB; rw [h]; rfl
theorem max_swap (a b c : Int) : (if (if a < b then b else a) < c then c else (if a < b then b else a)) = (if (if a < c then c else a) < b then b else (if a < c then c else a)) := by
  by_cases h1 : a < b
  · rw [if_pos h1]
    by_cases h2 : a < c
    · rw [if_pos h2]
      by_cases h3 : b < c
      · rw [if_pos h3, if_neg (by omega)]
      · rw [if_neg h3]
        by_cases h4 : c < b
        · rw [if_pos h4]
        · rw [if_neg h4]; omega
    · rw [if_neg h2, if_pos h1, if_neg (by omega)]
  · rw [if_neg h1]
    by_cases h2 : a < c
    · rw [if_pos h2, if_neg (by omega)]
    · rw [if_neg h2, if_neg h1]
theorem either (n f vo lo v : Int) (s : ByteArray) (xs : List Int) (d : ByteArray) (v1 : Int) (s1 : ByteArray) (x1 : List Int) (v2 : Int) (s2 : ByteArray) (x2 : List Int) (g1 g2 h1 h2 : Bool)
    (e1 : goB n f vo lo v s xs d v1 s1 x1 = g1) (e2 : goB n f vo (seeL g1 lo s1) (seeV g1 v v1) (seeS g1 v v1 s s1) (seeX g1 v v1 xs x1) (seeD g1 d s1) v2 s2 x2 = g2)
    (e3 : goB n f vo lo v s xs d v2 s2 x2 = h1) (e4 : goB n f vo (seeL h1 lo s2) (seeV h1 v v2) (seeS h1 v v2 s s2) (seeX h1 v v2 xs x2) (seeD h1 d s2) v1 s1 x1 = h2) :
    seeL g2 (seeL g1 lo s1) s2 = seeL h2 (seeL h1 lo s2) s1 ∧ seeV g2 (seeV g1 v v1) v2 = seeV h2 (seeV h1 v v2) v1 := by
  cases hs : sokB n f vo lo v s xs d with
  | false =>
    have a := goB_no hs v1 s1 x1
    have b := goB_no hs v2 s2 x2
    obtain rfl : g1 = false := e1.symm.trans a
    obtain rfl : h1 = false := e3.symm.trans b
    simp only [seeL, seeV, seeS, seeX, seeD, Bool.false_eq_true, if_false] at e2 e4 ⊢
    obtain rfl : g2 = false := e2.symm.trans b
    obtain rfl : h2 = false := e4.symm.trans a
    simp
  | true =>
    have a := goB_eq hs v1 s1 x1
    have b := goB_eq hs v2 s2 x2
    have c := goB_eq (see_ok g1 e1 hs) v2 s2 x2
    have c' := goB_eq (see_ok h1 e3 hs) v1 s1 x1
    obtain rfl : g1 = h2 := (e1.symm.trans a).trans (c'.symm.trans e4)
    obtain rfl : g2 = h1 := (e2.symm.trans c).trans (b.symm.trans e3)
    unfold seeL seeV lockOf
    cases g1 <;> cases g2 <;> simp only [Bool.false_eq_true, if_false, if_true] <;> first | exact ⟨trivial, trivial⟩ | exact ⟨rfl, rfl⟩ | exact ⟨max_swap _ _ _, max_swap _ _ _⟩
end Go.Proofs.YtgfboghieejbkaaGreatDoor
namespace Go.Proofs.YtgfboghieejbkaaGreatDoor
open Go.RowKit

abbrev bv (m : ByteArray) (n : Int) (s : ByteArray) (v : Value) : Value := .agg #[.string m, .int .i64 n, .string s, v]

theorem Kp.same (w : World) (X : Nat → Prop) : Kp w w X := Below.kpOf (Below.refl w.heap.size w) X
theorem Kp.put {a b : World} {X : Nat → Prop} (h : Kp a b X) {g : Nat} (hg : X g) (j : Nat) (v : Value) : Kp a (b.setCell ⟨g, j, none⟩ v) X := h.trans ((set_kp _ _ _ _).mono fun _ e => e ▸ hg)
abbrev zb : Array Value := #[.string ⟨#[]⟩, .int .i64 0, .string ⟨#[]⟩, .slice none 0 0]
theorem kp4 (w : World) (g : Nat) (a b c d : Value) : Kp w ((((w.setCell ⟨g, 0, none⟩ a).setCell ⟨g, 1, none⟩ b).setCell ⟨g, 2, none⟩ c).setCell ⟨g, 3, none⟩ d) (fun k => k = g) :=
  (((set_kp _ _ _ _).trans (set_kp _ _ _ _)).trans (set_kp _ _ _ _)).trans (set_kp _ _ _ _)
theorem Loc.set4 {w : World} {g : Nat} {x y z u : Value} (h : Loc w g #[x, y, z, u]) (a b c d : Value) : Loc ((((w.setCell ⟨g, 0, none⟩ a).setCell ⟨g, 1, none⟩ b).setCell ⟨g, 2, none⟩ c).setCell ⟨g, 3, none⟩ d) g #[a, b, c, d] :=
  (((h.set 0 a (cs' := #[a, y, z, u]) rfl).set 1 b (cs' := #[a, b, z, u]) rfl).set 2 c (cs' := #[a, b, c, u]) rfl).set 3 d (cs' := #[a, b, c, d]) rfl
end Go.Proofs.YtgfboghieejbkaaGreatDoor
