/- Texts that belong together: QcPlain, PartQci, SameL, TooFewWalk, IntsOpen. -/
import Derived.Test.YtehdchpolgihlaaGreatDoorTfAX
import Derived.Test.YtehdchpolgihlaaGreatDoorTfAV
import Derived.Test.YtehdchpolgihlaaGreatDoorTfAY
import Derived.Test.YtehdchpolgihlaaGreatDoorTfAJ
import Derived.Test.YtehdchpolgihlaaGreatDoorTfAL
import Derived.Test.YtehdchpolgihlaaGreatDoorTfAA
import Derived.Test.YtehdchpolgihlaaGreatDoorTfAQ
import Derived.Deep.RegionHeld3
import Derived.Deep.DeepCutAuto
import Derived.Test.YtehdchpolgihlaaGreatDoorTfAC
import Derived.Test.YtehdchpolgihlaaGreatDoorTfAE
import Derived.WalkKit
import Derived.ProofKit
import Derived.OpenShut
import Derived.ShutString
import Derived.ChangeOld
import Derived.Below
import Derived.Lib.SmallJoins
/- Two certificates have more in common than there are liars: plain mathematics; QcOk of the program is that of the specification. -/
namespace Go.Proofs.YtehdchpolgihlaaGreatDoor
open Go.RowKit
set_option linter.unusedSectionVars false
variable [∀ (a b c d : Int), Decidable (Ok4 a b c d)]
variable [∀ (n f : Int), Decidable (COk n f)]
variable [∀ (n : Int) (s : List Int), Decidable (OkL n s)]
variable [∀ (a b c d : Nat), Decidable (okN a b c d)]
variable [∀ (last : Int) (s : St), Decidable (GoodSt last s)]
variable [∀ (x : T4), Decidable (OkT x)]

theorem steps_nil : stepsAns ⟨#[]⟩ = some [] := by simp [stepsAns]
theorem view_nil : viewAns ⟨#[]⟩ = 0 := by simp [viewAns, steps_nil]
theorem view_pos {s : ByteArray} (h : (stepsAns s).isSome = true) (hs : s ≠ ⟨#[]⟩) : 0 < viewAns s := by
  obtain ⟨ss, e⟩ := Option.isSome_iff_exists.1 h
  have h1 := (height_view (s := s)).1
  unfold heightAns at h1
  rw [e] at h1
  have hne : ss ≠ [] := by
    rintro rfl
    have := ((names_iff _ _).1 e).1
    exact hs (ba_ext (by simpa [nm] using this))
  have := List.length_pos_iff.2 hne
  simp only at h1
  omega
theorem qok_eq (n f v : Int) (s : ByteArray) (xs : List Int) : (decide (COk n f) && (alikeB v 0 s ⟨#[]⟩ xs [] || votedB n f v s xs)) = qokB n f v s xs := by
  unfold qokB votedB alikeB
  by_cases hc : COk n f
  · simp only [hc, decide_true, Bool.true_and]
    by_cases hs : s = ⟨#[]⟩
    · subst hs
      rw [steps_nil, view_nil]
      by_cases hv : v = 0
      · subst hv
        simp
      · have h1 : (v == 0) = false := by simpa using hv
        have h2 : ((0 : Int) == v) = false := by simp; omega
        simp [h1, h2, hv]
    · simp only [hs, false_and, and_false, decide_false, Bool.false_or, if_false]
      cases hn : (stepsAns s).isSome with
      | false =>
        rw [view_none hn]
        by_cases hv : v = 0
        · subst hv; simp
        · have h1 : (v == 0) = false := by simpa using hv
          simp [h1]
      | true =>
        have hp := view_pos hn hs
        by_cases hv : v = viewAns s
        · subst hv
          have h1 : decide (0 < viewAns s) = true := by simpa using hp
          simp only [h1, beq_self_eq_true, Bool.true_and]
          rw [Bool.and_comm]
        · have h1 : (v == viewAns s) = false := by simpa using hv
          have h2 : (viewAns s == v) = false := by simp; omega
          simp [h1, h2]
  · simp [hc]
theorem implQcOk (n f v : Int) (s : ByteArray) (ao : Option Addr) (ca : Nat) (xs : List Int) (w : World) (hs : s.size ≤ 33554432) (hE : Env w) (ha : RI w (.slice ao xs.length ca) xs) :
    Calls Tryz.prog 33 #[cv n f, qv v s (.slice ao xs.length ca)] w fun e w' => e = .returned (.bool (qokB n f v s xs)) ∧ Below w.heap.size w w' := by
  have := implQcOk_at n f v s ao ca xs w hs hE ha
  rwa [qok_eq] at this

/-- Sets of so many of n: more in common than liars. -/
theorem common_more {n : Int} {a b : List Int} (h4 : 4 ≤ n) (ha : OkL n a) (hb : OkL n b) (la : n - (n - 1) / 3 ≤ (a.length : Int)) (lb : n - (n - 1) / 3 ≤ (b.length : Int)) : (n - 1) / 3 < (comL a b : Int) := by
  have hj := join_len a b ha.2 hb.2
  have hk := ok_join ha hb
  have hle : ((joinL a b).length : Int) ≤ n := by
    have hl : ∀ (l : List Int) (m : Int), 0 ≤ m → OkL m l → (l.length : Int) ≤ m := by
      intro l
      generalize hn : l.length = k
      induction k generalizing l with
      | zero => intro m hm _; simpa using hm
      | succ k ih =>
        intro m hm ho
        obtain ⟨l', x, rfl⟩ : ∃ l' x, l = l' ++ [x] := ⟨l.dropLast, l.getLast (fun e => by rw [e] at hn; simp at hn), (List.dropLast_concat_getLast _).symm⟩
        have hx := ho.1 x (by simp)
        have hp := ho.2
        rw [List.pairwise_append] at hp
        have := ih l' (by simpa using hn) x hx.1 ⟨fun y hy => ⟨(ho.1 y (by simp [hy])).1, hp.2.2 y hy x (by simp)⟩, hp.1⟩
        push_cast
        omega
    exact hl _ n (by omega) hk
  omega
/-- What a certificate that is right and not the first has. -/
theorem qok_has {n f v : Int} {s : ByteArray} {xs : List Int} (h : qokB n f v s xs = true) (hs : s ≠ ⟨#[]⟩) : COk n f ∧ OkL n xs ∧ n - (n - 1) / 3 ≤ (xs.length : Int) := by
  unfold qokB at h
  simp only [hs, if_false, Bool.and_eq_true, decide_eq_true_eq] at h
  obtain ⟨⟨⟨hc, _⟩, _⟩, ho, hl⟩ := h
  exact ⟨hc, ho, by simpa [quorumOf, hc] using hl⟩
end Go.Proofs.YtehdchpolgihlaaGreatDoor

/- PartQci: PartQc of the program. -/
namespace Go.Proofs.YtehdchpolgihlaaGreatDoor
open Go.RowKit
set_option linter.unusedSectionVars false
variable [∀ (a b c d : Int), Decidable (Ok4 a b c d)]
variable [∀ (a b c d : Nat), Decidable (okN a b c d)]
variable [∀ (last : Int) (s : St), Decidable (GoodSt last s)]
variable [∀ (x : T4), Decidable (OkT x)]
variable [∀ (n : Int) (s : List Int), Decidable (OkL n s)]
variable [∀ (n f : Int), Decidable (COk n f)]

set_option maxHeartbeats 8000000 in
set_option maxRecDepth 100000 in
theorem implPartQc (n f m : Int) (s : ByteArray) (u : Value) (xs : List Int) (w : World) (hs : s.size ≤ 33554432) (hE : Env w) (hu : RI w u xs) :
    Calls Tryz.prog 16 #[cv n f, qv m s u] w fun e w' => ∃ r, e = .returned (.tuple #[qv (if (decide (s ≠ ⟨#[]⟩) && qokB n f m s xs) then m else 0) (if (decide (s ≠ ⟨#[]⟩) && qokB n f m s xs) then s else ⟨#[]⟩) r, .bool (decide (s ≠ ⟨#[]⟩) && qokB n f m s xs)]) ∧ OI w' w.heap.size r (if (decide (s ≠ ⟨#[]⟩) && qokB n f m s xs) then xs else []) ∧ Below w.heap.size w w' := by
  obtain ⟨ua, uc, rfl⟩ := hu.form
  obtain ⟨w0, hw0⟩ : ∃ y, (((w.alloc (.cells #[.int .i64 n, .int .i64 f] 32)).alloc (.cells #[.int .i64 m, .string s, .slice ua xs.length uc] 26)).alloc zq).alloc (.cells #[.int .i64 m, .string s, .slice ua xs.length uc] 40) = y := ⟨_, rfl⟩
  have B : Below w.heap.size w w0 := hw0 ▸ (((qalloc2 _ _ _).alloc (by simp; omega) _).alloc (by simp; omega) _)
  have C : Loc w0 w.heap.size #[.int .i64 n, .int .i64 f] := hw0 ▸ (((loc_at w _ _ rfl).alloc _).alloc _).alloc _
  have R : Loc w0 (w.heap.size + 1 + 1) #[.int .i64 0, .string ⟨#[]⟩, .slice none 0 0] := hw0 ▸ (loc_at ((w.alloc _).alloc _) _ _ (by simp)).alloc _
  have Q : Loc w0 (w.heap.size + 1 + 1 + 1) #[.int .i64 m, .string s, .slice ua xs.length uc] := hw0 ▸ (loc_at (((w.alloc _).alloc _).alloc _) _ _ (by simp))
  have s0 : w0.heap.size = w.heap.size + 1 + 1 + 1 + 1 := by rw [← hw0]; simp
  have QO := hide (implQcOk_at n f m s ua uc xs w0 hs (hE.below B) (hu.below B (Nat.le_refl _)))
  rw [qok_eq] at QO
  have TQ := hide fun w' (b : Below w0.heap.size w0 w') l => qtold_any (w.heap.size + 1 + 1 + 1) m s ua uc xs w' l ((hu.below B (Nat.le_refl _)).below b (Nat.le_refl _)) (by omega)
  obtain ⟨k, hk⟩ : ∃ k, xs.length = k := ⟨_, rfl⟩
  replace hk := hide hk
  rw [unhide hk] at hw0 Q QO TQ ⊢
  generalize qokB n f m s xs = qb at *
  have NO : Hid (∀ w2, Below w.heap.size w w2 → Below w.heap.size w (((w2.setCell ⟨w.heap.size + 1 + 1, 0, none⟩ (.int .i64 0)).setCell ⟨w.heap.size + 1 + 1, 1, none⟩ (.string ⟨#[]⟩)).setCell ⟨w.heap.size + 1 + 1, 2, none⟩ (.slice none 0 0))) := hide fun w2 b => by
    have K5 : Kp w2 (((w2.setCell ⟨w.heap.size + 1 + 1, 0, none⟩ (.int .i64 0)).setCell ⟨w.heap.size + 1 + 1, 1, none⟩ (.string ⟨#[]⟩)).setCell ⟨w.heap.size + 1 + 1, 2, none⟩ (.slice none 0 0)) (fun k => k = w.heap.size + 1 + 1) := ((set_kp _ _ _ _).trans (set_kp _ _ _ _)).trans (set_kp _ _ _ _)
    exact Below.kp b K5 b.size (fun k hk => by omega)
  have c0 := C.cell 0 rfl
  have c1 := C.cell 1 rfl
  have q0 := Q.cell 0 rfl
  have q1 := Q.cell 1 rfl
  have q2 := Q.cell 2 rfl
  clear hE hu C
  by_cases he : s = ⟨#[]⟩
  · have hd : decide (s ≠ ⟨#[]⟩) = false := by simpa using he
    have hy : (s.toList == []) = true := by rw [he, ByteArray.toList_eq]; rfl
    rw [hd]
    simp only [Bool.false_and, Bool.false_eq_true, if_false]
    have r0 := R.cell 0 rfl
    have r1 := R.cell 1 rfl
    have r2 := R.cell 2 rfl
    have fr := R.frozen
    have B' := hide (unhide NO _ B)
    clear he hd QO TQ R Q NO B
    go_enter Tryz.func16, Tryz.ntmps16
    go_wp2
    refine bodyPost_ret (v := .tuple #[qv 0 ⟨#[]⟩ (.slice none 0 0), .bool false]) (by simp [results, Tryz.results16, go_sem, r0, r1, r2]) rfl ?_
    exact ⟨_, rfl, World.ownsRow_nil _ _ _ _, unhide B'⟩
  · have hd : decide (s ≠ ⟨#[]⟩) = true := by simpa using he
    have hne := ne2 he
    rw [hd]
    simp only [Bool.true_and]
    clear he hd
    cases qb with
    | false =>
      simp only [Bool.false_eq_true, if_false]
      go_enter Tryz.func16, Tryz.ntmps16
      go_wp2_with fail
      clear hw0 c0 c1 q0 q1 q2 hne
      refine (unhide QO).mono ?_
      rintro e w2 ⟨rfl, b2⟩
      have B2 := B.trans (b2.mono B.size)
      replace R := R.below b2 R.lt
      have r0 := R.cell 0 rfl
      have r1 := R.cell 1 rfl
      have r2 := R.cell 2 rfl
      have fr := R.frozen
      have B' := hide (unhide NO _ B2)
      clear QO TQ R Q NO B B2 b2
      go_wp2
      refine bodyPost_ret (v := .tuple #[qv 0 ⟨#[]⟩ (.slice none 0 0), .bool false]) (by simp [results, Tryz.results16, go_sem, r0, r1, r2]) rfl ?_
      exact ⟨_, rfl, World.ownsRow_nil _ _ _ _, unhide B'⟩
    | true =>
      simp only [if_true]
      go_enter Tryz.func16, Tryz.ntmps16
      go_wp2_with fail
      clear hw0 c0 c1 q0 q1 q2 hne
      refine (unhide QO).mono ?_
      rintro e w2 ⟨rfl, b2⟩
      have B2 := B.trans (b2.mono B.size)
      replace R := R.below b2 R.lt
      have TT := hide (unhide TQ w2 b2 (Q.below b2 Q.lt))
      have s2 := b2.size
      clear QO TQ Q NO B b2
      go_wp2_with fail
      refine (unhide TT).mono ?_
      rintro e w3 ⟨r, rfl, o3, b3⟩
      have B3 := B2.trans (b3.mono B2.size)
      replace R := R.below b3 R.lt
      have r0 := R.cell 0 rfl
      have r1 := R.cell 1 rfl
      have r2 := R.cell 2 rfl
      have fr := R.frozen
      have lt3 := World.ownsRow.lt o3
      obtain ⟨ra, rc, hr⟩ := o3.form
      rw [unhide hk] at hr
      subst hr
      have O3 := hide o3
      clear R b3 o3 TT B2
      go_wp2
      refine bodyPost_ret (v := .tuple #[qv m s (.slice ra k rc), .bool true]) (by simp [results, Tryz.results16, go_sem, r0, r1, r2]) rfl ?_
      have K5 : Kp w3 (((w3.setCell ⟨w.heap.size + 1 + 1, 0, none⟩ (.int .i64 m)).setCell ⟨w.heap.size + 1 + 1, 1, none⟩ (.string s)).setCell ⟨w.heap.size + 1 + 1, 2, none⟩ (.slice ra k rc)) (fun k => k = w.heap.size + 1 + 1) := ((set_kp _ _ _ _).trans (set_kp _ _ _ _)).trans (set_kp _ _ _ _)
      exact ⟨_, rfl, ((unhide O3).kp K5 (fun k hk => by have := lt3 k hk; omega)).mono (by omega), Below.kp B3 K5 B3.size (fun k hk => by omega)⟩
end Go.Proofs.YtehdchpolgihlaaGreatDoor

/- laws.sameInts, laws.sameLedger, laws.big. -/
namespace Go.Proofs.YtehdchpolgihlaaGreatDoor
open Go.RowKit

set_option maxHeartbeats 1600000 in
set_option maxRecDepth 100000 in
theorem sameInts_yes (va vb : Value) (xs : List Int) (w : World) (ha : RI w va xs) (hb : RI w vb xs) :
    Calls Tryz.prog 70 #[va, vb] w fun e w' => e = .returned (.bool true) ∧ ∃ n, w' = w.drewN n := by
  obtain ⟨hl, ao, ca, rfl, ha⟩ := ha
  obtain ⟨_, bo, cb, rfl, hb⟩ := hb
  generalize hn : xs.length = n at *
  have Hn : Hid (xs.length = n) := hn
  clear hn
  go_enter Tryz.func70, Tryz.ntmps70
  go_wp2
  go_loopw [5] (fun i wr => ∃ k : Nat, k ≤ n ∧ i = .int .i64 k ∧ ∃ m, wr = w.drewN m) (fun i _ => n - (intOf i).toNat)
  case atStart => exact ⟨0, Nat.zero_le _, rfl, 0, rfl⟩
  case round =>
    obtain ⟨k, hk, rfl, m, rfl⟩ := hrel
    by_cases hlt : k < n
    · rcases ha with ha | ⟨b, off, rfl, ha⟩
      · subst ha; have := Hn.out; simp at this; omega
      rcases hb with hb | ⟨b', off', rfl, hb⟩
      · subst hb; have := Hn.out; simp at this; omega
      have ha' := ha k hlt
      have hb' := hb k hlt
      clear ha hb
      generalize xs.getD k 0 = d at *
      go_wp2_with fail
      go_quiet (fail)
      go_wp2
      go_roundw
      case rel => exact ⟨k + 1, by omega, by go_num, _, rfl⟩
      case measure => simp [intOf]; omega
    · clear ha hb
      go_wp2
      go_ret
      exact ⟨rfl, _, rfl⟩

set_option maxHeartbeats 1600000 in
set_option maxRecDepth 100000 in
theorem big_any (ao : Option Addr) (n ca : Nat) (w : World) (hn : n ≤ 9223372036854775807) :
    Calls Tryz.prog 8 #[.slice ao n ca] w fun e w' => e = .returned (.bool (decide (1048576 < n))) ∧ Below w.heap.size w w' := by
  have hd : decide ((1048576 : Int) < (n : Int)) = decide (1048576 < n) := by simp; omega
  go_enter Tryz.func8, Tryz.ntmps8
  go_wp2
  go_ret
  refine ⟨?_, Below.refl _ _⟩
  simp
  try omega
end Go.Proofs.YtehdchpolgihlaaGreatDoor

/- The walk of laws.FnTooFew. -/
namespace Go.Proofs.YtehdchpolgihlaaGreatDoor
open Go.RowKit
set_option linter.unusedSectionVars false
variable [∀ (a b c d : Int), Decidable (Ok4 a b c d)]
variable [∀ (a b c d : Nat), Decidable (okN a b c d)]
variable [∀ (x : T4), Decidable (OkT x)]
variable [∀ (n f : Int), Decidable (COk n f)]
variable [∀ (last : Int) (s : St), Decidable (GoodSt last s)]
variable [∀ (n : Int) (s : List Int), Decidable (OkL n s)]

theorem quorum_is {n f : Int} (hn0 : 4 ≤ n) (hn1 : n ≤ 7) (hf0 : 1 ≤ f) (hf1 : f ≤ 3) : 3 ≤ quorumOf n f ∧ quorumOf n f ≤ 5 := by
  have hc : COk n f := ⟨⟨hn0, hn1⟩, hf0, by omega⟩
  unfold quorumOf
  rw [if_pos hc]
  omega
/-- Fewer than a quorum certify nothing. -/
theorem few_no {n f v : Int} {s : ByteArray} {ys : List Int} (hn0 : 4 ≤ n) (hn1 : n ≤ 7) (hf0 : 1 ≤ f) (hf1 : f ≤ 3) (h : (ys.length : Int) < quorumOf n f) : (decide (s ≠ ⟨#[]⟩) && qokB n f v s ys) = false := by
  cases e : (decide (s ≠ ⟨#[]⟩) && qokB n f v s ys) with
  | false => rfl
  | true =>
    rw [Bool.and_eq_true, decide_eq_true_iff] at e
    have h2 := (qok_has e.2 e.1).2.2
    have hc : COk n f := ⟨⟨hn0, hn1⟩, hf0, by omega⟩
    unfold quorumOf at h
    rw [if_pos hc] at h
    omega

set_option maxHeartbeats 8000000 in
set_option maxRecDepth 100000 in
theorem fnTooFew_short (ao : Option Addr) (ca : Nat) (zs : List Int) (w : World) (h : DCode w ao zs) (hE : Env w) :
    Calls Tryz.prog 4 #[.slice ao zs.length ca] w fun e w' => e = .returned (.bool true) ∧ Below w.heap.size w w' := by
  have hz := h.len
  have BG := hide fun w => big_any ao zs.length ca w (by omega)
  rw [decide_eq_false (show ¬ 1048576 < zs.length by omega)] at BG
  have DQ := hide fun w' (hb : Below w.heap.size w w') => drawPartQc ao ca zs w' (h.below hb (Nat.le_refl _))
  have HE := hide fun w' (hb : Below w.heap.size w w') => hE.below hb
  generalize zs.length = zl at *
  clear h hE
  go_enter Tryz.func4, Tryz.ntmps4
  have Bw : Below w.heap.size w w := Below.refl _ _
  go_wp2_with fail
  refine (unhide BG _).mono ?_
  rintro _ w1 ⟨rfl, bb⟩
  have Bw1 := Bw.trans (bb.mono Bw.size)
  have sw1 := bb.size
  clear Bw
  clear bb
  clear BG
  go_wp2_with fail
  refine (unhide DQ _ Bw1).mono ?_
  rintro _ w2 ⟨n, f, v, s, u, xs, rfl, ⟨hn0, hn1⟩, ⟨hf0, hf1⟩, hv, hs, hl, hw, O, bb⟩
  have Bw2 := Bw1.trans (bb.mono Bw1.size)
  have sw2 := bb.size
  clear Bw1
  clear bb
  clear DQ
  have tO := World.ownsRow.lt O
  obtain ⟨aO, kO, rfl⟩ := O.form
  have hQ := quorum_is hn0 hn1 hf0 hf1
  have HQ := hide (fun (ys : List Int) (h : (ys.length : Int) < quorumOf n f) => few_no (v := v) (s := s) hn0 hn1 hf0 hf1 h)
  have IP := hide fun u ys w (hE : Env w) h => implPartQc n f v s u ys w (by omega) hE h
  obtain ⟨xl, hxl⟩ : ∃ l, xs.length = l := ⟨_, rfl⟩
  rw [hxl] at O tO hl ⊢
  have Hxl := hide hxl
  clear hxl
  obtain ⟨k, hk⟩ : ∃ k : Nat, quorumOf n f = (k : Int) + 1 := ⟨(quorumOf n f - 1).toNat, by omega⟩
  have QI := hide fun w => implQuorum n f w
  have QS := hide fun w => specQuorum n f w
  rw [hk] at hQ HQ QI QS
  clear hk
  go_upto_region 4 with fail
  obtain ⟨w3, hw3⟩ : ∃ y, (w2.alloc (.cells #[.int .i64 n, .int .i64 f] 32)).alloc (.cells #[.int .i64 v, .string s, .slice aO xl kO] 26) = y := ⟨_, rfl⟩
  have bb : Below w2.heap.size w2 w3 := hw3 ▸ qalloc2 _ _ _
  have LC : Loc w3 w2.heap.size #[.int .i64 n, .int .i64 f] := hw3 ▸ (loc_at w2 _ _ rfl).alloc _
  have LP : Loc w3 (w2.heap.size + 1) #[.int .i64 v, .string s, .slice aO xl kO] := hw3 ▸ loc_at (w2.alloc _) _ _ (by simp)
  have zw3 : w2.heap.size + 1 + 1 ≤ w3.heap.size := by rw [← hw3]; simp
  rw [hw3]
  clear hw3
  have Bw3 := Bw2.trans (bb.mono Bw2.size)
  have sw3 := bb.size
  replace O := O.below bb
  clear Bw2
  clear bb
  have cLC0 := LC.cell 0 rfl
  have cLC1 := LC.cell 1 rfl
  go_wp2_with fail
  refine (unhide QI _).mono ?_
  rintro _ w4 ⟨rfl, bb⟩
  clear cLC0 cLC1
  have Bw4 := Bw3.trans (bb.mono Bw3.size)
  have sw4 := bb.size
  replace LC := LC.below bb LC.lt
  replace LP := LP.below bb LP.lt
  replace O := O.below bb
  clear Bw3
  clear bb
  have cLC0 := LC.cell 0 rfl
  have cLC1 := LC.cell 1 rfl
  go_wp2_with fail
  refine (unhide QS _).mono ?_
  rintro _ w5 ⟨rfl, bb⟩
  clear cLC0 cLC1
  have Bw5 := Bw4.trans (bb.mono Bw4.size)
  have sw5 := bb.size
  replace LC := LC.below bb LC.lt
  replace LP := LP.below bb LP.lt
  replace O := O.below bb
  clear Bw4
  clear bb
  clear QI
  have hqq : (((k : Int) + 1) != ((k : Int) + 1)) = false := by simp
  by_cases hlt : (xl : Int) < (k : Int) + 1
  · have hd : decide ((xl : Int) < (k : Int) + 1) = true := by simpa using hlt
    have e0 := unhide HQ xs (by rw [unhide Hxl]; exact hlt)
    have IPx := hide fun w hE h => unhide IP (.slice aO xl kO) xs w hE h
    rw [e0] at IPx
    simp only [Bool.false_eq_true, if_false] at IPx
    clear e0 IP HQ
    have cLC0 := LC.cell 0 rfl
    have cLC1 := LC.cell 1 rfl
    have cLP0 := LP.cell 0 rfl
    have cLP1 := LP.cell 1 rfl
    have cLP2 := LP.cell 2 rfl
    go_wp2_with fail
    refine (unhide IPx _ (unhide HE _ Bw5) (O.ri (by rw [unhide Hxl]; omega))).mono ?_
    rintro _ w6 ⟨r, rfl, oR, bb⟩
    clear cLC0 cLC1 cLP0 cLP1 cLP2
    have Bw6 := Bw5.trans (bb.mono Bw5.size)
    have sw6 := bb.size
    replace LC := LC.below bb LC.lt
    replace LP := LP.below bb LP.lt
    replace O := O.below bb
    clear Bw5
    clear bb
    obtain ⟨ra, rc, rfl⟩ := oR.form
    clear oR IPx
    simp only [List.length_nil]
    go_upto_region 7 with fail
    obtain ⟨w7, hw7⟩ : ∃ y, w6.alloc (.cells #[.int .i64 0, .string ⟨#[]⟩, .slice ra 0 rc] 40) = y := ⟨_, rfl⟩
    have bb : Below w6.heap.size w6 w7 := hw7 ▸ qalloc _ _
    have LQ : Loc w7 w6.heap.size #[.int .i64 0, .string ⟨#[]⟩, .slice ra 0 rc] := hw7 ▸ loc_at w6 _ _ rfl
    have zw7 : w6.heap.size + 1 ≤ w7.heap.size := by rw [← hw7]; simp
    rw [hw7]
    clear hw7
    have Bw7 := Bw6.trans (bb.mono Bw6.size)
    have sw7 := bb.size
    replace LC := LC.below bb LC.lt
    replace LP := LP.below bb LP.lt
    replace O := O.below bb
    clear Bw6
    clear bb
    have cLC0 := LC.cell 0 rfl
    have cLC1 := LC.cell 1 rfl
    go_wp2_with fail
    refine (unhide QS _).mono ?_
    rintro _ w8 ⟨rfl, bb⟩
    clear cLC0 cLC1
    have Bw8 := Bw7.trans (bb.mono Bw7.size)
    have sw8 := bb.size
    replace LC := LC.below bb LC.lt
    replace LP := LP.below bb LP.lt
    replace LQ := LQ.below bb LQ.lt
    replace O := O.below bb
    clear Bw7
    clear bb
    have hq2 : (((k : Int) + 1) == ((k : Int) + 1)) = true := by simp
    go_wp2
    go_ret
    exact ⟨rfl, Bw8⟩
  · have hd : decide ((xl : Int) < (k : Int) + 1) = false := by simpa using hlt
    have hkx : k + 1 ≤ xl := by omega
    have e0 := unhide HQ (xs.take k) (by rw [List.length_take, unhide Hxl]; omega)
    have IPx := hide fun u w hE h => unhide IP u (xs.take k) w hE h
    rw [e0] at IPx
    simp only [Bool.false_eq_true, if_false] at IPx
    clear e0 IP HQ
    have cLC0 := LC.cell 0 rfl
    have cLC1 := LC.cell 1 rfl
    have cLP0 := LP.cell 0 rfl
    have cLP1 := LP.cell 1 rfl
    have cLP2 := LP.cell 2 rfl
    go_upto_region 9 with fail
    clear cLC0 cLC1 cLP0 cLP1 cLP2
    obtain ⟨w6, hw6⟩ : ∃ y, w5.alloc (.cells #[.int .i64 v, .string s, .slice aO xl kO] 26) = y := ⟨_, rfl⟩
    have bb : Below w5.heap.size w5 w6 := hw6 ▸ qalloc _ _
    have LQ : Loc w6 w5.heap.size #[.int .i64 v, .string s, .slice aO xl kO] := hw6 ▸ loc_at w5 _ _ rfl
    have zw6 : w5.heap.size + 1 ≤ w6.heap.size := by rw [← hw6]; simp
    rw [hw6]
    clear hw6
    have Bw6 := Bw5.trans (bb.mono Bw5.size)
    have sw6 := bb.size
    replace LC := LC.below bb LC.lt
    replace LP := LP.below bb LP.lt
    replace O := O.below bb
    clear Bw5
    clear bb
    obtain ⟨cao, cn, ccp, ecap, hcap1, hcap2⟩ := O.cap
    cases ecap
    have CT : ∀ w, (Instr.slice 24 (.slice aO xl kO) none (some (.int .i64 (k : Int))) none).run Tryz.prog w = .ok (.slice aO k kO) w := fun w => icut_to aO xl kO k w (by omega)
    obtain ⟨wl, hwl⟩ : ∃ y, w6.alloc (.cells #[] 3) = y := ⟨_, rfl⟩
    have bl : Below w6.heap.size w6 wl := hwl ▸ qalloc _ _
    have OE : OI wl w6.heap.size (.slice (some ⟨w6.heap.size, 0, none⟩) 0 0) [] := by
      have := World.ownsRow_lit (base := w6.heap.size) (e := 3) (size := 1) w6 #[] 0 (Nat.le_refl _) (by unfold maxLen; omega) (by simp)
      rw [hwl] at this
      simpa [OI] using this
    have PI0 := hide ((((O.ri (by rw [unhide Hxl]; omega)).pi.below bl).take k (by omega)) kO)
    have LCl := LC.below bl LC.lt
    have LPl := LP.below bl LP.lt
    have LQl := LQ.below bl LQ.lt
    have sl := bl.size
    have lt1 := LC.lt
    have lt2 := LP.lt
    have lt3 := LQ.lt
    have q2 := LPl.cell 2 rfl
    have Bl := Bw6.trans (bl.mono Bw6.size)
    have hkm : IntKind.i64.wrap (k : Int) = (k : Int) := by rw [IntKind.wrap_i64]; omega
    go_wp2_with (first | (at_builtin; clear hwl; refine append_ints rfl _ _ rfl w6.heap.size (.slice (some ⟨w6.heap.size, 0, none⟩) 0 0) (.slice aO k kO) [] (xs.take k) rfl rfl OE (unhide PI0) (by simp; omega) (by omega) ?_; intro v' w8 ho8 hg8 _
                          have k8 := kp_grown hg8
                          have C8 := LCl.kp k8 (by simp [Value.ownBlock]; omega)
                          have Q8 := LQl.kp k8 (by simp [Value.ownBlock]; omega)
                          have B8 := Below.kp Bl k8 Bl.size (fun k hk => by simp [Value.ownBlock] at hk; omega)
                          have z0 := Q8.cell 0 rfl
                          have z1 := Q8.cell 1 rfl
                          have z2 := Q8.cell 2 rfl
                          have fz := Q8.frozen
                          have lo8 := World.ownsRow.lt ho8
                          have c80 := C8.cell 0 rfl
                          have c81 := C8.cell 1 rfl
                          obtain ⟨ya, yc, rfl⟩ := ho8.form
                          have O8 := hide ho8
                          have hl8 : ([] ++ xs.take k).length = k := by rw [List.nil_append, List.length_take, unhide Hxl]; omega
                          rw [hl8] at O8 lo8 ⊢
                          clear hg8 OE PI0 q2 ho8 hl8)
                         )
    go_upto_region 10 with fail
    obtain ⟨we, hwe⟩ : ∃ y, w8.setCell ⟨w5.heap.size, 2, none⟩ (.slice ya k yc) = y := ⟨_, rfl⟩
    have kwe : Kp w8 we (fun k => k = w5.heap.size) := hwe ▸ set_kp _ _ _ _
    have Qe : Loc we (w5.heap.size) #[.int .i64 v, .string s, .slice ya k yc] := hwe ▸ Q8.set 2 _ rfl
    have Ce := C8.kp kwe (by omega)
    have Be := Below.kp B8 kwe B8.size (fun k hk => by omega)
    have Oe := hide (OI.kp (show OI w8 w6.heap.size (.slice ya k yc) (xs.take k) by simpa using unhide O8) kwe (fun j hj e => by have := lo8 j hj; omega))
    rw [hwe]
    clear hwe kwe Q8 C8 B8 O8 lo8 z0 z1 z2 fz c80 c81
    have z0 := Qe.cell 0 rfl
    have z1 := Qe.cell 1 rfl
    have z2 := Qe.cell 2 rfl
    have c0 := Ce.cell 0 rfl
    have c1 := Ce.cell 1 rfl
    go_wp2_with fail
    clear z0 z1 z2 c0 c1
    refine (unhide IPx _ _ (unhide HE _ Be) ((unhide Oe).ri (by simp; omega))).mono ?_
    rintro e wf ⟨r, rfl, oR, bR⟩
    have Bf := Be.trans (bR.mono Be.size)
    obtain ⟨ra, rc, rfl⟩ := oR.form
    clear oR
    simp only [List.length_nil]
    go_upto_region 11 with fail
    obtain ⟨wg, hwg⟩ : ∃ y, wf.alloc (.cells #[.int .i64 0, .string ⟨#[]⟩, .slice ra 0 rc] 40) = y := ⟨_, rfl⟩
    have Bg := Bf.trans ((hwg ▸ qalloc _ _ : Below wf.heap.size wf wg).mono Bf.size)
    rw [hwg]
    clear hwg
    go_wp2
    go_ret
    exact ⟨rfl, Bg⟩

set_option maxHeartbeats 8000000 in
set_option maxRecDepth 100000 in
theorem fnTooFew_long (ao : Option Addr) (n ca : Nat) (w : World) (h : 1048576 < n) (hm : n ≤ maxLen) :
    Calls Tryz.prog 4 #[.slice ao n ca] w fun e w' => e = .returned (.bool true) ∧ Below w.heap.size w w' := by
  have BG := hide fun w => big_any ao n ca w (by unfold maxLen at hm; omega)
  rw [decide_eq_true h] at BG
  go_enter Tryz.func4, Tryz.ntmps4
  go_wp2_with fail
  refine (unhide BG _).mono ?_
  rintro _ w1 ⟨rfl, b1⟩
  go_wp2
  go_ret
  exact ⟨rfl, b1⟩
theorem fnTooFew_walk (ao : Option Addr) (ca : Nat) (zs : List Int) (w : World) (hm : zs.length ≤ maxLen) (hx : zs = [] ∨ ∃ b off, ao = some ⟨b, off, none⟩ ∧ ∀ k, k < zs.length → w.cell? ⟨b, off + k, none⟩ = some (.int .u8 (zs.getD k 0))) (hb : ∀ k, k < zs.length → 0 ≤ zs.getD k 0 ∧ zs.getD k 0 ≤ 255) (hE : Env w) :
    Calls Tryz.prog 4 #[.slice ao zs.length ca] w fun e w' => e = .returned (.bool true) ∧ Below w.heap.size w w' := by
  by_cases h : zs.length ≤ 1048576
  · exact fnTooFew_short ao ca zs w ⟨h, hx, hb⟩ hE
  · exact fnTooFew_long ao zs.length ca w (by omega) hm
end Go.Proofs.YtehdchpolgihlaaGreatDoor

/- Lists of numbers, and bytes, that came in. -/
namespace Go.Proofs.YtehdchpolgihlaaGreatDoor
open Go.ChangeShapes Go.WideShapes Go.ChangeAt Go.RowKit
open Go.Joins
set_option linter.unusedSectionVars false
variable [∀ (a b c d : Int), Decidable (Ok4 a b c d)]
variable [∀ (n f : Int), Decidable (COk n f)]

set_option maxRecDepth 100000 in
theorem open_intlistW {H : Type} {enc : TypeId × Value → H} {W : World} {base : Nat} {v : Value} {d : DataW H} {p : List MemPlace} (hv : Value.okWide Tryz.prog W .any base 24 v)
    (h : DataW.Trod enc Tryz.prog W 0 (fun _ => true) true 24 v d p) :
    ∃ ao ca, ∃ xs : List Int, v = .slice ao xs.length ca ∧ xs.length ≤ maxLen ∧ (xs = [] ∨ ∃ b off, ao = some ⟨b, off, none⟩ ∧ ∀ k, k < xs.length → W.cell? ⟨b, off + k, none⟩ = some (.int .i64 (xs.getD k 0))) ∧ WfL xs := by
  obtain ⟨a, len, cap, rfl⟩ := okWide_slice Tryz.underlying24 hv
  obtain ⟨fuel, hf⟩ := h
  obtain ⟨ao, ca, xs, e, hx, hr⟩ := open_listW (c := .slice a len cap) (by simpa [Value.cells] using hf)
  exact ⟨ao, ca, xs, e, hx, hr⟩
set_option maxRecDepth 100000 in
theorem open_intlist {H : Type} {enc : TypeId × Value → H} {W : World} {base : Nat} {v : Value} {d : DataW H} {p : List MemPlace} (hv : Value.okWide Tryz.prog W .any base 24 v)
    (h : DataW.Trod enc Tryz.prog W 0 (fun _ => true) true 24 v d p) :
    ∃ ao ca, ∃ xs : List Int, v = .slice ao xs.length ca ∧ xs.length ≤ maxLen ∧ (xs = [] ∨ ∃ b off, ao = some ⟨b, off, none⟩ ∧ ∀ k, k < xs.length → W.cell? ⟨b, off + k, none⟩ = some (.int .i64 (xs.getD k 0))) := by
  obtain ⟨ao, ca, xs, e, hx, hr, _⟩ := open_intlistW hv h
  exact ⟨ao, ca, xs, e, hx, hr⟩
set_option maxRecDepth 100000 in
theorem code_fit {zs : List Int} {len : Nat} (h : ∀ n ∈ zs, (Lit.int .u8 n).wf = true) : ∀ k, k < (zs.take len).length → 0 ≤ (zs.take len).getD k 0 ∧ (zs.take len).getD k 0 ≤ 255 := by
  intro k hk
  have hm : (zs.take len).getD k 0 ∈ zs := by
    rw [List.getD_eq_getElem?_getD, List.getElem?_eq_getElem hk]
    exact List.mem_of_mem_take (List.getElem_mem hk)
  have := bounds_u8 (h _ hm)
  omega
set_option maxRecDepth 100000 in
theorem open_code {H : Type} {enc : TypeId × Value → H} {W : World} {base : Nat} {v : Value} {d : DataW H} {p : List MemPlace} (hv : Value.okWide Tryz.prog W .any base 22 v)
    (h : DataW.Trod enc Tryz.prog W 0 (fun _ => true) true 22 v d p) :
    ∃ ao ca, ∃ zs : List Int, v = .slice ao zs.length ca ∧ zs.length ≤ maxLen ∧ (zs = [] ∨ ∃ b off, ao = some ⟨b, off, none⟩ ∧ ∀ k, k < zs.length → W.cell? ⟨b, off + k, none⟩ = some (.int .u8 (zs.getD k 0))) ∧ ∀ k, k < zs.length → 0 ≤ zs.getD k 0 ∧ zs.getD k 0 ≤ 255 := by
  obtain ⟨a, len, cap, rfl⟩ := okWide_slice Tryz.underlying22 hv
  obtain ⟨fuel, hf⟩ := h
  rcases open_ints Tryz.underlying22 Tryz.underlying5 (by kernel_rfl) hf with ⟨hcs, _⟩ | ⟨x, l, c, zs, hcs, _, hl, hm, hz, _, hcell, hwz⟩
  · simp [Value.cells] at hcs
    obtain ⟨rfl, rfl, rfl⟩ := hcs
    exact ⟨none, 0, [], rfl, by simp, .inl rfl, fun k hk => by simp at hk⟩
  · simp [Value.cells] at hcs
    obtain ⟨rfl, rfl, rfl⟩ := hcs
    have hz' : zs.length = cap := by simpa using hz
    have e : (zs.take len).length = len := by simp; omega
    refine ⟨some x, cap, zs.take len, by rw [e], by rw [e]; omega, ?_, code_fit hwz⟩
    by_cases h0 : len = 0
    · left; simp [h0]
    · right
      obtain ⟨b, off, spot⟩ := x
      have hc := hcell 0 (by omega)
      have hspot : spot = none := by simpa [Addr.add] using World.cell?_spot hc
      subst hspot
      refine ⟨b, off, rfl, fun k hk => ?_⟩
      rw [e] at hk
      have hk' := hcell k (by omega)
      rw [show ((⟨b, off, none⟩ : Addr).add k) = ⟨b, off + k, none⟩ from by unfold Addr.add; split <;> simp_all] at hk'
      rw [hk']
      simp [hk]
end Go.Proofs.YtehdchpolgihlaaGreatDoor
