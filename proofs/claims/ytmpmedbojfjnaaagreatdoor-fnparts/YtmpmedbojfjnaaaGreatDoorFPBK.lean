/- Texts that belong together: QcPlain, PartQci, PartsPlain. -/
import Derived.Test.YtmpmedbojfjnaaaGreatDoorFPBI
import Derived.Test.YtmpmedbojfjnaaaGreatDoorFPBJ
import Derived.Test.YtmpmedbojfjnaaaGreatDoorFPAK
import Derived.Test.YtmpmedbojfjnaaaGreatDoorFPAN
import Derived.Test.YtmpmedbojfjnaaaGreatDoorFPAJ
import Derived.Test.YtmpmedbojfjnaaaGreatDoorFPAZ
import Derived.Test.YtmpmedbojfjnaaaGreatDoorFPBB
import Derived.Test.YtmpmedbojfjnaaaGreatDoorFPBE
namespace Go.Proofs.YtmpmedbojfjnaaaGreatDoor
open Go.RowKit
set_option linter.unusedSectionVars false
variable [∀ (a b c d : Int), Decidable (Ok4 a b c d)]
variable [∀ (a b c d : Nat), Decidable (okN a b c d)]
variable [∀ (last : Int) (s : St), Decidable (GoodSt last s)]
variable [∀ (x : T4), Decidable (OkT x)]
variable [∀ (n : Int) (s : List Int), Decidable (OkL n s)]
variable [∀ (n f : Int), Decidable (COk n f)]

theorem steps_nil : stepsAns ⟨#[]⟩ = some [] := by simp [stepsAns]
theorem view_nil : viewAns ⟨#[]⟩ = 0 := by simp [viewAns, steps_nil]
theorem view_none {s : ByteArray} (h : (stepsAns s).isSome = false) : viewAns s = 0 := by
 cases e : stepsAns s with
 | none => simp [viewAns, e]
 | some ss => rw [e] at h; cases h
theorem view_pos {s : ByteArray} (h : (stepsAns s).isSome = true) (hs : s ≠ ⟨#[]⟩) : 0 < viewAns s := by
 obtain ⟨ss, e⟩ := Option.isSome_iff_exists.1 h
 have h1 := (height_view (s := s)).1
 unfold heightAns at h1
 rw [e] at h1
 have hne : ss ≠ [] := by
  rintro rfl
  have := ((names_iff _ _).1 e).1
  exact hs (ba_ext (by simpa [nm] using this))
 have := List.length_pos_iff.2 hne
 simp only at h1
 omega
theorem qok_eq (n f v : Int) (s : ByteArray) (xs : List Int) : (decide (COk n f) && (alikeB v 0 s ⟨#[]⟩ xs [] || votedB n f v s xs)) = qokB n f v s xs := by
 unfold qokB votedB alikeB
 by_cases hc : COk n f
 ·simp only [hc, decide_true, Bool.true_and]
  by_cases hs : s = ⟨#[]⟩
  ·subst hs
   rw [steps_nil, view_nil]
   by_cases hv : v = 0
   ·subst hv
    simp
   ·have h1 : (v == 0) = false := by simpa using hv
    have h2 : ((0 : Int) == v) = false := by simp; omega
    simp [h1, h2, hv]
  ·simp only [hs, false_and, and_false, decide_false, Bool.false_or, if_false]
   cases hn : (stepsAns s).isSome with
   | false =>
    rw [view_none hn]
    by_cases hv : v = 0
    ·subst hv; simp
    ·have h1 : (v == 0) = false := by simpa using hv
     simp [h1]
   | true =>
    have hp := view_pos hn hs
    by_cases hv : v = viewAns s
    ·subst hv
     have h1 : decide (0 < viewAns s) = true := by simpa using hp
     simp only [h1, beq_self_eq_true, Bool.true_and]
     rw [Bool.and_comm]
    ·have h1 : (v == viewAns s) = false := by simpa using hv
     have h2 : (viewAns s == v) = false := by simp; omega
     simp [h1, h2]
 ·simp [hc]

set_option maxHeartbeats 8000000 in
set_option maxRecDepth 100000 in
theorem implPartQc (n f m : Int) (s : ByteArray) (u : Value) (xs : List Int) (w : World) (hs : s.size ≤ 33554432) (hE : Env w) (hu : RI w u xs) :
 Calls Tryz.prog 33 #[cv n f, qv m s u] w fun e w' => ∃ r, e = .returned (.tuple #[qv (if (decide (s ≠ ⟨#[]⟩) && qokB n f m s xs) then m else 0) (if (decide (s ≠ ⟨#[]⟩) && qokB n f m s xs) then s else ⟨#[]⟩) r, .bool (decide (s ≠ ⟨#[]⟩) && qokB n f m s xs)]) ∧ OI w' w.heap.size r (if (decide (s ≠ ⟨#[]⟩) && qokB n f m s xs) then xs else []) ∧ Below w.heap.size w w' := by
 obtain ⟨ua, uc, rfl⟩ := hu.form
 obtain ⟨w0, hw0⟩ : ∃ y, (((w.alloc (.cells #[.int .i64 n, .int .i64 f] 25)).alloc (.cells #[.int .i64 m, .string s, .slice ua xs.length uc] 52)).alloc zq).alloc (.cells #[.int .i64 m, .string s, .slice ua xs.length uc] 28) = y := ⟨_, rfl⟩
 have B : Below w.heap.size w w0 := hw0 ▸ (((qalloc2 _ _ _).alloc (by simp; omega) _).alloc (by simp; omega) _)
 have C : Loc w0 w.heap.size #[.int .i64 n, .int .i64 f] := hw0 ▸ (((loc_at w _ _ rfl).alloc _).alloc _).alloc _
 have R : Loc w0 (w.heap.size + 1 + 1) #[.int .i64 0, .string ⟨#[]⟩, .slice none 0 0] := hw0 ▸ (loc_at ((w.alloc _).alloc _) _ _ (by simp)).alloc _
 have Q : Loc w0 (w.heap.size + 1 + 1 + 1) #[.int .i64 m, .string s, .slice ua xs.length uc] := hw0 ▸ (loc_at (((w.alloc _).alloc _).alloc _) _ _ (by simp))
 have s0 : w0.heap.size = w.heap.size + 1 + 1 + 1 + 1 := by rw [← hw0]; simp
 have QO := hide (implQcOk_at n f m s ua uc xs w0 hs (hE.below B) (hu.below B (Nat.le_refl _)))
 rw [qok_eq] at QO
 have TQ := hide fun w' (b : Below w0.heap.size w0 w') l => qtold_any (w.heap.size + 1 + 1 + 1) m s ua uc xs w' l ((hu.below B (Nat.le_refl _)).below b (Nat.le_refl _)) (by omega)
 obtain ⟨k, hk⟩ : ∃ k, xs.length = k := ⟨_, rfl⟩
 replace hk := hide hk
 rw [unhide hk] at hw0 Q QO TQ ⊢
 generalize qokB n f m s xs = qb at *
 have NO : Hid (∀ w2, Below w.heap.size w w2 → Below w.heap.size w (((w2.setCell ⟨w.heap.size + 1 + 1, 0, none⟩ (.int .i64 0)).setCell ⟨w.heap.size + 1 + 1, 1, none⟩ (.string ⟨#[]⟩)).setCell ⟨w.heap.size + 1 + 1, 2, none⟩ (.slice none 0 0))) := hide fun w2 b => by
  have K5 : Kp w2 (((w2.setCell ⟨w.heap.size + 1 + 1, 0, none⟩ (.int .i64 0)).setCell ⟨w.heap.size + 1 + 1, 1, none⟩ (.string ⟨#[]⟩)).setCell ⟨w.heap.size + 1 + 1, 2, none⟩ (.slice none 0 0)) (fun k => k = w.heap.size + 1 + 1) := ((set_kp _ _ _ _).trans (set_kp _ _ _ _)).trans (set_kp _ _ _ _)
  exact Below.kp b K5 b.size (fun k hk => by omega)
 have c0 := C.cell 0 rfl
 have c1 := C.cell 1 rfl
 have q0 := Q.cell 0 rfl
 have q1 := Q.cell 1 rfl
 have q2 := Q.cell 2 rfl
 clear hE hu C
 by_cases he : s = ⟨#[]⟩
 ·have hd : decide (s ≠ ⟨#[]⟩) = false := by simpa using he
  have hy : (s.toList == []) = true := by rw [he, ByteArray.toList_eq]; rfl
  rw [hd]
  simp only [Bool.false_and, Bool.false_eq_true, if_false]
  have r0 := R.cell 0 rfl
  have r1 := R.cell 1 rfl
  have r2 := R.cell 2 rfl
  have fr := R.frozen
  have B' := hide (unhide NO _ B)
  clear he hd QO TQ R Q NO B
  go_enter Tryz.func33, Tryz.ntmps33
  go_wp2
  refine bodyPost_ret (v := .tuple #[qv 0 ⟨#[]⟩ (.slice none 0 0), .bool false]) (by simp [results, Tryz.results33, go_sem, r0, r1, r2]) rfl ?_
  exact ⟨_, rfl, World.ownsRow_nil _ _ _ _, unhide B'⟩
 ·have hd : decide (s ≠ ⟨#[]⟩) = true := by simpa using he
  have hne := ne2 he
  rw [hd]
  simp only [Bool.true_and]
  clear he hd
  cases qb with
  | false =>
   simp only [Bool.false_eq_true, if_false]
   go_enter Tryz.func33, Tryz.ntmps33
   go_wp2_with fail
   clear hw0 c0 c1 q0 q1 q2 hne
   refine (unhide QO).mono ?_
   rintro e w2 ⟨rfl, b2⟩
   have B2 := B.trans (b2.mono B.size)
   replace R := R.below b2 R.lt
   have r0 := R.cell 0 rfl
   have r1 := R.cell 1 rfl
   have r2 := R.cell 2 rfl
   have fr := R.frozen
   have B' := hide (unhide NO _ B2)
   clear QO TQ R Q NO B B2 b2
   go_wp2
   refine bodyPost_ret (v := .tuple #[qv 0 ⟨#[]⟩ (.slice none 0 0), .bool false]) (by simp [results, Tryz.results33, go_sem, r0, r1, r2]) rfl ?_
   exact ⟨_, rfl, World.ownsRow_nil _ _ _ _, unhide B'⟩
  | true =>
   simp only [if_true]
   go_enter Tryz.func33, Tryz.ntmps33
   go_wp2_with fail
   clear hw0 c0 c1 q0 q1 q2 hne
   refine (unhide QO).mono ?_
   rintro e w2 ⟨rfl, b2⟩
   have B2 := B.trans (b2.mono B.size)
   replace R := R.below b2 R.lt
   have TT := hide (unhide TQ w2 b2 (Q.below b2 Q.lt))
   have s2 := b2.size
   clear QO TQ Q NO B b2
   go_wp2_with fail
   refine (unhide TT).mono ?_
   rintro e w3 ⟨r, rfl, o3, b3⟩
   have B3 := B2.trans (b3.mono B2.size)
   replace R := R.below b3 R.lt
   have r0 := R.cell 0 rfl
   have r1 := R.cell 1 rfl
   have r2 := R.cell 2 rfl
   have fr := R.frozen
   have lt3 := World.ownsRow.lt o3
   obtain ⟨ra, rc, hr⟩ := o3.form
   rw [unhide hk] at hr
   subst hr
   have O3 := hide o3
   clear R b3 o3 TT B2
   go_wp2
   refine bodyPost_ret (v := .tuple #[qv m s (.slice ra k rc), .bool true]) (by simp [results, Tryz.results33, go_sem, r0, r1, r2]) rfl ?_
   have K5 : Kp w3 (((w3.setCell ⟨w.heap.size + 1 + 1, 0, none⟩ (.int .i64 m)).setCell ⟨w.heap.size + 1 + 1, 1, none⟩ (.string s)).setCell ⟨w.heap.size + 1 + 1, 2, none⟩ (.slice ra k rc)) (fun k => k = w.heap.size + 1 + 1) := ((set_kp _ _ _ _).trans (set_kp _ _ _ _)).trans (set_kp _ _ _ _)
   exact ⟨_, rfl, ((unhide O3).kp K5 (fun k hk => by have := lt3 k hk; omega)).mono (by omega), Below.kp B3 K5 B3.size (fun k hk => by omega)⟩
end Go.Proofs.YtmpmedbojfjnaaaGreatDoor
namespace Go.Proofs.YtmpmedbojfjnaaaGreatDoor
open Go.RowKit
set_option linter.unusedSectionVars false
variable [∀ (a b c d : Int), Decidable (Ok4 a b c d)]
variable [∀ (a b c d : Nat), Decidable (okN a b c d)]
variable [∀ (x : T4), Decidable (OkT x)]
variable [∀ (n f : Int), Decidable (COk n f)]
variable [∀ (last : Int) (s : St), Decidable (GoodSt last s)]
variable [∀ (n : Int) (s : List Int), Decidable (OkL n s)]

theorem sam_eq {v v' : Int} {s s' : ByteArray} {xs ys : List Int} (h : samP (v, s, xs) (v', s', ys) = true) : v' = v ∧ s' = s := by
 unfold samP at h
 rw [Bool.and_eq_true, decide_eq_true_iff, beq_iff_eq] at h
 obtain ⟨h1, h2⟩ := h
 simp only at h1 h2
 rw [ByteArray.toList_eq, ByteArray.toList_eq] at h2
 exact ⟨h1.symm, (ByteArray.ext (Array.toList_inj.1 h2)).symm⟩
theorem sam_self (v : Int) (s : ByteArray) (xs ys : List Int) : samP (v, s, xs) (v, s, ys) = true := by
 unfold samP
 simp
theorem join_other (m n : Int) (s t : ByteArray) (u v : Value) (xs ys : List Int) (a : Addr) (w : World) (hl : ys.length + xs.length ≤ 4194303) (hs : t.size ≤ 281474976710656) (wx : WfL xs) (wy : WfL ys) (hu : RI w u xs) (hv : RI w v ys) (G : Gv w a) (h : samP (m, s, xs) (n, t, ys) = true) :
 Calls Tryz.prog 27 #[qv n t v, qv m s u] w fun e w' => ∃ r, e = .returned (.tuple #[qv (if samP (m, s, xs) (n, t, ys) then m else 0) (if samP (m, s, xs) (n, t, ys) then s else ⟨#[]⟩) r, .bool true]) ∧ OI w' w.heap.size r (if samP (m, s, xs) (n, t, ys) then joinL xs ys else []) ∧ Below w.heap.size w w' := by
 obtain ⟨rfl, rfl⟩ := sam_eq h
 have c := implPartJoin n n t t v u ys xs a w hl hs wy wx hv hu G
 rw [sam_self] at c
 rw [h]
 simp only [if_true] at c ⊢
 rw [join_comm xs ys]
 exact c
theorem get_add (ps : List Pt) (m : Int) (s : ByteArray) (xs : List Int) : ∀ z ∈ xs, z ∈ (getP (addP ps (m, s, xs)) m s).2.2 := by
 intro z hz
 induction ps with
 | nil =>
  have e : getP (addP [] (m, s, xs)) m s = (m, s, xs) := by unfold getP addP; simp
  rw [e]; exact hz
 | cons x t ih =>
  unfold addP
  by_cases hb : befP x (m, s, xs) = true
  ·rw [if_pos hb]
   have hn : (decide (x.1 = m) && (x.2.1.toList == s.toList)) = false := by
    cases e : (decide (x.1 = m) && (x.2.1.toList == s.toList)) with
    | false => rfl
    | true =>
     have := sam_not_bef (a := x) (b := (m, s, xs)) e
     rw [this] at hb; cases hb
   have e : getP (x :: addP t (m, s, xs)) m s = getP (addP t (m, s, xs)) m s := by
    unfold getP
    rw [List.find?_cons, hn]
   rw [e]; exact ih
  ·rw [if_neg hb]
   by_cases hc : samP x (m, s, xs) = true
   ·rw [if_pos hc]
    have e : getP (joinP x (m, s, xs) :: t) m s = joinP x (m, s, xs) := by
     unfold getP
     rw [List.find?_cons]
     have : (decide ((joinP x (m, s, xs)).1 = m) && ((joinP x (m, s, xs)).2.1.toList == s.toList)) = true := hc
     rw [this]; rfl
    rw [e]
    exact (mem_join _ _ _).2 (.inr hz)
   ·rw [if_neg hc]
    have e : getP ((m, s, xs) :: x :: t) m s = (m, s, xs) := by unfold getP; simp
    rw [e]; exact hz
theorem com_all {a b : List Int} (h : ∀ z ∈ a, z ∈ b) : comL a b = a.length := by
 unfold comL
 rw [List.filter_eq_self.2 (fun z hz => by simpa using h z hz)]
theorem smp_get {b : Nat} {ps : List Pt} (h : SmP b ps) (v : Int) (s : ByteArray) : (getP ps v s).2.2.length ≤ b ∧ WfL (getP ps v s).2.2 := by
 unfold getP
 cases e : ps.find? (fun x => decide (x.1 = v) && (x.2.1.toList == s.toList)) with
 | none => exact ⟨Nat.zero_le _, fun x hx => by cases hx⟩
 | some q => have := h q (List.mem_of_find?_eq_some e); exact ⟨this.2.1, this.2.2⟩
theorem smp_drop {b : Nat} {ps : List Pt} (h : SmP b ps) (v : Int) : SmP b (dropP ps v) := fun q hq => h q (List.mem_filter.1 hq).1
theorem smp_add9 (rb : Bool) {b : Nat} {ps : List Pt} {v : Int} {s : ByteArray} {xs : List Int} (h : SmP b ps) (hs : s.size ≤ 8001) (hx : xs.length ≤ 9) (wx : WfL xs) : SmP (b + 9) (if rb = true then addP ps (v, s, xs) else ps) := by
 intro q hq
 split at hq
 ·rcases addP_mem hq with h1 | rfl | ⟨x, h1, rfl⟩
  ·have := h q h1; exact ⟨this.1, by omega, this.2.2⟩
  ·exact ⟨hs, by simp only; omega, wx⟩
  ·have h2 := h x h1
   have := join_size x.2.2 xs
   exact ⟨h2.1, by simp only [joinP]; omega, wf_join h2.2.2 wx⟩
 ·have := h q hq; exact ⟨this.1, by omega, this.2.2⟩
theorem add_facts {n f m : Int} {s : ByteArray} {xs : List Int} {ps : List Pt} (rb : Bool) (h : (tokB n f (addP ps (m, s, xs)) && pokB n f m s xs) = rb) : (rb = true → tokB n f (if rb = true then addP ps (m, s, xs) else ps) = true ∧ comL xs (getP (if rb = true then addP ps (m, s, xs) else ps) m s).2.2 = xs.length) ∧ (rb = false → (if rb = true then addP ps (m, s, xs) else ps) = ps) := by
 cases rb with
 | false => exact ⟨fun e => absurd e (by simp), fun _ => rfl⟩
 | true =>
  rw [Bool.and_eq_true] at h
  refine ⟨fun _ => ⟨h.1, ?_⟩, fun e => absurd e (by simp)⟩
  exact com_all (get_add ps m s xs)
theorem qc_facts {n f m : Int} {s : ByteArray} {xs : List Int} (rb : Bool) (h : (decide (s ≠ ⟨#[]⟩) && qokB n f m s xs) = rb) : rb = true → qokB n f (if rb = true then m else 0) (if rb = true then s else ⟨#[]⟩) (if rb = true then xs else []) = true := by
 intro e
 subst e
 rw [Bool.and_eq_true] at h
 exact h.2
theorem alike_me (n : Int) (s : ByteArray) (xs : List Int) : alikeB n n s s xs xs = true := by simp [alikeB]
theorem if_len {b : Bool} {xs : List Int} {k : Nat} (h : xs.length ≤ k) : (if b = true then xs else []).length ≤ k := by
 split
 ·exact h
 ·exact Nat.zero_le _
theorem if_size {b : Bool} {s : ByteArray} {k : Nat} (h : s.size ≤ k) : (if b = true then s else ⟨#[]⟩).size ≤ k := by
 split
 ·exact h
 ·exact Nat.zero_le _
end Go.Proofs.YtmpmedbojfjnaaaGreatDoor
