/- Texts that belong together: FromL, QcPlain, PartQci, PartQcAll, PartRows, PartOpen. -/
import Derived.Test.YtehdchpolgihlaaGreatDoorPzAB
import Derived.Test.YtehdchpolgihlaaGreatDoorPzAS
import Derived.Test.YtehdchpolgihlaaGreatDoorPzAX
import Derived.Test.YtehdchpolgihlaaGreatDoorPzAV
import Derived.Test.YtehdchpolgihlaaGreatDoorPzAR
import Derived.Test.YtehdchpolgihlaaGreatDoorPzAP
import Derived.Test.YtehdchpolgihlaaGreatDoorPzAK
import Derived.Test.YtehdchpolgihlaaGreatDoorPzAU
import Derived.Test.YtehdchpolgihlaaGreatDoorPzAC
import Derived.OwnWalk
import Derived.Maps.AppendAt
import Derived.Deep.Slices
/- The numbers from f on: plain mathematics. -/
namespace Go.Proofs.YtehdchpolgihlaaGreatDoor
open Go.RowKit

/-- Those from f on. -/
def fromL (f : Int) (k : Nat) : List Int := (List.range k).map fun (i : Nat) => f + (i : Int)
theorem fromL_len (f : Int) (k : Nat) : (fromL f k).length = k := by simp [fromL]
theorem fromL_succ (f : Int) (k : Nat) : fromL f (k + 1) = fromL f k ++ [f + (k : Int)] := by simp [fromL, List.range_succ]
theorem fromL_ok {n f : Int} {k : Nat} (h0 : 0 ≤ f) (h : f + (k : Int) ≤ n) : OkL n (fromL f k) := by
  refine ⟨fun x hx => ?_, ?_⟩
  · obtain ⟨i, hi, rfl⟩ := List.mem_map.1 hx
    have := List.mem_range.1 hi
    omega
  · unfold fromL
    rw [List.pairwise_map]
    exact List.pairwise_lt_range.imp fun h => by omega
theorem wf_ok {n : Int} {xs : List Int} (hn : n ≤ 256) (h : OkL n xs) : WfL xs := fun x hx => wf_small (by have := h.1 x hx; omega) (by have := h.1 x hx; omega)
theorem WfL.sub {xs ys : List Int} (h : WfL xs) (hs : ∀ y ∈ ys, y ∈ xs) : WfL ys := fun y hy => h y (hs y hy)
end Go.Proofs.YtehdchpolgihlaaGreatDoor

/- Two certificates have more in common than there are liars: plain mathematics; QcOk of the program is that of the specification. -/
namespace Go.Proofs.YtehdchpolgihlaaGreatDoor
open Go.RowKit
set_option linter.unusedSectionVars false
variable [∀ (a b c d : Int), Decidable (Ok4 a b c d)]
variable [∀ (n f : Int), Decidable (COk n f)]
variable [∀ (n : Int) (s : List Int), Decidable (OkL n s)]
variable [∀ (a b c d : Nat), Decidable (okN a b c d)]
variable [∀ (last : Int) (s : St), Decidable (GoodSt last s)]
variable [∀ (x : T4), Decidable (OkT x)]

theorem steps_nil : stepsAns ⟨#[]⟩ = some [] := by simp [stepsAns]
theorem view_nil : viewAns ⟨#[]⟩ = 0 := by simp [viewAns, steps_nil]
theorem view_pos {s : ByteArray} (h : (stepsAns s).isSome = true) (hs : s ≠ ⟨#[]⟩) : 0 < viewAns s := by
  obtain ⟨ss, e⟩ := Option.isSome_iff_exists.1 h
  have h1 := (height_view (s := s)).1
  unfold heightAns at h1
  rw [e] at h1
  have hne : ss ≠ [] := by
    rintro rfl
    have := ((names_iff _ _).1 e).1
    exact hs (ba_ext (by simpa [nm] using this))
  have := List.length_pos_iff.2 hne
  simp only at h1
  omega
theorem qok_eq (n f v : Int) (s : ByteArray) (xs : List Int) : (decide (COk n f) && (alikeB v 0 s ⟨#[]⟩ xs [] || votedB n f v s xs)) = qokB n f v s xs := by
  unfold qokB votedB alikeB
  by_cases hc : COk n f
  · simp only [hc, decide_true, Bool.true_and]
    by_cases hs : s = ⟨#[]⟩
    · subst hs
      rw [steps_nil, view_nil]
      by_cases hv : v = 0
      · subst hv
        simp
      · have h1 : (v == 0) = false := by simpa using hv
        have h2 : ((0 : Int) == v) = false := by simp; omega
        simp [h1, h2, hv]
    · simp only [hs, false_and, and_false, decide_false, Bool.false_or, if_false]
      cases hn : (stepsAns s).isSome with
      | false =>
        rw [view_none hn]
        by_cases hv : v = 0
        · subst hv; simp
        · have h1 : (v == 0) = false := by simpa using hv
          simp [h1]
      | true =>
        have hp := view_pos hn hs
        by_cases hv : v = viewAns s
        · subst hv
          have h1 : decide (0 < viewAns s) = true := by simpa using hp
          simp only [h1, beq_self_eq_true, Bool.true_and]
          rw [Bool.and_comm]
        · have h1 : (v == viewAns s) = false := by simpa using hv
          have h2 : (viewAns s == v) = false := by simp; omega
          simp [h1, h2]
  · simp [hc]
theorem implQcOk (n f v : Int) (s : ByteArray) (ao : Option Addr) (ca : Nat) (xs : List Int) (w : World) (hs : s.size ≤ 33554432) (hE : Env w) (ha : RI w (.slice ao xs.length ca) xs) :
    Calls Tryz.prog 33 #[cv n f, qv v s (.slice ao xs.length ca)] w fun e w' => e = .returned (.bool (qokB n f v s xs)) ∧ Below w.heap.size w w' := by
  have := implQcOk_at n f v s ao ca xs w hs hE ha
  rwa [qok_eq] at this

/-- Sets of so many of n: more in common than liars. -/
theorem common_more {n : Int} {a b : List Int} (h4 : 4 ≤ n) (ha : OkL n a) (hb : OkL n b) (la : n - (n - 1) / 3 ≤ (a.length : Int)) (lb : n - (n - 1) / 3 ≤ (b.length : Int)) : (n - 1) / 3 < (comL a b : Int) := by
  have hj := join_len a b ha.2 hb.2
  have hk := ok_join ha hb
  have hle : ((joinL a b).length : Int) ≤ n := by
    have hl : ∀ (l : List Int) (m : Int), 0 ≤ m → OkL m l → (l.length : Int) ≤ m := by
      intro l
      generalize hn : l.length = k
      induction k generalizing l with
      | zero => intro m hm _; simpa using hm
      | succ k ih =>
        intro m hm ho
        obtain ⟨l', x, rfl⟩ : ∃ l' x, l = l' ++ [x] := ⟨l.dropLast, l.getLast (fun e => by rw [e] at hn; simp at hn), (List.dropLast_concat_getLast _).symm⟩
        have hx := ho.1 x (by simp)
        have hp := ho.2
        rw [List.pairwise_append] at hp
        have := ih l' (by simpa using hn) x hx.1 ⟨fun y hy => ⟨(ho.1 y (by simp [hy])).1, hp.2.2 y hy x (by simp)⟩, hp.1⟩
        push_cast
        omega
    exact hl _ n (by omega) hk
  omega
/-- What a certificate that is right and not the first has. -/
theorem qok_has {n f v : Int} {s : ByteArray} {xs : List Int} (h : qokB n f v s xs = true) (hs : s ≠ ⟨#[]⟩) : COk n f ∧ OkL n xs ∧ n - (n - 1) / 3 ≤ (xs.length : Int) := by
  unfold qokB at h
  simp only [hs, if_false, Bool.and_eq_true, decide_eq_true_eq] at h
  obtain ⟨⟨⟨hc, _⟩, _⟩, ho, hl⟩ := h
  exact ⟨hc, ho, by simpa [quorumOf, hc] using hl⟩
end Go.Proofs.YtehdchpolgihlaaGreatDoor

/- PartQci: PartQc of the program. -/
namespace Go.Proofs.YtehdchpolgihlaaGreatDoor
open Go.RowKit
set_option linter.unusedSectionVars false
variable [∀ (a b c d : Int), Decidable (Ok4 a b c d)]
variable [∀ (a b c d : Nat), Decidable (okN a b c d)]
variable [∀ (last : Int) (s : St), Decidable (GoodSt last s)]
variable [∀ (x : T4), Decidable (OkT x)]
variable [∀ (n : Int) (s : List Int), Decidable (OkL n s)]
variable [∀ (n f : Int), Decidable (COk n f)]

set_option maxHeartbeats 8000000 in
set_option maxRecDepth 100000 in
theorem implPartQc (n f m : Int) (s : ByteArray) (u : Value) (xs : List Int) (w : World) (hs : s.size ≤ 33554432) (hE : Env w) (hu : RI w u xs) :
    Calls Tryz.prog 16 #[cv n f, qv m s u] w fun e w' => ∃ r, e = .returned (.tuple #[qv (if (decide (s ≠ ⟨#[]⟩) && qokB n f m s xs) then m else 0) (if (decide (s ≠ ⟨#[]⟩) && qokB n f m s xs) then s else ⟨#[]⟩) r, .bool (decide (s ≠ ⟨#[]⟩) && qokB n f m s xs)]) ∧ OI w' w.heap.size r (if (decide (s ≠ ⟨#[]⟩) && qokB n f m s xs) then xs else []) ∧ Below w.heap.size w w' := by
  obtain ⟨ua, uc, rfl⟩ := hu.form
  obtain ⟨w0, hw0⟩ : ∃ y, (((w.alloc (.cells #[.int .i64 n, .int .i64 f] 32)).alloc (.cells #[.int .i64 m, .string s, .slice ua xs.length uc] 26)).alloc zq).alloc (.cells #[.int .i64 m, .string s, .slice ua xs.length uc] 40) = y := ⟨_, rfl⟩
  have B : Below w.heap.size w w0 := hw0 ▸ (((qalloc2 _ _ _).alloc (by simp; omega) _).alloc (by simp; omega) _)
  have C : Loc w0 w.heap.size #[.int .i64 n, .int .i64 f] := hw0 ▸ (((loc_at w _ _ rfl).alloc _).alloc _).alloc _
  have R : Loc w0 (w.heap.size + 1 + 1) #[.int .i64 0, .string ⟨#[]⟩, .slice none 0 0] := hw0 ▸ (loc_at ((w.alloc _).alloc _) _ _ (by simp)).alloc _
  have Q : Loc w0 (w.heap.size + 1 + 1 + 1) #[.int .i64 m, .string s, .slice ua xs.length uc] := hw0 ▸ (loc_at (((w.alloc _).alloc _).alloc _) _ _ (by simp))
  have s0 : w0.heap.size = w.heap.size + 1 + 1 + 1 + 1 := by rw [← hw0]; simp
  have QO := hide (implQcOk_at n f m s ua uc xs w0 hs (hE.below B) (hu.below B (Nat.le_refl _)))
  rw [qok_eq] at QO
  have TQ := hide fun w' (b : Below w0.heap.size w0 w') l => qtold_any (w.heap.size + 1 + 1 + 1) m s ua uc xs w' l ((hu.below B (Nat.le_refl _)).below b (Nat.le_refl _)) (by omega)
  obtain ⟨k, hk⟩ : ∃ k, xs.length = k := ⟨_, rfl⟩
  replace hk := hide hk
  rw [unhide hk] at hw0 Q QO TQ ⊢
  generalize qokB n f m s xs = qb at *
  have NO : Hid (∀ w2, Below w.heap.size w w2 → Below w.heap.size w (((w2.setCell ⟨w.heap.size + 1 + 1, 0, none⟩ (.int .i64 0)).setCell ⟨w.heap.size + 1 + 1, 1, none⟩ (.string ⟨#[]⟩)).setCell ⟨w.heap.size + 1 + 1, 2, none⟩ (.slice none 0 0))) := hide fun w2 b => by
    have K5 : Kp w2 (((w2.setCell ⟨w.heap.size + 1 + 1, 0, none⟩ (.int .i64 0)).setCell ⟨w.heap.size + 1 + 1, 1, none⟩ (.string ⟨#[]⟩)).setCell ⟨w.heap.size + 1 + 1, 2, none⟩ (.slice none 0 0)) (fun k => k = w.heap.size + 1 + 1) := ((set_kp _ _ _ _).trans (set_kp _ _ _ _)).trans (set_kp _ _ _ _)
    exact Below.kp b K5 b.size (fun k hk => by omega)
  have c0 := C.cell 0 rfl
  have c1 := C.cell 1 rfl
  have q0 := Q.cell 0 rfl
  have q1 := Q.cell 1 rfl
  have q2 := Q.cell 2 rfl
  clear hE hu C
  by_cases he : s = ⟨#[]⟩
  · have hd : decide (s ≠ ⟨#[]⟩) = false := by simpa using he
    have hy : (s.toList == []) = true := by rw [he, ByteArray.toList_eq]; rfl
    rw [hd]
    simp only [Bool.false_and, Bool.false_eq_true, if_false]
    have r0 := R.cell 0 rfl
    have r1 := R.cell 1 rfl
    have r2 := R.cell 2 rfl
    have fr := R.frozen
    have B' := hide (unhide NO _ B)
    clear he hd QO TQ R Q NO B
    go_enter Tryz.func16, Tryz.ntmps16
    go_wp2
    refine bodyPost_ret (v := .tuple #[qv 0 ⟨#[]⟩ (.slice none 0 0), .bool false]) (by simp [results, Tryz.results16, go_sem, r0, r1, r2]) rfl ?_
    exact ⟨_, rfl, World.ownsRow_nil _ _ _ _, unhide B'⟩
  · have hd : decide (s ≠ ⟨#[]⟩) = true := by simpa using he
    have hne := ne2 he
    rw [hd]
    simp only [Bool.true_and]
    clear he hd
    cases qb with
    | false =>
      simp only [Bool.false_eq_true, if_false]
      go_enter Tryz.func16, Tryz.ntmps16
      go_wp2_with fail
      clear hw0 c0 c1 q0 q1 q2 hne
      refine (unhide QO).mono ?_
      rintro e w2 ⟨rfl, b2⟩
      have B2 := B.trans (b2.mono B.size)
      replace R := R.below b2 R.lt
      have r0 := R.cell 0 rfl
      have r1 := R.cell 1 rfl
      have r2 := R.cell 2 rfl
      have fr := R.frozen
      have B' := hide (unhide NO _ B2)
      clear QO TQ R Q NO B B2 b2
      go_wp2
      refine bodyPost_ret (v := .tuple #[qv 0 ⟨#[]⟩ (.slice none 0 0), .bool false]) (by simp [results, Tryz.results16, go_sem, r0, r1, r2]) rfl ?_
      exact ⟨_, rfl, World.ownsRow_nil _ _ _ _, unhide B'⟩
    | true =>
      simp only [if_true]
      go_enter Tryz.func16, Tryz.ntmps16
      go_wp2_with fail
      clear hw0 c0 c1 q0 q1 q2 hne
      refine (unhide QO).mono ?_
      rintro e w2 ⟨rfl, b2⟩
      have B2 := B.trans (b2.mono B.size)
      replace R := R.below b2 R.lt
      have TT := hide (unhide TQ w2 b2 (Q.below b2 Q.lt))
      have s2 := b2.size
      clear QO TQ Q NO B b2
      go_wp2_with fail
      refine (unhide TT).mono ?_
      rintro e w3 ⟨r, rfl, o3, b3⟩
      have B3 := B2.trans (b3.mono B2.size)
      replace R := R.below b3 R.lt
      have r0 := R.cell 0 rfl
      have r1 := R.cell 1 rfl
      have r2 := R.cell 2 rfl
      have fr := R.frozen
      have lt3 := World.ownsRow.lt o3
      obtain ⟨ra, rc, hr⟩ := o3.form
      rw [unhide hk] at hr
      subst hr
      have O3 := hide o3
      clear R b3 o3 TT B2
      go_wp2
      refine bodyPost_ret (v := .tuple #[qv m s (.slice ra k rc), .bool true]) (by simp [results, Tryz.results16, go_sem, r0, r1, r2]) rfl ?_
      have K5 : Kp w3 (((w3.setCell ⟨w.heap.size + 1 + 1, 0, none⟩ (.int .i64 m)).setCell ⟨w.heap.size + 1 + 1, 1, none⟩ (.string s)).setCell ⟨w.heap.size + 1 + 1, 2, none⟩ (.slice ra k rc)) (fun k => k = w.heap.size + 1 + 1) := ((set_kp _ _ _ _).trans (set_kp _ _ _ _)).trans (set_kp _ _ _ _)
      exact ⟨_, rfl, ((unhide O3).kp K5 (fun k hk => by have := lt3 k hk; omega)).mono (by omega), Below.kp B3 K5 B3.size (fun k hk => by omega)⟩
end Go.Proofs.YtehdchpolgihlaaGreatDoor

/- PartQcAll: laws.FnExactPartQc at every argument. -/
namespace Go.Proofs.YtehdchpolgihlaaGreatDoor
open Go.RowKit
set_option linter.unusedSectionVars false
variable [∀ (a b c d : Int), Decidable (Ok4 a b c d)]
variable [∀ (a b c d : Nat), Decidable (okN a b c d)]
variable [∀ (last : Int) (s : St), Decidable (GoodSt last s)]
variable [∀ (x : T4), Decidable (OkT x)]
variable [∀ (n : Int) (s : List Int), Decidable (OkL n s)]
variable [∀ (n f : Int), Decidable (COk n f)]

theorem fnPartQc_walk (n f m : Int) (s : ByteArray) (pa : Option Addr) (pc : Nat) (xs : List Int) (w : World) (hs : s.size ≤ maxLen) (hn : xs.length ≤ maxLen) (hp : AIW w pa xs) (hE : Env w) :
    Calls Tryz.prog 5 #[cv n f, qv m s (.slice pa xs.length pc)] w fun e w' => e = .returned (.bool true) ∧ Below w.heap.size w w' := by
  by_cases h : s.size + xs.length ≤ 1048576
  · exact fnPartQc_short Env (fun w w' h hb => h.below hb) (fun n f m s u xs w hs _ hE hu => implPartQc n f m s u xs w (by omega) hE hu) n f m s pa pc xs w (hp.ri (by omega)) h hE
  · exact fnPartQc_long n f m s pa pc xs.length w (by omega) hs hn

end Go.Proofs.YtehdchpolgihlaaGreatDoor

/- Tables of parts in memory: a row of three cells each, and each part's own list of numbers. -/
namespace Go.Proofs.YtehdchpolgihlaaGreatDoor
open Go.RowKit

/-- A part: its view, its name, who voted. -/
abbrev Pt := Int × ByteArray × List Int
def zpt : Pt := (0, ⟨#[]⟩, [])
def phd (p : Pt) : Int × ByteArray := (p.1, p.2.1)
theorem Tryz.infoPt : (Tryz.prog.info? 26).map (fun i => (i.zero, i.size, i.bytes)) = some (some (.agg #[.int .i64 0, .string ⟨#[]⟩, .slice none 0 0]), 3, 48) := by kernel_rfl
def pcell (p : (Int × ByteArray) × Value) : List Value := [.int .i64 p.1.1, .string p.1.2, p.2]
def pcells (ps : List ((Int × ByteArray) × Value)) : List Value := ps.flatMap pcell
theorem pcells_cons (p : (Int × ByteArray) × Value) (ps : List ((Int × ByteArray) × Value)) : pcells (p :: ps) = .int .i64 p.1.1 :: .string p.1.2 :: p.2 :: pcells ps := by simp [pcells, pcell]
theorem pcells_len (ps : List ((Int × ByteArray) × Value)) : (pcells ps).length = ps.length * 3 := by
  induction ps with
  | nil => rfl
  | cons p ps ih => rw [pcells_cons]; simp only [List.length_cons, ih]; omega
theorem pcells_append (ps qs : List ((Int × ByteArray) × Value)) : pcells (ps ++ qs) = pcells ps ++ pcells qs := by simp [pcells]
theorem pcells_get (ps : List ((Int × ByteArray) × Value)) (k j : Nat) (hk : k < ps.length) (hj : j < 3) : (pcells ps)[k * 3 + j]? = (pcell (ps.getD k ((0, ⟨#[]⟩), .slice none 0 0)))[j]? := by
  induction ps generalizing k with
  | nil => simp at hk
  | cons p ps ih =>
    have e : pcells (p :: ps) = pcell p ++ pcells ps := by simp [pcells]
    rw [e]
    cases k with
    | zero => rw [Nat.zero_mul, Nat.zero_add, List.getElem?_append_left (by simp [pcell]; exact hj)]; rfl
    | succ k =>
      rw [List.getElem?_append_right (by simp [pcell]; omega), show (pcell p).length = 3 from rfl, show (k + 1) * 3 + j - 3 = k * 3 + j from by omega, ih k (by simpa using hk)]
      rfl
/-- v is a row of the call's own, from block 'base' on, of the parts ps, whose lists vs are the call's own too, each in a block of its own. -/
structure OPtV (w : World) (base : Nat) (v : Value) (ps : List Pt) (vs : List Value) : Prop where
  len : vs.length = ps.length
  row : w.ownsRow base 26 3 v ps.length (pcells ((ps.map phd).zip vs))
  each : ∀ k, k < ps.length → OI w base (vs.getD k (.slice none 0 0)) (ps.getD k zpt).2.2
  apart : ∀ i j, i < j → j < ps.length → ∀ b, (vs.getD i (.slice none 0 0)).ownBlock = some b → (vs.getD j (.slice none 0 0)).ownBlock ≠ some b
def OPt (w : World) (base : Nat) (v : Value) (ps : List Pt) : Prop := ∃ vs, OPtV w base v ps vs
/-- A row of parts and a list of numbers lie in two blocks. -/
theorem pt_oi {w : World} {B B' n : Nat} {v u : Value} {cs : List Value} {ys : List Int} (h : w.ownsRow B 26 3 v n cs) (h' : OI w B' u ys) (b : Nat) (hv : v.ownBlock = some b) : u.ownBlock ≠ some b := by
  rcases h.2 with ⟨rfl, _⟩ | ⟨g, cap, cur, rfl, _, hg, _⟩
  · simp [Value.ownBlock] at hv
  · rcases h'.2 with ⟨rfl, _⟩ | ⟨g', cap', cur', rfl, _, hg', _⟩
    · simp [Value.ownBlock]
    · intro e
      simp [Value.ownBlock] at e hv
      subst hv
      rw [e, hg] at hg'
      simp at hg'
theorem OPtV.below {w w' : World} {base : Nat} {v : Value} {ps : List Pt} {vs : List Value} (h : OPtV w base v ps vs) (hb : Below w.heap.size w w') : OPtV w' base v ps vs :=
  ⟨h.len, World.ownsRow.kept (row := none) h.row ⟨hb.os, hb.tape, hb.output, hb.size, fun k hk _ => hb.block k hk⟩ (by cases v.ownBlock <;> simp), fun k hk => (h.each k hk).below hb, h.apart⟩
theorem OPt.below {w w' : World} {base : Nat} {v : Value} {ps : List Pt} (h : OPt w base v ps) (hb : Below w.heap.size w w') : OPt w' base v ps := by
  obtain ⟨vs, h⟩ := h; exact ⟨vs, h.below hb⟩
/-- A table that nothing turns is kept. -/
theorem OPtV.kp {w w' : World} {base : Nat} {X : Nat → Prop} {v : Value} {ps : List Pt} {vs : List Value} (h : OPtV w base v ps vs) (k : Kp w w' X) (hX : ∀ j, base ≤ j → j < w.heap.size → ¬ X j) : OPtV w' base v ps vs := by
  have rl := World.ownsRow.lt h.row
  refine ⟨h.len, ?_, fun j hj => (h.each j hj).kp k (fun b hb => by have := World.ownsRow.lt (h.each j hj) b hb; exact hX b this.1 this.2), h.apart⟩
  rcases h.row with ⟨h1, ⟨e, h0⟩ | ⟨g, cap, cur, e, hg, hrow, rest⟩⟩
  · exact ⟨h1, .inl ⟨e, h0⟩⟩
  · have hlt := rl g (by rw [e]; rfl)
    exact ⟨h1, .inr ⟨g, cap, cur, e, hg, (k.block g hlt.2 (hX g hlt.1 hlt.2)).trans hrow, rest⟩⟩
theorem OPt.kp {w w' : World} {base : Nat} {X : Nat → Prop} {v : Value} {ps : List Pt} (h : OPt w base v ps) (k : Kp w w' X) (hX : ∀ j, base ≤ j → j < w.heap.size → ¬ X j) : OPt w' base v ps := by
  obtain ⟨vs, h⟩ := h; exact ⟨vs, h.kp k hX⟩
theorem OPtV.mono {w : World} {base base' : Nat} {v : Value} {ps : List Pt} {vs : List Value} (h : OPtV w base v ps vs) (hb : base' ≤ base) : OPtV w base' v ps vs := by
  refine ⟨h.len, ?_, fun k hk => OI.mono (h.each k hk) hb, h.apart⟩
  obtain ⟨h1, h2⟩ := h.row
  refine ⟨h1, ?_⟩
  rcases h2 with h2 | ⟨g, cap, cur, e, hg, rest⟩
  · exact .inl h2
  · exact .inr ⟨g, cap, cur, e, Nat.le_trans hb hg, rest⟩
theorem OPt.mono {w : World} {base base' : Nat} {v : Value} {ps : List Pt} (h : OPt w base v ps) (hb : base' ≤ base) : OPt w base' v ps := by
  obtain ⟨vs, h⟩ := h; exact ⟨vs, h.mono hb⟩
theorem opt_nil (w : World) (base : Nat) : OPt w base (.slice none 0 0) [] := ⟨[], rfl, World.ownsRow_nil _ _ _ _, fun k hk => by simp at hk, fun i j _ hj => by simp at hj⟩
theorem OPt.form {w : World} {base : Nat} {v : Value} {ps : List Pt} (h : OPt w base v ps) : ∃ ao ca, v = .slice ao ps.length ca := by
  obtain ⟨vs, h⟩ := h
  rcases h.row.2 with ⟨rfl, h0⟩ | ⟨g, cap, cur, rfl, _⟩
  · exact ⟨none, 0, by rw [h0]⟩
  · exact ⟨_, _, rfl⟩
/-- v reads as the parts ps, at whatever place. -/
def RPt (w : World) (v : Value) (ps : List Pt) : Prop :=
  ∃ ao cap, v = .slice ao ps.length cap ∧ (ps = [] ∨ ∃ g off, ao = some ⟨g, off, none⟩ ∧ ∀ k, k < ps.length → ∃ u, w.cell? ⟨g, off + k * 3, none⟩ = some (.int .i64 (ps.getD k zpt).1) ∧ w.cell? ⟨g, off + k * 3 + 1, none⟩ = some (.string (ps.getD k zpt).2.1) ∧ w.cell? ⟨g, off + k * 3 + 2, none⟩ = some u ∧ RI w u (ps.getD k zpt).2.2)
theorem pzip_get (ps : List Pt) (vs : List Value) (hl : vs.length = ps.length) (k : Nat) (hk : k < ps.length) : ((ps.map phd).zip vs).getD k ((0, ⟨#[]⟩), .slice none 0 0) = (phd (ps.getD k zpt), vs.getD k (.slice none 0 0)) := by
  rw [List.getD_eq_getElem?_getD, List.getElem?_eq_getElem (by simp; omega)]
  simp [List.getElem?_eq_getElem hk, List.getElem?_eq_getElem (show k < vs.length by omega)]
theorem pt_mem {ps : List Pt} {k : Nat} (hk : k < ps.length) : ps.getD k zpt ∈ ps := by
  rw [List.getD_eq_getElem?_getD, List.getElem?_eq_getElem hk]; exact List.getElem_mem hk
theorem OPt.rpt {w : World} {base : Nat} {v : Value} {ps : List Pt} (h : OPt w base v ps) (hs : ∀ p ∈ ps, p.2.2.length ≤ 4194304) : RPt w v ps := by
  obtain ⟨vs, h⟩ := h
  have hz : ((ps.map phd).zip vs).length = ps.length := by simp [h.len]
  rcases h.row.2 with ⟨rfl, h0⟩ | ⟨g, cap, cur, rfl, _⟩
  · exact ⟨none, 0, by rw [h0], .inl (List.length_eq_zero_iff.1 h0)⟩
  · refine ⟨_, cap, rfl, .inr ⟨g, 0, rfl, fun k hk => ?_⟩⟩
    have c0 := World.ownsRow.cellAt h.row (k * 3 + 0) (by omega)
    have c1 := World.ownsRow.cellAt h.row (k * 3 + 1) (by omega)
    have c2 := World.ownsRow.cellAt h.row (k * 3 + 2) (by omega)
    rw [pcells_get _ k _ (by omega) (by omega), pzip_get ps vs h.len k hk] at c0 c1 c2
    refine ⟨_, ?_, ?_, ?_, (h.each k hk).ri (hs _ (pt_mem hk))⟩
    · rw [Nat.zero_add]; exact c0
    · rw [Nat.zero_add]; exact c1
    · rw [Nat.zero_add]; exact c2
theorem RPt.below {w w' : World} {B : Nat} {v : Value} {ps : List Pt} (h : RPt w v ps) (hb : Below B w w') (hB : w.heap.size ≤ B) : RPt w' v ps := by
  obtain ⟨ao, cap, rfl, h⟩ := h
  refine ⟨ao, cap, rfl, ?_⟩
  rcases h with h | ⟨g, off, rfl, h⟩
  · exact .inl h
  · refine .inr ⟨g, off, rfl, fun k hk => ?_⟩
    obtain ⟨u, c0, c1, c2, r⟩ := h k hk
    have hg : g < B := Nat.lt_of_lt_of_le (cell_lt c0) hB
    exact ⟨u, (hb.cell (p := ⟨g, off + k * 3, none⟩) hg).trans c0, (hb.cell (p := ⟨g, off + k * 3 + 1, none⟩) hg).trans c1, (hb.cell (p := ⟨g, off + k * 3 + 2, none⟩) hg).trans c2, r.below hb hB⟩
theorem RPt.form {w : World} {v : Value} {ps : List Pt} (h : RPt w v ps) : ∃ ao ca, v = .slice ao ps.length ca := by obtain ⟨ao, ca, e, _⟩ := h; exact ⟨ao, ca, e⟩
theorem RPt.at {w : World} {ao : Option Addr} {n ca : Nat} {ps : List Pt} (h : RPt w (.slice ao n ca) ps) (k : Nat) (hk : k < ps.length) : ∃ g off u, ao = some ⟨g, off, none⟩ ∧ w.cell? ⟨g, off + k * 3, none⟩ = some (.int .i64 (ps.getD k zpt).1) ∧ w.cell? ⟨g, off + k * 3 + 1, none⟩ = some (.string (ps.getD k zpt).2.1) ∧ w.cell? ⟨g, off + k * 3 + 2, none⟩ = some u ∧ RI w u (ps.getD k zpt).2.2 := by
  obtain ⟨ao', ca', e, h⟩ := h
  cases e
  rcases h with rfl | ⟨g, off, rfl, h⟩
  · simp at hk
  · obtain ⟨u, h⟩ := h k hk; exact ⟨g, off, u, rfl, h⟩
/-- A table of the call's own in the blocks from lo on, below hi. -/
structure OPR (w : World) (lo hi : Nat) (v : Value) (ps : List Pt) (vs : List Value) : Prop where
  tab : OPtV w lo v ps vs
  top : hi ≤ w.heap.size
  rowHi : ∀ b, v.ownBlock = some b → b < hi
  eachHi : ∀ k, k < ps.length → ∀ b, (vs.getD k (.slice none 0 0)).ownBlock = some b → b < hi
theorem OPtV.opr {w : World} {base : Nat} {v : Value} {ps : List Pt} {vs : List Value} (h : OPtV w base v ps vs) : OPR w base w.heap.size v ps vs :=
  ⟨h, Nat.le_refl _, fun b hb => (World.ownsRow.lt h.row b hb).2, fun k hk b hb => (World.ownsRow.lt (h.each k hk) b hb).2⟩
theorem OPR.kp {w w' : World} {lo hi : Nat} {X : Nat → Prop} {v : Value} {ps : List Pt} {vs : List Value} (h : OPR w lo hi v ps vs) (k : Kp w w' X) (hX : ∀ j, lo ≤ j → j < hi → ¬ X j) : OPR w' lo hi v ps vs := by
  refine ⟨?_, Nat.le_trans h.top k.size, h.rowHi, h.eachHi⟩
  refine ⟨h.tab.len, ?_, fun j hj => (h.tab.each j hj).kp k (fun b hb => hX b (World.ownsRow.lt (h.tab.each j hj) b hb).1 (h.eachHi j hj b hb)), h.tab.apart⟩
  have rl := World.ownsRow.lt h.tab.row
  rcases h.tab.row with ⟨h1, ⟨e, h0⟩ | ⟨g, cap, cur, e, hg, hrow, rest⟩⟩
  · exact ⟨h1, .inl ⟨e, h0⟩⟩
  · have eo : v.ownBlock = some g := by rw [e]; rfl
    exact ⟨h1, .inr ⟨g, cap, cur, e, hg, (k.block g (rl g eo).2 (hX g (rl g eo).1 (h.rowHi g eo))).trans hrow, rest⟩⟩
theorem OPR.below {w w' : World} {lo hi : Nat} {v : Value} {ps : List Pt} {vs : List Value} (h : OPR w lo hi v ps vs) (hb : Below w.heap.size w w') : OPR w' lo hi v ps vs :=
  h.kp (Below.kpOf hb (fun _ => False)) (fun _ _ _ h => h)
theorem OPR.rpt {w : World} {lo hi : Nat} {v : Value} {ps : List Pt} {vs : List Value} (h : OPR w lo hi v ps vs) (hs : ∀ p ∈ ps, p.2.2.length ≤ 4194304) : RPt w v ps := OPt.rpt ⟨vs, h.tab⟩ hs
/-- A list's length is within its capacity. -/
def CapP (v : Value) : Prop := ∃ ao n cap, v = .slice ao n cap ∧ n ≤ cap ∧ cap ≤ maxLen
theorem OPtV.cap {w : World} {base : Nat} {v : Value} {ps : List Pt} {vs : List Value} (h : OPtV w base v ps vs) : CapP v := by
  rcases h.row.2 with ⟨rfl, h0⟩ | ⟨g, cap, cur, rfl, _, _, hca, hcm, _⟩
  · exact ⟨none, 0, 0, rfl, Nat.le_refl _, by unfold maxLen; omega⟩
  · exact ⟨_, _, cap, rfl, hca, hcm⟩
theorem OPt.cap {w : World} {base : Nat} {v : Value} {ps : List Pt} (h : OPt w base v ps) : CapP v := by obtain ⟨vs, h⟩ := h; exact h.cap
theorem OPR.cap {w : World} {lo hi : Nat} {v : Value} {ps : List Pt} {vs : List Value} (h : OPR w lo hi v ps vs) : CapP v := h.tab.cap
/-- One part more behind what is owned. -/
theorem opt_more {w w' : World} {base N : Nat} {v v' : Value} {ps : List Pt} {vs : List Value} {n : Int} {s : ByteArray} {u : Value} {xs : List Int} (h : OPtV w base v ps vs) (hu : OI w N u xs) (hN : ∀ k, k < ps.length → ∀ b, (vs.getD k (.slice none 0 0)).ownBlock = some b → b < N) (hbN : base ≤ N)
    (hr : w'.ownsRow base 26 3 v' (ps.length + 1) (pcells ((ps.map phd).zip vs) ++ pcell ((n, s), u))) (hg : w.grownBy w' v.ownBlock) : OPtV w' base v' (ps ++ [(n, s, xs)]) (vs ++ [u]) := by
  have keep : ∀ (x : Value) (zs : List Int) (B : Nat), OI w B x zs → OI w' B x zs := fun x zs B hx => World.ownsRow.kept hx hg (by
    cases hxo : x.ownBlock with
    | none => exact .inl rfl
    | some b => exact .inr fun e => pt_oi h.row hx b e.symm hxo)
  refine ⟨by simp [h.len], ?_, fun k hk => ?_, fun i j hij hj b hb => ?_⟩
  · have e : ((ps ++ [(n, s, xs)]).map phd).zip (vs ++ [u]) = (ps.map phd).zip vs ++ [((n, s), u)] := by
      rw [List.map_append, List.zip_append (by simp [h.len])]; rfl
    rw [e, pcells_append, List.length_append]
    simpa [pcells] using hr
  · rw [List.length_append, List.length_singleton] at hk
    by_cases e : k < ps.length
    · rw [List.getD_eq_getElem?_getD, List.getElem?_append_left (by rw [h.len]; exact e), ← List.getD_eq_getElem?_getD, List.getD_eq_getElem?_getD (l := ps ++ _), List.getElem?_append_left e, ← List.getD_eq_getElem?_getD]
      exact keep _ _ _ (h.each k e)
    · obtain rfl : k = ps.length := by omega
      have e1 : (vs ++ [u]).getD ps.length (.slice none 0 0) = u := by rw [← h.len]; simp
      have e2 : (ps ++ [(n, s, xs)]).getD ps.length zpt = (n, s, xs) := by simp
      rw [e1, e2]
      exact OI.mono (keep _ _ _ hu) hbN
  · rw [List.length_append, List.length_singleton] at hj
    have hi : i < ps.length := by omega
    rw [List.getD_eq_getElem?_getD, List.getElem?_append_left (by rw [h.len]; exact hi), ← List.getD_eq_getElem?_getD] at hb
    by_cases e : j < ps.length
    · rw [List.getD_eq_getElem?_getD, List.getElem?_append_left (by rw [h.len]; exact e), ← List.getD_eq_getElem?_getD]
      exact h.apart i j hij e b hb
    · obtain rfl : j = ps.length := by omega
      have e1 : (vs ++ [u]).getD ps.length (.slice none 0 0) = u := by rw [← h.len]; simp
      rw [e1]
      intro e3
      have := hN i hi b hb
      have := (World.ownsRow.lt hu b e3).1
      omega
end Go.Proofs.YtehdchpolgihlaaGreatDoor

/- A part and a table of parts that came in. -/
namespace Go.Proofs.YtehdchpolgihlaaGreatDoor
open Go.ChangeShapes Go.WideShapes Go.ChangeAt Go.RowKit
open Go.Joins
set_option linter.unusedSectionVars false
variable [∀ (a b c d : Int), Decidable (Ok4 a b c d)]
variable [∀ (n f : Int), Decidable (COk n f)]

set_option maxRecDepth 100000 in
theorem cellsPart : Tryz.prog.cellsOf 61 = 3 := by kernel_rfl
/-- A part as it came: its list at whatever place. -/
abbrev Pr := Int × ByteArray × Option Addr × Nat × List Int
def prz : Pr := (0, ⟨#[]⟩, none, 0, [])
def prp (r : Pr) : Pt := (r.1, r.2.1, r.2.2.2.2)
/-- What is known of a table that came in. -/
def ATab (W : World) (ao : Option Addr) (rs : List Pr) : Prop :=
  rs = [] ∨ ∃ g off, ao = some ⟨g, off, none⟩ ∧ ∀ k, k < rs.length → W.cell? ⟨g, off + k * 3, none⟩ = some (.int .i64 (rs.getD k prz).1) ∧ W.cell? ⟨g, off + k * 3 + 1, none⟩ = some (.string (rs.getD k prz).2.1) ∧ W.cell? ⟨g, off + k * 3 + 2, none⟩ = some (.slice (rs.getD k prz).2.2.1 (rs.getD k prz).2.2.2.2.length (rs.getD k prz).2.2.2.1)
theorem three_list {α : Type} {l : List α} (h : l.length = 3) : ∃ a b c, l = [a, b, c] := by
  match l, h with
  | [a, b, c], _ => exact ⟨a, b, c, rfl⟩
set_option maxRecDepth 100000 in
theorem open_parts0 {H : Type} {enc : TypeId × Value → H} {W : World} {fuel : Nat} {a : Option Addr} {len cap : Nat} {x : DataW H × List MemPlace} (h : DataW.trod enc Tryz.prog W 0 (fun _ => true) true fuel 68 (Value.slice a len cap).cells.toList = some x) :
    ∃ rs : List Pr, len = rs.length ∧ rs.length ≤ maxLen ∧ ATab W a rs ∧ ∀ r ∈ rs, r.2.1.size ≤ maxLen ∧ r.2.2.2.2.length ≤ maxLen ∧ AIW W r.2.2.1 r.2.2.2.2 ∧ WfL r.2.2.2.2 := by
  rcases Go.Deep.open_slice Tryz.underlying68 h with ⟨hcs, _⟩ | ⟨ad, l, c, m, n, D, Pl, hcs, _, hl, hm, hmm, _, hx⟩
  · simp [Value.cells] at hcs
    obtain ⟨rfl, rfl, rfl⟩ := hcs
    exact ⟨[], rfl, by simp, .inl rfl, fun r hr => by simp at hr⟩
  · simp [Value.cells] at hcs
    obtain ⟨rfl, rfl, rfl⟩ := hcs
    have hm' : m = cap := by simpa using hmm
    have each : ∀ i, ∃ q : Pr, i < len → (W.cell? (ad.add (i * 3)) = some (.int .i64 q.1) ∧ W.cell? (ad.add (i * 3 + 1)) = some (.string q.2.1) ∧ W.cell? (ad.add (i * 3 + 2)) = some (.slice q.2.2.1 q.2.2.2.2.length q.2.2.2.1)) ∧ q.2.1.size ≤ maxLen ∧ q.2.2.2.2.length ≤ maxLen ∧ AIW W q.2.2.1 q.2.2.2.2 ∧ WfL q.2.2.2.2 := by
      intro i
      by_cases hi : i < len
      · obtain ⟨cs', h1, h2⟩ := hx i (by omega)
        rw [cellsPart] at h1
        obtain ⟨_, hlen, hcell⟩ := World.cells?_some h1
        obtain ⟨y0, y1, y2, k, _, _, g0, g1, g2⟩ := Go.Deep.trod_struct3 Tryz.underlying61 h2
        obtain ⟨v0, v1, v2, rfl⟩ := three_list hlen
        have e0 := hcell 0 (by omega)
        have e1 := hcell 1 (by omega)
        have e2 := hcell 2 (by omega)
        rw [Go.Deep.add_add] at e0 e1 e2
        have ci : Tryz.prog.cellsOf 3 = 1 := by kernel_rfl
        have cs : Tryz.prog.cellsOf 9 = 1 := by kernel_rfl
        simp [ci, cs] at g0 g1 g2
        obtain ⟨a0, e0', _, _⟩ := DataW.trod_int Tryz.underlying3 g0
        obtain ⟨a1, e1', _, hs1⟩ := DataW.trod_string Tryz.underlying9 g1
        obtain ⟨ao, ca, xs, rfl, hxl, hxc, hxw⟩ := open_listW g2
        simp at e0' e1'
        subst e0' e1'
        exact ⟨(a0, a1, ao, ca, xs), fun _ => ⟨⟨by simpa using e0, by simpa using e1, by simpa using e2⟩, hs1, hxl, hxc, hxw⟩⟩
      · exact ⟨prz, fun h => absurd h hi⟩
    obtain ⟨q, hq⟩ := Classical.axiomOfChoice each
    refine ⟨(List.range len).map q, by simp, by simp; omega, ?_, fun r hr => ?_⟩
    · by_cases h0 : len = 0
      · left; simp [h0]
      · right
        obtain ⟨b, off, spot⟩ := ad
        have hc := (hq 0 (by omega)).1.1
        have hspot : spot = none := by simpa [Addr.add] using World.cell?_spot hc
        subst hspot
        refine ⟨b, off, rfl, fun k hk => ?_⟩
        rw [List.length_map, List.length_range] at hk
        have := (hq k hk).1
        have ea : ∀ j, ((⟨b, off, none⟩ : Addr).add j) = ⟨b, off + j, none⟩ := fun j => by unfold Addr.add; split <;> simp_all
        rw [ea, ea, ea] at this
        have eg : ((List.range len).map q).getD k prz = q k := by simp [hk]
        rw [eg]
        simpa [Nat.add_assoc] using this
    · obtain ⟨j, hj, rfl⟩ := List.mem_map.1 hr
      exact (hq j (List.mem_range.1 hj)).2
set_option maxRecDepth 100000 in
theorem open_part {H : Type} {enc : TypeId × Value → H} {W : World} {base : Nat} {v : Value} {d : DataW H} {p : List MemPlace} (hv : Value.okWide Tryz.prog W .any base 61 v)
    (h : DataW.Trod enc Tryz.prog W 0 (fun _ => true) true 61 v d p) :
    ∃ n s ao ca, ∃ xs : List Int, v = qv n s (.slice ao xs.length ca) ∧ s.size ≤ maxLen ∧ xs.length ≤ maxLen ∧ AIW W ao xs ∧ WfL xs := by
  obtain ⟨c0, c1, c2, y0, y1, y2, m, rfl, _, _, hy0, hy1, hy2⟩ := open_agg3 Tryz.underlying61 (by kernel_rfl) cellsPart hv h
  obtain ⟨a, e0, _, _⟩ := DataW.trod_int Tryz.underlying3 hy0
  obtain ⟨s, e1, _, hs⟩ := DataW.trod_string Tryz.underlying9 hy1
  obtain ⟨ao, ca, xs, rfl, hx, ax, wx⟩ := open_listW hy2
  simp at e0 e1
  exact ⟨a, s, ao, ca, xs, by rw [e0, e1], hs, hx, ax, wx⟩
set_option maxRecDepth 100000 in
theorem open_parts {H : Type} {enc : TypeId × Value → H} {W : World} {base : Nat} {v : Value} {d : DataW H} {p : List MemPlace} (hv : Value.okWide Tryz.prog W .any base 68 v)
    (h : DataW.Trod enc Tryz.prog W 0 (fun _ => true) true 68 v d p) : ∃ al cl, ∃ rs : List Pr, v = .slice al rs.length cl ∧ rs.length ≤ maxLen ∧ ATab W al rs ∧ ∀ r ∈ rs, r.2.1.size ≤ maxLen ∧ r.2.2.2.2.length ≤ maxLen ∧ AIW W r.2.2.1 r.2.2.2.2 ∧ WfL r.2.2.2.2 := by
  obtain ⟨a, len, cap, rfl⟩ := okWide_slice Tryz.underlying68 hv
  obtain ⟨fuel, hf⟩ := h
  obtain ⟨rs, rfl, hm, hr, he⟩ := open_parts0 hf
  exact ⟨a, cap, rs, rfl, hm, hr, he⟩
theorem ATab.rpt {W : World} {ao : Option Addr} {ca : Nat} {rs : List Pr} (h : ATab W ao rs) (he : ∀ r ∈ rs, AIW W r.2.2.1 r.2.2.2.2) (hl : ∀ r ∈ rs, r.2.2.2.2.length ≤ 4194304) : RPt W (.slice ao rs.length ca) (rs.map prp) := by
  refine ⟨ao, ca, by simp, ?_⟩
  rcases h with rfl | ⟨g, off, rfl, h⟩
  · exact .inl rfl
  · refine .inr ⟨g, off, rfl, fun k hk => ?_⟩
    rw [List.length_map] at hk
    have hm : rs.getD k prz ∈ rs := by rw [List.getD_eq_getElem?_getD, List.getElem?_eq_getElem hk]; exact List.getElem_mem hk
    have e : (rs.map prp).getD k zpt = prp (rs.getD k prz) := by simp [List.getElem?_eq_getElem hk]
    obtain ⟨c0, c1, c2⟩ := h k hk
    rw [e]
    exact ⟨_, c0, c1, c2, (he _ hm).ri (hl _ hm)⟩
end Go.Proofs.YtehdchpolgihlaaGreatDoor
