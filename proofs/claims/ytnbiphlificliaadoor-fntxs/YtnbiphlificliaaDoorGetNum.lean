/- impl.GetNum: what it answers. -/
import Derived.Test.YtnbiphlificliaaDoorRead
import Derived.Test.YtnbiphlificliaaDoorReadable
namespace Go.Proofs.YtnbiphlificliaaDoor
open Go.RowKit
set_option linter.unusedSectionVars false

theorem readNum_any (v : Value) (xs : List Int) (p : Int) (u : TypeId) (pv : Value) (w : World) (h : RB w v xs) (hb : Bytes xs) (he : w.cell? ⟨0, 0, none⟩ = some (.iface u pv)) :
    Calls Tryd.prog 73 #[v, .int .i64 p] w fun e w' => ReadEnd (getNum xs p) [{ v := .iface u pv, recovered := false }] e ∧ w' = w := by
  by_cases hp : p < 0
  · refine (readNum_neg v xs p u pv w h hp he).mono ?_
    rintro e w' ⟨rfl, rfl⟩
    exact ⟨.inr ⟨getNum_neg xs p hp, rfl⟩, rfl⟩
  · obtain ⟨m, rfl⟩ := Int.eq_ofNat_of_zero_le (Int.not_lt.1 hp)
    refine (readNum_nat v xs m u pv w h hb he).mono ?_
    rintro e w' ⟨h1, rfl⟩
    refine ⟨?_, rfl⟩
    rw [getNum_nat]; exact h1

theorem readNum_some (v : Value) (xs : List Int) (p n q : Int) (u : TypeId) (pv : Value) (w : World) (h : RB w v xs) (hb : Bytes xs) (he : w.cell? ⟨0, 0, none⟩ = some (.iface u pv)) (hr : getNum xs p = some (n, q)) :
    Calls Tryd.prog 73 #[v, .int .i64 p] w fun e w' => e = .returned (.tuple #[.int .i64 n, .int .i64 q]) ∧ w' = w := by
  refine (readNum_any v xs p u pv w h hb he).mono ?_
  rintro e w' ⟨h1, rfl⟩
  rw [hr] at h1
  rcases h1 with ⟨n', q', h2, h3⟩ | ⟨h2, _⟩
  · simp only [Option.some.injEq, Prod.mk.injEq] at h2
    obtain ⟨rfl, rfl⟩ := h2
    exact ⟨h3, rfl⟩
  · cases h2
theorem readNum_none (v : Value) (xs : List Int) (p : Int) (u : TypeId) (pv : Value) (w : World) (h : RB w v xs) (hb : Bytes xs) (he : w.cell? ⟨0, 0, none⟩ = some (.iface u pv)) (hr : getNum xs p = none) :
    Calls Tryd.prog 73 #[v, .int .i64 p] w fun e w' => e = .panicked [{ v := .iface u pv, recovered := false }] ∧ w' = w := by
  refine (readNum_any v xs p u pv w h hb he).mono ?_
  rintro e w' ⟨h1, rfl⟩
  rw [hr] at h1
  rcases h1 with ⟨n', q', h2, h3⟩ | ⟨_, h3⟩
  · cases h2
  · exact ⟨h3, rfl⟩

set_option maxHeartbeats 800000 in
set_option maxRecDepth 100000 in
theorem numClo_some (B : Nat) (v : Value) (xs : List Int) (p n q : Int) (x y : Value) (u : TypeId) (pv : Value) (w : World) (h : RB w v xs) (hb : Bytes xs) (he : w.cell? ⟨0, 0, none⟩ = some (.iface u pv)) (hr : Hid (getNum xs p = some (n, q)))
    (h0 : w.cell? ⟨B, 0, none⟩ = some v) (h1 : w.cell? ⟨B + 1, 0, none⟩ = some (.int .i64 p)) (h2 : w.cell? ⟨B + 2, 0, none⟩ = some x) (h3 : w.cell? ⟨B + 3, 0, none⟩ = some y)
    (f2 : w.frozen? ⟨B + 2, 0, none⟩ = false) (f3 : w.frozen? ⟨B + 3, 0, none⟩ = false) :
    Calls Tryd.prog 72 #[.pointer (some ⟨B, 0, none⟩), .pointer (some ⟨B + 1, 0, none⟩), .pointer (some ⟨B + 2, 0, none⟩), .pointer (some ⟨B + 3, 0, none⟩)] w fun e w' =>
      e = .returned (.tuple #[]) ∧ w' = (w.setCell ⟨B + 2, 0, none⟩ (.int .i64 n)).setCell ⟨B + 3, 0, none⟩ (.int .i64 q) := by
  go_enter Tryd.func72, Tryd.ntmps72
  go_wp2_with fail
  refine (readNum_some v xs p n q u pv _ h hb he hr.out).mono ?_
  rintro e w' ⟨rfl, rfl⟩
  go_wp2
  go_end0
  exact ⟨rfl, rfl⟩

set_option maxHeartbeats 800000 in
set_option maxRecDepth 100000 in
theorem numClo_none (B : Nat) (v : Value) (xs : List Int) (p : Int) (u : TypeId) (pv : Value) (w : World) (h : RB w v xs) (hb : Bytes xs) (he : w.cell? ⟨0, 0, none⟩ = some (.iface u pv)) (hr : Hid (getNum xs p = none))
    (h0 : w.cell? ⟨B, 0, none⟩ = some v) (h1 : w.cell? ⟨B + 1, 0, none⟩ = some (.int .i64 p)) :
    Calls Tryd.prog 72 #[.pointer (some ⟨B, 0, none⟩), .pointer (some ⟨B + 1, 0, none⟩), .pointer (some ⟨B + 2, 0, none⟩), .pointer (some ⟨B + 3, 0, none⟩)] w fun e w' =>
      e = .panicked [{ v := .iface u pv, recovered := false }] ∧ w' = w := by
  go_enter Tryd.func72, Tryd.ntmps72
  go_wp2_with fail
  refine (readNum_none v xs p u pv _ h hb he hr.out).mono ?_
  rintro e w' ⟨rfl, rfl⟩
  go_wp2
  exact ⟨rfl, rfl, rfl⟩

theorem alloc_new (w : World) (x : Value) (t : TypeId) : (w.alloc (.cells #[x] t)).cell? ⟨w.heap.size, 0, none⟩ = some x := by simp
theorem alloc_free (w : World) (x : Value) (t : TypeId) : (w.alloc (.cells #[x] t)).frozen? ⟨w.heap.size, 0, none⟩ = false := by simp [go_sem]
/-- The four variables that GetNum's closure captures, laid. -/
abbrev boxes (w : World) (v : Value) (p : Int) : World := (((w.alloc (.cells #[v] 22)).alloc (.cells #[.int .i64 p] 3)).alloc (.cells #[.int .i64 0] 3)).alloc (.cells #[.int .i64 0] 3)
theorem boxes_below (w : World) (v : Value) (p : Int) : Below w.heap.size w (boxes w v p) :=
  ((((Below.refl _ _).alloc (Nat.le_refl _) _).alloc (by simp) _).alloc (by simp; omega) _).alloc (by simp; omega) _
theorem boxes_size (w : World) (v : Value) (p : Int) : (boxes w v p).heap.size = w.heap.size + 4 := by simp
theorem boxes_ok (w : World) (v : Value) (p : Int) (o : Obj) :
    ((boxes w v p).alloc o).cell? ⟨w.heap.size, 0, none⟩ = some v ∧ ((boxes w v p).alloc o).cell? ⟨w.heap.size + 1, 0, none⟩ = some (.int .i64 p) ∧ ((boxes w v p).alloc o).cell? ⟨w.heap.size + 2, 0, none⟩ = some (.int .i64 0) ∧ ((boxes w v p).alloc o).cell? ⟨w.heap.size + 3, 0, none⟩ = some (.int .i64 0) ∧
    ((boxes w v p).alloc o).frozen? ⟨w.heap.size + 2, 0, none⟩ = false ∧ ((boxes w v p).alloc o).frozen? ⟨w.heap.size + 3, 0, none⟩ = false := by
  simp [boxes, go_sem]

set_option maxHeartbeats 1600000 in
set_option maxRecDepth 100000 in
theorem rdNum_some (v : Value) (xs : List Int) (p n q : Int) (u : TypeId) (pv : Value) (w : World) (h : RB w v xs) (hb : Bytes xs) (he : w.cell? ⟨0, 0, none⟩ = some (.iface u pv)) (hr : Hid (getNum xs p = some (n, q))) :
    Calls Tryd.prog 68 #[.func (.func 72) #[] #[.pointer (some ⟨w.heap.size, 0, none⟩), .pointer (some ⟨w.heap.size + 1, 0, none⟩), .pointer (some ⟨w.heap.size + 1 + 1, 0, none⟩), .pointer (some ⟨w.heap.size + 1 + 1 + 1, 0, none⟩)]] (boxes w v p) fun e w' =>
      e = .returned (.bool true) ∧ w'.cell? ⟨w.heap.size + 1 + 1, 0, none⟩ = some (.int .i64 n) ∧ w'.cell? ⟨w.heap.size + 1 + 1 + 1, 0, none⟩ = some (.int .i64 q) ∧ Below w.heap.size w w' := by
  have hlt := cell_lt he
  obtain ⟨c0, c1, c2, c3, f2, f3⟩ := boxes_ok w v p (.cells #[.bool false] 4)
  have hbl : Below w.heap.size w ((boxes w v p).alloc (.cells #[.bool false] 4)) := (boxes_below w v p).alloc (by rw [boxes_size]; omega) _
  have hbs := boxes_size w v p
  refine (readable_ok 72 _ (boxes w v p) (fun w1 => w1 = (((boxes w v p).alloc (.cells #[.bool false] 4)).setCell ⟨w.heap.size + 2, 0, none⟩ (.int .i64 n)).setCell ⟨w.heap.size + 3, 0, none⟩ (.int .i64 q)) (fun _ => by simp [go_sem]) ?_).mono ?_
  · refine (numClo_some w.heap.size v xs p n q _ _ u pv _ (h.below hbl (Nat.le_refl _)) hb ((hbl.cell hlt).trans he) hr c0 c1 c2 c3 f2 f3).mono ?_
    rintro e w' ⟨rfl, rfl⟩
    refine ⟨rfl, rfl, ?_, ?_⟩
    · rw [World.cell?_setCell_other _ _ _ _ (by simp), World.cell?_setCell_other _ _ _ _ (by simp)]; exact alloc_new _ _ _
    · rw [World.frozen?_setCell, World.frozen?_setCell]; exact alloc_free _ _ _
  · rintro e w' ⟨rfl, w1, rfl, rfl⟩
    refine ⟨rfl, ?_, ?_, ?_⟩
    · rw [World.cell?_setCell_other _ _ _ _ (by simp), World.cell?_setCell_other _ _ _ _ (by simp), World.cell?_setCell_same _ _ _ c2]
    · rw [World.cell?_setCell_other _ _ _ _ (by simp)]
      exact World.cell?_setCell_same _ _ _ ((World.cell?_setCell_other _ _ _ _ (by simp)).trans c3)
    · exact ((hbl.setCell (by simp) _).setCell (by simp) _).setCell (by rw [hbs]; simp) _

set_option maxHeartbeats 1600000 in
set_option maxRecDepth 100000 in
theorem getNum_some (v : Value) (xs : List Int) (p n q : Int) (u : TypeId) (pv : Value) (w : World) (h : RB w v xs) (hb : Bytes xs) (he : w.cell? ⟨0, 0, none⟩ = some (.iface u pv)) (hr : Hid (getNum xs p = some (n, q))) :
    Calls Tryd.prog 38 #[v, .int .i64 p] w fun e w' => e = .returned (.tuple #[.int .i64 n, .int .i64 q, .bool true]) ∧ Below w.heap.size w w' := by
  have hmf : ∀ (fn : Fn) (first cap : Array Value) (w : World), (Instr.makeFunc fn first cap).run Tryd.prog w = .ok (.func fn first cap) w := fun _ _ _ _ => rfl
  have hrd := rdNum_some v xs p n q u pv w h hb he hr
  obtain ⟨hl, ao, ca, rfl, _, h'⟩ := h
  clear h'
  go_enter Tryd.func38, Tryd.ntmps38
  go_wp2_with fail
  refine hrd.mono ?_
  rintro e w' ⟨rfl, c2, c3, bel⟩
  go_wp2_with fail
  go_quiet (fail)
  go_wp2
  go_ret3
  exact ⟨rfl, below_drewN bel _⟩

set_option maxHeartbeats 1600000 in
set_option maxRecDepth 100000 in
theorem rdNum_none (v : Value) (xs : List Int) (p : Int) (u : TypeId) (pv : Value) (w : World) (h : RB w v xs) (hb : Bytes xs) (he : w.cell? ⟨0, 0, none⟩ = some (.iface u pv)) (hr : Hid (getNum xs p = none)) :
    Calls Tryd.prog 68 #[.func (.func 72) #[] #[.pointer (some ⟨w.heap.size, 0, none⟩), .pointer (some ⟨w.heap.size + 1, 0, none⟩), .pointer (some ⟨w.heap.size + 1 + 1, 0, none⟩), .pointer (some ⟨w.heap.size + 1 + 1 + 1, 0, none⟩)]] (boxes w v p) fun e w' =>
      e = .returned (.bool false) ∧ w'.cell? ⟨w.heap.size + 1 + 1, 0, none⟩ = some (.int .i64 0) ∧ w'.cell? ⟨w.heap.size + 1 + 1 + 1, 0, none⟩ = some (.int .i64 0) ∧ Below w.heap.size w w' := by
  have hlt := cell_lt he
  obtain ⟨c0, c1, c2, c3, f2, f3⟩ := boxes_ok w v p (.cells #[.bool false] 4)
  have hbl : Below w.heap.size w ((boxes w v p).alloc (.cells #[.bool false] 4)) := (boxes_below w v p).alloc (by rw [boxes_size]; omega) _
  have hbs := boxes_size w v p
  refine (readable_no 72 _ (boxes w v p) (fun w1 => w1 = (boxes w v p).alloc (.cells #[.bool false] 4)) u pv (fun _ => by simp [go_sem]) ?_).mono ?_
  · refine (numClo_none w.heap.size v xs p u pv _ (h.below hbl (Nat.le_refl _)) hb ((hbl.cell hlt).trans he) hr c0 c1).mono ?_
    rintro e w' ⟨rfl, rfl⟩
    exact ⟨rfl, rfl, alloc_new _ _ _, alloc_free _ _ _⟩
  · rintro e w' ⟨rfl, w1, rfl, rfl⟩
    refine ⟨rfl, ?_, ?_, ?_⟩
    · rw [World.cell?_setCell_other _ _ _ _ (by simp)]; exact c2
    · rw [World.cell?_setCell_other _ _ _ _ (by simp)]; exact c3
    · exact hbl.setCell (by rw [hbs]; simp) _

set_option maxHeartbeats 1600000 in
set_option maxRecDepth 100000 in
theorem getNum_none (v : Value) (xs : List Int) (p : Int) (u : TypeId) (pv : Value) (w : World) (h : RB w v xs) (hb : Bytes xs) (he : w.cell? ⟨0, 0, none⟩ = some (.iface u pv)) (hr : Hid (getNum xs p = none)) :
    Calls Tryd.prog 38 #[v, .int .i64 p] w fun e w' => e = .returned (.tuple #[.int .i64 0, .int .i64 0, .bool false]) ∧ Below w.heap.size w w' := by
  have hmf : ∀ (fn : Fn) (first cap : Array Value) (w : World), (Instr.makeFunc fn first cap).run Tryd.prog w = .ok (.func fn first cap) w := fun _ _ _ _ => rfl
  have hrd := rdNum_none v xs p u pv w h hb he hr
  obtain ⟨hl, ao, ca, rfl, _, h'⟩ := h
  clear h'
  go_enter Tryd.func38, Tryd.ntmps38
  go_wp2_with fail
  refine hrd.mono ?_
  rintro e w' ⟨rfl, c2, c3, bel⟩
  go_wp2_with fail
  go_quiet (fail)
  go_wp2
  go_ret3
  exact ⟨rfl, below_drewN bel _⟩

/-- What GetNum answers, in three words. -/
def ans1 (r : Option (Int × Int)) : Int := match r with | some x => x.1 | none => 0
def ans2 (r : Option (Int × Int)) : Int := match r with | some x => x.2 | none => 0
theorem getNum_any (v : Value) (xs : List Int) (p : Int) (u : TypeId) (pv : Value) (w : World) (h : RB w v xs) (hb : Bytes xs) (he : w.cell? ⟨0, 0, none⟩ = some (.iface u pv)) :
    Calls Tryd.prog 38 #[v, .int .i64 p] w fun e w' => e = .returned (.tuple #[.int .i64 (ans1 (getNum xs p)), .int .i64 (ans2 (getNum xs p)), .bool (getNum xs p).isSome]) ∧ Below w.heap.size w w' := by
  cases hr : getNum xs p with
  | none => exact getNum_none v xs p u pv w h hb he hr
  | some x => exact getNum_some v xs p x.1 x.2 u pv w h hb he hr
end Go.Proofs.YtnbiphlificliaaDoor
