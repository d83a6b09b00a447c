/- impl.Number: its closure, its face. -/
import Derived.Test.YtnbiphlificliaaDoorNumber
namespace Go.Proofs.YtnbiphlificliaaDoor
open Go.RowKit
set_option linter.unusedSectionVars false

set_option maxHeartbeats 800000 in
set_option maxRecDepth 100000 in
theorem digClo_some (B : Nat) (s : ByteArray) (n : Nat) (x : Value) (w : World) (hE : Env w) (hr : Hid (numOf s.data.toList = some n)) (h0 : w.cell? ⟨B, 0, none⟩ = some (.string s)) (h1 : w.cell? ⟨B + 1, 0, none⟩ = some x) (f1 : w.frozen? ⟨B + 1, 0, none⟩ = false) :
    Calls Tryd.prog 69 #[.pointer (some ⟨B, 0, none⟩), .pointer (some ⟨B + 1, 0, none⟩)] w fun e w' => e = .returned (.tuple #[]) ∧ ∃ w2, Below w.heap.size w w2 ∧ w' = w2.setCell ⟨B + 1, 0, none⟩ (.int .i64 n) := by
  have HA := hide (readDigits_some s n w hE.pow hr)
  have hlt : B + 1 < w.heap.size := cell_lt h1
  clear hE
  go_enter Tryd.func69, Tryd.ntmps69
  go_wp2_with fail
  refine (unhide HA).mono ?_
  rintro e w1 ⟨rfl, b1⟩
  have c1 : w1.cell? ⟨B + 1, 0, none⟩ = some x := (b1.cell hlt).trans h1
  have g1 : w1.frozen? ⟨B + 1, 0, none⟩ = false := (b1.frozen (p := ⟨B + 1, 0, none⟩) hlt).trans f1
  go_wp2
  go_end0
  exact ⟨rfl, _, b1, rfl⟩

set_option maxHeartbeats 800000 in
set_option maxRecDepth 100000 in
theorem digClo_none (B : Nat) (s : ByteArray) (hs : s.size ≤ 1048576) (u : TypeId) (pv : Value) (w : World) (hE : Env w) (he : w.cell? ⟨0, 0, none⟩ = some (.iface u pv)) (hr : Hid (numOf s.data.toList = none)) (h0 : w.cell? ⟨B, 0, none⟩ = some (.string s)) :
    Calls Tryd.prog 69 #[.pointer (some ⟨B, 0, none⟩), .pointer (some ⟨B + 1, 0, none⟩)] w fun e w' => e = .panicked [{ v := .iface u pv, recovered := false }] ∧ Below w.heap.size w w' := by
  have HA := hide (readDigits_none s hs u pv w hE he hr)
  clear hE he
  go_enter Tryd.func69, Tryd.ntmps69
  go_wp2_with fail
  refine (unhide HA).mono ?_
  rintro e w1 ⟨rfl, b1⟩
  go_wp2
  exact ⟨rfl, rfl, b1⟩

theorem new_cell (w : World) (x : Value) (t : TypeId) : (w.alloc (.cells #[x] t)).cell? ⟨w.heap.size, 0, none⟩ = some x := by simp
theorem new_free (w : World) (x : Value) (t : TypeId) : (w.alloc (.cells #[x] t)).frozen? ⟨w.heap.size, 0, none⟩ = false := by simp [go_sem]
/-- The two variables that Number's closure captures, laid. -/
abbrev nboxes (w : World) (s : ByteArray) : World := (w.alloc (.cells #[.string s] 9)).alloc (.cells #[.int .i64 0] 3)
theorem nboxes_below (w : World) (s : ByteArray) : Below w.heap.size w (nboxes w s) := ((Below.refl _ _).alloc (Nat.le_refl _) _).alloc (by simp) _
theorem nboxes_size (w : World) (s : ByteArray) : (nboxes w s).heap.size = w.heap.size + 2 := by simp
theorem nboxes_ok (w : World) (s : ByteArray) (o : Obj) :
    ((nboxes w s).alloc o).cell? ⟨w.heap.size, 0, none⟩ = some (.string s) ∧ ((nboxes w s).alloc o).cell? ⟨w.heap.size + 1, 0, none⟩ = some (.int .i64 0) ∧ ((nboxes w s).alloc o).frozen? ⟨w.heap.size + 1, 0, none⟩ = false := by
  simp [nboxes, go_sem]

set_option maxHeartbeats 1600000 in
set_option maxRecDepth 100000 in
theorem rdDig_some (s : ByteArray) (n : Nat) (w : World) (hE : Env w) (hr : Hid (numOf s.data.toList = some n)) :
    Calls Tryd.prog 68 #[.func (.func 69) #[] #[.pointer (some ⟨w.heap.size, 0, none⟩), .pointer (some ⟨w.heap.size + 1, 0, none⟩)]] (nboxes w s) fun e w' =>
      e = .returned (.bool true) ∧ w'.cell? ⟨w.heap.size + 1, 0, none⟩ = some (.int .i64 n) ∧ Below w.heap.size w w' := by
  obtain ⟨c0, c1, f1⟩ := nboxes_ok w s (.cells #[.bool false] 4)
  have hbl : Below w.heap.size w ((nboxes w s).alloc (.cells #[.bool false] 4)) := (nboxes_below w s).alloc (by rw [nboxes_size]; omega) _
  have hbs := nboxes_size w s
  have hsz : ((nboxes w s).alloc (.cells #[.bool false] 4)).heap.size = w.heap.size + 3 := by simp
  refine (readable_ok 69 _ (nboxes w s) (fun w1 => ∃ w2, Below ((nboxes w s).alloc (.cells #[.bool false] 4)).heap.size ((nboxes w s).alloc (.cells #[.bool false] 4)) w2 ∧ w1 = w2.setCell ⟨w.heap.size + 1, 0, none⟩ (.int .i64 n)) (fun _ => by simp [go_sem]) ?_).mono ?_
  · refine (digClo_some w.heap.size s n _ _ (hE.below hbl) hr c0 c1 f1).mono ?_
    rintro e w' ⟨rfl, w2, b2, rfl⟩
    have hok : (⟨(nboxes w s).heap.size, 0, none⟩ : Addr).block < ((nboxes w s).alloc (.cells #[.bool false] 4)).heap.size := by rw [hsz]; show (nboxes w s).heap.size < _; rw [hbs]; omega
    refine ⟨rfl, ⟨w2, b2, rfl⟩, ?_, ?_⟩
    · rw [World.cell?_setCell_other _ _ _ _ (by simp)]
      exact (b2.cell hok).trans (new_cell _ _ _)
    · rw [World.frozen?_setCell]
      exact (b2.frozen hok).trans (new_free _ _ _)
  · rintro e w' ⟨rfl, w1, ⟨w2, b2, rfl⟩, rfl⟩
    refine ⟨rfl, ?_, ?_⟩
    · rw [World.cell?_setCell_other _ _ _ _ (by simp)]
      exact World.cell?_setCell_same _ _ _ ((b2.cell (by rw [hsz]; show w.heap.size + 1 < _; omega)).trans c1)
    · exact ((hbl.trans (b2.mono (by rw [hsz]; omega))).setCell (by simp) _).setCell (by rw [hbs]; simp) _

set_option maxHeartbeats 1600000 in
set_option maxRecDepth 100000 in
theorem rdDig_none (s : ByteArray) (hs : s.size ≤ 1048576) (w : World) (hE : Env w) (hr : Hid (numOf s.data.toList = none)) :
    Calls Tryd.prog 68 #[.func (.func 69) #[] #[.pointer (some ⟨w.heap.size, 0, none⟩), .pointer (some ⟨w.heap.size + 1, 0, none⟩)]] (nboxes w s) fun e w' =>
      e = .returned (.bool false) ∧ w'.cell? ⟨w.heap.size + 1, 0, none⟩ = some (.int .i64 0) ∧ Below w.heap.size w w' := by
  obtain ⟨c0, c1, f1⟩ := nboxes_ok w s (.cells #[.bool false] 4)
  have hbl : Below w.heap.size w ((nboxes w s).alloc (.cells #[.bool false] 4)) := (nboxes_below w s).alloc (by rw [nboxes_size]; omega) _
  have hbs := nboxes_size w s
  have hsz : ((nboxes w s).alloc (.cells #[.bool false] 4)).heap.size = w.heap.size + 3 := by simp
  obtain ⟨u, pv, he⟩ := hE.no
  refine (readable_no 69 _ (nboxes w s) (fun w1 => Below ((nboxes w s).alloc (.cells #[.bool false] 4)).heap.size ((nboxes w s).alloc (.cells #[.bool false] 4)) w1) u pv (fun _ => by simp [go_sem]) ?_).mono ?_
  · refine (digClo_none w.heap.size s hs u pv _ (hE.below hbl) ((hbl.cell (cell_lt he)).trans he) hr c0).mono ?_
    rintro e w' ⟨rfl, b2⟩
    have hok : (⟨(nboxes w s).heap.size, 0, none⟩ : Addr).block < ((nboxes w s).alloc (.cells #[.bool false] 4)).heap.size := by rw [hsz]; show (nboxes w s).heap.size < _; rw [hbs]; omega
    exact ⟨rfl, b2, (b2.cell hok).trans (new_cell _ _ _), (b2.frozen hok).trans (new_free _ _ _)⟩
  · rintro e w' ⟨rfl, w1, b2, rfl⟩
    refine ⟨rfl, ?_, ?_⟩
    · rw [World.cell?_setCell_other _ _ _ _ (by simp)]
      exact (b2.cell (by rw [hsz]; show w.heap.size + 1 < _; omega)).trans c1
    · exact (hbl.trans (b2.mono (by rw [hsz]; omega))).setCell (by rw [hbs]; simp) _

set_option maxHeartbeats 1600000 in
set_option maxRecDepth 100000 in
theorem number_some (s : ByteArray) (n : Nat) (w : World) (hE : Env w) (hr : Hid (numOf s.data.toList = some n)) :
    Calls Tryd.prog 32 #[.string s] w fun e w' => e = .returned (.tuple #[.int .i64 n, .bool true]) ∧ Below w.heap.size w w' := by
  have hmf : ∀ (fn : Fn) (first cap : Array Value) (w : World), (Instr.makeFunc fn first cap).run Tryd.prog w = .ok (.func fn first cap) w := fun _ _ _ _ => rfl
  have HR := hide (rdDig_some s n w hE hr)
  clear hE
  go_enter Tryd.func32, Tryd.ntmps32
  go_wp2_with fail
  refine (unhide HR).mono ?_
  rintro e w' ⟨rfl, c1, bel⟩
  go_wp2
  go_ret2
  exact ⟨rfl, bel⟩

set_option maxHeartbeats 1600000 in
set_option maxRecDepth 100000 in
theorem number_none (s : ByteArray) (hs : s.size ≤ 1048576) (w : World) (hE : Env w) (hr : Hid (numOf s.data.toList = none)) :
    Calls Tryd.prog 32 #[.string s] w fun e w' => e = .returned (.tuple #[.int .i64 0, .bool false]) ∧ Below w.heap.size w w' := by
  have hmf : ∀ (fn : Fn) (first cap : Array Value) (w : World), (Instr.makeFunc fn first cap).run Tryd.prog w = .ok (.func fn first cap) w := fun _ _ _ _ => rfl
  have HR := hide (rdDig_none s hs w hE hr)
  clear hE
  go_enter Tryd.func32, Tryd.ntmps32
  go_wp2_with fail
  refine (unhide HR).mono ?_
  rintro e w' ⟨rfl, c1, bel⟩
  go_wp2
  go_ret2
  exact ⟨rfl, bel⟩

theorem number_any (s : ByteArray) (hs : s.size ≤ 1048576) (w : World) (hE : Env w) :
    Calls Tryd.prog 32 #[.string s] w fun e w' => e = .returned (.tuple #[.int .i64 (nans (numOf s.data.toList)), .bool (numOf s.data.toList).isSome]) ∧ Below w.heap.size w w' := by
  cases hr : numOf s.data.toList with
  | none => exact number_none s hs w hE hr
  | some n => exact number_some s n w hE hr
end Go.Proofs.YtnbiphlificliaaDoor
