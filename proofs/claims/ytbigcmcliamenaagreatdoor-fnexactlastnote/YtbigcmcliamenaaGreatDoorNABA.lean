/- impl.GetText: what it answers. -/
import Derived.Test.YtbigcmcliamenaaGreatDoorNAAI
namespace Go.Proofs.YtbigcmcliamenaaGreatDoor
open Go.RowKit

set_option maxHeartbeats 800000 in
set_option maxRecDepth 100000 in
theorem textClo_some (B : Nat) (v : Value) (xs : List Int) (p : Int) (s : ByteArray) (q : Int) (x y : Value) (u : TypeId) (pv : Value) (w : World) (h : RB w v xs) (hb : Bytes xs) (he : w.cell? ⟨1, 0, none⟩ = some (.iface u pv)) (hr : Hid (getText xs p = some (s, q)))
 (h0 : w.cell? ⟨B, 0, none⟩ = some v) (h1 : w.cell? ⟨B + 1, 0, none⟩ = some (.int .i64 p)) (h2 : w.cell? ⟨B + 2, 0, none⟩ = some x) (h3 : w.cell? ⟨B + 3, 0, none⟩ = some y)
 (f2 : w.frozen? ⟨B + 2, 0, none⟩ = false) (f3 : w.frozen? ⟨B + 3, 0, none⟩ = false) :
 Calls Tryz.prog 144 #[.pointer (some ⟨B, 0, none⟩), .pointer (some ⟨B + 1, 0, none⟩), .pointer (some ⟨B + 2, 0, none⟩), .pointer (some ⟨B + 3, 0, none⟩)] w fun e w' =>
  e = .returned (.tuple #[]) ∧ w' = (w.setCell ⟨B + 2, 0, none⟩ (.string s)).setCell ⟨B + 3, 0, none⟩ (.int .i64 q) := by
 go_enter Tryz.func144, Tryz.ntmps144
 go_wp2_with fail
 refine (readText_yes v xs p s q u pv _ h hb he hr.out).mono ?_
 rintro e w' ⟨rfl, rfl⟩
 go_wp2
 go_end0
 exact ⟨rfl, rfl⟩

set_option maxHeartbeats 800000 in
set_option maxRecDepth 100000 in
theorem textClo_none (B : Nat) (v : Value) (xs : List Int) (p : Int) (u : TypeId) (pv : Value) (w : World) (h : RB w v xs) (hb : Bytes xs) (he : w.cell? ⟨1, 0, none⟩ = some (.iface u pv)) (hr : Hid (getText xs p = none))
 (h0 : w.cell? ⟨B, 0, none⟩ = some v) (h1 : w.cell? ⟨B + 1, 0, none⟩ = some (.int .i64 p)) :
 Calls Tryz.prog 144 #[.pointer (some ⟨B, 0, none⟩), .pointer (some ⟨B + 1, 0, none⟩), .pointer (some ⟨B + 2, 0, none⟩), .pointer (some ⟨B + 3, 0, none⟩)] w fun e w' =>
  e = .panicked [{ v := .iface u pv, recovered := false }] ∧ w' = w := by
 go_enter Tryz.func144, Tryz.ntmps144
 go_wp2_with fail
 refine (readText_no v xs p u pv _ h hb he hr.out).mono ?_
 rintro e w' ⟨rfl, rfl⟩
 go_wp2
 exact ⟨rfl, rfl, rfl⟩

abbrev tboxes (w : World) (v : Value) (p : Int) : World := (((w.alloc (.cells #[v] 22)).alloc (.cells #[.int .i64 p] 3)).alloc (.cells #[.string ⟨#[]⟩] 9)).alloc (.cells #[.int .i64 0] 3)
theorem tboxes_below (w : World) (v : Value) (p : Int) : Below w.heap.size w (tboxes w v p) :=
 ((((Below.refl _ _).alloc (Nat.le_refl _) _).alloc (by simp) _).alloc (by simp; omega) _).alloc (by simp; omega) _
theorem tboxes_size (w : World) (v : Value) (p : Int) : (tboxes w v p).heap.size = w.heap.size + 4 := by simp
theorem tboxes_ok (w : World) (v : Value) (p : Int) (o : Obj) :
 ((tboxes w v p).alloc o).cell? ⟨w.heap.size, 0, none⟩ = some v ∧ ((tboxes w v p).alloc o).cell? ⟨w.heap.size + 1, 0, none⟩ = some (.int .i64 p) ∧ ((tboxes w v p).alloc o).cell? ⟨w.heap.size + 2, 0, none⟩ = some (.string ⟨#[]⟩) ∧ ((tboxes w v p).alloc o).cell? ⟨w.heap.size + 3, 0, none⟩ = some (.int .i64 0) ∧
 ((tboxes w v p).alloc o).frozen? ⟨w.heap.size + 2, 0, none⟩ = false ∧ ((tboxes w v p).alloc o).frozen? ⟨w.heap.size + 3, 0, none⟩ = false := by
 simp [tboxes, go_sem]

set_option maxHeartbeats 1600000 in
set_option maxRecDepth 100000 in
theorem rdText_some (v : Value) (xs : List Int) (p : Int) (s : ByteArray) (q : Int) (u : TypeId) (pv : Value) (w : World) (h : RB w v xs) (hb : Bytes xs) (he : w.cell? ⟨1, 0, none⟩ = some (.iface u pv)) (hr : Hid (getText xs p = some (s, q))) :
 Calls Tryz.prog 141 #[.func (.func 144) #[] #[.pointer (some ⟨w.heap.size, 0, none⟩), .pointer (some ⟨w.heap.size + 1, 0, none⟩), .pointer (some ⟨w.heap.size + 1 + 1, 0, none⟩), .pointer (some ⟨w.heap.size + 1 + 1 + 1, 0, none⟩)]] (tboxes w v p) fun e w' =>
  e = .returned (.bool true) ∧ w'.cell? ⟨w.heap.size + 1 + 1, 0, none⟩ = some (.string s) ∧ w'.cell? ⟨w.heap.size + 1 + 1 + 1, 0, none⟩ = some (.int .i64 q) ∧ Below w.heap.size w w' := by
 have hlt := cell_lt he
 obtain ⟨c0, c1, c2, c3, f2, f3⟩ := tboxes_ok w v p (.cells #[.bool false] 4)
 have hbl : Below w.heap.size w ((tboxes w v p).alloc (.cells #[.bool false] 4)) := (tboxes_below w v p).alloc (by rw [tboxes_size]; omega) _
 have hbs := tboxes_size w v p
 refine (readable_ok 144 _ (tboxes w v p) (fun w1 => w1 = (((tboxes w v p).alloc (.cells #[.bool false] 4)).setCell ⟨w.heap.size + 2, 0, none⟩ (.string s)).setCell ⟨w.heap.size + 3, 0, none⟩ (.int .i64 q)) (fun _ => by simp [go_sem]) ?_).mono ?_
 ·refine (textClo_some w.heap.size v xs p s q _ _ u pv _ (h.below hbl (Nat.le_refl _)) hb ((hbl.cell hlt).trans he) hr c0 c1 c2 c3 f2 f3).mono ?_
  rintro e w' ⟨rfl, rfl⟩
  refine ⟨rfl, rfl, ?_, ?_⟩
  ·rw [World.cell?_setCell_other _ _ _ _ (by simp), World.cell?_setCell_other _ _ _ _ (by simp)]; exact alloc_new _ _ _
  ·rw [World.frozen?_setCell, World.frozen?_setCell]; exact alloc_free _ _ _
 ·rintro e w' ⟨rfl, w1, rfl, rfl⟩
  refine ⟨rfl, ?_, ?_, ?_⟩
  ·rw [World.cell?_setCell_other _ _ _ _ (by simp), World.cell?_setCell_other _ _ _ _ (by simp), World.cell?_setCell_same _ _ _ c2]
  ·rw [World.cell?_setCell_other _ _ _ _ (by simp)]
   exact World.cell?_setCell_same _ _ _ ((World.cell?_setCell_other _ _ _ _ (by simp)).trans c3)
  ·exact ((hbl.setCell (by simp) _).setCell (by simp) _).setCell (by rw [hbs]; simp) _

set_option maxHeartbeats 1600000 in
set_option maxRecDepth 100000 in
theorem getTextI_some (v : Value) (xs : List Int) (p : Int) (s : ByteArray) (q : Int) (u : TypeId) (pv : Value) (w : World) (h : RB w v xs) (hb : Bytes xs) (he : w.cell? ⟨1, 0, none⟩ = some (.iface u pv)) (hr : Hid (getText xs p = some (s, q))) :
 Calls Tryz.prog 125 #[v, .int .i64 p] w fun e w' => e = .returned (.tuple #[.string s, .int .i64 q, .bool true]) ∧ Below w.heap.size w w' := by
 have hmf : ∀ (fn : Fn) (first cap : Array Value) (w : World), (Instr.makeFunc fn first cap).run Tryz.prog w = .ok (.func fn first cap) w := fun _ _ _ _ => rfl
 have hrd := rdText_some v xs p s q u pv w h hb he hr
 obtain ⟨hl, ao, ca, rfl, _, h'⟩ := h
 clear h'
 go_enter Tryz.func125, Tryz.ntmps125
 go_wp2_with fail
 refine hrd.mono ?_
 rintro e w' ⟨rfl, c2, c3, bel⟩
 go_wp2_with fail
 go_quiet (fail)
 go_wp2
 go_ret3
 exact ⟨rfl, below_drewN bel _⟩

set_option maxHeartbeats 1600000 in
set_option maxRecDepth 100000 in
theorem rdText_none (v : Value) (xs : List Int) (p : Int) (u : TypeId) (pv : Value) (w : World) (h : RB w v xs) (hb : Bytes xs) (he : w.cell? ⟨1, 0, none⟩ = some (.iface u pv)) (hr : Hid (getText xs p = none)) :
 Calls Tryz.prog 141 #[.func (.func 144) #[] #[.pointer (some ⟨w.heap.size, 0, none⟩), .pointer (some ⟨w.heap.size + 1, 0, none⟩), .pointer (some ⟨w.heap.size + 1 + 1, 0, none⟩), .pointer (some ⟨w.heap.size + 1 + 1 + 1, 0, none⟩)]] (tboxes w v p) fun e w' =>
  e = .returned (.bool false) ∧ w'.cell? ⟨w.heap.size + 1 + 1, 0, none⟩ = some (.string ⟨#[]⟩) ∧ w'.cell? ⟨w.heap.size + 1 + 1 + 1, 0, none⟩ = some (.int .i64 0) ∧ Below w.heap.size w w' := by
 have hlt := cell_lt he
 obtain ⟨c0, c1, c2, c3, f2, f3⟩ := tboxes_ok w v p (.cells #[.bool false] 4)
 have hbl : Below w.heap.size w ((tboxes w v p).alloc (.cells #[.bool false] 4)) := (tboxes_below w v p).alloc (by rw [tboxes_size]; omega) _
 have hbs := tboxes_size w v p
 refine (readable_no 144 _ (tboxes w v p) (fun w1 => w1 = (tboxes w v p).alloc (.cells #[.bool false] 4)) u pv (fun _ => by simp [go_sem]) ?_).mono ?_
 ·refine (textClo_none w.heap.size v xs p u pv _ (h.below hbl (Nat.le_refl _)) hb ((hbl.cell hlt).trans he) hr c0 c1).mono ?_
  rintro e w' ⟨rfl, rfl⟩
  exact ⟨rfl, rfl, alloc_new _ _ _, alloc_free _ _ _⟩
 ·rintro e w' ⟨rfl, w1, rfl, rfl⟩
  refine ⟨rfl, ?_, ?_, ?_⟩
  ·rw [World.cell?_setCell_other _ _ _ _ (by simp)]; exact c2
  ·rw [World.cell?_setCell_other _ _ _ _ (by simp)]; exact c3
  ·exact hbl.setCell (by rw [hbs]; simp) _

set_option maxHeartbeats 1600000 in
set_option maxRecDepth 100000 in
theorem getTextI_none (v : Value) (xs : List Int) (p : Int) (u : TypeId) (pv : Value) (w : World) (h : RB w v xs) (hb : Bytes xs) (he : w.cell? ⟨1, 0, none⟩ = some (.iface u pv)) (hr : Hid (getText xs p = none)) :
 Calls Tryz.prog 125 #[v, .int .i64 p] w fun e w' => e = .returned (.tuple #[.string ⟨#[]⟩, .int .i64 0, .bool false]) ∧ Below w.heap.size w w' := by
 have hmf : ∀ (fn : Fn) (first cap : Array Value) (w : World), (Instr.makeFunc fn first cap).run Tryz.prog w = .ok (.func fn first cap) w := fun _ _ _ _ => rfl
 have hrd := rdText_none v xs p u pv w h hb he hr
 obtain ⟨hl, ao, ca, rfl, _, h'⟩ := h
 clear h'
 go_enter Tryz.func125, Tryz.ntmps125
 go_wp2_with fail
 refine hrd.mono ?_
 rintro e w' ⟨rfl, c2, c3, bel⟩
 go_wp2_with fail
 go_quiet (fail)
 go_wp2
 go_ret3
 exact ⟨rfl, below_drewN bel _⟩

def tans1 (r : Option (ByteArray × Int)) : ByteArray := match r with | some x => x.1 | none => ⟨#[]⟩
def tans2 (r : Option (ByteArray × Int)) : Int := match r with | some x => x.2 | none => 0
end Go.Proofs.YtbigcmcliamenaaGreatDoor
