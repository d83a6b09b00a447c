/- Texts that belong together: Number, NumberFace. -/
import Derived.Test.YtbigcmcliamenaaGreatDoorNAAK
import Derived.Test.YtbigcmcliamenaaGreatDoorNAAH
namespace Go.Proofs.YtbigcmcliamenaaGreatDoor
open Go.RowKit

set_option maxHeartbeats 800000 in
set_option maxRecDepth 100000 in
theorem readDigits_some (s : ByteArray) (n : Nat) (w : World) (ht : Pow w) (h : Hid (numOf s.data.toList = some n)) :
 Calls Tryz.prog 177 #[.string s] w fun e w' => e = .returned (.int .i64 n) ∧ Below w.heap.size w w' := by
 obtain ⟨h1, h2⟩ := numOf_some h.out
 have hs : (⟨(Lib.itoa (n : Int)).toArray⟩ : ByteArray) = s := by rw [itoa_nat, h2]
 have HA := hide (atoi_num s n w h)
 have HC := hide fun w ht => implDigits_any (n : Int) w (by omega) (by omega) ht
 rw [hs] at HC
 have HT := hide ht
 clear hs h2 ht
 go_enter Tryz.func177, Tryz.ntmps177
 go_wp2_with fail
 refine (unhide HA).mono ?_
 rintro e w1 ⟨rfl, b1⟩
 have s1 := b1.size
 have H1 := hide ((unhide HT).below b1)
 go_wp2_with fail
 refine (unhide HC _ (unhide H1)).mono ?_
 rintro e w2 ⟨rfl, b2⟩
 go_wp2
 go_ret
 exact ⟨rfl, b1.trans (b2.mono s1)⟩

structure Env (w : World) : Prop where
 pow : Pow w
 no : ∃ u pv, w.cell? ⟨1, 0, none⟩ = some (.iface u pv)
 syn : ∃ u pv, w.cell? ⟨3, 0, none⟩ = some (.iface u pv)
 ran : ∃ u pv, w.cell? ⟨4, 0, none⟩ = some (.iface u pv)
theorem Env.below {w w' : World} (h : Env w) (hb : Below w.heap.size w w') : Env w' := by
 refine ⟨h.pow.below hb, ?_, ?_, ?_⟩
 ·obtain ⟨u, pv, e⟩ := h.no; exact ⟨u, pv, (hb.cell (cell_lt e)).trans e⟩
 ·obtain ⟨u, pv, e⟩ := h.syn; exact ⟨u, pv, (hb.cell (cell_lt e)).trans e⟩
 ·obtain ⟨u, pv, e⟩ := h.ran; exact ⟨u, pv, (hb.cell (cell_lt e)).trans e⟩

set_option maxHeartbeats 1600000 in
set_option maxRecDepth 100000 in
theorem readDigits_none (s : ByteArray) (hs : s.size ≤ 33554432) (u : TypeId) (pv : Value) (w : World) (hE : Env w) (he : w.cell? ⟨1, 0, none⟩ = some (.iface u pv)) (h : Hid (numOf s.data.toList = none)) :
 Calls Tryz.prog 177 #[.string s] w fun e w' => e = .panicked [{ v := .iface u pv, recovered := false }] ∧ Below w.heap.size w w' := by
 obtain ⟨u1, p1, hy⟩ := hE.syn
 obtain ⟨u2, p2, hr⟩ := hE.ran
 have HA := hide (atoi_any s hs w u1 u2 p1 p2 hy hr)
 have hlt : 1 < w.heap.size := cell_lt he
 have HE := hide hE
 clear hE hy hr
 go_enter Tryz.func177, Tryz.ntmps177
 go_wp2_with fail
 refine (unhide HA).mono ?_
 rintro e w1 ⟨h1, b1⟩
 have s1 := b1.size
 have e1 := (b1.cell hlt).trans he
 rcases h1 with ⟨v, rfl⟩ | ⟨v, t, x, rfl⟩
 ·by_cases h0 : v < 0
  ·go_wp2
   exact ⟨rfl, rfl, b1⟩
  ·have hd0 : decide (v < 0) = false := by simpa using h0
   by_cases h9 : 999999 < v
   ·go_wp2
    exact ⟨rfl, rfl, b1⟩
   ·have hd9 : decide (999999 < v) = false := by simpa using h9
    have H1 := hide ((unhide HE).below b1).pow
    obtain ⟨n, rfl⟩ := Int.eq_ofNat_of_zero_le (Int.not_lt.1 h0)
    obtain ⟨r, hr⟩ : ∃ r : ByteArray, r = ⟨(Lib.itoa (n : Int)).toArray⟩ := ⟨_, rfl⟩
    have hne : r ≠ s := by
     intro e
     rw [hr, itoa_nat] at e
     have := h.out
     rw [← e] at this
     rw [numOf_of (by omega)] at this
     cases this
    have hne' := str_ne hne
    have HC := hide fun w ht => implDigits_any (n : Int) w (by omega) (by omega) ht
    rw [← hr] at HC
    clear hr hne
    go_wp2_with fail
    refine (unhide HC _ (unhide H1)).mono ?_
    rintro e w2 ⟨rfl, b2⟩
    have e2 := (b2.cell (Nat.lt_of_lt_of_le hlt s1)).trans e1
    go_wp2
    exact ⟨rfl, rfl, b1.trans (b2.mono s1)⟩
 ·go_wp2
  exact ⟨rfl, rfl, b1⟩

set_option maxHeartbeats 800000 in
set_option maxRecDepth 100000 in
theorem digClo_some (B : Nat) (s : ByteArray) (n : Nat) (x : Value) (w : World) (hE : Env w) (hr : Hid (numOf s.data.toList = some n)) (h0 : w.cell? ⟨B, 0, none⟩ = some (.string s)) (h1 : w.cell? ⟨B + 1, 0, none⟩ = some x) (f1 : w.frozen? ⟨B + 1, 0, none⟩ = false) :
 Calls Tryz.prog 176 #[.pointer (some ⟨B, 0, none⟩), .pointer (some ⟨B + 1, 0, none⟩)] w fun e w' => e = .returned (.tuple #[]) ∧ ∃ w2, Below w.heap.size w w2 ∧ w' = w2.setCell ⟨B + 1, 0, none⟩ (.int .i64 n) := by
 have HA := hide (readDigits_some s n w hE.pow hr)
 have hlt : B + 1 < w.heap.size := cell_lt h1
 clear hE
 go_enter Tryz.func176, Tryz.ntmps176
 go_wp2_with fail
 refine (unhide HA).mono ?_
 rintro e w1 ⟨rfl, b1⟩
 have c1 : w1.cell? ⟨B + 1, 0, none⟩ = some x := (b1.cell hlt).trans h1
 have g1 : w1.frozen? ⟨B + 1, 0, none⟩ = false := (b1.frozen (p := ⟨B + 1, 0, none⟩) hlt).trans f1
 go_wp2
 go_end0
 exact ⟨rfl, _, b1, rfl⟩

set_option maxHeartbeats 800000 in
set_option maxRecDepth 100000 in
theorem digClo_none (B : Nat) (s : ByteArray) (hs : s.size ≤ 33554432) (u : TypeId) (pv : Value) (w : World) (hE : Env w) (he : w.cell? ⟨1, 0, none⟩ = some (.iface u pv)) (hr : Hid (numOf s.data.toList = none)) (h0 : w.cell? ⟨B, 0, none⟩ = some (.string s)) :
 Calls Tryz.prog 176 #[.pointer (some ⟨B, 0, none⟩), .pointer (some ⟨B + 1, 0, none⟩)] w fun e w' => e = .panicked [{ v := .iface u pv, recovered := false }] ∧ Below w.heap.size w w' := by
 have HA := hide (readDigits_none s hs u pv w hE he hr)
 clear hE he
 go_enter Tryz.func176, Tryz.ntmps176
 go_wp2_with fail
 refine (unhide HA).mono ?_
 rintro e w1 ⟨rfl, b1⟩
 go_wp2
 exact ⟨rfl, rfl, b1⟩

theorem new_cell (w : World) (x : Value) (t : TypeId) : (w.alloc (.cells #[x] t)).cell? ⟨w.heap.size, 0, none⟩ = some x := by simp
theorem new_free (w : World) (x : Value) (t : TypeId) : (w.alloc (.cells #[x] t)).frozen? ⟨w.heap.size, 0, none⟩ = false := by simp [go_sem]
abbrev nboxes (w : World) (s : ByteArray) : World := (w.alloc (.cells #[.string s] 9)).alloc (.cells #[.int .i64 0] 3)
theorem nboxes_below (w : World) (s : ByteArray) : Below w.heap.size w (nboxes w s) := ((Below.refl _ _).alloc (Nat.le_refl _) _).alloc (by simp) _
theorem nboxes_size (w : World) (s : ByteArray) : (nboxes w s).heap.size = w.heap.size + 2 := by simp
theorem nboxes_ok (w : World) (s : ByteArray) (o : Obj) :
 ((nboxes w s).alloc o).cell? ⟨w.heap.size, 0, none⟩ = some (.string s) ∧ ((nboxes w s).alloc o).cell? ⟨w.heap.size + 1, 0, none⟩ = some (.int .i64 0) ∧ ((nboxes w s).alloc o).frozen? ⟨w.heap.size + 1, 0, none⟩ = false := by
 simp [nboxes, go_sem]

set_option maxHeartbeats 1600000 in
set_option maxRecDepth 100000 in
theorem rdDig_some (s : ByteArray) (n : Nat) (w : World) (hE : Env w) (hr : Hid (numOf s.data.toList = some n)) :
 Calls Tryz.prog 141 #[.func (.func 176) #[] #[.pointer (some ⟨w.heap.size, 0, none⟩), .pointer (some ⟨w.heap.size + 1, 0, none⟩)]] (nboxes w s) fun e w' =>
  e = .returned (.bool true) ∧ w'.cell? ⟨w.heap.size + 1, 0, none⟩ = some (.int .i64 n) ∧ Below w.heap.size w w' := by
 obtain ⟨c0, c1, f1⟩ := nboxes_ok w s (.cells #[.bool false] 4)
 have hbl : Below w.heap.size w ((nboxes w s).alloc (.cells #[.bool false] 4)) := (nboxes_below w s).alloc (by rw [nboxes_size]; omega) _
 have hbs := nboxes_size w s
 have hsz : ((nboxes w s).alloc (.cells #[.bool false] 4)).heap.size = w.heap.size + 3 := by simp
 refine (readable_ok 176 _ (nboxes w s) (fun w1 => ∃ w2, Below ((nboxes w s).alloc (.cells #[.bool false] 4)).heap.size ((nboxes w s).alloc (.cells #[.bool false] 4)) w2 ∧ w1 = w2.setCell ⟨w.heap.size + 1, 0, none⟩ (.int .i64 n)) (fun _ => by simp [go_sem]) ?_).mono ?_
 ·refine (digClo_some w.heap.size s n _ _ (hE.below hbl) hr c0 c1 f1).mono ?_
  rintro e w' ⟨rfl, w2, b2, rfl⟩
  have hok : (⟨(nboxes w s).heap.size, 0, none⟩ : Addr).block < ((nboxes w s).alloc (.cells #[.bool false] 4)).heap.size := by rw [hsz]; show (nboxes w s).heap.size < _; rw [hbs]; omega
  refine ⟨rfl, ⟨w2, b2, rfl⟩, ?_, ?_⟩
  ·rw [World.cell?_setCell_other _ _ _ _ (by simp)]
   exact (b2.cell hok).trans (new_cell _ _ _)
  ·rw [World.frozen?_setCell]
   exact (b2.frozen hok).trans (new_free _ _ _)
 ·rintro e w' ⟨rfl, w1, ⟨w2, b2, rfl⟩, rfl⟩
  refine ⟨rfl, ?_, ?_⟩
  ·rw [World.cell?_setCell_other _ _ _ _ (by simp)]
   exact World.cell?_setCell_same _ _ _ ((b2.cell (by rw [hsz]; show w.heap.size + 1 < _; omega)).trans c1)
  ·exact ((hbl.trans (b2.mono (by rw [hsz]; omega))).setCell (by simp) _).setCell (by rw [hbs]; simp) _

set_option maxHeartbeats 1600000 in
set_option maxRecDepth 100000 in
theorem rdDig_none (s : ByteArray) (hs : s.size ≤ 33554432) (w : World) (hE : Env w) (hr : Hid (numOf s.data.toList = none)) :
 Calls Tryz.prog 141 #[.func (.func 176) #[] #[.pointer (some ⟨w.heap.size, 0, none⟩), .pointer (some ⟨w.heap.size + 1, 0, none⟩)]] (nboxes w s) fun e w' =>
  e = .returned (.bool false) ∧ w'.cell? ⟨w.heap.size + 1, 0, none⟩ = some (.int .i64 0) ∧ Below w.heap.size w w' := by
 obtain ⟨c0, c1, f1⟩ := nboxes_ok w s (.cells #[.bool false] 4)
 have hbl : Below w.heap.size w ((nboxes w s).alloc (.cells #[.bool false] 4)) := (nboxes_below w s).alloc (by rw [nboxes_size]; omega) _
 have hbs := nboxes_size w s
 have hsz : ((nboxes w s).alloc (.cells #[.bool false] 4)).heap.size = w.heap.size + 3 := by simp
 obtain ⟨u, pv, he⟩ := hE.no
 refine (readable_no 176 _ (nboxes w s) (fun w1 => Below ((nboxes w s).alloc (.cells #[.bool false] 4)).heap.size ((nboxes w s).alloc (.cells #[.bool false] 4)) w1) u pv (fun _ => by simp [go_sem]) ?_).mono ?_
 ·refine (digClo_none w.heap.size s hs u pv _ (hE.below hbl) ((hbl.cell (cell_lt he)).trans he) hr c0).mono ?_
  rintro e w' ⟨rfl, b2⟩
  have hok : (⟨(nboxes w s).heap.size, 0, none⟩ : Addr).block < ((nboxes w s).alloc (.cells #[.bool false] 4)).heap.size := by rw [hsz]; show (nboxes w s).heap.size < _; rw [hbs]; omega
  exact ⟨rfl, b2, (b2.cell hok).trans (new_cell _ _ _), (b2.frozen hok).trans (new_free _ _ _)⟩
 ·rintro e w' ⟨rfl, w1, b2, rfl⟩
  refine ⟨rfl, ?_, ?_⟩
  ·rw [World.cell?_setCell_other _ _ _ _ (by simp)]
   exact (b2.cell (by rw [hsz]; show w.heap.size + 1 < _; omega)).trans c1
  ·exact (hbl.trans (b2.mono (by rw [hsz]; omega))).setCell (by rw [hbs]; simp) _

set_option maxHeartbeats 1600000 in
set_option maxRecDepth 100000 in
theorem number_some (s : ByteArray) (n : Nat) (w : World) (hE : Env w) (hr : Hid (numOf s.data.toList = some n)) :
 Calls Tryz.prog 171 #[.string s] w fun e w' => e = .returned (.tuple #[.int .i64 n, .bool true]) ∧ Below w.heap.size w w' := by
 have hmf : ∀ (fn : Fn) (first cap : Array Value) (w : World), (Instr.makeFunc fn first cap).run Tryz.prog w = .ok (.func fn first cap) w := fun _ _ _ _ => rfl
 have HR := hide (rdDig_some s n w hE hr)
 clear hE
 go_enter Tryz.func171, Tryz.ntmps171
 go_wp2_with fail
 refine (unhide HR).mono ?_
 rintro e w' ⟨rfl, c1, bel⟩
 go_wp2
 go_ret2
 exact ⟨rfl, bel⟩

set_option maxHeartbeats 1600000 in
set_option maxRecDepth 100000 in
theorem number_none (s : ByteArray) (hs : s.size ≤ 33554432) (w : World) (hE : Env w) (hr : Hid (numOf s.data.toList = none)) :
 Calls Tryz.prog 171 #[.string s] w fun e w' => e = .returned (.tuple #[.int .i64 0, .bool false]) ∧ Below w.heap.size w w' := by
 have hmf : ∀ (fn : Fn) (first cap : Array Value) (w : World), (Instr.makeFunc fn first cap).run Tryz.prog w = .ok (.func fn first cap) w := fun _ _ _ _ => rfl
 have HR := hide (rdDig_none s hs w hE hr)
 clear hE
 go_enter Tryz.func171, Tryz.ntmps171
 go_wp2_with fail
 refine (unhide HR).mono ?_
 rintro e w' ⟨rfl, c1, bel⟩
 go_wp2
 go_ret2
 exact ⟨rfl, bel⟩

theorem number_any (s : ByteArray) (hs : s.size ≤ 33554432) (w : World) (hE : Env w) :
 Calls Tryz.prog 171 #[.string s] w fun e w' => e = .returned (.tuple #[.int .i64 (nans (numOf s.data.toList)), .bool (numOf s.data.toList).isSome]) ∧ Below w.heap.size w w' := by
 cases hr : numOf s.data.toList with
 | none => exact number_none s hs w hE hr
 | some n => exact number_some s n w hE hr
end Go.Proofs.YtbigcmcliamenaaGreatDoor
