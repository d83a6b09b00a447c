/- Lemmas, as stated. -/
import Derived.Test.YtjdchloechcclaaGreatDoorSNAL
set_option maxRecDepth 100000
set_option maxHeartbeats 4000000
set_option linter.unusedSectionVars false
namespace Go.Proofs.YtjdchloechcclaaGreatDoor
section
open Go.RowKit
theorem readDigits_some (s : ByteArray) (n : Nat) (w : World) (ht : Pow w) (h : Hid (numOf s.data.toList = some n)) :
 Calls Tryz.prog 254 #[.string s] w fun e w' => e = .returned (.int .i64 n) ∧ Below w.heap.size w w' := by
 obtain ⟨h1, h2⟩:=numOf_some h.out
 have hs : (⟨(Lib.itoa (n : Int)).toArray⟩ : ByteArray) = s:=by rw [itoa_nat, h2]
 have HA:=hide (atoi_num s n w h)
 have HC:=hide fun w ht => implDigits_any (n : Int) w (by omega) (by omega) ht
 rw [hs] at HC
 have HT:=hide ht
 clear hs h2 ht
 go_enter Tryz.func254, Tryz.ntmps254
 go_wp2_with fail
 refine HA.out.mono ?_
 rintro e w1 ⟨rfl, b1⟩
 have s1:=b1.size
 have H1:=hide (HT.out.below b1)
 go_wp2_with fail
 refine (HC.out _ H1.out).mono ?_
 rintro e w2 ⟨rfl, b2⟩
 go_wp2
 go_ret
 exact ⟨rfl, b1.trans (b2.mono s1)⟩

structure Env (w : World) : Prop where
 pow : Pow w
 no : ∃ u pv, w.cell? ⟨2, 0, none⟩ = some (.iface u pv)
 syn : ∃ u pv, w.cell? ⟨3, 0, none⟩ = some (.iface u pv)
 ran : ∃ u pv, w.cell? ⟨4, 0, none⟩ = some (.iface u pv)
theorem Env.below {w w' : World} (h : Env w) (hb : Below w.heap.size w w') : Env w' := by
 refine ⟨h.pow.below hb, ?_, ?_, ?_⟩
 ·obtain ⟨u, pv, e⟩:=h.no; exact ⟨u, pv, (hb.cell (cell_lt e)).trans e⟩
 ·obtain ⟨u, pv, e⟩:=h.syn; exact ⟨u, pv, (hb.cell (cell_lt e)).trans e⟩
 obtain ⟨u, pv, e⟩:=h.ran; exact ⟨u, pv, (hb.cell (cell_lt e)).trans e⟩

theorem readDigits_none (s : ByteArray) (hs : s.size ≤ 33554432) (u : TypeId) (pv : Value) (w : World) (hE : Env w) (he : w.cell? ⟨2, 0, none⟩ = some (.iface u pv)) (h : Hid (numOf s.data.toList = none)) :
 Calls Tryz.prog 254 #[.string s] w fun e w' => e = .panicked [{ v := .iface u pv, recovered := false }] ∧ Below w.heap.size w w' := by
 obtain ⟨u1, p1, hy⟩:=hE.syn
 obtain ⟨u2, p2, hr⟩:=hE.ran
 have HA:=hide (atoi_any s hs w u1 u2 p1 p2 hy hr)
 have hlt : 2 < w.heap.size:=cell_lt he
 have HE:=hide hE
 clear hE hy hr
 go_enter Tryz.func254, Tryz.ntmps254
 go_wp2_with fail
 refine HA.out.mono ?_
 rintro e w1 ⟨h1, b1⟩
 have s1:=b1.size
 have e1:=(b1.cell hlt).trans he
 rcases h1 with ⟨v, rfl⟩ | ⟨v, t, x, rfl⟩
 ·by_cases h0 : v < 0
  ·go_wp2
   exact ⟨rfl, rfl, b1⟩
  have hd0 : decide (v < 0) = false:=by simpa using h0
  by_cases h9 : 999999 < v
  ·go_wp2
   exact ⟨rfl, rfl, b1⟩
  have hd9 : decide (999999 < v) = false:=by simpa using h9
  have H1:=hide (HE.out.below b1).pow
  obtain ⟨n, rfl⟩:=Int.eq_ofNat_of_zero_le (Int.not_lt.1 h0)
  obtain ⟨r, hr⟩ : ∃ r : ByteArray, r = ⟨(Lib.itoa (n : Int)).toArray⟩:=⟨_, rfl⟩
  have hne : r ≠ s:=by
   intro e
   rw [hr, itoa_nat] at e
   have:=h.out
   rw [← e] at this
   rw [numOf_of (by omega)] at this
   cases this
  have hne':=str_ne hne
  have HC:=hide fun w ht => implDigits_any (n : Int) w (by omega) (by omega) ht
  rw [← hr] at HC
  clear hr hne
  go_wp2_with fail
  refine (HC.out _ H1.out).mono ?_
  rintro e w2 ⟨rfl, b2⟩
  have e2:=(b2.cell (Nat.lt_of_lt_of_le hlt s1)).trans e1
  go_wp2
  exact ⟨rfl, rfl, b1.trans (b2.mono s1)⟩
 go_wp2
 exact ⟨rfl, rfl, b1⟩
theorem digClo_some (B : Nat) (s : ByteArray) (n : Nat) (x : Value) (w : World) (hE : Env w) (hr : Hid (numOf s.data.toList = some n)) (h0 : w.cell? ⟨B, 0, none⟩ = some (.string s)) (h1 : w.cell? ⟨B + 1, 0, none⟩ = some x) (f1 : w.frozen? ⟨B + 1, 0, none⟩ = false) :
 Calls Tryz.prog 253 #[.pointer (some ⟨B, 0, none⟩),.pointer (some ⟨B + 1, 0, none⟩)] w fun e w' => e = .returned (.tuple #[]) ∧ ∃ w2, Below w.heap.size w w2 ∧ w' = w2.setCell ⟨B + 1, 0, none⟩ (.int .i64 n) := by
 have HA:=hide (readDigits_some s n w hE.pow hr)
 have hlt : B + 1 < w.heap.size:=cell_lt h1
 clear hE
 go_enter Tryz.func253, Tryz.ntmps253
 go_wp2_with fail
 refine HA.out.mono ?_
 rintro e w1 ⟨rfl, b1⟩
 have c1 : w1.cell? ⟨B + 1, 0, none⟩ = some x:=(b1.cell hlt).trans h1
 have g1 : w1.frozen? ⟨B + 1, 0, none⟩ = false:=(b1.frozen (p:=⟨B + 1, 0, none⟩) hlt).trans f1
 go_wp2
 go_end0
 exact ⟨rfl, _, b1, rfl⟩

theorem digClo_none (B : Nat) (s : ByteArray) (hs : s.size ≤ 33554432) (u : TypeId) (pv : Value) (w : World) (hE : Env w) (he : w.cell? ⟨2, 0, none⟩ = some (.iface u pv)) (hr : Hid (numOf s.data.toList = none)) (h0 : w.cell? ⟨B, 0, none⟩ = some (.string s)) :
 Calls Tryz.prog 253 #[.pointer (some ⟨B, 0, none⟩),.pointer (some ⟨B + 1, 0, none⟩)] w fun e w' => e = .panicked [{ v := .iface u pv, recovered := false }] ∧ Below w.heap.size w w' := by
 have HA:=hide (readDigits_none s hs u pv w hE he hr)
 clear hE he
 go_enter Tryz.func253, Tryz.ntmps253
 go_wp2_with fail
 refine HA.out.mono ?_
 rintro e w1 ⟨rfl, b1⟩
 go_wp2
 exact ⟨rfl, rfl, b1⟩

theorem new_cell (w : World) (x : Value) (t : TypeId) : (w.alloc (.cells #[x] t)).cell? ⟨w.heap.size, 0, none⟩ = some x := by simp
theorem new_free (w : World) (x : Value) (t : TypeId) : (w.alloc (.cells #[x] t)).frozen? ⟨w.heap.size, 0, none⟩ = false := by simp [go_sem]
abbrev nboxes (w : World) (s : ByteArray) : World := (w.alloc (.cells #[.string s] 9)).alloc (.cells #[.int .i64 0] 3)
theorem nboxes_below (w : World) (s : ByteArray) : Below w.heap.size w (nboxes w s) := ((Below.refl _ _).alloc (Nat.le_refl _) _).alloc (by simp) _
theorem nboxes_size (w : World) (s : ByteArray) : (nboxes w s).heap.size = w.heap.size + 2 := by simp
theorem nboxes_ok (w : World) (s : ByteArray) (o : Obj) :
 ((nboxes w s).alloc o).cell? ⟨w.heap.size, 0, none⟩ = some (.string s) ∧ ((nboxes w s).alloc o).cell? ⟨w.heap.size + 1, 0, none⟩ = some (.int .i64 0) ∧ ((nboxes w s).alloc o).frozen? ⟨w.heap.size + 1, 0, none⟩ = false := by
 simp [nboxes, go_sem]

theorem rdDig_some (s : ByteArray) (n : Nat) (w : World) (hE : Env w) (hr : Hid (numOf s.data.toList = some n)) :
 Calls Tryz.prog 252 #[.func (.func 253) #[] #[.pointer (some ⟨w.heap.size, 0, none⟩),.pointer (some ⟨w.heap.size + 1, 0, none⟩)]] (nboxes w s) fun e w' =>
  e = .returned (.bool true) ∧ w'.cell? ⟨w.heap.size + 1, 0, none⟩ = some (.int .i64 n) ∧ Below w.heap.size w w' := by
 obtain ⟨c0, c1, f1⟩:=nboxes_ok w s (.cells #[.bool false] 4)
 have hbl : Below w.heap.size w ((nboxes w s).alloc (.cells #[.bool false] 4)):=(nboxes_below w s).alloc (by rw [nboxes_size]; omega) _
 have hbs:=nboxes_size w s
 have hsz : ((nboxes w s).alloc (.cells #[.bool false] 4)).heap.size = w.heap.size + 3:=by simp
 refine (readable_ok 253 _ (nboxes w s) (fun w1 => ∃ w2, Below ((nboxes w s).alloc (.cells #[.bool false] 4)).heap.size ((nboxes w s).alloc (.cells #[.bool false] 4)) w2 ∧ w1 = w2.setCell ⟨w.heap.size + 1, 0, none⟩ (.int .i64 n)) (fun _ => by simp [go_sem]) ?_).mono ?_
 ·refine (digClo_some w.heap.size s n _ _ (hE.below hbl) hr c0 c1 f1).mono ?_
  rintro e w' ⟨rfl, w2, b2, rfl⟩
  have hok : (⟨(nboxes w s).heap.size, 0, none⟩ : Addr).block < ((nboxes w s).alloc (.cells #[.bool false] 4)).heap.size:=by rw [hsz]; show (nboxes w s).heap.size < _; rw [hbs]; omega
  refine ⟨rfl, ⟨w2, b2, rfl⟩, ?_, ?_⟩
  ·rw [World.cell?_setCell_other _ _ _ _ (by simp)]
   exact (b2.cell hok).trans (new_cell _ _ _)
  rw [World.frozen?_setCell]
  exact (b2.frozen hok).trans (new_free _ _ _)
 rintro e w' ⟨rfl, w1, ⟨w2, b2, rfl⟩, rfl⟩
 refine ⟨rfl, ?_, ?_⟩
 ·rw [World.cell?_setCell_other _ _ _ _ (by simp)]
  exact World.cell?_setCell_same _ _ _ ((b2.cell (by rw [hsz]; show w.heap.size + 1 < _; omega)).trans c1)
 exact ((hbl.trans (b2.mono (by rw [hsz]; omega))).setCell (by simp) _).setCell (by rw [hbs]; simp) _

theorem rdDig_none (s : ByteArray) (hs : s.size ≤ 33554432) (w : World) (hE : Env w) (hr : Hid (numOf s.data.toList = none)) :
 Calls Tryz.prog 252 #[.func (.func 253) #[] #[.pointer (some ⟨w.heap.size, 0, none⟩),.pointer (some ⟨w.heap.size + 1, 0, none⟩)]] (nboxes w s) fun e w' =>
  e = .returned (.bool false) ∧ w'.cell? ⟨w.heap.size + 1, 0, none⟩ = some (.int .i64 0) ∧ Below w.heap.size w w' := by
 obtain ⟨c0, c1, f1⟩:=nboxes_ok w s (.cells #[.bool false] 4)
 have hbl : Below w.heap.size w ((nboxes w s).alloc (.cells #[.bool false] 4)):=(nboxes_below w s).alloc (by rw [nboxes_size]; omega) _
 have hbs:=nboxes_size w s
 have hsz : ((nboxes w s).alloc (.cells #[.bool false] 4)).heap.size = w.heap.size + 3:=by simp
 obtain ⟨u, pv, he⟩:=hE.no
 refine (readable_no 253 _ (nboxes w s) (fun w1 => Below ((nboxes w s).alloc (.cells #[.bool false] 4)).heap.size ((nboxes w s).alloc (.cells #[.bool false] 4)) w1) u pv (fun _ => by simp [go_sem]) ?_).mono ?_
 ·refine (digClo_none w.heap.size s hs u pv _ (hE.below hbl) ((hbl.cell (cell_lt he)).trans he) hr c0).mono ?_
  rintro e w' ⟨rfl, b2⟩
  have hok : (⟨(nboxes w s).heap.size, 0, none⟩ : Addr).block < ((nboxes w s).alloc (.cells #[.bool false] 4)).heap.size:=by rw [hsz]; show (nboxes w s).heap.size < _; rw [hbs]; omega
  exact ⟨rfl, b2, (b2.cell hok).trans (new_cell _ _ _), (b2.frozen hok).trans (new_free _ _ _)⟩
 rintro e w' ⟨rfl, w1, b2, rfl⟩
 refine ⟨rfl, ?_, ?_⟩
 ·rw [World.cell?_setCell_other _ _ _ _ (by simp)]
  exact (b2.cell (by rw [hsz]; show w.heap.size + 1 < _; omega)).trans c1
 exact (hbl.trans (b2.mono (by rw [hsz]; omega))).setCell (by rw [hbs]; simp) _

theorem number_some (s : ByteArray) (n : Nat) (w : World) (hE : Env w) (hr : Hid (numOf s.data.toList = some n)) :
 Calls Tryz.prog 244 #[.string s] w fun e w' => e = .returned (.tuple #[.int .i64 n,.bool true]) ∧ Below w.heap.size w w' := by
 have hmf : ∀ (fn : Fn) (first cap : Array Value) (w : World), (Instr.makeFunc fn first cap).run Tryz.prog w = .ok (.func fn first cap) w:=fun _ _ _ _ => rfl
 have HR:=hide (rdDig_some s n w hE hr)
 clear hE
 go_enter Tryz.func244, Tryz.ntmps244
 go_wp2_with fail
 refine HR.out.mono ?_
 rintro e w' ⟨rfl, c1, bel⟩
 go_wp2
 go_ret2
 exact ⟨rfl, bel⟩

theorem number_none (s : ByteArray) (hs : s.size ≤ 33554432) (w : World) (hE : Env w) (hr : Hid (numOf s.data.toList = none)) :
 Calls Tryz.prog 244 #[.string s] w fun e w' => e = .returned (.tuple #[.int .i64 0,.bool false]) ∧ Below w.heap.size w w' := by
 have hmf : ∀ (fn : Fn) (first cap : Array Value) (w : World), (Instr.makeFunc fn first cap).run Tryz.prog w = .ok (.func fn first cap) w:=fun _ _ _ _ => rfl
 have HR:=hide (rdDig_none s hs w hE hr)
 clear hE
 go_enter Tryz.func244, Tryz.ntmps244
 go_wp2_with fail
 refine HR.out.mono ?_
 rintro e w' ⟨rfl, c1, bel⟩
 go_wp2
 go_ret2
 exact ⟨rfl, bel⟩

theorem number_any (s : ByteArray) (hs : s.size ≤ 33554432) (w : World) (hE : Env w) :
 Calls Tryz.prog 244 #[.string s] w fun e w' => e = .returned (.tuple #[.int .i64 (nans (numOf s.data.toList)),.bool (numOf s.data.toList).isSome]) ∧ Below w.heap.size w w' := by
 cases hr : numOf s.data.toList with
 | none => exact number_none s hs w hE hr
 | some n => exact number_some s n w hE hr
end
section
open Go.RowKit
variable [∀ (a b c d : Int), Decidable (Ok4 a b c d)]
variable [∀ (a b c d : Nat), Decidable (okN a b c d)]
def txAns (l : List UInt8) : Option (Nat × Nat × Nat × Nat) :=
 match numOf (f0 l), numOf (f1 l), numOf (f2 l), numOf (f3 l) with
 | some a, some b, some c, some d => if okN a b c d then some (a, b, c, d) else none
 | _, _, _, _ => none
theorem txAns_some {l : List UInt8} {a b c d : Nat} (h : IsTx l a b c d) : txAns l = some (a, b, c, d) := by
 obtain ⟨h0, h1, h2, h3⟩:=nums_of h
 unfold txAns
 rw [h0, h1, h2, h3]
 simp [h.1]
theorem txAns_is {l : List UInt8} {a b c d : Nat} (h : txAns l = some (a, b, c, d)) : IsTx l a b c d := by
 unfold txAns at h
 split at h
 ·rename_i a' b' c' d' e0 e1 e2 e3
  split at h
  ·rename_i hk
   simp at h
   obtain ⟨rfl, rfl, rfl, rfl⟩:=h
   exact isTx_of e0 e1 e2 e3 hk
  cases h
 cases h
def txval : Option (Nat × Nat × Nat × Nat) → Value
 | some (a, b, c, d) => .tuple #[txv a b c d,.bool true]
 | none => .tuple #[txv 0 0 0 0,.bool false]
theorem ok_cast {a b c d : Nat} : Ok4 a b c d ↔ okN a b c d := by unfold Ok4 okN; omega

theorem toB_list (x : List UInt8) : (toB x).data.toList = x := rfl
theorem toB_size (x : List UInt8) : (toB x).size = x.length := by unfold toB ByteArray.size; simp
theorem hd_len (m : UInt8) (l : List UInt8) : (hd m l).length ≤ l.length := by unfold hd; exact (List.takeWhile_sublist _).length_le
theorem tl_len (m : UInt8) (l : List UInt8) : (tl m l).length ≤ l.length := by
 unfold tl
 have:=(List.dropWhile_sublist (fun x => x != m) (l:=l)).length_le
 simp only [List.length_tail]; omega
def fld (l : List UInt8) : Nat → List UInt8
 | 0 => f0 l
 | 1 => f1 l
 | 2 => f2 l
 | _ => f3 l
theorem fld_len (l : List UInt8) (j : Nat) : (fld l j).length ≤ l.length := by
 have h1:=tl_len 62 l
 have h2:=tl_len 58 (tl 62 l)
 have h3:=tl_len 35 (tl 58 (tl 62 l))
 unfold fld f0 f1 f2 f3
 split
 ·exact hd_len _ _
 ·exact Nat.le_trans (hd_len _ _) h1
 ·exact Nat.le_trans (hd_len _ _) (by omega)
 omega
theorem number_fld (x : List UInt8) (hx : x.length ≤ 33554432) (w : World) (hE : Env w) :
 Calls Tryz.prog 244 #[.string (toB x)] w fun e w' => e = .returned (.tuple #[.int .i64 (nans (numOf x)),.bool (numOf x).isSome]) ∧ Below w.heap.size w w' := by
 have:=number_any (toB x) (by rw [toB_size]; exact hx) w hE
 rwa [toB_list] at this

theorem ix4 (a b c d : ByteArray) (w : World) : (Instr.index 314 (.agg #[.string a,.string b,.string c,.string d]) (.int .i64 0)).run Tryz.prog w = .ok (.string a) w ∧ (Instr.index 314 (.agg #[.string a,.string b,.string c,.string d]) (.int .i64 1)).run Tryz.prog w = .ok (.string b) w ∧ (Instr.index 314 (.agg #[.string a,.string b,.string c,.string d]) (.int .i64 2)).run Tryz.prog w = .ok (.string c) w ∧ (Instr.index 314 (.agg #[.string a,.string b,.string c,.string d]) (.int .i64 3)).run Tryz.prog w = .ok (.string d) w := by
 have h9 : Tryz.t9.size = 1:=by kernel_rfl
 refine ⟨?_, ?_, ?_, ?_⟩ <;> simp [Instr.index, asIntOf, run_underlying Tryz.underlying314, part, sizeOf, Sem.run_bind, Result.andThen, h9, go_sem]
def nv (l : List UInt8) (k j : Nat) : Int := if j < k then nans (numOf (fld l j)) else 0
def TRel (l : List UInt8) (w : World) (i : Value) (wr : World) : Prop := ∃ k : Nat, k ≤ 4 ∧ i = .int .i64 k ∧ (∀ j, j < k → (numOf (fld l j)).isSome = true) ∧ Cells4 wr (w.heap.size + 1) (nv l k 0) (nv l k 1) (nv l k 2) (nv l k 3) ∧ (∀ j, wr.frozen? ⟨w.heap.size + 1, j, none⟩ = false) ∧ Cells4 wr w.heap.size 0 0 0 0 ∧ (∀ j, wr.frozen? ⟨w.heap.size, j, none⟩ = false) ∧ Below w.heap.size w wr ∧ w.heap.size + 2 ≤ wr.heap.size
theorem frozen_below {w w' : World} {B g : Nat} (hb : Below B w w') (hg : g < B) (h : ∀ j, w.frozen? ⟨g, j, none⟩ = false) : ∀ j, w'.frozen? ⟨g, j, none⟩ = false := fun j => (hb.frozen (p := ⟨g, j, none⟩) hg).trans (h j)
theorem none_ans {l : List UInt8} {j : Nat} (hj : j < 4) (h : (numOf (fld l j)).isSome = false) : txAns l = none := by
 cases hq : txAns l with
 | none => rfl
 | some q =>
  obtain ⟨a, b, c, d⟩:=q
  obtain ⟨h0, h1, h2, h3⟩:=nums_of (txAns_is hq)
  have : j = 0 ∨ j = 1 ∨ j = 2 ∨ j = 3:=by omega
  rcases this with rfl | rfl | rfl | rfl <;> simp only [fld, h0, h1, h2, h3] at h <;> cases h

theorem implTxOf (s : ByteArray) (w : World) (hs : s.size ≤ 33554432) (hE : Env w) :
 Calls Tryz.prog 256 #[.string s] w fun e w' => e = .returned (txval (txAns s.data.toList)) ∧ Below w.heap.size w w' := by
 obtain ⟨l, hl⟩ : ∃ l, s.data.toList = l:=⟨_, rfl⟩
 have hll : l.length ≤ 33554432:=by rw [← hl]; simpa using hs
 have CU:=hide fun w => cut_any s w hs
 rw [hl] at CU ⊢
 have HE:=hide hE
 clear hE hl
 go_enter Tryz.func256, Tryz.ntmps256
 go_wp2_with fail
 refine (CU.out _).mono ?_
 rintro e w1 ⟨rfl, b1⟩
 have q1:=b1.size
 have hb0 : Below w.heap.size w w1:=(((Below.refl _ _).alloc (Nat.le_refl _) _).alloc (by simp) _).trans (b1.mono (by simp; omega))
 have hst : TRel l w (.int .i64 0) w1:=by
  refine ⟨0, by omega, rfl, fun j hj => by omega, ?_, ?_, ?_, ?_, hb0, by simp at q1; omega⟩
  ·refine Cells4.below ?_ b1 (by simp)
   simp [Cells4, nv, go_sem]
  ·exact frozen_below b1 (by simp) (fun j => by simp [go_sem])
  ·refine Cells4.below ?_ b1 (by simp; omega)
   simp [Cells4, go_sem]
  exact frozen_below b1 (by simp; omega) (fun j => by simp [go_sem])
 clear b1 q1 hb0
 go_wp2
 go_loopw [12] (fun i wr => TRel l w i wr) (fun i _ => 4 - (intOf i).toNat)
 case atStart => exact hst
 case round =>
  clear hst
  obtain ⟨k, hk, rfl, hsome, C, F, C', F', hb, hsz⟩:=hrel
  obtain ⟨y0, y1, y2, y3⟩:=C'
  have hx0:=fun a b c d w => (ix4 a b c d w).1
  have hx1:=fun a b c d w => (ix4 a b c d w).2.1
  have hx2:=fun a b c d w => (ix4 a b c d w).2.2.1
  have hx3:=fun a b c d w => (ix4 a b c d w).2.2.2
  have hcase : k = 0 ∨ k = 1 ∨ k = 2 ∨ k = 3 ∨ k = 4:=by omega
  rcases hcase with rfl | rfl | rfl | rfl | rfl
  ·have CN:=hide fun w hE => number_fld (f0 l) (Nat.le_trans (fld_len l 0) hll) w hE
   obtain ⟨q, hq⟩ : ∃ q, nans (numOf (f0 l)) = q:=⟨_, rfl⟩
   obtain ⟨o, ho⟩ : ∃ o, (numOf (f0 l)).isSome = o:=⟨_, rfl⟩
   rw [hq, ho] at CN
   have HQ:=hide hq
   have HO:=hide ho
   clear hq ho
   have HS:=hide hsome
   have HC:=hide C
   have HF:=hide F
   clear hsome C F
   go_wp2_with fail
   refine (CN.out _ (HE.out.below hb)).mono ?_
   rintro e w2 ⟨rfl, b2⟩
   have s2:=b2.size
   have z0:=(b2.cell (p:=⟨w.heap.size, 0, none⟩) (by show w.heap.size < _; omega)).trans y0
   have z1:=(b2.cell (p:=⟨w.heap.size, 1, none⟩) (by show w.heap.size < _; omega)).trans y1
   have z2:=(b2.cell (p:=⟨w.heap.size, 2, none⟩) (by show w.heap.size < _; omega)).trans y2
   have z3:=(b2.cell (p:=⟨w.heap.size, 3, none⟩) (by show w.heap.size < _; omega)).trans y3
   have zf:=frozen_below b2 (by omega) F'
   have hb2:=hb.trans (b2.mono (by omega))
   have C2:=Cells4.below HC.out b2 (by omega)
   have F2:=frozen_below b2 (by omega) HF.out
   obtain ⟨n0, n1, n2, n3⟩:=C2
   cases o
   ·clear n0 n1 n2 n3 F2 HC HF HS y0 y1 y2 y3 F'
    go_wp2
    refine bodyPost_ret (v := .tuple #[txv 0 0 0 0,.bool false]) (by simp [results, Tryz.results256, go_sem, z0, z1, z2, z3]) rfl ?_
    exact ⟨by rw [none_ans (l := l) (j := 0) (by omega) HO.out]; rfl, (((hb2.setCell (Nat.le_refl _) _).setCell (Nat.le_refl _) _).setCell (Nat.le_refl _) _).setCell (Nat.le_refl _) _⟩
   go_wp2
   go_roundw
   case rel =>
    refine ⟨1, by omega, by go_num, fun j hj => ?_, ?_, ?_, ?_, ?_, hb2.setCell (by simp) _, by simp; omega⟩
    ·by_cases hj' : j = 0
     ·subst hj'; exact HO.out
     exact HS.out j (by omega)
    ·exact ⟨(World.cell?_setCell_same _ _ _ n0).trans (by rw [← HQ.out]; rfl), (World.cell?_setCell_other _ _ _ _ (by simp)).trans n1, (World.cell?_setCell_other _ _ _ _ (by simp)).trans n2, (World.cell?_setCell_other _ _ _ _ (by simp)).trans n3⟩
    ·intro j; rw [World.frozen?_setCell]; exact F2 j
    ·exact ⟨(World.cell?_setCell_other _ _ _ _ (by simp)).trans z0, (World.cell?_setCell_other _ _ _ _ (by simp)).trans z1, (World.cell?_setCell_other _ _ _ _ (by simp)).trans z2, (World.cell?_setCell_other _ _ _ _ (by simp)).trans z3⟩
    intro j; rw [World.frozen?_setCell]; exact zf j
   case measure => simp [intOf]
  ·have CN:=hide fun w hE => number_fld (f1 l) (Nat.le_trans (fld_len l 1) hll) w hE
   obtain ⟨q, hq⟩ : ∃ q, nans (numOf (f1 l)) = q:=⟨_, rfl⟩
   obtain ⟨o, ho⟩ : ∃ o, (numOf (f1 l)).isSome = o:=⟨_, rfl⟩
   rw [hq, ho] at CN
   have HQ:=hide hq
   have HO:=hide ho
   clear hq ho
   have HS:=hide hsome
   have HC:=hide C
   have HF:=hide F
   clear hsome C F
   go_wp2_with fail
   refine (CN.out _ (HE.out.below hb)).mono ?_
   rintro e w2 ⟨rfl, b2⟩
   have s2:=b2.size
   have z0:=(b2.cell (p:=⟨w.heap.size, 0, none⟩) (by show w.heap.size < _; omega)).trans y0
   have z1:=(b2.cell (p:=⟨w.heap.size, 1, none⟩) (by show w.heap.size < _; omega)).trans y1
   have z2:=(b2.cell (p:=⟨w.heap.size, 2, none⟩) (by show w.heap.size < _; omega)).trans y2
   have z3:=(b2.cell (p:=⟨w.heap.size, 3, none⟩) (by show w.heap.size < _; omega)).trans y3
   have zf:=frozen_below b2 (by omega) F'
   have hb2:=hb.trans (b2.mono (by omega))
   have C2:=Cells4.below HC.out b2 (by omega)
   have F2:=frozen_below b2 (by omega) HF.out
   obtain ⟨n0, n1, n2, n3⟩:=C2
   cases o
   ·clear n0 n1 n2 n3 F2 HC HF HS y0 y1 y2 y3 F'
    go_wp2
    refine bodyPost_ret (v := .tuple #[txv 0 0 0 0,.bool false]) (by simp [results, Tryz.results256, go_sem, z0, z1, z2, z3]) rfl ?_
    exact ⟨by rw [none_ans (l := l) (j := 1) (by omega) HO.out]; rfl, (((hb2.setCell (Nat.le_refl _) _).setCell (Nat.le_refl _) _).setCell (Nat.le_refl _) _).setCell (Nat.le_refl _) _⟩
   go_wp2
   go_roundw
   case rel =>
    refine ⟨2, by omega, by go_num, fun j hj => ?_, ?_, ?_, ?_, ?_, hb2.setCell (by simp) _, by simp; omega⟩
    ·by_cases hj' : j = 1
     ·subst hj'; exact HO.out
     exact HS.out j (by omega)
    ·exact ⟨(World.cell?_setCell_other _ _ _ _ (by simp)).trans n0, (World.cell?_setCell_same _ _ _ n1).trans (by rw [← HQ.out]; rfl), (World.cell?_setCell_other _ _ _ _ (by simp)).trans n2, (World.cell?_setCell_other _ _ _ _ (by simp)).trans n3⟩
    ·intro j; rw [World.frozen?_setCell]; exact F2 j
    ·exact ⟨(World.cell?_setCell_other _ _ _ _ (by simp)).trans z0, (World.cell?_setCell_other _ _ _ _ (by simp)).trans z1, (World.cell?_setCell_other _ _ _ _ (by simp)).trans z2, (World.cell?_setCell_other _ _ _ _ (by simp)).trans z3⟩
    intro j; rw [World.frozen?_setCell]; exact zf j
   case measure => simp [intOf]
  ·have CN:=hide fun w hE => number_fld (f2 l) (Nat.le_trans (fld_len l 2) hll) w hE
   obtain ⟨q, hq⟩ : ∃ q, nans (numOf (f2 l)) = q:=⟨_, rfl⟩
   obtain ⟨o, ho⟩ : ∃ o, (numOf (f2 l)).isSome = o:=⟨_, rfl⟩
   rw [hq, ho] at CN
   have HQ:=hide hq
   have HO:=hide ho
   clear hq ho
   have HS:=hide hsome
   have HC:=hide C
   have HF:=hide F
   clear hsome C F
   go_wp2_with fail
   refine (CN.out _ (HE.out.below hb)).mono ?_
   rintro e w2 ⟨rfl, b2⟩
   have s2:=b2.size
   have z0:=(b2.cell (p:=⟨w.heap.size, 0, none⟩) (by show w.heap.size < _; omega)).trans y0
   have z1:=(b2.cell (p:=⟨w.heap.size, 1, none⟩) (by show w.heap.size < _; omega)).trans y1
   have z2:=(b2.cell (p:=⟨w.heap.size, 2, none⟩) (by show w.heap.size < _; omega)).trans y2
   have z3:=(b2.cell (p:=⟨w.heap.size, 3, none⟩) (by show w.heap.size < _; omega)).trans y3
   have zf:=frozen_below b2 (by omega) F'
   have hb2:=hb.trans (b2.mono (by omega))
   have C2:=Cells4.below HC.out b2 (by omega)
   have F2:=frozen_below b2 (by omega) HF.out
   obtain ⟨n0, n1, n2, n3⟩:=C2
   cases o
   ·clear n0 n1 n2 n3 F2 HC HF HS y0 y1 y2 y3 F'
    go_wp2
    refine bodyPost_ret (v := .tuple #[txv 0 0 0 0,.bool false]) (by simp [results, Tryz.results256, go_sem, z0, z1, z2, z3]) rfl ?_
    exact ⟨by rw [none_ans (l := l) (j := 2) (by omega) HO.out]; rfl, (((hb2.setCell (Nat.le_refl _) _).setCell (Nat.le_refl _) _).setCell (Nat.le_refl _) _).setCell (Nat.le_refl _) _⟩
   go_wp2
   go_roundw
   case rel =>
    refine ⟨3, by omega, by go_num, fun j hj => ?_, ?_, ?_, ?_, ?_, hb2.setCell (by simp) _, by simp; omega⟩
    ·by_cases hj' : j = 2
     ·subst hj'; exact HO.out
     exact HS.out j (by omega)
    ·exact ⟨(World.cell?_setCell_other _ _ _ _ (by simp)).trans n0, (World.cell?_setCell_other _ _ _ _ (by simp)).trans n1, (World.cell?_setCell_same _ _ _ n2).trans (by rw [← HQ.out]; rfl), (World.cell?_setCell_other _ _ _ _ (by simp)).trans n3⟩
    ·intro j; rw [World.frozen?_setCell]; exact F2 j
    ·exact ⟨(World.cell?_setCell_other _ _ _ _ (by simp)).trans z0, (World.cell?_setCell_other _ _ _ _ (by simp)).trans z1, (World.cell?_setCell_other _ _ _ _ (by simp)).trans z2, (World.cell?_setCell_other _ _ _ _ (by simp)).trans z3⟩
    intro j; rw [World.frozen?_setCell]; exact zf j
   case measure => simp [intOf]
  ·have CN:=hide fun w hE => number_fld (f3 l) (Nat.le_trans (fld_len l 3) hll) w hE
   obtain ⟨q, hq⟩ : ∃ q, nans (numOf (f3 l)) = q:=⟨_, rfl⟩
   obtain ⟨o, ho⟩ : ∃ o, (numOf (f3 l)).isSome = o:=⟨_, rfl⟩
   rw [hq, ho] at CN
   have HQ:=hide hq
   have HO:=hide ho
   clear hq ho
   have HS:=hide hsome
   have HC:=hide C
   have HF:=hide F
   clear hsome C F
   go_wp2_with fail
   refine (CN.out _ (HE.out.below hb)).mono ?_
   rintro e w2 ⟨rfl, b2⟩
   have s2:=b2.size
   have z0:=(b2.cell (p:=⟨w.heap.size, 0, none⟩) (by show w.heap.size < _; omega)).trans y0
   have z1:=(b2.cell (p:=⟨w.heap.size, 1, none⟩) (by show w.heap.size < _; omega)).trans y1
   have z2:=(b2.cell (p:=⟨w.heap.size, 2, none⟩) (by show w.heap.size < _; omega)).trans y2
   have z3:=(b2.cell (p:=⟨w.heap.size, 3, none⟩) (by show w.heap.size < _; omega)).trans y3
   have zf:=frozen_below b2 (by omega) F'
   have hb2:=hb.trans (b2.mono (by omega))
   have C2:=Cells4.below HC.out b2 (by omega)
   have F2:=frozen_below b2 (by omega) HF.out
   obtain ⟨n0, n1, n2, n3⟩:=C2
   cases o
   ·clear n0 n1 n2 n3 F2 HC HF HS y0 y1 y2 y3 F'
    go_wp2
    refine bodyPost_ret (v := .tuple #[txv 0 0 0 0,.bool false]) (by simp [results, Tryz.results256, go_sem, z0, z1, z2, z3]) rfl ?_
    exact ⟨by rw [none_ans (l := l) (j := 3) (by omega) HO.out]; rfl, (((hb2.setCell (Nat.le_refl _) _).setCell (Nat.le_refl _) _).setCell (Nat.le_refl _) _).setCell (Nat.le_refl _) _⟩
   go_wp2
   go_roundw
   case rel =>
    refine ⟨4, by omega, by go_num, fun j hj => ?_, ?_, ?_, ?_, ?_, hb2.setCell (by simp) _, by simp; omega⟩
    ·by_cases hj' : j = 3
     ·subst hj'; exact HO.out
     exact HS.out j (by omega)
    ·exact ⟨(World.cell?_setCell_other _ _ _ _ (by simp)).trans n0, (World.cell?_setCell_other _ _ _ _ (by simp)).trans n1, (World.cell?_setCell_other _ _ _ _ (by simp)).trans n2, (World.cell?_setCell_same _ _ _ n3).trans (by rw [← HQ.out]; rfl)⟩
    ·intro j; rw [World.frozen?_setCell]; exact F2 j
    ·exact ⟨(World.cell?_setCell_other _ _ _ _ (by simp)).trans z0, (World.cell?_setCell_other _ _ _ _ (by simp)).trans z1, (World.cell?_setCell_other _ _ _ _ (by simp)).trans z2, (World.cell?_setCell_other _ _ _ _ (by simp)).trans z3⟩
    intro j; rw [World.frozen?_setCell]; exact zf j
   case measure => simp [intOf]
  obtain ⟨a, ea⟩:=Option.isSome_iff_exists.1 (hsome 0 (by omega))
  obtain ⟨b, eb⟩:=Option.isSome_iff_exists.1 (hsome 1 (by omega))
  obtain ⟨c, ec⟩:=Option.isSome_iff_exists.1 (hsome 2 (by omega))
  obtain ⟨d, ed⟩:=Option.isSome_iff_exists.1 (hsome 3 (by omega))
  have v0 : nv l 4 0 = (a : Int):=by unfold nv; rw [if_pos (by omega), ea]; rfl
  have v1 : nv l 4 1 = (b : Int):=by unfold nv; rw [if_pos (by omega), eb]; rfl
  have v2 : nv l 4 2 = (c : Int):=by unfold nv; rw [if_pos (by omega), ec]; rfl
  have v3 : nv l 4 3 = (d : Int):=by unfold nv; rw [if_pos (by omega), ed]; rfl
  have HA : Hid (txAns l = if okN a b c d then some (a, b, c, d) else none):=by
   show txAns l = _
   unfold txAns
   simp only [fld] at ea eb ec ed
   rw [ea, eb, ec, ed]
  rw [v0, v1, v2, v3] at C
  obtain ⟨n0, n1, n2, n3⟩:=C
  have HF:=hide F
  clear v0 v1 v2 v3 ea eb ec ed hsome F CU HE
  by_cases hok : okN a b c d
  ·have CK:=hide fun w => implTxOk_yes (a : Int) b c d w (ok_cast.2 hok)
   go_wp2_with fail
   refine (CK.out _).mono ?_
   rintro e w2 ⟨rfl, b2⟩
   have X:=(cells4_new wr a b c d 70).below b2 (by simp)
   obtain ⟨x0, x1, x2, x3⟩:=X
   have bw : Below wr.heap.size wr w2:=((Below.refl _ _).alloc (Nat.le_refl _) _).trans (b2.mono (by simp))
   have bx : Below w.heap.size w w2:=hb.trans (bw.mono (by omega))
   obtain ⟨z0, z1, z2, z3⟩:=Cells4.below ⟨y0, y1, y2, y3⟩ bw (by omega)
   have zf:=frozen_below bw (by omega) F'
   clear y0 y1 y2 y3 F' n0 n1 n2 n3 b2 HF
   go_wp2
   refine bodyPost_ret (v := .tuple #[txv a b c d,.bool true]) (by simp [results, Tryz.results256, go_sem, z0, z1, z2, z3]) rfl ?_
   exact ⟨by rw [HA.out, if_pos hok]; rfl, (((bx.setCell (Nat.le_refl _) _).setCell (Nat.le_refl _) _).setCell (Nat.le_refl _) _).setCell (Nat.le_refl _) _⟩
  have CK:=hide fun w => implTxOk_no (a : Int) b c d w (fun h => hok (ok_cast.1 h))
  go_wp2_with fail
  refine (CK.out _).mono ?_
  rintro e w2 ⟨rfl, b2⟩
  have X:=(cells4_new wr a b c d 70).below b2 (by simp)
  obtain ⟨x0, x1, x2, x3⟩:=X
  have bw : Below wr.heap.size wr w2:=((Below.refl _ _).alloc (Nat.le_refl _) _).trans (b2.mono (by simp))
  have bx : Below w.heap.size w w2:=hb.trans (bw.mono (by omega))
  obtain ⟨z0, z1, z2, z3⟩:=Cells4.below ⟨y0, y1, y2, y3⟩ bw (by omega)
  have zf:=frozen_below bw (by omega) F'
  clear y0 y1 y2 y3 F' n0 n1 n2 n3 b2 HF
  go_wp2
  refine bodyPost_ret (v := .tuple #[txv 0 0 0 0,.bool false]) (by simp [results, Tryz.results256, go_sem, z0, z1, z2, z3]) rfl ?_
  exact ⟨by rw [HA.out, if_neg hok]; rfl, (((bx.setCell (Nat.le_refl _) _).setCell (Nat.le_refl _) _).setCell (Nat.le_refl _) _).setCell (Nat.le_refl _) _⟩
end
section
open Go.RowKit
variable [∀ (a b c d : Int), Decidable (Ok4 a b c d)]
def dg (n : Int) : ByteArray := ⟨(Lib.itoa n).toArray⟩
theorem dg_size (n : Int) (h0 : 0 ≤ n) (h1 : n ≤ 999999) : (⟨(Lib.itoa n).toArray⟩ : ByteArray).size ≤ 6 := by
 obtain ⟨m, rfl⟩:=Int.eq_ofNat_of_zero_le h0
 have:=nDigits_six m (by omega)
 rw [itoa_nat]
 have e : (⟨(Lib.decDigits m).toArray⟩ : ByteArray).size = (Lib.decDigits m).length:=by simp [ByteArray.size]
 rw [e, Lib.decDigits_length]; exact this
def txs (a b c d : Int) : ByteArray := dg a ++ (⟨#[62]⟩ : ByteArray) ++ dg b ++ (⟨#[58]⟩ : ByteArray) ++ dg c ++ (⟨#[35]⟩ : ByteArray) ++ dg d

theorem specTxText_yes (a b c d : Int) (w : World) (h : Ok4 a b c d) :
 Calls Tryz.prog 240 #[txv a b c d] w fun e w' => e = .returned (.string (txs a b c d)) ∧ Below w.heap.size w w' := by
 have OK:=hide fun w => specTxOk_yes a b c d w h
 obtain ⟨⟨a1, a2⟩, ⟨b1, b2⟩, ⟨c1, c2⟩, ⟨d1, d2⟩⟩:=h
 have CA:=hide fun w => specDigits_any a w (by omega) (by omega)
 have CB:=hide fun w => specDigits_any b w (by omega) (by omega)
 have CC:=hide fun w => specDigits_any c w (by omega) (by omega)
 have CD:=hide fun w => specDigits_any d w (by omega) (by omega)
 have HX : Hid (txs a b c d = dg a ++ (⟨#[62]⟩ : ByteArray) ++ dg b ++ (⟨#[58]⟩ : ByteArray) ++ dg c ++ (⟨#[35]⟩ : ByteArray) ++ dg d):=rfl
 unfold dg at HX
 have za:=dg_size a (by omega) (by omega)
 have zb:=dg_size b (by omega) (by omega)
 have zc:=dg_size c (by omega) (by omega)
 have zd:=dg_size d (by omega) (by omega)
 generalize (⟨(Lib.itoa a).toArray⟩ : ByteArray) = sa at *
 generalize (⟨(Lib.itoa b).toArray⟩ : ByteArray) = sb at *
 generalize (⟨(Lib.itoa c).toArray⟩ : ByteArray) = sc at *
 generalize (⟨(Lib.itoa d).toArray⟩ : ByteArray) = sd at *
 generalize txs a b c d = r at *
 obtain ⟨s1, e1⟩ : ∃ x, x = sa ++ (⟨#[62]⟩ : ByteArray):=⟨_, rfl⟩
 obtain ⟨s2, e2⟩ : ∃ x, x = s1 ++ sb:=⟨_, rfl⟩
 obtain ⟨s3, e3⟩ : ∃ x, x = s2 ++ (⟨#[58]⟩ : ByteArray):=⟨_, rfl⟩
 obtain ⟨s4, e4⟩ : ∃ x, x = s3 ++ sc:=⟨_, rfl⟩
 obtain ⟨s5, e5⟩ : ∃ x, x = s4 ++ (⟨#[35]⟩ : ByteArray):=⟨_, rfl⟩
 rw [← e1, ← e2, ← e3, ← e4, ← e5] at HX
 have o : ∀ c : UInt8, (⟨#[c]⟩ : ByteArray).size = 1:=fun _ => rfl
 have y1 : s1.size ≤ 7:=by rw [e1, ByteArray.size_append, o]; omega
 have y2 : s2.size ≤ 13:=by rw [e2, ByteArray.size_append]; omega
 have y3 : s3.size ≤ 14:=by rw [e3, ByteArray.size_append, o]; omega
 have y4 : s4.size ≤ 20:=by rw [e4, ByteArray.size_append]; omega
 have y5 : s5.size ≤ 21:=by rw [e5, ByteArray.size_append, o]; omega
 have q1 : ∀ w, (Op.stringOp .add sa (⟨#[62]⟩ : ByteArray)).run Tryz.prog w = .ok (.string s1) w:=fun w => by rw [e1]; exact run_string_add_sum w _ _ (by rw [o]; omega)
 have q2 : ∀ w, (Op.stringOp .add s1 sb).run Tryz.prog w = .ok (.string s2) w:=fun w => by rw [e2]; exact run_string_add_sum w _ _ (by omega)
 have q3 : ∀ w, (Op.stringOp .add s2 (⟨#[58]⟩ : ByteArray)).run Tryz.prog w = .ok (.string s3) w:=fun w => by rw [e3]; exact run_string_add_sum w _ _ (by rw [o]; omega)
 have q4 : ∀ w, (Op.stringOp .add s3 sc).run Tryz.prog w = .ok (.string s4) w:=fun w => by rw [e4]; exact run_string_add_sum w _ _ (by omega)
 have q5 : ∀ w, (Op.stringOp .add s4 (⟨#[35]⟩ : ByteArray)).run Tryz.prog w = .ok (.string s5) w:=fun w => by rw [e5]; exact run_string_add_sum w _ _ (by rw [o]; omega)
 have q6 : ∀ w, (Op.stringOp .add s5 sd).run Tryz.prog w = .ok (.string r) w:=fun w => by rw [HX.out]; exact run_string_add_sum w _ _ (by omega)
 clear HX e1 e2 e3 e4 e5 y1 y2 y3 y4 y5 za zb zc zd o a1 a2 b1 b2 c1 c2 d1 d2
 go_enter Tryz.func240, Tryz.ntmps240
 go_wp2_with fail
 refine (OK.out _).mono ?_
 rintro e w1 ⟨rfl, q1⟩
 have bel : Below w.heap.size w w1:=((Below.refl _ _).alloc (Nat.le_refl _) _).trans (q1.mono (by simp))
 have hsz : w.heap.size + 1 ≤ w1.heap.size:=by have:=q1.size; simp at this; exact this
 have X1:=hide ((cells4_new w a b c d 70).below q1 (by simp))
 have K : Hid (∀ w', Below w1.heap.size w1 w' → Below w1.heap.size w1 w' ∧ (w'.cell? ⟨w.heap.size, 0, none⟩ = some (.int .i64 a) ∧ w'.cell? ⟨w.heap.size, 1, none⟩ = some (.int .i64 b) ∧ w'.cell? ⟨w.heap.size, 2, none⟩ = some (.int .i64 c) ∧ w'.cell? ⟨w.heap.size, 3, none⟩ = some (.int .i64 d))) :=
  fun w' hb => ⟨hb, X1.out.below hb (by omega)⟩
 have hKeep:=K.out _ (Below.drew (Below.refl _ w1))
 have bA : Below w1.heap.size w1 w1.drew:=Below.drew (Below.refl _ _)
 clear q1
 go_upto_region 3 with fail
 first | go_region_held3 (fun w' => Below w1.heap.size w1 w' ∧ (w'.cell? ⟨w.heap.size, 0, none⟩ = some (.int .i64 a) ∧ w'.cell? ⟨w.heap.size, 1, none⟩ = some (.int .i64 b) ∧ w'.cell? ⟨w.heap.size, 2, none⟩ = some (.int .i64 c) ∧ w'.cell? ⟨w.heap.size, 3, none⟩ = some (.int .i64 d))) (exact hKeep) (first
  | (go_at_call 220; have hgo := bA; refine (CA.out _).mono ?_; rintro e wa ⟨rfl, ba⟩
     have bB : Below w1.heap.size w1 wa:=bA.trans ba
     have hKeep:=K.out _ bB; clear bA hgo)
  | (go_at_call 220; have hgo := bB; refine (CB.out _).mono ?_; rintro e wb ⟨rfl, bb⟩
     have bC : Below w1.heap.size w1 wb:=bu bB bb
     have hKeep:=K.out _ bC; clear bB hgo)
  | (go_at_call 220; have hgo := bC; refine (CC.out _).mono ?_; rintro e wc ⟨rfl, bc⟩
     have bD : Below w1.heap.size w1 wc:=bu bC bc
     have hKeep:=K.out _ bD; clear bC hgo)
  | (go_at_call 220; have hgo := bD; refine (CD.out _).mono ?_; rintro e wd ⟨rfl, bd⟩
     have bE : Below w1.heap.size w1 wd:=bu bD bd
     have hKeep:=K.out _ bE; clear bD hgo)) | fail
 all_goals
  go_wp2
  go_ret
  exact ⟨rfl, bel.trans (bE.mono (by omega))⟩

theorem specTxText_no (a b c d : Int) (w : World) (h : ¬ Ok4 a b c d) :
 Calls Tryz.prog 240 #[txv a b c d] w fun e w' => e = .returned (.string ⟨#[]⟩) ∧ Below w.heap.size w w' := by
 go_enter Tryz.func240, Tryz.ntmps240
 go_wp2_with fail
 refine (specTxOk_no a b c d _ h).mono ?_
 rintro e w1 ⟨rfl, q1⟩
 go_wp2
 go_ret
 exact ⟨rfl, ((Below.refl _ _).alloc (Nat.le_refl _) _).trans (q1.mono (by simp))⟩

def txt (a b c d : Int) : ByteArray := if Ok4 a b c d then txs a b c d else ⟨#[]⟩
theorem specTxText (a b c d : Int) (w : World) :
 Calls Tryz.prog 240 #[txv a b c d] w fun e w' => e = .returned (.string (txt a b c d)) ∧ Below w.heap.size w w' := by
 unfold txt
 by_cases h : Ok4 a b c d
 ·rw [if_pos h]; exact specTxText_yes a b c d w h
 rw [if_neg h]; exact specTxText_no a b c d w h
end
end Go.Proofs.YtjdchloechcclaaGreatDoor
