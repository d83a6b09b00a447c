/- Texts that belong together: Atoi, SpecNumber, Readable, Number, NumberFace. -/
import Derived.Test.YtgfboghieejbkaaGreatDoorWSAF
import Derived.Test.YtgfboghieejbkaaGreatDoorWSAE
import Derived.Lib.AtoiErrMem
import Derived.Test.YtgfboghieejbkaaGreatDoorWSAA
import Derived.Defers
import Derived.Recover
import Derived.Laws.Pointers
namespace Go.Proofs.YtgfboghieejbkaaGreatDoor
open Go.RowKit

theorem bytes_below (w : World) (e : TypeId) (t : ByteArray) : Below w.heap.size w (Lib.bytesWorld w e t) := Lib.bytesWorld_below w e t

theorem atoi_num (s : ByteArray) (n : Nat) (w : World) (h : Hid (numOf s.data.toList = some n)) :
 Calls Tryz.prog 251 #[.string s] w fun e w' => e = .returned (.tuple #[.int .i64 n, .nilIface]) ∧ Below w.heap.size w w' := by
 obtain ⟨h1, h2⟩ := numOf_some h.out
 have hl := numOf_len h.out
 have hs : s.size ≤ 18 := by simp at hl; omega
 refine (Tryz.strconv_Atoi s (n : Int) hs (by rw [← h2]; exact atoi_digits n) w).mono ?_
 rintro e w' ⟨rfl, t, rfl⟩
 exact ⟨rfl, bytes_below _ _ _⟩

def AtoiEnd (e : Ending) : Prop := (∃ v : Int, e = .returned (.tuple #[.int .i64 v, .nilIface])) ∨ ∃ (v : Int) (t : TypeId) (x : Value), e = .returned (.tuple #[.int .i64 v, .iface t x])
theorem atoi_any (s : ByteArray) (hs : s.size ≤ 33554432) (w : World) (u1 u2 : TypeId) (p1 p2 : Value) (hy : w.cell? ⟨4, 0, none⟩ = some (.iface u1 p1)) (hr : w.cell? ⟨5, 0, none⟩ = some (.iface u2 p2)) :
 Calls Tryz.prog 251 #[.string s] w fun e w' => AtoiEnd e ∧ Below w.heap.size w w' := by
 cases h : Lib.atoiAll s.data.toList
 ·refine (Tryz.strconv_Atoi_ok s (by omega) _ h w).mono ?_
  rintro e w' ⟨rfl, h1⟩
  refine ⟨.inl ⟨_, rfl⟩, ?_⟩
  ·rcases h1 with rfl | ⟨t, rfl⟩
   ·exact Below.refl _ _
   ·exact bytes_below _ _ _
 ·refine Calls.mono (Any.strconv_Atoi_syntax Tryz.laysC172 s (by omega) h _ w hy (.inr ⟨_, _, rfl⟩)) ?_
  rintro e w' ⟨N, rfl, _, _, hb⟩
  exact ⟨.inr ⟨_, _, _, rfl⟩, hb⟩
 ·refine Calls.mono (Any.strconv_Atoi_range Tryz.laysC172 s (by omega) h _ w hr (.inr ⟨_, _, rfl⟩)) ?_
  rintro e w' ⟨N, rfl, _, _, hb⟩
  exact ⟨.inr ⟨_, _, _, rfl⟩, hb⟩

theorem take_snoc (s : ByteArray) (k : Nat) (h : k < s.size) : s.data.toList.take (k + 1) = s.data.toList.take k ++ [s[k]] := by
 rw [List.take_succ_eq_append_getElem (by simpa using h)]; rfl
theorem byte_get (s : ByteArray) (k : Nat) (h : k < s.size) : s.data.toList[k]? = some s[k] := by
 rw [List.getElem?_eq_getElem (by simpa using h)]; rfl
theorem dec_step (s : ByteArray) (k n : Nat) (h : k < s.size) (hd : Lib.decFrom 0 (s.data.toList.take k) = some n) (h1 : 48 ≤ s[k].toNat) (h2 : s[k].toNat ≤ 57) :
 Lib.decFrom 0 (s.data.toList.take (k + 1)) = some (n * 10 + (s[k].toNat - 48)) :=
 Lib.decFrom_take s.data.toList k 0 n s[k] _ hd (byte_get s k h) (by rw [Lib.digitVal, if_pos ⟨h1, h2⟩])
theorem len_data (s : ByteArray) : s.data.toList.length = s.size := by simp

theorem str_ne {t s : ByteArray} (h : t ≠ s) : (t.toList == s.toList) = false := by
 rw [beq_eq_false_iff_ne]
 intro e
 rw [ByteArray.toList_eq, ByteArray.toList_eq] at e
 exact h (ByteArray.ext (Array.toList_inj.1 e))

set_option maxHeartbeats 400000 in
set_option maxRecDepth 100000 in
theorem specNumber_len (s : ByteArray) (w : World) (hm : s.size ≤ maxLen) (h : s.size < 1 ∨ 6 < s.size) :
 Calls Tryz.prog 179 #[.string s] w fun e w' => e = .returned (.tuple #[.int .i64 0, .bool false]) ∧ w' = w := by
 unfold maxLen at hm
 by_cases h1 : s.size < 1
 ·clear h
  go_enter Tryz.func179, Tryz.ntmps179
  go_wp2
  go_ret2
  exact ⟨rfl, rfl⟩
 ·have hd : decide ((s.size : Int) < 1) = false := by simp; omega
  have h2 : 6 < s.size := by omega
  clear h
  go_enter Tryz.func179, Tryz.ntmps179
  go_wp2
  go_ret2
  exact ⟨rfl, rfl⟩

set_option maxHeartbeats 1600000 in
set_option maxRecDepth 100000 in
theorem specNumber_six (s : ByteArray) (w : World) (h1 : 1 ≤ s.size) (h6 : s.size ≤ 6) :
 Calls Tryz.prog 179 #[.string s] w fun e w' => e = .returned (.tuple #[.int .i64 (nans (numOf s.data.toList)), .bool (numOf s.data.toList).isSome]) ∧ Below w.heap.size w w' := by
 have hd : decide ((s.size : Int) < 1) = false := by simp; omega
 go_enter Tryz.func179, Tryz.ntmps179
 go_wp2
 go_loop [4, 5] (fun y i => ∃ k n : Nat, k ≤ s.size ∧ y = .int .i64 n ∧ i = .int .i64 k ∧ n < 10 ^ k ∧ Hid (Lib.decFrom 0 (s.data.toList.take k) = some n)) (fun _ i => s.size - (intOf i).toNat)
 case atStart => exact ⟨0, 0, by omega, rfl, rfl, by simp, rfl⟩
 case round =>
  obtain ⟨k, n, hk, rfl, rfl, hn, HD⟩ := hrel
  have hn6 : n ≤ 999999 := by
   have : 10 ^ k ≤ 10 ^ 6 := Nat.pow_le_pow_right (by omega) (by omega)
   omega
  by_cases hlt : k < s.size
  ·by_cases hb : 48 ≤ s[k].toNat ∧ s[k].toNat ≤ 57
   ·have HS := hide (dec_step s k n hlt HD.out hb.1 hb.2)
    have hb1 := hb.1
    have hb2 := hb.2
    have hpow : n * 10 + (s[k].toNat - 48) < 10 ^ (k + 1) := by rw [Nat.pow_succ]; omega
    clear hb
    go_wp2
    go_round
    case rel => exact ⟨k + 1, n * 10 + (s[k].toNat - 48), by omega, by go_num, by go_num, hpow, HS⟩
    case measure => simp [intOf]; omega
   ·have HN := hide (numOf_none_byte (byte_get s k hlt) (by omega))
    by_cases hb1 : s[k].toNat < 48
    ·clear hb
     go_wp2
     go_ret2
     exact ⟨by rw [unhide HN]; rfl, Below.refl _ _⟩
    ·have hb2 : 57 < s[k].toNat := by omega
     clear hb
     go_wp2
     go_ret2
     exact ⟨by rw [unhide HN]; rfl, Below.refl _ _⟩
  ·have hks : k = s.size := by omega
   have HD' : Hid (Lib.decFrom 0 s.data.toList = some n) := by
    have := HD.out; rw [hks, List.take_of_length_le (by rw [len_data]; omega)] at this; exact this
   clear HD
   by_cases he : Lib.decDigits n = s.data.toList
   ·have HY := hide (numOf_yes HD'.out hn6 he)
    have hs : (⟨(Lib.itoa (n : Int)).toArray⟩ : ByteArray) = s := by rw [itoa_nat, he]
    have HC := hide fun w => specDigits_any (n : Int) w (by omega) (by omega)
    rw [hs] at HC
    clear hs he
    go_wp2_with fail
    refine (unhide HC _).mono ?_
    rintro e w1 ⟨rfl, b1⟩
    go_wp2
    go_ret2
    exact ⟨by rw [unhide HY]; rfl, b1⟩
   ·have HN := hide (numOf_no HD'.out he)
    have HC := hide fun w => specDigits_any (n : Int) w (by omega) (by omega)
    obtain ⟨t, ht⟩ : ∃ t : ByteArray, t = ⟨(Lib.itoa (n : Int)).toArray⟩ := ⟨_, rfl⟩
    rw [← ht] at HC
    have hne : t ≠ s := by intro e; rw [ht, itoa_nat] at e; apply he; rw [← e]
    have hne' := str_ne hne
    clear ht he
    go_wp2_with fail
    refine (unhide HC _).mono ?_
    rintro e w1 ⟨rfl, b1⟩
    go_wp2
    go_ret2
    exact ⟨by rw [unhide HN]; rfl, b1⟩

theorem specNumber_any (s : ByteArray) (w : World) (hm : s.size ≤ maxLen) :
 Calls Tryz.prog 179 #[.string s] w fun e w' => e = .returned (.tuple #[.int .i64 (nans (numOf s.data.toList)), .bool (numOf s.data.toList).isSome]) ∧ Below w.heap.size w w' := by
 by_cases h : s.size < 1 ∨ 6 < s.size
 ·refine (specNumber_len s w hm h).mono ?_
  rintro e w' ⟨rfl, rfl⟩
  exact ⟨by rw [numOf_none_len (by rw [len_data]; exact h)]; rfl, Below.refl _ _⟩
 ·exact specNumber_six s w (by omega) (by omega)

theorem catch_panicking (p : Addr) (x : Bool) (u : TypeId) (pv : Value) (older : List PanicEntry) (w : World) (hc : w.cell? p = some (.bool x)) (hz : w.frozen? p = false) :
 CallsD Tryz.prog 250 #[.pointer (some p)] (.panicking ({ v := .iface u pv, recovered := false } :: older)) w fun e u' w' =>
  e = .returned (.tuple #[]) ∧ u' = .panicking ({ v := .iface u pv, recovered := true } :: older) ∧ w' = w.setCell p (.bool false) := by
 refine callsD_of_wpS Tryz.func250 rfl fun c₀ cs hu => ?_
 apply wpS_seq
 apply wpS_region
 simp [wpOpsS, go_sem, recoverD, hu, Tryz.ntmps250, Exit.thenS]
 refine wpS_cond (t := true) (by simp [Act.eval, Array.replicate]) ?_
 simp only [if_true]
 apply wpS_region
 simp [wpOpsS, go_sem, hc, hz, bodyPostS, results, Tryz.results250]

theorem catch_idle (p : Addr) (w : World) :
 CallsD Tryz.prog 250 #[.pointer (some p)] .returning w fun e u' w' => e = .returned (.tuple #[]) ∧ u' = .returning ∧ w' = w := by
 refine callsD_of_wpS Tryz.func250 rfl fun c₀ cs hu => ?_
 apply wpS_seq
 apply wpS_region
 simp [wpOpsS, go_sem, recoverD, hu, Tryz.ntmps250, Exit.thenS]
 refine wpS_cond (t := false) (by simp [Act.eval, Array.replicate]) ?_
 simp only [Bool.false_eq_true, if_false]
 refine wpS_of_wp (wp_skip ?_)
 cases c₀
 simp_all [bodyPostS, results, Tryz.results250]

set_option maxHeartbeats 800000 in
set_option maxRecDepth 100000 in
theorem readable_ok (g : FuncId) (cap : Array Value) (w : World) (R : World → Prop) (hcf : ∀ w, (callFunc g cap).run Tryz.prog w = .ok (.enter g cap) w)
 (h : Calls Tryz.prog g cap (w.alloc (.cells #[.bool false] 4)) fun e w' => e = .returned (.tuple #[]) ∧ R w' ∧ w'.cell? ⟨w.heap.size, 0, none⟩ = some (.bool false) ∧ w'.frozen? ⟨w.heap.size, 0, none⟩ = false) :
 Calls Tryz.prog 228 #[.func (.func g) #[] cap] w fun e w' => e = .returned (.bool true) ∧ ∃ w1, R w1 ∧ w' = w1.setCell ⟨w.heap.size, 0, none⟩ (.bool true) := by
 have hmf : ∀ (fn : Fn) (first cap : Array Value) (w : World), (Instr.makeFunc fn first cap).run Tryz.prog w = .ok (.func fn first cap) w := fun _ _ _ _ => rfl
 go_enter_defers Tryz.func228, Tryz.ntmps228
 go_wp2_with fail
 refine h.mono ?_
 rintro e w1 ⟨rfl, hR, hc, hz⟩
 go_wp2
 refine leaves_cons (f := 250) (args := #[.pointer (some ⟨w.heap.size, 0, none⟩)]) (by simp) (by simp [go_sem]) ?_
 refine (catch_idle ⟨w.heap.size, 0, none⟩ _).mono ?_
 rintro e u' w'' ⟨rfl, rfl, rfl⟩
 simp [Leaves, settle, results, Tryz.results228, go_sem]
 exact ⟨_, by rw [World.cell?_setCell_same _ _ _ hc], rfl, w1, hR, rfl⟩

set_option maxHeartbeats 800000 in
set_option maxRecDepth 100000 in
theorem readable_no (g : FuncId) (cap : Array Value) (w : World) (R : World → Prop) (u : TypeId) (pv : Value) (hcf : ∀ w, (callFunc g cap).run Tryz.prog w = .ok (.enter g cap) w)
 (h : Calls Tryz.prog g cap (w.alloc (.cells #[.bool false] 4)) fun e w' => e = .panicked [{ v := .iface u pv, recovered := false }] ∧ R w' ∧ w'.cell? ⟨w.heap.size, 0, none⟩ = some (.bool false) ∧ w'.frozen? ⟨w.heap.size, 0, none⟩ = false) :
 Calls Tryz.prog 228 #[.func (.func g) #[] cap] w fun e w' => e = .returned (.bool false) ∧ ∃ w1, R w1 ∧ w' = w1.setCell ⟨w.heap.size, 0, none⟩ (.bool false) := by
 have hmf : ∀ (fn : Fn) (first cap : Array Value) (w : World), (Instr.makeFunc fn first cap).run Tryz.prog w = .ok (.func fn first cap) w := fun _ _ _ _ => rfl
 go_enter_defers Tryz.func228, Tryz.ntmps228
 go_wp2_with fail
 refine h.mono ?_
 rintro e w1 ⟨rfl, hR, hc, hz⟩
 go_wp2
 refine leaves_cons (f := 250) (args := #[.pointer (some ⟨w.heap.size, 0, none⟩)]) (by simp) (by simp [go_sem]) ?_
 refine (catch_panicking ⟨w.heap.size, 0, none⟩ false u pv [] _ hc hz).mono ?_
 rintro e u' w'' ⟨rfl, rfl, rfl⟩
 simp [Leaves, settle, results, Tryz.results228, go_sem]
 exact ⟨_, by rw [World.cell?_setCell_same _ _ _ hc], rfl, w1, hR, rfl⟩

set_option maxHeartbeats 800000 in
set_option maxRecDepth 100000 in
theorem readDigits_some (s : ByteArray) (n : Nat) (w : World) (ht : Pow w) (h : Hid (numOf s.data.toList = some n)) :
 Calls Tryz.prog 230 #[.string s] w fun e w' => e = .returned (.int .i64 n) ∧ Below w.heap.size w w' := by
 obtain ⟨h1, h2⟩ := numOf_some h.out
 have hs : (⟨(Lib.itoa (n : Int)).toArray⟩ : ByteArray) = s := by rw [itoa_nat, h2]
 have HA := hide (atoi_num s n w h)
 have HC := hide fun w ht => implDigits_any (n : Int) w (by omega) (by omega) ht
 rw [hs] at HC
 have HT := hide ht
 clear hs h2 ht
 go_enter Tryz.func230, Tryz.ntmps230
 go_wp2_with fail
 refine (unhide HA).mono ?_
 rintro e w1 ⟨rfl, b1⟩
 have s1 := b1.size
 have H1 := hide ((unhide HT).below b1)
 go_wp2_with fail
 refine (unhide HC _ (unhide H1)).mono ?_
 rintro e w2 ⟨rfl, b2⟩
 go_wp2
 go_ret
 exact ⟨rfl, b1.trans (b2.mono s1)⟩

structure Env (w : World) : Prop where
 pow : Pow w
 no : ∃ u pv, w.cell? ⟨2, 0, none⟩ = some (.iface u pv)
 syn : ∃ u pv, w.cell? ⟨4, 0, none⟩ = some (.iface u pv)
 ran : ∃ u pv, w.cell? ⟨5, 0, none⟩ = some (.iface u pv)
theorem Env.below {w w' : World} (h : Env w) (hb : Below w.heap.size w w') : Env w' := by
 refine ⟨h.pow.below hb, ?_, ?_, ?_⟩
 ·obtain ⟨u, pv, e⟩ := h.no; exact ⟨u, pv, (hb.cell (cell_lt e)).trans e⟩
 ·obtain ⟨u, pv, e⟩ := h.syn; exact ⟨u, pv, (hb.cell (cell_lt e)).trans e⟩
 ·obtain ⟨u, pv, e⟩ := h.ran; exact ⟨u, pv, (hb.cell (cell_lt e)).trans e⟩

set_option maxHeartbeats 1600000 in
set_option maxRecDepth 100000 in
theorem readDigits_none (s : ByteArray) (hs : s.size ≤ 33554432) (u : TypeId) (pv : Value) (w : World) (hE : Env w) (he : w.cell? ⟨2, 0, none⟩ = some (.iface u pv)) (h : Hid (numOf s.data.toList = none)) :
 Calls Tryz.prog 230 #[.string s] w fun e w' => e = .panicked [{ v := .iface u pv, recovered := false }] ∧ Below w.heap.size w w' := by
 obtain ⟨u1, p1, hy⟩ := hE.syn
 obtain ⟨u2, p2, hr⟩ := hE.ran
 have HA := hide (atoi_any s hs w u1 u2 p1 p2 hy hr)
 have hlt : 2 < w.heap.size := cell_lt he
 have HE := hide hE
 clear hE hy hr
 go_enter Tryz.func230, Tryz.ntmps230
 go_wp2_with fail
 refine (unhide HA).mono ?_
 rintro e w1 ⟨h1, b1⟩
 have s1 := b1.size
 have e1 := (b1.cell hlt).trans he
 rcases h1 with ⟨v, rfl⟩ | ⟨v, t, x, rfl⟩
 ·by_cases h0 : v < 0
  ·go_wp2
   exact ⟨rfl, rfl, b1⟩
  ·have hd0 : decide (v < 0) = false := by simpa using h0
   by_cases h9 : 999999 < v
   ·go_wp2
    exact ⟨rfl, rfl, b1⟩
   ·have hd9 : decide (999999 < v) = false := by simpa using h9
    have H1 := hide ((unhide HE).below b1).pow
    obtain ⟨n, rfl⟩ := Int.eq_ofNat_of_zero_le (Int.not_lt.1 h0)
    obtain ⟨r, hr⟩ : ∃ r : ByteArray, r = ⟨(Lib.itoa (n : Int)).toArray⟩ := ⟨_, rfl⟩
    have hne : r ≠ s := by
     intro e
     rw [hr, itoa_nat] at e
     have := h.out
     rw [← e] at this
     rw [numOf_of (by omega)] at this
     cases this
    have hne' := str_ne hne
    have HC := hide fun w ht => implDigits_any (n : Int) w (by omega) (by omega) ht
    rw [← hr] at HC
    clear hr hne
    go_wp2_with fail
    refine (unhide HC _ (unhide H1)).mono ?_
    rintro e w2 ⟨rfl, b2⟩
    have e2 := (b2.cell (Nat.lt_of_lt_of_le hlt s1)).trans e1
    go_wp2
    exact ⟨rfl, rfl, b1.trans (b2.mono s1)⟩
 ·go_wp2
  exact ⟨rfl, rfl, b1⟩

set_option maxHeartbeats 800000 in
set_option maxRecDepth 100000 in
theorem digClo_some (B : Nat) (s : ByteArray) (n : Nat) (x : Value) (w : World) (hE : Env w) (hr : Hid (numOf s.data.toList = some n)) (h0 : w.cell? ⟨B, 0, none⟩ = some (.string s)) (h1 : w.cell? ⟨B + 1, 0, none⟩ = some x) (f1 : w.frozen? ⟨B + 1, 0, none⟩ = false) :
 Calls Tryz.prog 229 #[.pointer (some ⟨B, 0, none⟩), .pointer (some ⟨B + 1, 0, none⟩)] w fun e w' => e = .returned (.tuple #[]) ∧ ∃ w2, Below w.heap.size w w2 ∧ w' = w2.setCell ⟨B + 1, 0, none⟩ (.int .i64 n) := by
 have HA := hide (readDigits_some s n w hE.pow hr)
 have hlt : B + 1 < w.heap.size := cell_lt h1
 clear hE
 go_enter Tryz.func229, Tryz.ntmps229
 go_wp2_with fail
 refine (unhide HA).mono ?_
 rintro e w1 ⟨rfl, b1⟩
 have c1 : w1.cell? ⟨B + 1, 0, none⟩ = some x := (b1.cell hlt).trans h1
 have g1 : w1.frozen? ⟨B + 1, 0, none⟩ = false := (b1.frozen (p := ⟨B + 1, 0, none⟩) hlt).trans f1
 go_wp2
 go_end0
 exact ⟨rfl, _, b1, rfl⟩

set_option maxHeartbeats 800000 in
set_option maxRecDepth 100000 in
theorem digClo_none (B : Nat) (s : ByteArray) (hs : s.size ≤ 33554432) (u : TypeId) (pv : Value) (w : World) (hE : Env w) (he : w.cell? ⟨2, 0, none⟩ = some (.iface u pv)) (hr : Hid (numOf s.data.toList = none)) (h0 : w.cell? ⟨B, 0, none⟩ = some (.string s)) :
 Calls Tryz.prog 229 #[.pointer (some ⟨B, 0, none⟩), .pointer (some ⟨B + 1, 0, none⟩)] w fun e w' => e = .panicked [{ v := .iface u pv, recovered := false }] ∧ Below w.heap.size w w' := by
 have HA := hide (readDigits_none s hs u pv w hE he hr)
 clear hE he
 go_enter Tryz.func229, Tryz.ntmps229
 go_wp2_with fail
 refine (unhide HA).mono ?_
 rintro e w1 ⟨rfl, b1⟩
 go_wp2
 exact ⟨rfl, rfl, b1⟩

theorem new_cell (w : World) (x : Value) (t : TypeId) : (w.alloc (.cells #[x] t)).cell? ⟨w.heap.size, 0, none⟩ = some x := by simp
theorem new_free (w : World) (x : Value) (t : TypeId) : (w.alloc (.cells #[x] t)).frozen? ⟨w.heap.size, 0, none⟩ = false := by simp [go_sem]
abbrev nboxes (w : World) (s : ByteArray) : World := (w.alloc (.cells #[.string s] 9)).alloc (.cells #[.int .i64 0] 3)
theorem nboxes_below (w : World) (s : ByteArray) : Below w.heap.size w (nboxes w s) := ((Below.refl _ _).alloc (Nat.le_refl _) _).alloc (by simp) _
theorem nboxes_size (w : World) (s : ByteArray) : (nboxes w s).heap.size = w.heap.size + 2 := by simp
theorem nboxes_ok (w : World) (s : ByteArray) (o : Obj) :
 ((nboxes w s).alloc o).cell? ⟨w.heap.size, 0, none⟩ = some (.string s) ∧ ((nboxes w s).alloc o).cell? ⟨w.heap.size + 1, 0, none⟩ = some (.int .i64 0) ∧ ((nboxes w s).alloc o).frozen? ⟨w.heap.size + 1, 0, none⟩ = false := by
 simp [nboxes, go_sem]

set_option maxHeartbeats 1600000 in
set_option maxRecDepth 100000 in
theorem rdDig_some (s : ByteArray) (n : Nat) (w : World) (hE : Env w) (hr : Hid (numOf s.data.toList = some n)) :
 Calls Tryz.prog 228 #[.func (.func 229) #[] #[.pointer (some ⟨w.heap.size, 0, none⟩), .pointer (some ⟨w.heap.size + 1, 0, none⟩)]] (nboxes w s) fun e w' =>
  e = .returned (.bool true) ∧ w'.cell? ⟨w.heap.size + 1, 0, none⟩ = some (.int .i64 n) ∧ Below w.heap.size w w' := by
 obtain ⟨c0, c1, f1⟩ := nboxes_ok w s (.cells #[.bool false] 4)
 have hbl : Below w.heap.size w ((nboxes w s).alloc (.cells #[.bool false] 4)) := (nboxes_below w s).alloc (by rw [nboxes_size]; omega) _
 have hbs := nboxes_size w s
 have hsz : ((nboxes w s).alloc (.cells #[.bool false] 4)).heap.size = w.heap.size + 3 := by simp
 refine (readable_ok 229 _ (nboxes w s) (fun w1 => ∃ w2, Below ((nboxes w s).alloc (.cells #[.bool false] 4)).heap.size ((nboxes w s).alloc (.cells #[.bool false] 4)) w2 ∧ w1 = w2.setCell ⟨w.heap.size + 1, 0, none⟩ (.int .i64 n)) (fun _ => by simp [go_sem]) ?_).mono ?_
 ·refine (digClo_some w.heap.size s n _ _ (hE.below hbl) hr c0 c1 f1).mono ?_
  rintro e w' ⟨rfl, w2, b2, rfl⟩
  have hok : (⟨(nboxes w s).heap.size, 0, none⟩ : Addr).block < ((nboxes w s).alloc (.cells #[.bool false] 4)).heap.size := by rw [hsz]; show (nboxes w s).heap.size < _; rw [hbs]; omega
  refine ⟨rfl, ⟨w2, b2, rfl⟩, ?_, ?_⟩
  ·rw [World.cell?_setCell_other _ _ _ _ (by simp)]
   exact (b2.cell hok).trans (new_cell _ _ _)
  ·rw [World.frozen?_setCell]
   exact (b2.frozen hok).trans (new_free _ _ _)
 ·rintro e w' ⟨rfl, w1, ⟨w2, b2, rfl⟩, rfl⟩
  refine ⟨rfl, ?_, ?_⟩
  ·rw [World.cell?_setCell_other _ _ _ _ (by simp)]
   exact World.cell?_setCell_same _ _ _ ((b2.cell (by rw [hsz]; show w.heap.size + 1 < _; omega)).trans c1)
  ·exact ((hbl.trans (b2.mono (by rw [hsz]; omega))).setCell (by simp) _).setCell (by rw [hbs]; simp) _

set_option maxHeartbeats 1600000 in
set_option maxRecDepth 100000 in
theorem rdDig_none (s : ByteArray) (hs : s.size ≤ 33554432) (w : World) (hE : Env w) (hr : Hid (numOf s.data.toList = none)) :
 Calls Tryz.prog 228 #[.func (.func 229) #[] #[.pointer (some ⟨w.heap.size, 0, none⟩), .pointer (some ⟨w.heap.size + 1, 0, none⟩)]] (nboxes w s) fun e w' =>
  e = .returned (.bool false) ∧ w'.cell? ⟨w.heap.size + 1, 0, none⟩ = some (.int .i64 0) ∧ Below w.heap.size w w' := by
 obtain ⟨c0, c1, f1⟩ := nboxes_ok w s (.cells #[.bool false] 4)
 have hbl : Below w.heap.size w ((nboxes w s).alloc (.cells #[.bool false] 4)) := (nboxes_below w s).alloc (by rw [nboxes_size]; omega) _
 have hbs := nboxes_size w s
 have hsz : ((nboxes w s).alloc (.cells #[.bool false] 4)).heap.size = w.heap.size + 3 := by simp
 obtain ⟨u, pv, he⟩ := hE.no
 refine (readable_no 229 _ (nboxes w s) (fun w1 => Below ((nboxes w s).alloc (.cells #[.bool false] 4)).heap.size ((nboxes w s).alloc (.cells #[.bool false] 4)) w1) u pv (fun _ => by simp [go_sem]) ?_).mono ?_
 ·refine (digClo_none w.heap.size s hs u pv _ (hE.below hbl) ((hbl.cell (cell_lt he)).trans he) hr c0).mono ?_
  rintro e w' ⟨rfl, b2⟩
  have hok : (⟨(nboxes w s).heap.size, 0, none⟩ : Addr).block < ((nboxes w s).alloc (.cells #[.bool false] 4)).heap.size := by rw [hsz]; show (nboxes w s).heap.size < _; rw [hbs]; omega
  exact ⟨rfl, b2, (b2.cell hok).trans (new_cell _ _ _), (b2.frozen hok).trans (new_free _ _ _)⟩
 ·rintro e w' ⟨rfl, w1, b2, rfl⟩
  refine ⟨rfl, ?_, ?_⟩
  ·rw [World.cell?_setCell_other _ _ _ _ (by simp)]
   exact (b2.cell (by rw [hsz]; show w.heap.size + 1 < _; omega)).trans c1
  ·exact (hbl.trans (b2.mono (by rw [hsz]; omega))).setCell (by rw [hbs]; simp) _

set_option maxHeartbeats 1600000 in
set_option maxRecDepth 100000 in
theorem number_some (s : ByteArray) (n : Nat) (w : World) (hE : Env w) (hr : Hid (numOf s.data.toList = some n)) :
 Calls Tryz.prog 218 #[.string s] w fun e w' => e = .returned (.tuple #[.int .i64 n, .bool true]) ∧ Below w.heap.size w w' := by
 have hmf : ∀ (fn : Fn) (first cap : Array Value) (w : World), (Instr.makeFunc fn first cap).run Tryz.prog w = .ok (.func fn first cap) w := fun _ _ _ _ => rfl
 have HR := hide (rdDig_some s n w hE hr)
 clear hE
 go_enter Tryz.func218, Tryz.ntmps218
 go_wp2_with fail
 refine (unhide HR).mono ?_
 rintro e w' ⟨rfl, c1, bel⟩
 go_wp2
 go_ret2
 exact ⟨rfl, bel⟩

set_option maxHeartbeats 1600000 in
set_option maxRecDepth 100000 in
theorem number_none (s : ByteArray) (hs : s.size ≤ 33554432) (w : World) (hE : Env w) (hr : Hid (numOf s.data.toList = none)) :
 Calls Tryz.prog 218 #[.string s] w fun e w' => e = .returned (.tuple #[.int .i64 0, .bool false]) ∧ Below w.heap.size w w' := by
 have hmf : ∀ (fn : Fn) (first cap : Array Value) (w : World), (Instr.makeFunc fn first cap).run Tryz.prog w = .ok (.func fn first cap) w := fun _ _ _ _ => rfl
 have HR := hide (rdDig_none s hs w hE hr)
 clear hE
 go_enter Tryz.func218, Tryz.ntmps218
 go_wp2_with fail
 refine (unhide HR).mono ?_
 rintro e w' ⟨rfl, c1, bel⟩
 go_wp2
 go_ret2
 exact ⟨rfl, bel⟩

theorem number_any (s : ByteArray) (hs : s.size ≤ 33554432) (w : World) (hE : Env w) :
 Calls Tryz.prog 218 #[.string s] w fun e w' => e = .returned (.tuple #[.int .i64 (nans (numOf s.data.toList)), .bool (numOf s.data.toList).isSome]) ∧ Below w.heap.size w w' := by
 cases hr : numOf s.data.toList with
 | none => exact number_none s hs w hE hr
 | some n => exact number_some s n w hE hr
end Go.Proofs.YtgfboghieejbkaaGreatDoor
