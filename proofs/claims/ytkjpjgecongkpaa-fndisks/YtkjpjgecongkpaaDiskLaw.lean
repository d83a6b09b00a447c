/- DiskLaw: a disk as a value; laws.eqDisk, heldDisk, markDisk, szDisk, toDisk. -/
import Derived.Test.YtkjpjgecongkpaaEqByte
import Derived.Test.YtkjpjgecongkpaaMark
import Derived.Test.YtkjpjgecongkpaaToByte
import Derived.Test.YtkjpjgecongkpaaByteOwn
import Derived.Test.YtkjpjgecongkpaaLoc
namespace Go.Proofs.Ytkjpjgecongkpaa
open Go.RowKit

/-- A disk: its bytes, how many are sure. -/
abbrev dv (v : Value) (s : Int) : Value := .agg #[v, .int .i64 s]
theorem qalloc (w : World) (o : Obj) : Below w.heap.size w (w.alloc o) := (Below.refl _ _).alloc (Nat.le_refl _) _
theorem qalloc2 (w : World) (o p : Obj) : Below w.heap.size w ((w.alloc o).alloc p) := ((Below.refl _ _).alloc (Nat.le_refl _) _).alloc (by simp) _

set_option maxHeartbeats 1600000 in
set_option maxRecDepth 100000 in
theorem eqDisk_yes (a b : Value) (xs : List Int) (s : Int) (w : World) (ha : RB w a xs) (hb : RB w b xs) :
    Calls Try.prog 22 #[dv a s, dv b s] w fun e w' => e = .returned (.bool true) ∧ Below w.heap.size w w' := by
  have R1 := hide ha
  have R2 := hide hb
  have B := hide (qalloc2 w (.cells #[a, .int .i64 s] 25) (.cells #[b, .int .i64 s] 25))
  clear ha hb
  go_enter Try.func22, Try.ntmps22
  go_wp2_with fail
  refine (eq_yes a b xs _ ((unhide R1).below (unhide B) (Nat.le_refl _)) ((unhide R2).below (unhide B) (Nat.le_refl _))).mono ?_
  rintro e w1 ⟨rfl, n, rfl⟩
  go_wp2
  go_ret
  exact ⟨rfl, below_drewN (unhide B) _⟩

set_option maxHeartbeats 1600000 in
set_option maxRecDepth 100000 in
theorem heldDisk_any (v : Value) (s : Int) (m : Nat) (w : World) (h : RB w v (marks 1 m)) :
    Calls Try.prog 27 #[dv v s, .int .i64 1] w fun e w' => e = .returned (.int .i64 (1 + m)) ∧ Below w.heap.size w w' := by
  have R1 := hide h
  have B := hide (qalloc w (.cells #[v, .int .i64 s] 25))
  have hd : decide ((1 : Int) + (m : Int) < 0) = false := by simp; omega
  clear h
  go_enter Try.func27, Try.ntmps27
  go_wp2_with fail
  refine (held_row v m 1 _ (by omega) ((unhide R1).below (unhide B) (Nat.le_refl _))).mono ?_
  rintro e w1 ⟨rfl, rfl⟩
  go_wp2
  go_ret
  exact ⟨rfl, unhide B⟩

set_option maxHeartbeats 1600000 in
set_option maxRecDepth 100000 in
theorem markDisk_any (s : Int) (base : Nat) (v : Value) (xs : List Int) (k0 : Nat) (w : World) (hl : xs.length ≤ 4194304) (hk : k0 ≤ 100000000) (h : OB w base v xs) :
    Calls Try.prog 25 #[dv v s, .int .i64 k0] w fun e w' => e = .returned (.int .i64 (k0 + xs.length)) ∧ OB w' base v (marks k0 xs.length) ∧ Kp w w' (fun k => v.ownBlock = some k) := by
  have B := hide (qalloc w (.cells #[v, .int .i64 s] 25))
  have H := hide (h.below (unhide B))
  have MK := hide fun w h => mark_any base k0 v xs w (by omega) hk h
  clear h
  go_enter Try.func25, Try.ntmps25
  go_wp2_with fail
  refine (unhide MK _ (unhide H)).mono ?_
  rintro e w1 ⟨rfl, o1, g1⟩
  have K := (Below.kpOf (unhide B) (fun k => v.ownBlock = some k)).trans (kp_grown g1)
  go_wp2
  go_ret
  exact ⟨rfl, o1, K⟩

set_option maxHeartbeats 800000 in
set_option maxRecDepth 100000 in
theorem szByteS_yes (ao : Option Addr) (m ca : Nat) (left : Int) (w : World) (h : (m : Int) ≤ left) (hl : left ≤ 1048576) :
    Calls Try.prog 41 #[.slice ao m ca, .int .i64 left] w fun e w' => e = .returned (.int .i64 (left - m)) ∧ w' = w := by
  have h1 : decide ((left : Int) - (m : Int) < 0) = false := by simp; omega
  go_enter Try.func41, Try.ntmps41
  go_wp2
  go_ret
  exact ⟨rfl, rfl⟩
set_option maxHeartbeats 800000 in
set_option maxRecDepth 100000 in
theorem szByteS_no (ao : Option Addr) (m ca : Nat) (left : Int) (w : World) (h0 : 0 ≤ left) (h : left < m) (hl : left ≤ 1048576) (hm : m ≤ 9223372036854775807) :
    Calls Try.prog 41 #[.slice ao m ca, .int .i64 left] w fun e w' => e = .returned (.int .i64 (-1)) ∧ w' = w := by
  have h1 : decide ((left : Int) - (m : Int) < 0) = true := by simp; omega
  go_enter Try.func41, Try.ntmps41
  go_wp2
  go_ret
  exact ⟨rfl, rfl⟩
set_option maxHeartbeats 800000 in
set_option maxRecDepth 100000 in
theorem szDisk_yes (ao : Option Addr) (m ca : Nat) (s : Int) (left : Int) (w : World) (h : (m : Int) ≤ left) (hl : left ≤ 1048576) :
    Calls Try.prog 20 #[dv (.slice ao m ca) s, .int .i64 left] w fun e w' => e = .returned (.int .i64 (left - m)) ∧ Below w.heap.size w w' := by
  have h1 : decide ((left : Int) - (m : Int) < 0) = false := by simp; omega
  go_enter Try.func20, Try.ntmps20
  go_wp2_with (first | (go_at_call 41; refine (szByteS_yes _ _ _ _ _ (by omega) (by omega)).mono ?_; rintro e w' ⟨rfl, rfl⟩))
  go_ret
  exact ⟨rfl, qalloc _ _⟩
set_option maxHeartbeats 800000 in
set_option maxRecDepth 100000 in
theorem szDisk_no (ao : Option Addr) (m ca : Nat) (s : Int) (left : Int) (w : World) (h0 : 0 ≤ left) (h : left < m) (hl : left ≤ 1048576) (hm : m ≤ 9223372036854775807) :
    Calls Try.prog 20 #[dv (.slice ao m ca) s, .int .i64 left] w fun e w' => e = .returned (.int .i64 (-1)) ∧ Below w.heap.size w w' := by
  go_enter Try.func20, Try.ntmps20
  go_wp2_with (first | (go_at_call 41; refine (szByteS_no _ _ _ _ _ (by omega) (by omega) (by omega) hm).mono ?_; rintro e w' ⟨rfl, rfl⟩))
  go_ret
  exact ⟨rfl, qalloc _ _⟩

set_option maxHeartbeats 1600000 in
set_option maxRecDepth 100000 in
theorem toDisk_any (a : Value) (xs : List Int) (s : Int) (w : World) (ha : RB w a xs) :
    Calls Try.prog 21 #[dv a s] w fun e w' => ∃ u, e = .returned (dv u s) ∧ OB w' w.heap.size u xs ∧ Below w.heap.size w w' := by
  have R1 := hide ha
  clear ha
  go_enter Try.func21, Try.ntmps21
  go_wp2_with fail
  refine Calls.mono (toByte_any a xs _ ((unhide R1).below ((((Below.refl w.heap.size w).alloc (Nat.le_refl _) _).alloc (by simp) _).alloc (by simp; omega) _) (Nat.le_refl _))) ?_
  rintro e w1 ⟨u, rfl, o1, b1⟩
  have s1 := b1.size
  have L1 : Loc w1 (w.heap.size + 1) #[.slice none 0 0, .int .i64 0] := Loc.below (Loc.alloc (loc_at (w.alloc _) #[.slice none 0 0, .int .i64 0] _ (by simp)) _) b1 (by simp)
  have L2 : Loc w1 (w.heap.size + 1 + 1) #[.slice none 0 0, .int .i64 0] := Loc.below (loc_at ((w.alloc _).alloc _) #[.slice none 0 0, .int .i64 0] _ (by simp)) b1 (by simp)
  have B1 : Below w.heap.size w w1 := ((((Below.refl w.heap.size w).alloc (Nat.le_refl _) _).alloc (by simp) _).alloc (by simp; omega) _).trans (b1.mono (by simp; omega))
  have lt1 := World.ownsRow.lt o1
  simp at lt1 s1
  have L0 : Loc w1 w.heap.size #[a, .int .i64 s] := Loc.below (Loc.alloc (Loc.alloc (loc_at w #[a, .int .i64 s] _ rfl) _) _) b1 (by simp; omega)
  have x1 := L0.cell 1 rfl
  have y0 := L1.cell 0 rfl
  have y1 := L1.cell 1 rfl
  have fy0 := L1.frozen 0
  have fy1 := L1.frozen 1
  have z0 := L2.cell 0 rfl
  have z1 := L2.cell 1 rfl
  have fz0 := L2.frozen 0
  have fz1 := L2.frozen 1
  obtain ⟨ua, uc, hu⟩ := o1.form
  have O1 := hide o1
  clear o1 b1
  subst hu
  go_wp2
  refine bodyPost_ret (v := dv (.slice ua xs.length uc) s) (by simp [results, Try.results21, go_sem, y0, y1]) rfl ?_
  have K : Kp w1 ((((w1.setCell ⟨w.heap.size + 1 + 1, 0, none⟩ (.slice ua xs.length uc)).setCell ⟨w.heap.size + 1 + 1, 1, none⟩ (.int .i64 s)).setCell ⟨w.heap.size + 1, 0, none⟩ (.slice ua xs.length uc)).setCell ⟨w.heap.size + 1, 1, none⟩ (.int .i64 s)) (fun k => k = w.heap.size + 1 ∨ k = w.heap.size + 1 + 1) :=
    (((((set_kp _ _ _ _).mono (fun k h => .inr h))).trans ((set_kp _ _ _ _).mono (fun k h => .inr h))).trans ((set_kp _ _ _ _).mono (fun k h => .inl h))).trans ((set_kp _ _ _ _).mono (fun k h => .inl h))
  exact ⟨_, rfl, ((unhide O1).kp K (fun k hk => by have := lt1 k hk; omega)).mono (by simp; omega), Below.kp B1 K B1.size (fun k hk => by omega)⟩
end Go.Proofs.Ytkjpjgecongkpaa
