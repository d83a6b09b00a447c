/- Locks: where this program has sync.Mutex; an atomic.Int64 of a call's own: Add, Load. -/
import Derived.Test.YtkjpjgecongkpaaLoc
import Derived.Conc.MuLib
import Derived.Conc.MuLone
import Derived.Defers
import Derived.Laws.LoneSync
import Derived.KernelRfl
namespace Go.Proofs.Ytkjpjgecongkpaa
open Go.RowKit

abbrev muLink : Go.Conc.Locks.MuLink := { lock := 44, unlock := 45, ilock := 53, iunlock := 54, lockSlow := 62, unlockSlow := 65, disable := 58, enable := 60, acquire := 61, relMerge := 63, cas32 := 59, add32 := 64, tMutex := 57, tIMutex := 55, tPMutex := 79, tPIMutex := 87, tPI32 := 89, tUP := 91, tNoCopy := 52, tU32 := 53 }
theorem muLib : Go.Conc.Locks.MuLib Try.prog muLink :=
  ⟨Try.func44, Try.func45, Try.func53, Try.func54, Try.func58, Try.func60, Try.func61, Try.func63, Try.func59, Try.func64, Try.underlying55, Try.runUnderlying55, Try.sizeOf55, Try.isAgg55, Try.zeroValue55, Try.underlying57, Try.runUnderlying57, Try.sizeOf57, Try.isAgg57, Try.zeroValue57, Try.underlying79, Try.runUnderlying79, Try.sizeOf79, Try.isAgg79, Try.zeroValue79, Try.underlying87, Try.runUnderlying87, Try.sizeOf87, Try.isAgg87, Try.zeroValue87, Try.underlying89, Try.runUnderlying89, Try.sizeOf89, Try.isAgg89, Try.zeroValue89, Try.underlying91, Try.runUnderlying91, Try.sizeOf91, Try.isAgg91, Try.zeroValue91, Try.underlying52, Try.runUnderlying52, Try.sizeOf52, Try.isAgg52, Try.zeroValue52, Try.underlying21, Try.runUnderlying21, Try.sizeOf21, Try.isAgg21, Try.zeroValue21, (by kernel_rfl)⟩

set_option maxHeartbeats 1600000 in
set_option maxRecDepth 100000 in
theorem atomicAdd (g j : Nat) (x : Int) (w : World) (hc : w.cell? ⟨g, j, none⟩ = some (.int .i64 x)) (hz : w.frozen? ⟨g, j, none⟩ = false) (h0 : 0 ≤ x) (h1 : x ≤ 1000) :
    Calls Try.prog 46 #[.pointer (some ⟨g, j, none⟩), .int .i64 1] w fun e w' => e = .returned (.int .i64 (x + 1)) ∧ w' = w.setCell ⟨g, j, none⟩ (.int .i64 (x + 1)) := by
  have hw : IntKind.i64.wrap (x + 1) = x + 1 := by rw [IntKind.wrap_i64]; omega
  have hadd := run_call_add (P := Try.prog) Try.func55 (by kernel_rfl) (by kernel_rfl) (by kernel_rfl) .i64 (by kernel_rfl) (y := 1) (s := x + 1) hc hz (by simp [go_sem, hw])
  go_enter Try.func46, Try.ntmps46
  go_wp2
  go_ret
  exact ⟨rfl, rfl⟩
set_option maxHeartbeats 1600000 in
set_option maxRecDepth 100000 in
theorem atomicLoad (g j : Nat) (x : Int) (w : World) (hc : w.cell? ⟨g, j, none⟩ = some (.int .i64 x)) :
    Calls Try.prog 48 #[.pointer (some ⟨g, j, none⟩)] w fun e w' => e = .returned (.int .i64 x) ∧ w' = w := by
  have hl := run_call_load (P := Try.prog) Try.func56 (by kernel_rfl) (by kernel_rfl) (by kernel_rfl) .i64 (by kernel_rfl) hc
  go_enter Try.func48, Try.ntmps48
  go_wp2
  go_ret
  exact ⟨rfl, rfl⟩
end Go.Proofs.Ytkjpjgecongkpaa
