/- DiskAll: Sync, FallTo and Append of both sides, at every disk. -/
import Derived.Test.YtkjpjgecongkpaaDiskSpecA
namespace Go.Proofs.Ytkjpjgecongkpaa
open Go.RowKit

def syncS (n : Nat) (s : Int) : Int := if dokB n s then (n : Int) else s
def fallS (n : Nat) (s keep : Int) : Int := if dokB n s then (fallN n s keep : Int) else s
def fallX (n : Nat) (s keep : Int) (xs : List Int) : List Int := if dokB n s then xs.take (fallN n s keep) else xs
def apdX (s : Int) (xs ys : List Int) : List Int := if apdB xs.length ys.length s then xs ++ ys else xs
theorem fallX_len (n : Nat) (s keep : Int) (xs : List Int) : (fallX n s keep xs).length ≤ xs.length := by
  unfold fallX
  split
  · rw [List.length_take]; omega
  · omega
theorem apdX_len (s : Int) (xs ys : List Int) : (apdX s xs ys).length ≤ xs.length + ys.length := by
  unfold apdX
  split
  · rw [List.length_append]; omega
  · omega
theorem implSync_any (ao : Option Addr) (n ca : Nat) (s : Int) (xs : List Int) (w : World) (hr : RB w (.slice ao n ca) xs) (hl : xs.length ≤ 1048576) :
    Calls Try.prog 14 #[dv (.slice ao n ca) s] w fun e w' => ∃ u, e = .returned (dv u (syncS n s)) ∧ OB w' w.heap.size u xs ∧ Below w.heap.size w w' := by
  unfold syncS
  cases hd : dokB n s with
  | true => exact implSync_yes ao n ca s xs w hr hl hd
  | false => exact implSync_no ao n ca s xs w hr hl hd
theorem implFall_any (ao : Option Addr) (n ca : Nat) (s : Int) (xs : List Int) (keep : Int) (w : World) (hr : RB w (.slice ao n ca) xs) (hl : xs.length ≤ 1048576) :
    Calls Try.prog 10 #[dv (.slice ao n ca) s, .int .i64 keep] w fun e w' => ∃ u, e = .returned (dv u (fallS n s keep)) ∧ OB w' w.heap.size u (fallX n s keep xs) ∧ Below w.heap.size w w' := by
  unfold fallS fallX
  cases hd : dokB n s with
  | true => exact implFall_yes ao n ca s xs keep w hr hl hd
  | false => exact implFall_no ao n ca s xs keep w hr hl hd
theorem specSync_any (ao : Option Addr) (n ca : Nat) (s : Int) (xs : List Int) (w : World) (hr : RB w (.slice ao n ca) xs) (hl : xs.length ≤ 1048576) :
    Calls Try.prog 17 #[dv (.slice ao n ca) s] w fun e w' => ∃ u, e = .returned (dv u (syncS n s)) ∧ OB w' w.heap.size u xs ∧ Below w.heap.size w w' := by
  unfold syncS
  cases hd : dokB n s with
  | true => exact specSync_yes ao n ca s xs w hr hl hd
  | false => exact specSync_no ao n ca s xs w hr hl hd
theorem specFall_any (ao : Option Addr) (n ca : Nat) (s : Int) (xs : List Int) (keep : Int) (w : World) (hr : RB w (.slice ao n ca) xs) (hl : xs.length ≤ 1048576) :
    Calls Try.prog 16 #[dv (.slice ao n ca) s, .int .i64 keep] w fun e w' => ∃ u, e = .returned (dv u (fallS n s keep)) ∧ OB w' w.heap.size u (fallX n s keep xs) ∧ Below w.heap.size w w' := by
  unfold fallS fallX
  cases hd : dokB n s with
  | true => exact specFall_yes ao n ca s xs keep w hr hl hd
  | false => exact specFall_no ao n ca s xs keep w hr hl hd
theorem implAppend_any (ao : Option Addr) (ca cb : Nat) (s : Int) (xs : List Int) (bo : Option Addr) (ys : List Int) (w : World) (hr : RB w (.slice ao xs.length ca) xs) (hl : xs.length ≤ 1048576) (hr2 : RB w (.slice bo ys.length cb) ys) (hl2 : ys.length ≤ 1048576) :
    Calls Try.prog 12 #[dv (.slice ao xs.length ca) s, .slice bo ys.length cb] w fun e w' => ∃ u, e = .returned (.tuple #[dv u s, .bool (apdB xs.length ys.length s)]) ∧ OB w' w.heap.size u (apdX s xs ys) ∧ Below w.heap.size w w' := by
  unfold apdX
  cases hd : apdB xs.length ys.length s with
  | true => exact implAppend_yes ao ca cb s xs bo ys w hr hl hr2 hl2 hd
  | false => exact implAppend_no ao ca cb s xs bo ys w hr hl hr2 hl2 hd
theorem specAppend_any (ao : Option Addr) (ca cb : Nat) (s : Int) (xs : List Int) (bo : Option Addr) (ys : List Int) (w : World) (hr : RB w (.slice ao xs.length ca) xs) (hl : xs.length ≤ 1048576) (hr2 : RB w (.slice bo ys.length cb) ys) (hl2 : ys.length ≤ 1048576) :
    Calls Try.prog 13 #[dv (.slice ao xs.length ca) s, .slice bo ys.length cb] w fun e w' => ∃ u, e = .returned (.tuple #[dv u s, .bool (apdB xs.length ys.length s)]) ∧ OB w' w.heap.size u (apdX s xs ys) ∧ Below w.heap.size w w' := by
  unfold apdX
  rw [apd_iff]
  cases hd : dokB xs.length s with
  | false => exact specAppend_no1 ao xs.length ca s xs bo cb ys w hr hl hr2 hl2 hd
  | true =>
    cases hd2 : dokB (xs.length + ys.length) s with
    | true => exact specAppend_yes ao xs.length ca s xs bo cb ys w hr hl hr2 hl2 hd hd2
    | false => exact specAppend_no2 ao xs.length ca s xs bo cb ys w hr hl hr2 hl2 hd hd2
end Go.Proofs.Ytkjpjgecongkpaa
