/- What laws.markByteS writes into a list of bytes of the call's own, and what laws.heldByteS reads of it. -/
import Derived.Test.YtechonbpefnkiaaBytes
namespace Go.Proofs.Ytechonbpefnkiaa
open Go.RowKit

/-- What markByteS writes: k0, k0 + 1, .. as bytes. -/
def marks (k0 n : Nat) : List Int := (List.range n).map fun (i : Nat) => ((k0 : Int) + (i : Int)) % 256
theorem marks_len (k0 n : Nat) : (marks k0 n).length = n := by simp [marks]
theorem marks_get (k0 n i : Nat) (h : i < n) : (marks k0 n).getD i 0 = ((k0 : Int) + (i : Int)) % 256 := by simp [marks, h]
theorem marks_succ (k0 n : Nat) : marks k0 (n + 1) = marks k0 n ++ [((k0 : Int) + (n : Int)) % 256] := by simp [marks, List.range_succ]

/-- The cells behind k rounds. -/
def mixed (k0 k : Nat) (vs : List Value) : List Value := (marks k0 k).map (Value.int .u8) ++ vs.drop k
theorem mixed_zero (k0 : Nat) (vs : List Value) : mixed k0 0 vs = vs := by simp [mixed, marks]
theorem mixed_all (k0 : Nat) (vs : List Value) : mixed k0 vs.length vs = (marks k0 vs.length).map (Value.int .u8) := by simp [mixed]
theorem mixed_get (k0 k : Nat) (vs : List Value) (h : k < vs.length) : (mixed k0 k vs)[k]? = some (vs[k]) := by
  simp [mixed, List.getElem?_append, marks_len, h]
theorem mixed_set (k0 k : Nat) (vs : List Value) (h : k < vs.length) : (mixed k0 k vs).set k (.int .u8 (((k0 : Int) + (k : Int)) % 256)) = mixed k0 (k + 1) vs := by
  unfold mixed
  rw [marks_succ, List.set_append_right _ _ (by simp [marks_len]), List.length_map, marks_len, Nat.sub_self, List.drop_eq_getElem_cons h, List.set_cons_zero]
  simp

theorem grown_trans {a b c : World} {row : Option Nat} (h : a.grownBy b row) (k : b.grownBy c row) : a.grownBy c row :=
  ⟨k.os.trans h.os, k.tape.trans h.tape, k.output.trans h.output, Nat.le_trans h.size k.size, fun i hi hr => (k.block i (Nat.lt_of_lt_of_le hi h.size) hr).trans (h.block i hi hr)⟩
theorem grown_refl (a : World) (row : Option Nat) : a.grownBy a row := ⟨rfl, rfl, rfl, Nat.le_refl _, fun _ _ _ => rfl⟩

set_option maxHeartbeats 800000 in
theorem mark_row (base g n cap k0 : Nat) (vs : List Value) (w : World) (hn : n ≤ 140737488355328) (hk0 : k0 ≤ 1000000) (h : w.ownsRow base 5 1 (.slice (some ⟨g, 0, none⟩) n cap) n vs) :
    Calls Try.prog 9 #[.slice (some ⟨g, 0, none⟩) n cap, .int .i64 k0] w fun e w' => e = .returned (.int .i64 (k0 + n)) ∧
      w'.ownsRow base 5 1 (.slice (some ⟨g, 0, none⟩) n cap) n ((marks k0 n).map (Value.int .u8)) ∧ w.grownBy w' (some g) := by
  have hv0 : vs.length = n := by simpa using h.1
  have Hv : Hid (vs.length = n) := hv0
  clear hv0
  go_enter Try.func9, Try.ntmps9
  go_wp2
  go_loopw [1, 5] (fun c i wr => ∃ k : Nat, k ≤ n ∧ i = .int .i64 k ∧ c = .int .i64 (k0 + k) ∧ wr.ownsRow base 5 1 (.slice (some ⟨g, 0, none⟩) n cap) n (mixed k0 k vs) ∧ w.grownBy wr (some g)) (fun _ i _ => n - (intOf i).toNat)
  case atStart => exact ⟨0, Nat.zero_le _, rfl, by go_num, by rw [mixed_zero]; exact h, grown_refl _ _⟩
  case round =>
    obtain ⟨k, hk, rfl, rfl, ho, hg⟩ := hrel
    by_cases hlt : k < n
    · have hkv : k < vs.length := by rw [Hv.out]; exact hlt
      obtain ⟨u, hu⟩ : ∃ u, wr.cell? ⟨g, k, none⟩ = some u := ⟨_, (ho.cellAt k (by omega)).trans (mixed_get k0 k vs hkv)⟩
      have hfr := ho.frozenAt k
      have hs := ho.stored k (.int .u8 (((k0 : Int) + (k : Int)) % 256))
      have HS : Hid ((wr.setCell ⟨g, k, none⟩ (.int .u8 (((k0 : Int) + (k : Int)) % 256))).ownsRow base 5 1 (.slice (some ⟨g, 0, none⟩) n cap) n (mixed k0 (k + 1) vs)) := by
        rw [← mixed_set k0 k vs hkv]; exact hs.1
      have HG : Hid (w.grownBy (wr.setCell ⟨g, k, none⟩ (.int .u8 (((k0 : Int) + (k : Int)) % 256))) (some g)) := grown_trans hg hs.2
      clear hs ho hg
      go_wp2
      go_roundw
      case rel => exact ⟨k + 1, by omega, by go_num, by go_num, HS.out, HG.out⟩
      case measure => simp [intOf]; omega
    · have hkn : k = n := by omega
      have HO : Hid (wr.ownsRow base 5 1 (.slice (some ⟨g, 0, none⟩) n cap) n ((marks k0 n).map (Value.int .u8))) := by
        have := mixed_all k0 vs; rw [Hv.out] at this; rw [← this, ← hkn]; rw [← hkn] at ho; exact ho
      clear ho
      subst hkn
      go_wp2
      go_ret
      exact ⟨rfl, HO.out, hg⟩

set_option maxHeartbeats 800000 in
theorem held_row (v : Value) (n k0 : Nat) (w : World) (hk0 : k0 ≤ 1000000) (h : RB w v (marks k0 n)) :
    Calls Try.prog 10 #[v, .int .i64 k0] w fun e w' => e = .returned (.int .i64 (k0 + n)) ∧ w' = w := by
  obtain ⟨hl, ao, ca, rfl, ha⟩ := h
  rw [marks_len] at hl ha ⊢
  go_enter Try.func10, Try.ntmps10
  go_wp2
  go_loop [1, 5] (fun c i => ∃ k : Nat, k ≤ n ∧ i = .int .i64 k ∧ c = .int .i64 (k0 + k)) (fun _ i => n - (intOf i).toNat)
  case atStart => exact ⟨0, Nat.zero_le _, rfl, by go_num⟩
  case round =>
    obtain ⟨k, hk, rfl, rfl⟩ := hrel
    by_cases hlt : k < n
    · rcases ha with ha | ⟨b, off, rfl, ha⟩
      · have := congrArg List.length ha; rw [marks_len] at this; simp at this; omega
      have ha' := ha k hlt
      rw [marks_get k0 n k hlt] at ha'
      clear ha
      go_wp2
      go_round
      case rel => exact ⟨k + 1, by omega, by go_num, by go_num⟩
      case measure => simp [intOf]; omega
    · have hkn : k = n := by omega
      subst hkn
      clear ha
      go_wp2
      go_ret
      exact ⟨rfl, rfl⟩
end Go.Proofs.Ytechonbpefnkiaa
