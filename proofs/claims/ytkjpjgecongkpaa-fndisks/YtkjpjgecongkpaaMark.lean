/- What laws.markByteS writes into a list of bytes of the call's own, and what laws.heldByteS reads of it. -/
import Derived.Test.YtkjpjgecongkpaaBase
namespace Go.Proofs.Ytkjpjgecongkpaa
open Go.RowKit

/-- What markByteS writes: k0, k0 + 1, .. as bytes. -/
def marks (k0 n : Nat) : List Int := (List.range n).map fun (i : Nat) => ((k0 : Int) + (i : Int)) % 256
theorem marks_len (k0 n : Nat) : (marks k0 n).length = n := by simp [marks]
theorem marks_get (k0 n i : Nat) (h : i < n) : (marks k0 n).getD i 0 = ((k0 : Int) + (i : Int)) % 256 := by simp [marks, h]
theorem marks_succ (k0 n : Nat) : marks k0 (n + 1) = marks k0 n ++ [((k0 : Int) + (n : Int)) % 256] := by simp [marks, List.range_succ]

/-- The cells behind k rounds. -/
def mixed (k0 k : Nat) (vs : List Value) : List Value := (marks k0 k).map (Value.int .u8) ++ vs.drop k
theorem mixed_zero (k0 : Nat) (vs : List Value) : mixed k0 0 vs = vs := by simp [mixed, marks]
theorem mixed_all (k0 : Nat) (vs : List Value) : mixed k0 vs.length vs = (marks k0 vs.length).map (Value.int .u8) := by simp [mixed]
theorem mixed_get (k0 k : Nat) (vs : List Value) (h : k < vs.length) : (mixed k0 k vs)[k]? = some (vs[k]) := by
  simp [mixed, List.getElem?_append, marks_len, h]
theorem mixed_set (k0 k : Nat) (vs : List Value) (h : k < vs.length) : (mixed k0 k vs).set k (.int .u8 (((k0 : Int) + (k : Int)) % 256)) = mixed k0 (k + 1) vs := by
  unfold mixed
  rw [marks_succ, List.set_append_right _ _ (by simp [marks_len]), List.length_map, marks_len, Nat.sub_self, List.drop_eq_getElem_cons h, List.set_cons_zero]
  simp

set_option maxHeartbeats 800000 in
set_option maxRecDepth 100000 in
theorem mark_row (base g n cap k0 : Nat) (vs : List Value) (w : World) (hn : n ≤ 140737488355328) (hk0 : k0 ≤ 100000000) (h : w.ownsRow base 5 1 (.slice (some ⟨g, 0, none⟩) n cap) n vs) :
    Calls Try.prog 26 #[.slice (some ⟨g, 0, none⟩) n cap, .int .i64 k0] w fun e w' => e = .returned (.int .i64 (k0 + n)) ∧
      w'.ownsRow base 5 1 (.slice (some ⟨g, 0, none⟩) n cap) n ((marks k0 n).map (Value.int .u8)) ∧ w.grownBy w' (some g) := by
  have hv0 : vs.length = n := by simpa using h.1
  have Hv : Hid (vs.length = n) := hv0
  clear hv0
  go_enter Try.func26, Try.ntmps26
  go_wp2
  go_loopw [1, 5] (fun c i wr => ∃ k : Nat, k ≤ n ∧ i = .int .i64 k ∧ c = .int .i64 (k0 + k) ∧ wr.ownsRow base 5 1 (.slice (some ⟨g, 0, none⟩) n cap) n (mixed k0 k vs) ∧ w.grownBy wr (some g)) (fun _ i _ => n - (intOf i).toNat)
  case atStart => exact ⟨0, Nat.zero_le _, rfl, by go_num, by rw [mixed_zero]; exact h, grown_refl _ _⟩
  case round =>
    obtain ⟨k, hk, rfl, rfl, ho, hg⟩ := hrel
    by_cases hlt : k < n
    · have hkv : k < vs.length := by rw [Hv.out]; exact hlt
      obtain ⟨u, hu⟩ : ∃ u, wr.cell? ⟨g, k, none⟩ = some u := ⟨_, (ho.cellAt k (by omega)).trans (mixed_get k0 k vs hkv)⟩
      have hfr := ho.frozenAt k
      have hs := ho.stored k (.int .u8 (((k0 : Int) + (k : Int)) % 256))
      have HS : Hid ((wr.setCell ⟨g, k, none⟩ (.int .u8 (((k0 : Int) + (k : Int)) % 256))).ownsRow base 5 1 (.slice (some ⟨g, 0, none⟩) n cap) n (mixed k0 (k + 1) vs)) := by
        rw [← mixed_set k0 k vs hkv]; exact hs.1
      have HG : Hid (w.grownBy (wr.setCell ⟨g, k, none⟩ (.int .u8 (((k0 : Int) + (k : Int)) % 256))) (some g)) := grown_trans hg hs.2
      clear hs ho hg
      go_wp2
      go_roundw
      case rel => exact ⟨k + 1, by omega, by go_num, by go_num, HS.out, HG.out⟩
      case measure => simp [intOf]; omega
    · have hkn : k = n := by omega
      have HO : Hid (wr.ownsRow base 5 1 (.slice (some ⟨g, 0, none⟩) n cap) n ((marks k0 n).map (Value.int .u8))) := by
        have := mixed_all k0 vs; rw [Hv.out] at this; rw [← this, ← hkn]; rw [← hkn] at ho; exact ho
      clear ho
      subst hkn
      go_wp2
      go_ret
      exact ⟨rfl, HO.out, hg⟩

set_option maxHeartbeats 800000 in
set_option maxRecDepth 100000 in
theorem held_row (v : Value) (n k0 : Nat) (w : World) (hk0 : k0 ≤ 100000000) (h : RB w v (marks k0 n)) :
    Calls Try.prog 42 #[v, .int .i64 k0] w fun e w' => e = .returned (.int .i64 (k0 + n)) ∧ w' = w := by
  obtain ⟨hl, ao, ca, rfl, _, ha⟩ := h
  rw [marks_len] at hl ha ⊢
  go_enter Try.func42, Try.ntmps42
  go_wp2
  go_loop [1, 5] (fun c i => ∃ k : Nat, k ≤ n ∧ i = .int .i64 k ∧ c = .int .i64 (k0 + k)) (fun _ i => n - (intOf i).toNat)
  case atStart => exact ⟨0, Nat.zero_le _, rfl, by go_num⟩
  case round =>
    obtain ⟨k, hk, rfl, rfl⟩ := hrel
    by_cases hlt : k < n
    · rcases ha with ha | ⟨b, off, rfl, ha⟩
      · have := congrArg List.length ha; rw [marks_len] at this; simp at this; omega
      have ha' := ha k hlt
      rw [marks_get k0 n k hlt] at ha'
      clear ha
      go_wp2
      go_round
      case rel => exact ⟨k + 1, by omega, by go_num, by go_num⟩
      case measure => simp [intOf]; omega
    · have hkn : k = n := by omega
      subst hkn
      clear ha
      go_wp2
      go_ret
      exact ⟨rfl, rfl⟩

set_option maxHeartbeats 400000 in
set_option maxRecDepth 100000 in
theorem mark_none (w : World) (k0 : Nat) : Calls Try.prog 26 #[.slice none 0 0, .int .i64 k0] w fun e w' => e = .returned (.int .i64 k0) ∧ w' = w := by
  go_enter Try.func26, Try.ntmps26
  go_wp2
  refine wp_loop_rounds 1 ?_
  rw [rounds_succ]
  go_wp2
  go_ret
  exact ⟨rfl, rfl⟩

theorem mark_any (base k0 : Nat) (v : Value) (xs : List Int) (w : World) (hl : xs.length ≤ 140737488355328) (hk0 : k0 ≤ 100000000) (h : OB w base v xs) :
    Calls Try.prog 26 #[v, .int .i64 k0] w fun e w' => e = .returned (.int .i64 (k0 + xs.length)) ∧ OB w' base v (marks k0 xs.length) ∧ w.grownBy w' v.ownBlock := by
  have h' := h
  rcases h.2 with ⟨rfl, h0⟩ | ⟨g, cap, cur, rfl, _⟩
  · refine (mark_none w k0).mono ?_
    rintro e w' ⟨rfl, rfl⟩
    have hx : xs = [] := List.length_eq_zero_iff.1 h0
    subst hx
    exact ⟨by simp, World.ownsRow_nil _ _ _ _, grown_refl _ _⟩
  · refine (mark_row base g xs.length cap k0 _ w hl hk0 h').mono ?_
    rintro e w' ⟨rfl, ho, hg⟩
    refine ⟨rfl, ?_, hg⟩
    unfold OB
    rw [marks_len]
    exact ho

theorem mark1 (base : Nat) (v : Value) (xs : List Int) (w : World) (hl : xs.length ≤ 140737488355328) (h : OB w base v xs) :
    Calls Try.prog 26 #[v, .int .i64 1] w fun e w' => e = .returned (.int .i64 (1 + xs.length)) ∧ OB w' base v (marks 1 xs.length) ∧ w.grownBy w' v.ownBlock :=
  mark_any base 1 v xs w hl (by omega) h
theorem held1 (v : Value) (n : Nat) (w : World) (h : RB w v (marks 1 n)) :
    Calls Try.prog 42 #[v, .int .i64 1] w fun e w' => e = .returned (.int .i64 (1 + n)) ∧ w' = w :=
  held_row v n 1 w (by omega) h
end Go.Proofs.Ytkjpjgecongkpaa
