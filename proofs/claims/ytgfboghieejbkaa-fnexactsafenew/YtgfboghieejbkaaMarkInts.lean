/- What laws.markIntS and markLedger write, and what laws.heldIntS and heldLedger read of it. -/
import Derived.Test.YtgfboghieejbkaaLedger
namespace Go.Proofs.Ytgfboghieejbkaa
open Go.RowKit

/-- What markIntS writes: k0, k0 + 1, .. -/
def imarks (k0 n : Nat) : List Int := (List.range n).map fun (i : Nat) => (k0 : Int) + (i : Int)
theorem imarks_len (k0 n : Nat) : (imarks k0 n).length = n := by simp [imarks]
theorem imarks_get (k0 n i : Nat) (h : i < n) : (imarks k0 n).getD i 0 = (k0 : Int) + (i : Int) := by simp [imarks, h]
theorem imarks_succ (k0 n : Nat) : imarks k0 (n + 1) = imarks k0 n ++ [(k0 : Int) + (n : Int)] := by simp [imarks, List.range_succ]
/-- The cells behind k rounds. -/
def imixed (k0 k : Nat) (vs : List Value) : List Value := (imarks k0 k).map (Value.int .i64) ++ vs.drop k
theorem imixed_zero (k0 : Nat) (vs : List Value) : imixed k0 0 vs = vs := by simp [imixed, imarks]
theorem imixed_all (k0 : Nat) (vs : List Value) : imixed k0 vs.length vs = (imarks k0 vs.length).map (Value.int .i64) := by simp [imixed]
theorem imixed_get (k0 k : Nat) (vs : List Value) (h : k < vs.length) : (imixed k0 k vs)[k]? = some (vs[k]) := by
  simp [imixed, List.getElem?_append, imarks_len, h]
theorem imixed_set (k0 k : Nat) (vs : List Value) (h : k < vs.length) : (imixed k0 k vs).set k (.int .i64 ((k0 : Int) + (k : Int))) = imixed k0 (k + 1) vs := by
  unfold imixed
  rw [imarks_succ, List.set_append_right _ _ (by simp [imarks_len]), List.length_map, imarks_len, Nat.sub_self, List.drop_eq_getElem_cons h, List.set_cons_zero]
  simp

set_option maxHeartbeats 800000 in
set_option maxRecDepth 100000 in
theorem imark_row (base g n cap k0 : Nat) (vs : List Value) (w : World) (hn : n ≤ 4194304) (hk0 : k0 ≤ 100000000) (h : w.ownsRow base 3 1 (.slice (some ⟨g, 0, none⟩) n cap) n vs) :
    Calls Try.prog 23 #[.slice (some ⟨g, 0, none⟩) n cap, .int .i64 k0] w fun e w' => e = .returned (.int .i64 (k0 + n)) ∧
      w'.ownsRow base 3 1 (.slice (some ⟨g, 0, none⟩) n cap) n ((imarks k0 n).map (Value.int .i64)) ∧ w.grownBy w' (some g) := by
  have hv0 : vs.length = n := by simpa using h.1
  have Hv : Hid (vs.length = n) := hv0
  clear hv0
  go_enter Try.func23, Try.ntmps23
  go_wp2
  go_loopw [1, 5] (fun c i wr => ∃ k : Nat, k ≤ n ∧ i = .int .i64 k ∧ c = .int .i64 (k0 + k) ∧ wr.ownsRow base 3 1 (.slice (some ⟨g, 0, none⟩) n cap) n (imixed k0 k vs) ∧ w.grownBy wr (some g)) (fun _ i _ => n - (intOf i).toNat)
  case atStart => exact ⟨0, Nat.zero_le _, rfl, by go_num, by rw [imixed_zero]; exact h, grown_refl _ _⟩
  case round =>
    obtain ⟨k, hk, rfl, rfl, ho, hg⟩ := hrel
    by_cases hlt : k < n
    · have hkv : k < vs.length := by rw [Hv.out]; exact hlt
      obtain ⟨u, hu⟩ : ∃ u, wr.cell? ⟨g, k, none⟩ = some u := ⟨_, (ho.cellAt k (by omega)).trans (imixed_get k0 k vs hkv)⟩
      have hfr := ho.frozenAt k
      have hs := ho.stored k (.int .i64 ((k0 : Int) + (k : Int)))
      have HS : Hid ((wr.setCell ⟨g, k, none⟩ (.int .i64 ((k0 : Int) + (k : Int)))).ownsRow base 3 1 (.slice (some ⟨g, 0, none⟩) n cap) n (imixed k0 (k + 1) vs)) := by
        rw [← imixed_set k0 k vs hkv]; exact hs.1
      have HG : Hid (w.grownBy (wr.setCell ⟨g, k, none⟩ (.int .i64 ((k0 : Int) + (k : Int)))) (some g)) := grown_trans hg hs.2
      clear hs ho hg
      go_wp2
      go_roundw
      case rel => exact ⟨k + 1, by omega, by go_num, by go_num, HS.out, HG.out⟩
      case measure => simp [intOf]; omega
    · have hkn : k = n := by omega
      have HO : Hid (wr.ownsRow base 3 1 (.slice (some ⟨g, 0, none⟩) n cap) n ((imarks k0 n).map (Value.int .i64))) := by
        have := imixed_all k0 vs; rw [Hv.out] at this; rw [← this, ← hkn]; rw [← hkn] at ho; exact ho
      clear ho
      subst hkn
      go_wp2
      go_ret
      exact ⟨rfl, HO.out, hg⟩

set_option maxHeartbeats 800000 in
set_option maxRecDepth 100000 in
theorem iheld_any (v : Value) (n k0 : Nat) (w : World) (hk0 : k0 ≤ 100000000) (h : RI w v (imarks k0 n)) :
    Calls Try.prog 24 #[v, .int .i64 k0] w fun e w' => e = .returned (.int .i64 (k0 + n)) ∧ w' = w := by
  obtain ⟨hl, ao, ca, rfl, ha⟩ := h
  rw [imarks_len] at hl ha ⊢
  go_enter Try.func24, Try.ntmps24
  go_wp2
  go_loop [1, 5] (fun c i => ∃ k : Nat, k ≤ n ∧ i = .int .i64 k ∧ c = .int .i64 (k0 + k)) (fun _ i => n - (intOf i).toNat)
  case atStart => exact ⟨0, Nat.zero_le _, rfl, by go_num⟩
  case round =>
    obtain ⟨k, hk, rfl, rfl⟩ := hrel
    by_cases hlt : k < n
    · rcases ha with ha | ⟨b, off, rfl, ha⟩
      · have := congrArg List.length ha; rw [imarks_len] at this; simp at this; omega
      have ha' := ha k hlt
      rw [imarks_get k0 n k hlt] at ha'
      clear ha
      go_wp2
      go_round
      case rel => exact ⟨k + 1, by omega, by go_num, by go_num⟩
      case measure => simp [intOf]; omega
    · have hkn : k = n := by omega
      subst hkn
      clear ha
      go_wp2
      go_ret
      exact ⟨rfl, rfl⟩

set_option maxHeartbeats 400000 in
set_option maxRecDepth 100000 in
theorem imark_none (w : World) (k0 : Nat) : Calls Try.prog 23 #[.slice none 0 0, .int .i64 k0] w fun e w' => e = .returned (.int .i64 k0) ∧ w' = w := by
  go_enter Try.func23, Try.ntmps23
  go_wp2
  refine wp_loop_rounds 1 ?_
  rw [rounds_succ]
  go_wp2
  go_ret
  exact ⟨rfl, rfl⟩

theorem imark_any (base k0 : Nat) (v : Value) (xs : List Int) (w : World) (hl : xs.length ≤ 4194304) (hk0 : k0 ≤ 100000000) (h : OI w base v xs) :
    Calls Try.prog 23 #[v, .int .i64 k0] w fun e w' => e = .returned (.int .i64 (k0 + xs.length)) ∧ OI w' base v (imarks k0 xs.length) ∧ w.grownBy w' v.ownBlock := by
  have h' := h
  rcases h.2 with ⟨rfl, h0⟩ | ⟨g, cap, cur, rfl, _⟩
  · refine (imark_none w k0).mono ?_
    rintro e w' ⟨rfl, rfl⟩
    have hx : xs = [] := List.length_eq_zero_iff.1 h0
    subst hx
    exact ⟨by simp, World.ownsRow_nil _ _ _ _, grown_refl _ _⟩
  · refine (imark_row base g xs.length cap k0 _ w hl hk0 h').mono ?_
    rintro e w' ⟨rfl, ho, hg⟩
    refine ⟨rfl, ?_, hg⟩
    unfold OI
    rw [imarks_len]
    exact ho

end Go.Proofs.Ytgfboghieejbkaa
