/- laws.markStringS and heldStringS. -/
import Derived.Test.YtechonbpefnkiaaMarkText
import Derived.Deep.RegionWith
namespace Go.Proofs.Ytechonbpefnkiaa
open Go.RowKit

/-- What markStringS writes. -/
def smarks (k0 n : Nat) : List ByteArray := (List.range n).map fun (i : Nat) => markT (k0 + i)
theorem smarks_len (k0 n : Nat) : (smarks k0 n).length = n := by simp [smarks]
theorem smarks_get (k0 n i : Nat) (h : i < n) : (smarks k0 n).getD i ByteArray.empty = markT (k0 + i) := by simp [smarks, h]
theorem smarks_succ (k0 n : Nat) : smarks k0 (n + 1) = smarks k0 n ++ [markT (k0 + n)] := by simp [smarks, List.range_succ]
/-- The cells behind k rounds. -/
def smixed (k0 k : Nat) (vs : List Value) : List Value := (smarks k0 k).map Value.string ++ vs.drop k
theorem smixed_zero (k0 : Nat) (vs : List Value) : smixed k0 0 vs = vs := by simp [smixed, smarks]
theorem smixed_all (k0 : Nat) (vs : List Value) : smixed k0 vs.length vs = (smarks k0 vs.length).map Value.string := by simp [smixed]
theorem smixed_get (k0 k : Nat) (vs : List Value) (h : k < vs.length) : (smixed k0 k vs)[k]? = some (vs[k]) := by
  simp [smixed, List.getElem?_append, smarks_len, h]
theorem smixed_set (k0 k : Nat) (vs : List Value) (h : k < vs.length) : (smixed k0 k vs).set k (.string (markT (k0 + k))) = smixed k0 (k + 1) vs := by
  unfold smixed
  rw [smarks_succ, List.set_append_right _ _ (by simp [smarks_len]), List.length_map, smarks_len, Nat.sub_self, List.drop_eq_getElem_cons h, List.set_cons_zero]
  simp
theorem grown_below {w w' : World} (h : Below w.heap.size w w') (row : Option Nat) : w.grownBy w' row := ⟨h.os, h.tape, h.output, h.size, fun k hk _ => h.block k hk⟩

theorem markText_sum (k0 k : Nat) (w : World) (hn : 0 < k0) (hm : k0 + k ≤ 9223372036854775807) :
    Calls Try.prog 20 #[.int .i64 ((k0 : Int) + (k : Int))] w fun e w' => e = .returned (.string (markT (k0 + k))) ∧ Below w.heap.size w w' := by
  have := markText_any (k0 + k) w (by omega) hm
  rwa [Int.natCast_add] at this

set_option maxHeartbeats 1600000 in
theorem smark_row (base g n cap k0 : Nat) (vs : List Value) (w : World) (hn : n ≤ 140737488355328) (hk0 : 0 < k0) (hk1 : k0 ≤ 1000000) (h : w.ownsRow base 9 1 (.slice (some ⟨g, 0, none⟩) n cap) n vs) :
    Calls Try.prog 16 #[.slice (some ⟨g, 0, none⟩) n cap, .int .i64 k0] w fun e w' => e = .returned (.int .i64 (k0 + n)) ∧
      w'.ownsRow base 9 1 (.slice (some ⟨g, 0, none⟩) n cap) n ((smarks k0 n).map Value.string) ∧ w.grownBy w' (some g) := by
  have hv0 : vs.length = n := by simpa using h.1
  have Hv : Hid (vs.length = n) := hv0
  clear hv0
  go_enter Try.func16, Try.ntmps16
  go_wp2
  go_loopw [1, 5] (fun c i wr => ∃ k : Nat, k ≤ n ∧ i = .int .i64 k ∧ c = .int .i64 ((k0 : Int) + (k : Int)) ∧ wr.ownsRow base 9 1 (.slice (some ⟨g, 0, none⟩) n cap) n (smixed k0 k vs) ∧ w.grownBy wr (some g)) (fun _ i _ => n - (intOf i).toNat)
  case atStart => exact ⟨0, Nat.zero_le _, rfl, by go_num, by rw [smixed_zero]; exact h, grown_refl _ _⟩
  case round =>
    obtain ⟨k, hk, rfl, rfl, ho, hg⟩ := hrel
    by_cases hlt : k < n
    · have hkv : k < vs.length := by rw [Hv.out]; exact hlt
      obtain ⟨u, hu⟩ : ∃ u, wr.cell? ⟨g, k, none⟩ = some u := ⟨_, (ho.cellAt k (by omega)).trans (smixed_get k0 k vs hkv)⟩
      have hfr := ho.frozenAt k
      have hlg : g < wr.heap.size := cell_lt hu
      have HO := hide ho
      have HG := hide hg
      clear ho hg
      go_wp2_with fail
      refine (markText_sum k0 k _ hk0 (by omega)).mono ?_
      rintro e w1 ⟨rfl, b1⟩
      have hu1 := (b1.cell (p := ⟨g, k, none⟩) hlg).trans hu
      have hf1 := (b1.frozen (p := ⟨g, k, none⟩) hlg).trans hfr
      have ho1 := World.ownsRow.kept (row := none) (unhide HO) (grown_below b1 none) (by simp [Value.ownBlock])
      have hs := ho1.stored k (.string (markT (k0 + k)))
      have HS : Hid ((w1.setCell ⟨g, k, none⟩ (.string (markT (k0 + k)))).ownsRow base 9 1 (.slice (some ⟨g, 0, none⟩) n cap) n (smixed k0 (k + 1) vs)) := by
        rw [← smixed_set k0 k vs hkv]; exact hs.1
      have HG1 : Hid (w.grownBy (w1.setCell ⟨g, k, none⟩ (.string (markT (k0 + k)))) (some g)) := grown_trans (grown_trans (unhide HG) (grown_below b1 _)) hs.2
      clear hs ho1 hu hfr b1
      generalize markT (k0 + k) = x at *
      go_wp2
      go_roundw
      case rel => exact ⟨k + 1, by omega, by go_num, by go_num, HS.out, HG1.out⟩
      case measure => simp [intOf]; omega
    · have hkn : k = n := by omega
      have HO : Hid (wr.ownsRow base 9 1 (.slice (some ⟨g, 0, none⟩) n cap) n ((smarks k0 n).map Value.string)) := by
        have := smixed_all k0 vs; rw [Hv.out] at this; rw [← this, ← hkn]; rw [← hkn] at ho; exact ho
      clear ho
      subst hkn
      go_wp2
      go_ret
      exact ⟨rfl, HO.out, hg⟩

set_option maxHeartbeats 1600000 in
theorem sheld_row (v : Value) (n k0 : Nat) (w : World) (hk0 : 0 < k0) (hk1 : k0 ≤ 1000000) (h : RS w v (smarks k0 n)) :
    Calls Try.prog 17 #[v, .int .i64 k0] w fun e w' => e = .returned (.int .i64 (k0 + n)) ∧ Below w.heap.size w w' := by
  obtain ⟨hl, ao, ca, rfl, ha⟩ := h
  rw [smarks_len] at hl ha ⊢
  go_enter Try.func17, Try.ntmps17
  go_wp2
  go_loopw [1, 5] (fun c i wr => ∃ k : Nat, k ≤ n ∧ i = .int .i64 k ∧ c = .int .i64 ((k0 : Int) + (k : Int)) ∧ Below w.heap.size w wr) (fun _ i _ => n - (intOf i).toNat)
  case atStart => exact ⟨0, Nat.zero_le _, rfl, by go_num, Below.refl _ _⟩
  case round =>
    obtain ⟨k, hk, rfl, rfl, hb⟩ := hrel
    by_cases hlt : k < n
    · rcases ha with ha | ⟨b, off, rfl, ha⟩
      · have := congrArg List.length ha; rw [smarks_len] at this; simp at this; omega
      have ha' := ha k hlt
      rw [smarks_get k0 n k hlt] at ha'
      have hlb : b < w.heap.size := cell_lt ha'
      have hc : wr.cell? ⟨b, off + k, none⟩ = some (.string (markT (k0 + k))) := (hb.cell (p := ⟨b, off + k, none⟩) hlb).trans ha'
      have hsz := hb.size
      have HM := hide fun w => markText_sum k0 k w hk0 (by omega)
      clear ha ha'
      generalize markT (k0 + k) = x at *
      go_wp2_with fail
      go_region_with (go_at_call 20; refine (unhide HM _).mono ?_; rintro e w1 ⟨rfl, b1⟩; have hc1 := (b1.cell (p := ⟨b, off + k, none⟩) (by simp; omega)).trans hc)
      all_goals
        have hb1 : Below w.heap.size w w1 := (hb.drew).trans (b1.mono (by simp; omega))
        clear hb b1
        go_wp2
        go_roundw
        case rel => exact ⟨k + 1, by omega, by go_num, by go_num, hb1⟩
        case measure => simp [intOf]; omega
    · have hkn : k = n := by omega
      subst hkn
      clear ha
      go_wp2
      go_ret
      exact ⟨rfl, hb⟩

set_option maxHeartbeats 400000 in
theorem smark_none (w : World) (k0 : Nat) : Calls Try.prog 16 #[.slice none 0 0, .int .i64 k0] w fun e w' => e = .returned (.int .i64 k0) ∧ w' = w := by
  go_enter Try.func16, Try.ntmps16
  go_wp2
  refine wp_loop_rounds 1 ?_
  rw [rounds_succ]
  go_wp2
  go_ret
  exact ⟨rfl, rfl⟩

theorem smark_any (base k0 : Nat) (v : Value) (xs : List ByteArray) (w : World) (hl : xs.length ≤ 140737488355328) (hk0 : 0 < k0) (hk1 : k0 ≤ 1000000) (h : OS w base v xs) :
    Calls Try.prog 16 #[v, .int .i64 k0] w fun e w' => e = .returned (.int .i64 (k0 + xs.length)) ∧ OS w' base v (smarks k0 xs.length) ∧ w.grownBy w' v.ownBlock := by
  have h' := h
  rcases h.2 with ⟨rfl, h0⟩ | ⟨g, cap, cur, rfl, _⟩
  · refine (smark_none w k0).mono ?_
    rintro e w' ⟨rfl, rfl⟩
    have hx : xs = [] := List.length_eq_zero_iff.1 h0
    subst hx
    exact ⟨by simp, World.ownsRow_nil _ _ _ _, grown_refl _ _⟩
  · refine (smark_row base g xs.length cap k0 _ w hl hk0 hk1 h').mono ?_
    rintro e w' ⟨rfl, ho, hg⟩
    refine ⟨rfl, ?_, hg⟩
    unfold OS
    rw [smarks_len]
    exact ho
theorem smark1 (base : Nat) (v : Value) (xs : List ByteArray) (w : World) (hl : xs.length ≤ 140737488355328) (h : OS w base v xs) :
    Calls Try.prog 16 #[v, .int .i64 1] w fun e w' => e = .returned (.int .i64 (1 + xs.length)) ∧ OS w' base v (smarks 1 xs.length) ∧ w.grownBy w' v.ownBlock :=
  smark_any base 1 v xs w hl (by omega) (by omega) h
theorem sheld1 (v : Value) (n : Nat) (w : World) (h : RS w v (smarks 1 n)) :
    Calls Try.prog 17 #[v, .int .i64 1] w fun e w' => e = .returned (.int .i64 (1 + n)) ∧ Below w.heap.size w w' :=
  sheld_row v n 1 w (by omega) (by omega) h
end Go.Proofs.Ytechonbpefnkiaa
