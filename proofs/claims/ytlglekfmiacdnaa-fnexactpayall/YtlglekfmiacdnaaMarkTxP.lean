/- laws.markTxS and heldTxS. -/
import Derived.Test.YtlglekfmiacdnaaTxRows
namespace Go.Proofs.Ytlglekfmiacdnaa
open Go.RowKit
set_option linter.unusedSectionVars false
variable [∀ (a b c d : Int), Decidable (Ok4 a b c d)]
variable [∀ (m a b c d : Int), Decidable (In4 m a b c d)]
variable [∀ (xs ys : List Int), Decidable (LOk xs ys)]

/-- What markTxS writes. -/
def tmark (k0 i : Nat) : T4 := ((k0 : Int) + (i : Int) * 4, (k0 : Int) + (i : Int) * 4 + 1, (k0 : Int) + (i : Int) * 4 + 2, (k0 : Int) + (i : Int) * 4 + 3)
def tmarks (k0 n : Nat) : List T4 := (List.range n).map (tmark k0)
theorem tmarks_len (k0 n : Nat) : (tmarks k0 n).length = n := by simp [tmarks]
theorem tmarks_get (k0 n i : Nat) (h : i < n) : (tmarks k0 n).getD i (0, 0, 0, 0) = tmark k0 i := by simp [tmarks, h]
theorem tmarks_succ (k0 n : Nat) : tmarks k0 (n + 1) = tmarks k0 n ++ [tmark k0 n] := by simp [tmarks, List.range_succ]
/-- The payments behind k rounds. -/
def tmixed (k0 k : Nat) (vs : List T4) : List T4 := tmarks k0 k ++ vs.drop k
theorem tmixed_zero (k0 : Nat) (vs : List T4) : tmixed k0 0 vs = vs := by simp [tmixed, tmarks]
theorem tmixed_all (k0 : Nat) (vs : List T4) : tmixed k0 vs.length vs = tmarks k0 vs.length := by simp [tmixed]
theorem tmixed_len (k0 k : Nat) (vs : List T4) (h : k ≤ vs.length) : (tmixed k0 k vs).length = vs.length := by simp [tmixed, tmarks_len]; omega
theorem tcells_set (xs : List T4) (k : Nat) (x : T4) (hk : k < xs.length) : ((((tcells xs).set (k * 4) (.int .i64 x.1)).set (k * 4 + 1) (.int .i64 x.2.1)).set (k * 4 + 2) (.int .i64 x.2.2.1)).set (k * 4 + 3) (.int .i64 x.2.2.2) = tcells (xs.set k x) := by
  induction xs generalizing k with
  | nil => simp at hk
  | cons y ys ih =>
    have e : ∀ z : T4, ∀ zs, tcells (z :: zs) = .int .i64 z.1 :: .int .i64 z.2.1 :: .int .i64 z.2.2.1 :: .int .i64 z.2.2.2 :: tcells zs := fun z zs => by simp [tcells, tcell]
    cases k with
    | zero => rw [e]; simp [e]
    | succ k =>
      rw [e, List.set_cons_succ, e, ← ih k (by simpa using hk)]
      rw [show (k + 1) * 4 = k * 4 + 1 + 1 + 1 + 1 from by omega]
      simp only [List.set_cons_succ]
theorem tmixed_set (k0 k : Nat) (vs : List T4) (h : k < vs.length) : (tmixed k0 k vs).set k (tmark k0 k) = tmixed k0 (k + 1) vs := by
  unfold tmixed
  rw [tmarks_succ, List.set_append_right _ _ (by simp [tmarks_len]), tmarks_len, Nat.sub_self, List.drop_eq_getElem_cons h, List.set_cons_zero]
  simp

set_option maxHeartbeats 4000000 in
set_option maxRecDepth 100000 in
theorem tmark_row (base g n cap k0 : Nat) (vs : List T4) (w : World) (hn : n ≤ 4194304) (hk1 : k0 ≤ 100000000) (hv : vs.length = n) (h : OT w base (.slice (some ⟨g, 0, none⟩) n cap) vs) :
    Calls Try.prog 36 #[.slice (some ⟨g, 0, none⟩) n cap, .int .i64 k0] w fun e w' => e = .returned (.int .i64 (k0 + n * 4)) ∧
      OT w' base (.slice (some ⟨g, 0, none⟩) n cap) (tmarks k0 n) ∧ w.grownBy w' (some g) := by
  have Hv := hide hv
  clear hv
  go_enter Try.func36, Try.ntmps36
  go_wp2
  go_loopw [1, 5] (fun c i wr => ∃ k : Nat, k ≤ n ∧ i = .int .i64 k ∧ c = .int .i64 ((k0 : Int) + (k : Int) * 4) ∧ OT wr base (.slice (some ⟨g, 0, none⟩) n cap) (tmixed k0 k vs) ∧ w.grownBy wr (some g)) (fun _ i _ => n - (intOf i).toNat)
  case atStart => exact ⟨0, Nat.zero_le _, rfl, by go_num, by rw [tmixed_zero]; exact h, ⟨rfl, rfl, rfl, Nat.le_refl _, fun _ _ _ => rfl⟩⟩
  case round =>
    obtain ⟨k, hk, rfl, rfl, ho, hg⟩ := hrel
    by_cases hlt : k < n
    · have hkv : k < vs.length := by rw [unhide Hv]; exact hlt
      have hlen : (tmixed k0 k vs).length = n := by rw [tmixed_len k0 k vs (by omega), unhide Hv]
      have ho0 : wr.ownsRow base 33 4 (.slice (some ⟨g, 0, none⟩) n cap) n (tcells (tmixed k0 k vs)) := by have := ho; unfold OT at this; rw [hlen] at this; exact this
      obtain ⟨y0, y1, y2, y3⟩ : (∃ u, wr.cell? ⟨g, k * 4, none⟩ = some u) ∧ (∃ u, wr.cell? ⟨g, k * 4 + 1, none⟩ = some u) ∧ (∃ u, wr.cell? ⟨g, k * 4 + 2, none⟩ = some u) ∧ (∃ u, wr.cell? ⟨g, k * 4 + 3, none⟩ = some u) := by
        have gt : ∀ j, j < n * 4 → ∃ u, wr.cell? ⟨g, j, none⟩ = some u := fun j hj => ⟨_, (ho0.cellAt j hj).trans (List.getElem?_eq_getElem (by rw [tcells_len, hlen]; exact hj))⟩
        exact ⟨gt _ (by omega), gt _ (by omega), gt _ (by omega), gt _ (by omega)⟩
      obtain ⟨u0, y0⟩ := y0
      obtain ⟨u1, y1⟩ := y1
      obtain ⟨u2, y2⟩ := y2
      obtain ⟨u3, y3⟩ := y3
      have hfr := ho0.frozenAt
      have t0 := ho0.stored (k * 4) (.int .i64 ((k0 : Int) + (k : Int) * 4))
      have t1 := t0.1.stored (k * 4 + 1) (.int .i64 ((k0 : Int) + (k : Int) * 4 + 1))
      have t2 := t1.1.stored (k * 4 + 2) (.int .i64 ((k0 : Int) + (k : Int) * 4 + 2))
      have t3 := t2.1.stored (k * 4 + 3) (.int .i64 ((k0 : Int) + (k : Int) * 4 + 3))
      have HO := hide t3.1
      have HG := hide (grown_trans hg (grown_trans t0.2 (grown_trans t1.2 (grown_trans t2.2 t3.2))))
      have hlen' : (tmixed k0 (k + 1) vs).length = n := by rw [tmixed_len k0 (k + 1) vs (by omega), unhide Hv]
      clear t0 t1 t2 t3 ho ho0 hg
      go_wp2
      go_roundw
      case rel =>
        refine ⟨k + 1, by omega, by go_num, by go_num, ?_, ?_⟩
        · unfold OT
          rw [hlen', ← tmixed_set k0 k vs hkv, ← tcells_set _ _ _ (by rw [hlen]; exact hlt)]
          exact unhide HO
        · exact unhide HG
      case measure => simp [intOf]; omega
    · have hkn : k = n := by omega
      have HO : Hid (OT wr base (.slice (some ⟨g, 0, none⟩) n cap) (tmarks k0 n)) := by
        have := tmixed_all k0 vs; rw [unhide Hv] at this; rw [← this, ← hkn]; rw [← hkn] at ho; exact ho
      clear ho
      subst hkn
      go_wp2
      go_ret
      exact ⟨rfl, HO.out, hg⟩

set_option maxHeartbeats 400000 in
set_option maxRecDepth 100000 in
theorem tmark_none (w : World) (k0 : Nat) : Calls Try.prog 36 #[.slice none 0 0, .int .i64 k0] w fun e w' => e = .returned (.int .i64 k0) ∧ w' = w := by
  go_enter Try.func36, Try.ntmps36
  go_wp2
  refine wp_loop_rounds 1 ?_
  rw [rounds_succ]
  go_wp2
  go_ret
  exact ⟨rfl, rfl⟩
theorem tmark_any (base k0 : Nat) (v : Value) (xs : List T4) (w : World) (hl : xs.length ≤ 4194304) (hk0 : k0 ≤ 100000000) (h : OT w base v xs) :
    Calls Try.prog 36 #[v, .int .i64 k0] w fun e w' => e = .returned (.int .i64 (k0 + xs.length * 4)) ∧ OT w' base v (tmarks k0 xs.length) ∧ w.grownBy w' v.ownBlock := by
  have h' := h
  rcases h.2 with ⟨rfl, h0⟩ | ⟨g, cap, cur, rfl, _⟩
  · refine (tmark_none w k0).mono ?_
    rintro e w' ⟨rfl, rfl⟩
    have hx : xs = [] := List.length_eq_zero_iff.1 h0
    subst hx
    exact ⟨by simp, World.ownsRow_nil _ _ _ _, ⟨rfl, rfl, rfl, Nat.le_refl _, fun _ _ _ => rfl⟩⟩
  · refine (tmark_row base g xs.length cap k0 xs w hl hk0 rfl h').mono ?_
    rintro e w' ⟨rfl, ho, hg⟩
    exact ⟨rfl, ho, hg⟩
end Go.Proofs.Ytlglekfmiacdnaa
