/- LedgerNew of the program and of the specification. -/
import Derived.Test.YtlglekfmiacdnaaBookLedger
namespace Go.Proofs.Ytlglekfmiacdnaa
open Go.RowKit
set_option linter.unusedSectionVars false
variable [∀ (m a b c d : Int), Decidable (In4 m a b c d)]

set_option maxHeartbeats 4000000 in
set_option maxRecDepth 100000 in
theorem implLedgerNew (w : World) :
    Calls Try.prog 24 #[] w fun o w' => ∃ u v, o = .returned (lv u v) ∧ OL w' w.heap.size w'.heap.size u v [100, 100, 100, 100] [0, 0, 0, 0] ∧ Below w.heap.size w w' := by
  go_enter Try.func24, Try.ntmps24
  go_wp2
  refine wp_loop_rounds 5 ?_
  rw [rounds_succ]
  go_wp2
  rw [rounds_succ]
  go_wp2
  rw [rounds_succ]
  go_wp2
  rw [rounds_succ]
  go_wp2
  rw [rounds_succ]
  go_wp2_with fail
  refine (ledger_any 100 100 100 100 0 0 0 0 _).mono ?_
  rintro _ w1 ⟨u, v, rfl, o1, b1⟩
  have B1 : Below w.heap.size w w1 := (((Below.refl w.heap.size w).alloc (Nat.le_refl _) _).alloc (by simp) _).trans (b1.mono (by simp; omega))
  have R1 : Loc w1 w.heap.size #[.slice none 0 0, .slice none 0 0] := ((loc_at w _ _ rfl).alloc _).below b1 (by simp; omega)
  have s1 := b1.size
  simp at s1
  obtain ⟨ua, uc, rfl⟩ := o1.has.form
  obtain ⟨va, vc, rfl⟩ := o1.next.form
  have y0 := R1.cell 0 rfl
  have y1 := R1.cell 1 rfl
  have FR := R1.frozen
  have O1 := hide o1
  clear b1 o1
  go_wp2
  refine bodyPost_ret (v := lv (.slice ua [(100 : Int), 100, 100, 100].length uc) (.slice va [(0 : Int), 0, 0, 0].length vc)) (by simp [results, Try.results24, go_sem, y0, y1]) rfl ?_
  have K : Kp w1 ((w1.setCell ⟨w.heap.size, 0, none⟩ (.slice ua [(100 : Int), 100, 100, 100].length uc)).setCell ⟨w.heap.size, 1, none⟩ (.slice va [(0 : Int), 0, 0, 0].length vc)) (fun k => k = w.heap.size) := (set_kp w1 _ 0 _).trans (set_kp _ _ 1 _)
  refine ⟨_, _, rfl, ((unhide O1).kp K (fun k hk _ e => by simp at hk; omega)).mono (by simp; omega) (by simp), ?_⟩
  exact Below.set (Below.set B1 _ _ (Nat.le_refl _)) _ _ (Nat.le_refl _)

theorem own_form {w : World} {base size n : Nat} {e : TypeId} {v : Value} {xs : List Value} (h : w.ownsRow base e size v n xs) (hn : 0 < n) : ∃ g cap, v = .slice (some ⟨g, 0, none⟩) n cap := by
  rcases h.2 with ⟨_, h0⟩ | ⟨g, cap, cur, rfl, _⟩
  · omega
  · exact ⟨g, cap, rfl⟩
theorem OI.more {B : Nat} {w1 : World} {v' : Value} {xs : List Int} {c : Int} (ho' : w1.ownsRow B 3 1 v' (xs.length + 1) (xs.map (Value.int .i64) ++ [.int .i64 c])) : OI w1 B v' (xs ++ [c]) := by
  unfold OI; simpa using ho'

set_option maxHeartbeats 4000000 in
set_option maxRecDepth 100000 in
theorem specLedgerNew (w : World) :
    Calls Try.prog 25 #[] w fun o w' => ∃ u v, o = .returned (lv u v) ∧ OL w' w.heap.size w'.heap.size u v [100, 100, 100, 100] [0, 0, 0, 0] ∧ Below w.heap.size w w' := by
  obtain ⟨i0, hi, hz0, hz1, hz2⟩ := info_parts Try.info3
  go_enter Try.func25, Try.ntmps25
  go_wp2_with (first | (at_make; refine wpList_make_full _ rfl _ _ 24 rfl (w.heap.size + 1) 3 i0 (.int .i64 0) 1 Try.underlying24 hi hz0 hz1 .i64 .i64 4 4 4 rfl rfl rfl rfl (by rw [hz2]; omega) (by unfold maxLen; omega) (by simp) ?_; intro w0 ho0 hg0))
  have e0 : (madeCells (Value.int IntKind.i64 0).cells (4 * 1)).toList = [(0 : Int), 0, 0, 0].map (Value.int .i64) := toList_madeCells_one _ _
  rw [e0] at ho0
  have on0 : OI w0 (w.heap.size + 1) (.slice (some ⟨(w.alloc (.cells #[.slice none 0 0, .slice none 0 0] 26)).heap.size, 0, none⟩) 4 4) [0, 0, 0, 0] := ho0
  have B0 : Below w.heap.size w w0 := ((Below.refl w.heap.size w).alloc (Nat.le_refl _) _).grown hg0 (by simp) (by simp)
  have R0 : Loc w0 w.heap.size #[.slice none 0 0, .slice none 0 0] := (loc_at w _ _ rfl).kp (kp_grown hg0) (by simp)
  have s0 := hg0.size
  have lt0 := World.ownsRow.lt on0
  simp at s0 lt0 on0
  have lt0 : w.heap.size + 1 < w0.heap.size := (lt0 (w.heap.size + 1) rfl).2
  clear ho0 hg0 e0
  go_loopw [2] (fun i wr => ∃ (k : Nat) (v : Value), k ≤ 4 ∧ i = .int .i64 k ∧ Loc wr w0.heap.size #[v, (.slice (some ⟨w.heap.size + 1, 0, none⟩) 4 4)] ∧ Loc wr w.heap.size #[.slice none 0 0, .slice none 0 0] ∧ OI wr (w0.heap.size + 1) v (List.replicate k 100) ∧ OI wr (w.heap.size + 1) (.slice (some ⟨w.heap.size + 1, 0, none⟩) 4 4) [0, 0, 0, 0] ∧ w0.heap.size + 1 ≤ wr.heap.size ∧ Below w.heap.size w wr) (fun i _ => 4 - (intOf i).toNat)
  case atStart => exact ⟨0, _, Nat.zero_le _, rfl, loc_at w0 _ _ rfl, R0.alloc _, World.ownsRow_nil _ _ _ _, on0.below ((Below.refl _ _).alloc (Nat.le_refl _) _), by simp, B0.alloc B0.size _⟩
  case round =>
    clear on0 B0 R0
    obtain ⟨k, v, hk, rfl, L, R, ho, on, sr, B⟩ := hrel
    have B := hide B
    have R := hide R
    have on := hide on
    obtain ⟨va, vc, hv⟩ := ho.form
    subst hv
    rw [List.length_replicate] at *
    have x0 := L.cell 0 rfl
    have x1 := L.cell 1 rfl
    have FL := L.frozen
    have L := hide L
    by_cases hlt : k < 4
    · have ho0 : wr.ownsRow (w0.heap.size + 1) 3 1 (.slice va k vc) k ((List.replicate k (100 : Int)).map (Value.int .i64)) := by have := ho; unfold OI at this; rwa [List.length_replicate] at this
      have lto := World.ownsRow.lt ho0
      clear ho
      go_wp2_with (first
        | (at_builtin; refine wpList_append_own _ rfl _ _ 24 rfl (w0.heap.size + 1) 3 i0 (.int .i64 0) 1 8 Try.underlying24 hi hz0 hz1 hz2 rfl (by decide) (.slice va k vc) _ _ rfl (ho0.alloc _) ⟨wr.heap.size, 0, none⟩ 1 1 [.int .i64 100] rfl rfl (one_cell _ _ _) (one_plain _ _) (by unfold maxLen; omega) (by omega) (by simp; omega) ?_; intro v' w1 ho' hg' _
           obtain ⟨g', c', rfl⟩ := own_form ho' (by omega)
           have k1 : Kp wr w1 (fun j => (Value.slice va k vc).ownBlock = some j) := (Below.kpOf ((Below.refl _ _).alloc (Nat.le_refl _) _) _).trans (kp_grown hg')
           have L1 := (unhide L).kp k1 (fun e => by have := (lto _ e).1; omega)
           have R1 := hide ((unhide R).kp k1 (fun e => by have := (lto _ e).1; omega))
           have on1 := hide ((unhide on).kp k1 (fun j hj e => by have := (lto _ e).1; simp [Value.ownBlock] at hj; omega))
           have B1 := hide (Below.kp (unhide B) k1 (unhide B).size (fun j e => by have := (lto _ e).1; omega))
           have s1 := k1.size
           have x0 := L1.cell 0 rfl
           have x1 := L1.cell 1 rfl
           have FL := L1.frozen
           have L1 := hide L1
           have ho1 : OI w1 (w0.heap.size + 1) (.slice (some ⟨g', 0, none⟩) (k + 1) c') (List.replicate (k + 1) 100) := by
             unfold OI; rw [List.replicate_succ']; simpa using ho'
           have lt1 := World.ownsRow.lt ho1 g' rfl
           have ho1 := hide ho1
           clear k1 hg' ho' ho0))
      go_roundw
      case rel => exact ⟨k + 1, _, by omega, by go_num, (unhide L1).set 0 _ rfl, (unhide R1).other (by simp; omega) _, (unhide ho1).kp (set_kp _ _ _ _) (fun j hj e => by simp [Value.ownBlock] at hj; omega), (unhide on1).kp (set_kp _ _ _ _) (fun j hj e => by simp [Value.ownBlock] at hj; omega), by simp; omega, Below.set (unhide B1) _ _ (by omega)⟩
      case measure => simp [intOf]; omega
    · have hk4 : k = 4 := by omega
      subst hk4
      have ho := hide ho
      have y0 := (unhide R).cell 0 rfl
      have y1 := (unhide R).cell 1 rfl
      have FR := (unhide R).frozen
      have lto := World.ownsRow.lt (unhide ho)
      have ltn := World.ownsRow.lt (unhide on)
      go_wp2
      refine bodyPost_ret (v := lv (.slice va 4 vc) (.slice (some ⟨w.heap.size + 1, 0, none⟩) 4 4)) (by simp [results, Try.results25, go_sem, y0, y1]) rfl ?_
      have K : Kp wr ((wr.setCell ⟨w.heap.size, 0, none⟩ (.slice va 4 vc)).setCell ⟨w.heap.size, 1, none⟩ (.slice (some ⟨w.heap.size + 1, 0, none⟩) 4 4)) (fun k => k = w.heap.size) := (set_kp wr _ 0 _).trans (set_kp _ _ 1 _)
      refine ⟨_, _, rfl, ⟨((unhide ho).kp K (fun k hk e => by have := (lto k hk).1; omega)).mono (by omega), ((unhide on).kp K (fun k hk e => by have := (ltn k hk).1; omega)).mono (by omega), fun k hk => by have := (lto k hk).2; simp; omega, fun k hk => by have := (ltn k hk).2; simp; omega, fun k hk h' => ?_⟩, ?_⟩
      · have := (lto k hk).1; simp [Value.ownBlock] at h'; omega
      · exact Below.set (Below.set (unhide B) _ _ (Nat.le_refl _)) _ _ (Nat.le_refl _)
end Go.Proofs.Ytlglekfmiacdnaa
