/- The walk of laws.FnExactGetText. -/
import Derived.Test.YtkhinmlndchnnaaDoorSpecText
import Derived.Test.YtkhinmlndchnnaaDoorToByte
namespace Go.Proofs.YtkhinmlndchnnaaDoor
open Go.RowKit

set_option maxHeartbeats 400000 in
theorem fnGetText_long (ao : Option Addr) (len ca : Nat) (p : Int) (w : World) (hl : 1048576 < len) :
    Calls Tryd.prog 7 #[.slice ao len ca, .int .i64 p] w fun e w' => e = .returned (.bool true) ∧ Below w.heap.size w w' := by
  go_enter Tryd.func7, Tryd.ntmps7
  go_wp2
  go_ret
  exact ⟨rfl, Below.refl _ _⟩

set_option maxHeartbeats 1600000 in
theorem fnGetText_short (v : Value) (xs : List Int) (p : Int) (u : TypeId) (pv : Value) (w : World) (h : RB w v xs) (hb : Bytes xs) (he : w.cell? ⟨0, 0, none⟩ = some (.iface u pv)) (hl : xs.length ≤ 1048576) :
    Calls Tryd.prog 7 #[v, .int .i64 p] w fun e w' => e = .returned (.bool true) ∧ Below w.heap.size w w' := by
  have hlt : 0 < w.heap.size := cell_lt he
  obtain ⟨n, hn⟩ : ∃ n, tans1 (getText xs p) = n := ⟨_, rfl⟩
  obtain ⟨q, hq⟩ : ∃ q, tans2 (getText xs p) = q := ⟨_, rfl⟩
  obtain ⟨b, hbb⟩ : ∃ b, (getText xs p).isSome = b := ⟨_, rfl⟩
  have sp := fun v w (h : RB w v xs) => specText_any v xs p w h hb
  have im := fun v w (h : RB w v xs) (he : w.cell? ⟨0, 0, none⟩ = some (.iface u pv)) => getTextI_any v xs p u pv w h hb he
  rw [hn, hq, hbb] at sp im
  have SP := hide sp
  have IM := hide im
  clear sp im hn hq hbb
  obtain ⟨ao, ca, hv⟩ : ∃ ao ca, v = .slice ao xs.length ca := by obtain ⟨_, ao, ca, hv, _⟩ := h; exact ⟨ao, ca, hv⟩
  subst hv
  go_enter Tryd.func7, Tryd.ntmps7
  go_wp2_with fail
  refine (toByte_any _ xs _ h).mono ?_
  rintro e w1 ⟨v1, rfl, o1, b1⟩
  have s1 := b1.size
  go_wp2_with fail
  refine (unhide SP v1 _ (o1.rb (by omega))).mono ?_
  rintro e w1' ⟨rfl, rfl⟩
  have h1 := h.below b1 (Nat.le_refl _)
  go_wp2_with fail
  refine (toByte_any _ xs _ h1).mono ?_
  rintro e w2 ⟨v2, rfl, o2, b2⟩
  have s2 := b2.size
  have b12 : Below w.heap.size w w2 := b1.trans (b2.mono s1)
  have e2 : w2.cell? ⟨0, 0, none⟩ = some (.iface u pv) := (b12.cell hlt).trans he
  go_wp2_with fail
  refine (unhide IM v2 _ (o2.rb (by omega)) e2).mono ?_
  rintro e w3 ⟨rfl, b3⟩
  have s3 := b3.size
  have b13 : Below w.heap.size w w3 := b12.trans (b3.mono (by omega))
  have o2' := o2.below b3
  have h3 := h.below b13 (Nat.le_refl _)
  have hbb : (b != b) = false := by simp
  go_wp2_with fail
  refine (toByte_any _ xs _ h3).mono ?_
  rintro e w4 ⟨v4, rfl, o4, b4⟩
  have b14 : Below w.heap.size w w4 := b13.trans (b4.mono (by omega))
  have r2 := (o2'.below b4).rb (by omega)
  have r4 := o4.rb (by omega)
  go_wp2_with fail
  refine (eq_yes _ _ xs _ r2 r4).mono ?_
  rintro e w5 ⟨rfl, n5, rfl⟩
  go_wp2
  go_ret
  exact ⟨rfl, below_drewN b14 n5⟩

theorem fnGetText_walk (ao : Option Addr) (ca : Nat) (xs : List Int) (p : Int) (u : TypeId) (pv : Value) (w : World) (hcap : xs.length ≤ ca ∧ ca ≤ maxLen)
    (h : xs = [] ∨ ∃ b off, ao = some ⟨b, off, none⟩ ∧ ∀ k, k < xs.length → w.cell? ⟨b, off + k, none⟩ = some (.int .u8 (xs.getD k 0))) (hb : Bytes xs) (he : w.cell? ⟨0, 0, none⟩ = some (.iface u pv)) :
    Calls Tryd.prog 7 #[.slice ao xs.length ca, .int .i64 p] w fun e w' => e = .returned (.bool true) ∧ Below w.heap.size w w' := by
  by_cases hl : xs.length ≤ 1048576
  · exact fnGetText_short _ xs p u pv w ⟨by omega, ao, ca, rfl, hcap, h⟩ hb he hl
  · exact fnGetText_long ao _ ca p w (by omega)
end Go.Proofs.YtkhinmlndchnnaaDoor
