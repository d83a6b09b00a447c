/- A list of payments that came in. -/
import Derived.Test.YtlglekfmiacdnaaTxOpen
import Derived.Test.YtlglekfmiacdnaaToTxS
import Derived.Deep.Slices
namespace Go.Proofs.Ytlglekfmiacdnaa
open Go.ChangeShapes Go.WideShapes Go.ChangeAt Go.RowKit
open Go.Joins
set_option linter.unusedSectionVars false
variable [∀ (a b c d : Int), Decidable (Ok4 a b c d)]
variable [∀ (m a b c d : Int), Decidable (In4 m a b c d)]
variable [∀ (xs ys : List Int), Decidable (LOk xs ys)]

theorem field_int {H : Type} {enc : TypeId × Value → H} {W : World} {n : Nat} {c : Value} {y : DataW H × List MemPlace} (h : DataW.trod enc Try.prog W 0 (fun _ => true) true n 3 [c] = some y) : ∃ a : Int, c = .int .i64 a := by
  obtain ⟨a, e0, _, _⟩ := DataW.trod_int Try.underlying3 h
  simp at e0
  exact ⟨a, e0⟩
theorem four_list {α : Type} {l : List α} (h : l.length = 4) : ∃ a b c d, l = [a, b, c, d] := by
  match l, h with
  | [a, b, c, d], _ => exact ⟨a, b, c, d, rfl⟩
/-- What came in: a list of payments. -/
theorem open_txs0 {H : Type} {enc : TypeId × Value → H} {W : World} {fuel : Nat} {a : Option Addr} {len cap : Nat} {x : DataW H × List MemPlace} (h : DataW.trod enc Try.prog W 0 (fun _ => true) true fuel 52 (Value.slice a len cap).cells.toList = some x) :
    ∃ xs : List T4, len = xs.length ∧ xs.length ≤ maxLen ∧ AR W a xs := by
  rcases Go.Deep.open_slice Try.underlying52 h with ⟨hcs, _⟩ | ⟨ad, l, c, m, n, D, Pl, hcs, _, hl, hm, hmm, _, hx⟩
  · simp [Value.cells] at hcs
    obtain ⟨rfl, rfl, rfl⟩ := hcs
    exact ⟨[], rfl, by simp, .inl rfl⟩
  · simp [Value.cells] at hcs
    obtain ⟨rfl, rfl, rfl⟩ := hcs
    have hm' : m = cap := by simpa using hmm
    have each : ∀ i, ∃ q : T4, i < len → W.cell? (ad.add (i * 4)) = some (.int .i64 q.1) ∧ W.cell? (ad.add (i * 4 + 1)) = some (.int .i64 q.2.1) ∧ W.cell? (ad.add (i * 4 + 2)) = some (.int .i64 q.2.2.1) ∧ W.cell? (ad.add (i * 4 + 3)) = some (.int .i64 q.2.2.2) := by
      intro i
      by_cases hi : i < len
      · obtain ⟨cs', h1, h2⟩ := hx i (by omega)
        rw [cellsTx] at h1
        obtain ⟨_, hlen, hcell⟩ := World.cells?_some h1
        obtain ⟨y0, y1, y2, y3, k, _, _, g0, g1, g2, g3⟩ := trod_struct4 Try.underlying49 h2
        obtain ⟨v0, v1, v2, v3, rfl⟩ := four_list hlen
        have e0 := hcell 0 (by omega)
        have e1 := hcell 1 (by omega)
        have e2 := hcell 2 (by omega)
        have e3 := hcell 3 (by omega)
        rw [Go.Deep.add_add] at e0 e1 e2 e3
        have ci : Try.prog.cellsOf 3 = 1 := by kernel_rfl
        simp [ci] at g0 g1 g2 g3
        obtain ⟨a0, rfl⟩ := field_int g0
        obtain ⟨a1, rfl⟩ := field_int g1
        obtain ⟨a2, rfl⟩ := field_int g2
        obtain ⟨a3, rfl⟩ := field_int g3
        exact ⟨(a0, a1, a2, a3), fun _ => ⟨by simpa using e0, by simpa using e1, by simpa using e2, by simpa using e3⟩⟩
      · exact ⟨(0, 0, 0, 0), fun h => absurd h hi⟩
    obtain ⟨q, hq⟩ := Classical.axiomOfChoice each
    refine ⟨(List.range len).map q, by simp, by simp; omega, ?_⟩
    by_cases h0 : len = 0
    · left; simp [h0]
    · right
      obtain ⟨b, off, spot⟩ := ad
      have hc := (hq 0 (by omega)).1
      have hspot : spot = none := by simpa [Addr.add] using World.cell?_spot hc
      subst hspot
      refine ⟨b, off, rfl, fun k hk => ?_⟩
      rw [List.length_map, List.length_range] at hk
      have := hq k hk
      have ea : ∀ j, ((⟨b, off, none⟩ : Addr).add j) = ⟨b, off + j, none⟩ := fun j => by unfold Addr.add; split <;> simp_all
      rw [ea, ea, ea, ea] at this
      have eg : ((List.range len).map q).getD k (0, 0, 0, 0) = q k := by simp [hk]
      rw [eg]
      simpa [Nat.add_assoc] using this

theorem open_txs {H : Type} {enc : TypeId × Value → H} {W : World} {base : Nat} {v : Value} {d : DataW H} {p : List MemPlace} (hv : Value.okWide Try.prog W .any base 52 v)
    (h : DataW.Trod enc Try.prog W 0 (fun _ => true) true 52 v d p) : ∃ al cl, ∃ ts : List T4, v = .slice al ts.length cl ∧ ts.length ≤ maxLen ∧ AR W al ts := by
  obtain ⟨a, len, cap, rfl⟩ := okWide_slice Try.underlying52 hv
  obtain ⟨fuel, hf⟩ := h
  obtain ⟨xs, rfl, hm, hr⟩ := open_txs0 hf
  exact ⟨a, cap, xs, rfl, hm, hr⟩
end Go.Proofs.Ytlglekfmiacdnaa
