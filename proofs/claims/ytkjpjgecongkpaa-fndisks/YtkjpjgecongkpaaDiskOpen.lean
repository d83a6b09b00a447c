/- DiskOpen: a disk, and a list of bytes, that came in. -/
import Derived.Test.YtkjpjgecongkpaaDiskLaw
import Derived.WalkKit
import Derived.ProofKit
import Derived.OpenShut
import Derived.ShutString
import Derived.ChangeOld
import Derived.Below
import Derived.Lib.SmallJoins
namespace Go.Proofs.Ytkjpjgecongkpaa
open Go.ChangeShapes Go.WideShapes Go.ChangeAt Go.RowKit
open Go.Joins

set_option maxRecDepth 100000 in
theorem own : ownKnob Try.prog.godebug = none := by kernel_rfl
set_option maxRecDepth 100000 in
theorem laidOut : laidOutB Try.prog = true := by kernel_rfl
set_option maxRecDepth 100000 in
theorem cellsD : Try.prog.cellsOf 36 = 2 := by kernel_rfl
/-- Bytes that came in. -/
def ABW (W : World) (ao : Option Addr) (ca : Nat) (zs : List Int) : Prop := zs.length ≤ ca ∧ ca ≤ maxLen ∧ (zs = [] ∨ ∃ b off, ao = some ⟨b, off, none⟩ ∧ ∀ k, k < zs.length → W.cell? ⟨b, off + k, none⟩ = some (.int .u8 (zs.getD k 0)))
theorem ABW.rb {W : World} {ao : Option Addr} {ca : Nat} {zs : List Int} (h : ABW W ao ca zs) (hl : zs.length ≤ 1048576) : RB W (.slice ao zs.length ca) zs := ⟨by omega, ao, ca, rfl, ⟨h.1, h.2.1⟩, h.2.2⟩
set_option maxRecDepth 100000 in
theorem open_byteW {H : Type} {enc : TypeId × Value → H} {W : World} {n : Nat} {c : Value} {y : DataW H × List MemPlace} (h : DataW.trod enc Try.prog W 0 (fun _ => true) true n 22 [c] = some y) :
    ∃ ao ca, ∃ zs : List Int, c = .slice ao zs.length ca ∧ zs.length ≤ maxLen ∧ ABW W ao ca zs ∧ ∀ k, k < zs.length → 0 ≤ zs.getD k 0 ∧ zs.getD k 0 ≤ 255 := by
  rcases open_ints Try.underlying22 Try.underlying5 (by kernel_rfl) h with ⟨hcs, _⟩ | ⟨x, len, cap, zs, hcs, _, hl, hm, hz, _, hcell, hwz⟩
  · simp at hcs
    exact ⟨none, 0, [], hcs, by simp, ⟨by simp, by unfold maxLen; omega, .inl rfl⟩, fun k hk => by simp at hk⟩
  · simp at hcs
    have hz' : zs.length = cap := by simpa using hz
    have e : (zs.take len).length = len := by simp; omega
    have hm' : cap ≤ maxLen := by first | exact hm | omega
    refine ⟨some x, cap, zs.take len, by rw [hcs, e], by rw [e]; omega, ⟨by omega, hm', ?_⟩, ?_⟩
    · by_cases h0 : len = 0
      · left; simp [h0]
      · right
        obtain ⟨b, off, spot⟩ := x
        have hc := hcell 0 (by omega)
        have hspot : spot = none := by simpa [Addr.add] using World.cell?_spot hc
        subst hspot
        refine ⟨b, off, rfl, fun k hk => ?_⟩
        rw [e] at hk
        have hk' := hcell k (by omega)
        rw [show ((⟨b, off, none⟩ : Addr).add k) = ⟨b, off + k, none⟩ from by unfold Addr.add; split <;> simp_all] at hk'
        rw [hk']
        simp [hk]
    · intro k hk
      have hm2 : (zs.take len).getD k 0 ∈ zs := by
        rw [List.getD_eq_getElem?_getD, List.getElem?_eq_getElem hk]
        exact List.mem_of_mem_take (List.getElem_mem hk)
      have := bounds_u8 (hwz _ hm2)
      omega
set_option maxRecDepth 100000 in
theorem open_byteL {H : Type} {enc : TypeId × Value → H} {W : World} {base : Nat} {v : Value} {d : DataW H} {p : List MemPlace} (hv : Value.okWide Try.prog W .any base 22 v)
    (h : DataW.Trod enc Try.prog W 0 (fun _ => true) true 22 v d p) :
    ∃ ao ca, ∃ zs : List Int, v = .slice ao zs.length ca ∧ zs.length ≤ maxLen ∧ ABW W ao ca zs ∧ ∀ k, k < zs.length → 0 ≤ zs.getD k 0 ∧ zs.getD k 0 ≤ 255 := by
  obtain ⟨a, len, cap, rfl⟩ := okWide_slice Try.underlying22 hv
  obtain ⟨fuel, hf⟩ := h
  exact open_byteW (c := .slice a len cap) (by simpa [Value.cells] using hf)
set_option maxRecDepth 100000 in
theorem open_disk {H : Type} {enc : TypeId × Value → H} {W : World} {base : Nat} {v : Value} {d : DataW H} {p : List MemPlace} (hv : Value.okWide Try.prog W .any base 36 v)
    (h : DataW.Trod enc Try.prog W 0 (fun _ => true) true 36 v d p) :
    ∃ ao ca s, ∃ zs : List Int, v = dv (.slice ao zs.length ca) s ∧ zs.length ≤ maxLen ∧ ABW W ao ca zs := by
  obtain ⟨c0, c1, y0, y1, m, rfl, _, _, hy0, hy1⟩ := open_agg2 Try.underlying36 (by kernel_rfl) cellsD hv h
  obtain ⟨ao, ca, zs, rfl, hx, ax, _⟩ := open_byteW hy0
  obtain ⟨b, e1, _, _⟩ := DataW.trod_int Try.underlying3 hy1
  simp at e1
  exact ⟨ao, ca, b, zs, by rw [e1], hx, ax⟩
end Go.Proofs.Ytkjpjgecongkpaa
