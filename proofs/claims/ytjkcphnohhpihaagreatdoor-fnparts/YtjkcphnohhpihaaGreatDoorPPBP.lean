/- Lists of numbers, and bytes, that came in. -/
import Derived.Test.YtjkcphnohhpihaaGreatDoorPPAC
import Derived.Test.YtjkcphnohhpihaaGreatDoorPPAE
set_option linter.unusedSectionVars false
namespace Go.Proofs.YtjkcphnohhpihaaGreatDoor
section
open Go.ChangeShapes Go.WideShapes Go.ChangeAt Go.RowKit
open Go.Joins
variable [∀ (a b c d : Int), Decidable (Ok4 a b c d)]
variable [∀ (n f : Int), Decidable (COk n f)]
set_option maxRecDepth 100000 in
theorem code_fit {zs : List Int} {len : Nat} (h : ∀ n ∈ zs, (Lit.int .u8 n).wf = true) : ∀ k, k < (zs.take len).length → 0 ≤ (zs.take len).getD k 0 ∧ (zs.take len).getD k 0 ≤ 255 := by
 intro k hk
 have hm : (zs.take len).getD k 0 ∈ zs:=by
  rw [List.getD_eq_getElem?_getD, List.getElem?_eq_getElem hk]
  exact List.mem_of_mem_take (List.getElem_mem hk)
 have:=bounds_u8 (h _ hm)
 omega
set_option maxRecDepth 100000 in
theorem open_code {H : Type} {enc : TypeId × Value → H} {W : World} {base : Nat} {v : Value} {d : DataW H} {p : List MemPlace} (hv : Value.okWide Tryz.prog W .any base 43 v)
 (h : DataW.Trod enc Tryz.prog W 0 (fun _ => true) true 43 v d p) :
 ∃ ao ca, ∃ zs : List Int, v = .slice ao zs.length ca ∧ zs.length ≤ maxLen ∧ (zs = [] ∨ ∃ b off, ao = some ⟨b, off, none⟩ ∧ ∀ k, k < zs.length → W.cell? ⟨b, off + k, none⟩ = some (.int .u8 (zs.getD k 0))) ∧ ∀ k, k < zs.length → 0 ≤ zs.getD k 0 ∧ zs.getD k 0 ≤ 255 := by
 obtain ⟨a, len, cap, rfl⟩:=okWide_slice Tryz.underlying43 hv
 obtain ⟨fuel, hf⟩:=h
 rcases open_ints Tryz.underlying43 Tryz.underlying5 (by kernel_rfl) hf with ⟨hcs, _⟩ | ⟨x, l, c, zs, hcs, _, hl, hm, hz, _, hcell, hwz⟩
 ·simp [Value.cells] at hcs
  obtain ⟨rfl, rfl, rfl⟩:=hcs
  exact ⟨none, 0, [], rfl, by simp, .inl rfl, fun k hk => by simp at hk⟩
 simp [Value.cells] at hcs
 obtain ⟨rfl, rfl, rfl⟩:=hcs
 have hz' : zs.length = cap:=by simpa using hz
 have e : (zs.take len).length = len:=by simp; omega
 refine ⟨some x, cap, zs.take len, by rw [e], by rw [e]; omega, ?_, code_fit hwz⟩
 by_cases h0 : len = 0
 ·left; simp [h0]
 right
 obtain ⟨b, off, spot⟩:=x
 have hc:=hcell 0 (by omega)
 have hspot : spot = none:=by simpa [Addr.add] using World.cell?_spot hc
 subst hspot
 refine ⟨b, off, rfl, fun k hk => ?_⟩
 rw [e] at hk
 have hk':=hcell k (by omega)
 rw [show ((⟨b, off, none⟩ : Addr).add k) = ⟨b, off + k, none⟩ from by unfold Addr.add; split <;> simp_all] at hk'
 rw [hk']
 simp [hk]
end
end Go.Proofs.YtjkcphnohhpihaaGreatDoor
