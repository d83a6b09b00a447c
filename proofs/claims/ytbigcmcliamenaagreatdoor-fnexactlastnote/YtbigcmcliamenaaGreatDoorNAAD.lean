/- What the listed variable errNoNumber gives; a list of bytes that came in. -/
import Derived.Test.YtbigcmcliamenaaGreatDoorNAAC
import Derived.Test.YtbigcmcliamenaaGreatDoorNAAA
import Derived.ProofKit
import Derived.LaidMore
import Derived.OpenShut
import Derived.ShutString
import Derived.ChangeOld
import Derived.Below
import Derived.RowKitTokens
import Derived.Stop.Joined
import Derived.Stop.LaidErr
import Derived.WalkSmall
namespace Go.Proofs.YtbigcmcliamenaaGreatDoor
open Go.ChangeShapes Go.WideShapes Go.ChangeAt Go.RowKit
set_option linter.unusedSectionVars false
variable [∀ (a b c d : Int), Decidable (Ok4 a b c d)]
variable [∀ (n f : Int), Decidable (COk n f)]

theorem gE : Tryz.prog.globalNamed "loop.example/g00448/impl.errNoNumber" = some 1 := by kernel_rfl
theorem gEType : (Tryz.prog.globals[1]?).map (·.type) = some 78 := by kernel_rfl
theorem cellsES : Tryz.prog.cellsOf 253 = 1 := by kernel_rfl
theorem cellsS : Tryz.prog.cellsOf 9 = 1 := by kernel_rfl
theorem star : "*" ++ "errors.errorString" = "*errors.errorString" := by decide
theorem rowES (u : TypeId) (h : Tryz.prog.typeName? 3 u = some "*errors.errorString") : u = 251 :=
 typeName_ptr_named (nm := "errors.errorString") (by rw [star]; kernel_rfl) (by kernel_rfl) (by decide) u (by rw [star]; exact h)

theorem open_bytes {W : World} {x : Addr} {len cap : Nat} {zs : List Int} (hl : len ≤ cap) (hz : zs.length = cap) (hcell : ∀ i, i < zs.length → W.cell? (x.add i) = some (.int .u8 (zs.getD i 0))) :
 (zs.take len).length = len ∧ (zs.take len = [] ∨ ∃ b off, (some x : Option Addr) = some ⟨b, off, none⟩ ∧ ∀ k, k < (zs.take len).length → W.cell? ⟨b, off + k, none⟩ = some (.int .u8 ((zs.take len).getD k 0))) := by
 have e : (zs.take len).length = len := by simp; omega
 refine ⟨e, ?_⟩
 by_cases h0 : len = 0
 ·left; simp [h0]
 ·right
  obtain ⟨b, off, spot⟩ := x
  have hc := hcell 0 (by omega)
  have hspot : spot = none := by simpa [Addr.add] using World.cell?_spot hc
  subst hspot
  refine ⟨b, off, rfl, fun k hk => ?_⟩
  rw [e] at hk
  have := hcell k (by omega)
  rw [show ((⟨b, off, none⟩ : Addr).add k) = ⟨b, off + k, none⟩ from by unfold Addr.add; split <;> simp_all] at this
  rw [this]
  simp [hk]
end Go.Proofs.YtbigcmcliamenaaGreatDoor
