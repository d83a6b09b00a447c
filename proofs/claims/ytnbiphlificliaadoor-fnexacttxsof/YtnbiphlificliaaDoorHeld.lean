/- A region's condition may be made stronger on the way: what holds behind every operation from here on holds behind every operation. -/
import Derived.Deep.RegionHeld3
namespace Go.Proofs.YtnbiphlificliaaDoor
open Go
set_option linter.unusedSectionVars false
section
variable {P : Program} {md : Region.Mode} {ops : Array Oper} {Q : Exit → Act → World → Prop} {S S2 : World → Prop}
theorem wpAnyH_weaken (hS : ∀ w, S2 w → S w) : ∀ (fuel : Nat) (listed : Array Bool) (a : Act) (w : World), wpAnyH P md ops Q S2 fuel listed a w → wpAnyH P md ops Q S fuel listed a w
  | 0, _, _, _, h => h
  | fuel + 1, _, _, _, h => ⟨h.1, fun i hi => wpOp_mono (fun a' w' h' => ⟨hS _ h'.1, wpAnyH_weaken hS fuel _ a' w' h'.2⟩) (h.2 i hi)⟩
theorem shut_eq {fuel : Nat} {listed : Array Bool} {K : Act → World → Prop} (hS : ∀ w, S2 w → S w)
    (h : Shut (∀ a w, S w → (S w → wpAnyH P md ops Q S fuel listed a w) → K a w)) :
    Shut (∀ a w, S w → (S w → wpAnyH P md ops Q S fuel listed a w) → K a w) = Shut (∀ a w, S2 w → (S2 w → wpAnyH P md ops Q S2 fuel listed a w) → K a w) :=
  propext ⟨fun h a w h2 hw => h a w (hS w h2) (fun _ => wpAnyH_weaken hS _ _ _ _ (hw h2)), fun _ => h⟩
end
end Go.Proofs.YtnbiphlificliaaDoor
