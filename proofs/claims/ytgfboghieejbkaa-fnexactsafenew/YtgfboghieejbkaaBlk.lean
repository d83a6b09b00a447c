/- Block: a block as a value; laws.eqBlock, heldBlock, markBlock, szBlock, toBlock. -/
import Derived.Test.YtgfboghieejbkaaQc
namespace Go.Proofs.Ytgfboghieejbkaa
open Go.RowKit

/-- A block: its name, its certificate's view, name, voters. -/
abbrev bv (m : ByteArray) (n : Int) (s : ByteArray) (v : Value) : Value := .agg #[.string m, .int .i64 n, .string s, v]

theorem Kp.same (w : World) (X : Nat → Prop) : Kp w w X := Below.kpOf (Below.refl w.heap.size w) X
theorem Kp.put {a b : World} {X : Nat → Prop} (h : Kp a b X) {g : Nat} (hg : X g) (j : Nat) (v : Value) : Kp a (b.setCell ⟨g, j, none⟩ v) X := h.trans ((set_kp _ _ _ _).mono fun _ e => e ▸ hg)
abbrev zb : Array Value := #[.string ⟨#[]⟩, .int .i64 0, .string ⟨#[]⟩, .slice none 0 0]
theorem kp4 (w : World) (g : Nat) (a b c d : Value) : Kp w ((((w.setCell ⟨g, 0, none⟩ a).setCell ⟨g, 1, none⟩ b).setCell ⟨g, 2, none⟩ c).setCell ⟨g, 3, none⟩ d) (fun k => k = g) :=
  (((set_kp _ _ _ _).trans (set_kp _ _ _ _)).trans (set_kp _ _ _ _)).trans (set_kp _ _ _ _)
theorem Loc.set4 {w : World} {g : Nat} {x y z u : Value} (h : Loc w g #[x, y, z, u]) (a b c d : Value) : Loc ((((w.setCell ⟨g, 0, none⟩ a).setCell ⟨g, 1, none⟩ b).setCell ⟨g, 2, none⟩ c).setCell ⟨g, 3, none⟩ d) g #[a, b, c, d] :=
  (((h.set 0 a (cs' := #[a, y, z, u]) rfl).set 1 b (cs' := #[a, b, z, u]) rfl).set 2 c (cs' := #[a, b, c, u]) rfl).set 3 d (cs' := #[a, b, c, d]) rfl

end Go.Proofs.Ytgfboghieejbkaa
