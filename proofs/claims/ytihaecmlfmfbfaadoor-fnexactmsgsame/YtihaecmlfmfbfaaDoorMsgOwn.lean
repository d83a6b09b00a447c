/- MsgOwn: three lists of a call's own. -/
import Derived.Test.YtihaecmlfmfbfaaDoorMsgRows
namespace Go.Proofs.YtihaecmlfmfbfaaDoor
open Go.RowKit
set_option linter.unusedSectionVars false
variable [∀ (a b c d : Int), Decidable (Ok4 a b c d)]

section
variable {w w' : World} {lo lo' : Nat} {a b c : Value} {xs ys zs : List Int}
theorem OM.lt (h : OM w lo a b c xs ys zs) : (∀ j, a.ownBlock = some j → lo ≤ j ∧ j < w.heap.size) ∧ (∀ j, b.ownBlock = some j → lo ≤ j ∧ j < w.heap.size) ∧ (∀ j, c.ownBlock = some j → lo ≤ j ∧ j < w.heap.size) := by
  obtain ⟨p, q, oa, ta, ob, tb, oc, h1, h2⟩ := h
  have ra := World.ownsRow.lt oa
  have rb := World.ownsRow.lt ob
  have rc := World.ownsRow.lt oc
  exact ⟨fun j e => ⟨(ra j e).1, (ra j e).2⟩, fun j e => ⟨by have := rb j e; omega, (rb j e).2⟩, fun j e => ⟨by have := rc j e; omega, (rc j e).2⟩⟩
theorem OM.below (h : OM w lo a b c xs ys zs) (hb : Below w.heap.size w w') : OM w' lo a b c xs ys zs := by
  obtain ⟨p, q, oa, ta, ob, tb, oc, h1, h2⟩ := h
  exact ⟨p, q, oa.below hb, ta, ob.below hb, tb, oc.below hb, h1, h2⟩
theorem OM.mono (h : OM w lo a b c xs ys zs) (hl : lo' ≤ lo) : OM w lo' a b c xs ys zs := by
  obtain ⟨p, q, oa, ta, ob, tb, oc, h1, h2⟩ := h
  exact ⟨p, q, oa.mono hl, ta, ob, tb, oc, Nat.le_trans hl h1, h2⟩
theorem OM.kp {X : Nat → Prop} (h : OM w lo a b c xs ys zs) (k : Kp w w' X) (hx : ∀ j, lo ≤ j → j < w.heap.size → (a.ownBlock = some j ∨ b.ownBlock = some j ∨ c.ownBlock = some j) → ¬ X j) : OM w' lo a b c xs ys zs := by
  obtain ⟨t1, t2, t3⟩ := h.lt
  obtain ⟨p, q, oa, ta, ob, tb, oc, h1, h2⟩ := h
  exact ⟨p, q, oa.kp k (fun j e => hx j (t1 j e).1 (t1 j e).2 (.inl e)), ta, ob.kp k (fun j e => hx j (t2 j e).1 (t2 j e).2 (.inr (.inl e))), tb, oc.kp k (fun j e => hx j (t3 j e).1 (t3 j e).2 (.inr (.inr e))), h1, h2⟩
theorem OM.ri3 (h : OM w lo a b c xs ys zs) (hl : xs.length ≤ 4194304 ∧ ys.length ≤ 4194304 ∧ zs.length ≤ 4194304) : RI w a xs ∧ RI w b ys ∧ RI w c zs := by
  obtain ⟨p, q, oa, ta, ob, tb, oc, h1, h2⟩ := h
  exact ⟨oa.ri hl.1, ob.ri hl.2.1, oc.ri hl.2.2⟩
theorem OM.form (h : OM w lo a b c xs ys zs) : ∃ ao ca bo cb co cc, a = .slice ao xs.length ca ∧ b = .slice bo ys.length cb ∧ c = .slice co zs.length cc := by
  obtain ⟨p, q, oa, ta, ob, tb, oc, h1, h2⟩ := h
  obtain ⟨ao, ca, e1⟩ := oa.form
  obtain ⟨bo, cb, e2⟩ := ob.form
  obtain ⟨co, cc, e3⟩ := oc.form
  exact ⟨ao, ca, bo, cb, co, cc, e1, e2, e3⟩
end
end Go.Proofs.YtihaecmlfmfbfaaDoor
