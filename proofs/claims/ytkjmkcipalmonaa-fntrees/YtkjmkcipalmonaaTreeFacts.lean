/- TreeFacts: what chapter 9's laws ask of ways, kids and roots. -/
import Derived.Test.YtkjmkcipalmonaaTreeWay
import Derived.Test.YtkjmkcipalmonaaSetPlain
import Derived.Test.YtkjmkcipalmonaaDrawSets
namespace Go.Proofs.Ytkjmkcipalmonaa
open Go.RowKit
set_option linter.unusedSectionVars false
variable [∀ (a b c d : Int), Decidable (Ok4 a b c d)]
variable [∀ (n f : Int), Decidable (COk n f)]

theorem tree_left {n f v i : Int} (h : HP n f v i) : COk n f ∧ 0 ≤ v % n ∧ v % n < n ∧ 0 ≤ i ∧ i < n ∧ 0 ≤ v ∧ 0 < n := by
  obtain ⟨hc, h3, h4, h5⟩ := h.of
  have := hc.1.1
  exact ⟨hc, Int.emod_nonneg _ (by omega), Int.emod_lt_of_pos _ (by omega), h4, h5, h3, by omega⟩
/-- What FnTrees asks of a replica's way and kids. -/
theorem tree_facts {n f v i : Int} (h : HP n f v i) :
    (wayI n f v i).head? = some i ∧ (wayI n f v i).getLast? = some (rootI n f v) ∧ (wayI n f v i).length ≤ n.toNat ∧ (kidsI n f v i).length ≤ f.toNat ∧ (∀ k ∈ kidsI n f v i, k ∈ underI n f v i) ∧ (underI n f v (rootI n f v)).length = n.toNat := by
  obtain ⟨hc, h1, h2, h3, h4, h5, h6⟩ := tree_left h
  have ht := small_four tree_small hc h1 h2 h3 h4
  unfold treeOk at ht
  simp only [Bool.and_eq_true, beq_iff_eq, decide_eq_true_eq, List.all_eq_true] at ht
  obtain ⟨⟨⟨⟨⟨⟨a, b⟩, c⟩, d⟩, e⟩, g⟩, k⟩ := ht
  have hr : rootI n f v = v % n := by rw [root_left h5 h6]; exact g
  rw [hr, wayI_left h5 h6, kids_left h5 h6, under_left h5 h6 i, under_left h5 h6 (v % n)]
  refine ⟨a, by rw [b, g], c, d, e, k⟩
def upOk (n f r i : Int) : Bool := decide (upI n f r i < 0) || (underI n f r i).all (fun k => decide (k ∈ underI n f r (upI n f r i)))
set_option maxRecDepth 100000 in
theorem up_small : allFour upOk = true := by decide +kernel
/-- Those under one are under its Up. -/
theorem up_facts {n f v i : Int} (h : HP n f v i) (hu : 0 ≤ upI n f v i) : comL (underI n f v i) (underI n f v (upI n f v i)) = (underI n f v i).length := by
  obtain ⟨hc, h1, h2, h3, h4, h5, h6⟩ := tree_left h
  have ht := small_four up_small hc h1 h2 h3 h4
  unfold upOk at ht
  simp only [Bool.or_eq_true, decide_eq_true_eq, List.all_eq_true] at ht
  rw [up_left h5 h6] at hu
  rw [under_left h5 h6 i, up_left h5 h6, under_left h5 h6]
  have ha : ∀ k ∈ underI n f (v % n) i, k ∈ underI n f (v % n) (upI n f (v % n) i) := by
    rcases ht with ht | ht
    · omega
    · exact ht
  unfold comL
  rw [List.filter_eq_self.2 fun x hx => decide_eq_true (ha x hx)]
/-- The roots of the first k views from v on, as a set; who sits at the first k places. -/
def rootsN (n f v : Int) : Nat → List Int
  | 0 => []
  | k + 1 => addL (rootsN n f v k) (rootI n f (v + k))
def sitsN (n f v : Int) : Nat → List Int
  | 0 => []
  | k + 1 => addL (sitsN n f v k) (sitsI n f v k)
theorem rootsN_len (n f v : Int) (k : Nat) : (rootsN n f v k).length ≤ k := by
  induction k with
  | zero => simp [rootsN]
  | succ k ih => have := add_len (rootsN n f v k) (rootI n f (v + k)); unfold rootsN; omega
theorem sitsN_len (n f v : Int) (k : Nat) : (sitsN n f v k).length ≤ k := by
  induction k with
  | zero => simp [sitsN]
  | succ k ih => have := add_len (sitsN n f v k) (sitsI n f v k); unfold sitsN; omega
theorem rootsN_left {n f v : Int} (hv : 0 ≤ v) (hn : 0 < n) (k : Nat) : rootsN n f v k = rootsN n f (v % n) k := by
  have h0 := Int.emod_nonneg v (by omega : n ≠ 0)
  induction k with
  | zero => rfl
  | succ k ih =>
    unfold rootsN
    rw [ih, root_left (by omega) hn, root_left (v := v % n + k) (by omega) hn, Int.emod_add_emod]
theorem sitsN_left {n f v : Int} (hv : 0 ≤ v) (hn : 0 < n) (k : Nat) : sitsN n f v k = sitsN n f (v % n) k := by
  induction k with
  | zero => rfl
  | succ k ih => unfold sitsN; rw [ih, sits_left hv hn]
def rootsOk (n f r _i : Int) : Bool := decide ((rootsN n f r n.toNat).length = n.toNat) && decide ((sitsN n f r n.toNat).length = n.toNat)
set_option maxRecDepth 100000 in
theorem roots_small : allFour rootsOk = true := by decide +kernel
theorem roots_facts {n f v : Int} (hc : COk n f) (hv : 0 ≤ v) : (rootsN n f v n.toNat).length = n.toNat ∧ (sitsN n f v n.toNat).length = n.toNat ∧ seatI n f v (rootI n f v) = 0 := by
  have hn := hc.1.1
  have h0 : HP n f v 0 := hp_iff.2 ⟨hc, hv, by omega, by omega⟩
  obtain ⟨_, h1, h2, h3, h4, h5, h6⟩ := tree_left h0
  have ht := small_four roots_small hc h1 h2 h3 h4
  unfold rootsOk at ht
  simp only [Bool.and_eq_true, decide_eq_true_eq] at ht
  rw [rootsN_left hv h6, sitsN_left hv h6, root_sits, seat_sits h0]
  exact ⟨ht.1, ht.2, rfl⟩
theorem under_none {n f v i : Int} (h : ¬ HP n f v i) : underI n f v i = [] := if_neg h
theorem way_none2 {n f v i : Int} (h : ¬ HP n f v i) : wayI n f v i = [] := way_out h 7
theorem under_range {n f v i x : Int} (h : x ∈ underI n f v i) : 0 ≤ x ∧ x ≤ 7 ∧ i ∈ wayI n f v x := by
  unfold underI at h
  split at h
  · rename_i hp
    have := mem_picked h
    have := (hp_iff.1 hp).1.1.2
    exact ⟨by omega, by omega, by simpa using (mem_picked h).1⟩
  · simp at h
theorem under_wf (n f v i : Int) : WfL (underI n f v i) := fun x hx => by
  have := under_range hx
  exact wf_small (by omega) (by omega)
theorem kids_up {n f v i x : Int} (h : x ∈ kidsI n f v i) : upI n f v x = i := by
  unfold kidsI at h
  split at h
  · simpa using (mem_picked h).1
  · simp at h
end Go.Proofs.Ytkjmkcipalmonaa
