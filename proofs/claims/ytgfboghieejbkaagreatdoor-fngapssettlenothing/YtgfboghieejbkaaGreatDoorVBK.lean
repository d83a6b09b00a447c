/- Texts that belong together: SameL, ChainPlain, ChainMem, StepAppend, LawAt, ContainsTx, ShelfBuilder, Builder, TxsTextImpl, ImplNameOf, BlockNews, DrawConf, DrawOf. -/
import Derived.Test.YtgfboghieejbkaaGreatDoorVAA
import Derived.Test.YtgfboghieejbkaaGreatDoorVAN
import Derived.Test.YtgfboghieejbkaaGreatDoorVAF
import Derived.Maps.AppendAt
import Derived.Deep.RegionLaw
import Derived.Test.YtgfboghieejbkaaGreatDoorVAD
import Derived.Shelf.Strings.Builder1
import Derived.Shelf.Small.Wraps
import Derived.Shelf.Strconv.Atoi
import Derived.Shelf.Strconv.Itoa0
import Derived.Shelf.Strconv.Itoa1
import Derived.Shelf.LaysM
import Derived.Shelf.Strconv.Itoa2
import Derived.Shelf.Strconv.Itoa3
import Derived.Shelf.Strconv.AtoiErrFast
import Derived.Shelf.Strconv.ParseIntEmpty
import Derived.Shelf.Strconv.AtoiFail
import Derived.Shelf.Strconv.Clone
import Derived.Shelf.Strconv.SyntaxError
import Derived.Shelf.LaysC
import Derived.Shelf.Strconv.ToError
import Derived.Shelf.Strconv.Lower
import Derived.Shelf.Strconv.ParseUint10
import Derived.Shelf.Strconv.ParseUint10Empty
import Derived.Shelf.Strconv.ParseUint10Any
import Derived.Shelf.Strconv.ParseInt10
import Derived.Shelf.Strconv.AtoiLong
import Derived.Shelf.Strconv.AtoiInnerAll
import Derived.Shelf.Strconv.RangeError
import Derived.Shelf.Strconv.ToErrorRange
import Derived.Shelf.Strconv.AtoiAll
import Derived.Shelf.Strconv.ErrVarAll
import Derived.Shelf.Strings.Search1
import Derived.Shelf.Sort.Plain
import Derived.Shelf.Strings.LastIndex
import Derived.Shelf.Strings.Prefix
import Derived.Shelf.Slices.In.SortNone
import Derived.Test.YtgfboghieejbkaaGreatDoorProg
import Derived.Lib.Builder
import Derived.Lib.AppendStr
import Derived.Test.YtgfboghieejbkaaGreatDoorVAG
import Derived.Test.YtgfboghieejbkaaGreatDoorVAI
import Derived.Test.YtgfboghieejbkaaGreatDoorVAT
import Derived.Deep.DeepCutAuto
import Derived.Test.YtgfboghieejbkaaGreatDoorVAH
import Derived.Test.YtgfboghieejbkaaGreatDoorVAJ
namespace Go.Proofs.YtgfboghieejbkaaGreatDoor
open Go.RowKit

set_option maxHeartbeats 1600000 in
set_option maxRecDepth 100000 in
theorem big_any (ao : Option Addr) (n ca : Nat) (w : World) (hn : n ≤ 9223372036854775807) :
    Calls Tryz.prog 13 #[.slice ao n ca] w fun e w' => e = .returned (.bool (decide (1048576 < n))) ∧ Below w.heap.size w w' := by
  have hd : decide ((1048576 : Int) < (n : Int)) = decide (1048576 < n) := by simp; omega
  go_enter Tryz.func13, Tryz.ntmps13
  go_wp2
  go_ret
  refine ⟨?_, Below.refl _ _⟩
  simp
  try omega
end Go.Proofs.YtgfboghieejbkaaGreatDoor
namespace Go.Proofs.YtgfboghieejbkaaGreatDoor
open Go.RowKit
set_option linter.unusedSectionVars false
variable [∀ (a b c d : Int), Decidable (Ok4 a b c d)]
variable [∀ (a b c d : Nat), Decidable (okN a b c d)]
variable [∀ (last : Int) (s : St), Decidable (GoodSt last s)]
variable [∀ (x : T4), Decidable (OkT x)]
variable [∀ (n : Int) (s : List Int), Decidable (OkL n s)]
variable [∀ (n f : Int), Decidable (COk n f)]

def chn (a t : Int) : Nat → List St
  | 0 => []
  | k + 1 => chn a t k ++ [(a + t * ((k : Int) + 1), [])]
def cnm (a t : Int) (k : Nat) : ByteArray := toB (nm (chn a t k))
theorem chn_len (a t : Int) (k : Nat) : (chn a t k).length = k := by
  induction k with
  | zero => rfl
  | succ k ih => simp [chn, ih]
theorem chn_mem {a t : Int} {k : Nat} {x : St} (ht : t = 1 ∨ t = 2) (h : x ∈ chn a t k) : a < x.1 ∧ x.1 ≤ a + t * (k : Int) ∧ x.2 = [] := by
  induction k with
  | zero => simp [chn] at h
  | succ k ih =>
    rw [chn, List.mem_append] at h
    rcases h with h | h
    · obtain ⟨h1, h2, h3⟩ := ih h
      refine ⟨h1, ?_, h3⟩
      rcases ht with rfl | rfl <;> push_cast <;> omega
    · simp only [List.mem_singleton] at h
      subst h
      refine ⟨?_, ?_, rfl⟩
      · show a < a + t * ((k : Int) + 1)
        rcases ht with rfl | rfl <;> omega
      · show a + t * ((k : Int) + 1) ≤ a + t * ((k + 1 : Nat) : Int)
        push_cast; exact Int.le_refl _
theorem chn_ok {a t : Int} {k : Nat} (ht : t = 1 ∨ t = 2) (ha : 0 ≤ a) (hk : a + t * (k : Int) ≤ 60) (h30 : k ≤ 30) : OkSts (chn a t k) := by
  refine ⟨by rw [chn_len]; exact h30, fun s hs => ?_, ?_⟩
  · obtain ⟨h1, h2, h3⟩ := chn_mem ht hs
    refine ⟨by omega, by rw [h3]; simp, by rw [h3]; simp⟩
  · clear hk h30
    induction k with
    | zero => exact List.Pairwise.nil
    | succ k ih =>
      rw [chn, List.pairwise_append]
      refine ⟨ih, by simp, fun x hx y hy => ?_⟩
      simp only [List.mem_singleton] at hy
      subst hy
      have := (chn_mem ht hx).2.1
      show x.1 < a + t * ((k : Int) + 1)
      rcases ht with rfl | rfl <;> omega
theorem cnm_nil (a t : Int) : cnm a t 0 = ⟨#[]⟩ := rfl
theorem cnm_steps {a t : Int} {k : Nat} (ht : t = 1 ∨ t = 2) (ha : 0 ≤ a) (hk : a + t * (k : Int) ≤ 60) (h30 : k ≤ 30) : stepsAns (cnm a t k) = some (chn a t k) := names_nm (chn_ok ht ha hk h30)
def cvw (a t : Int) (k : Nat) : Int := if k = 0 then 0 else a + t * (k : Int)
theorem cnm_view {a t : Int} {k : Nat} (ht : t = 1 ∨ t = 2) (ha : 0 ≤ a) (hk : a + t * (k : Int) ≤ 60) (h30 : k ≤ 30) : viewAns (cnm a t k) = cvw a t k := by
  rw [view_steps (cnm_steps ht ha hk h30)]
  cases k with
  | zero => rfl
  | succ k => simp [chn, cvw]
theorem cnm_up {a t : Int} {k : Nat} (ht : t = 1 ∨ t = 2) (ha : 0 ≤ a) (hk : a + t * ((k + 1 : Nat) : Int) ≤ 60) (h30 : k + 1 ≤ 30) : upAns (cnm a t (k + 1)) = cnm a t k := by
  unfold upAns
  rw [cnm_steps ht ha hk h30, Option.getD_some, chn, List.dropLast_concat]; rfl
theorem cnm_name {a t : Int} {k : Nat} (ht : t = 1 ∨ t = 2) (ha : 0 ≤ a) (hk : a + t * ((k + 1 : Nat) : Int) ≤ 60) (h30 : k + 1 ≤ 30) : nameAns (cnm a t k) (a + t * ((k : Int) + 1)) [] = cnm a t (k + 1) := by
  have o1 := chn_ok ht ha hk h30
  have h0 : a + t * (k : Int) ≤ 60 := by push_cast at hk; rcases ht with rfl | rfl <;> omega
  exact name_made (x := (a + t * ((k : Int) + 1), [])) (cnm_steps ht ha h0 (by omega)) o1
def cwho (N : Nat) (k : Nat) : List Int := if k = 0 then [] else fromL 0 N
theorem cnm_ne {a t : Int} {k : Nat} (ht : t = 1 ∨ t = 2) (ha : 0 ≤ a) (hk : a + t * ((k + 1 : Nat) : Int) ≤ 60) (h30 : k + 1 ≤ 30) : cnm a t (k + 1) ≠ ⟨#[]⟩ := by
  intro e
  have := cnm_steps ht ha hk h30
  rw [e, steps_nil] at this
  have h2 := congrArg List.length (Option.some.inj this)
  rw [chn_len] at h2
  simp at h2
theorem chn_qok {N : Nat} {f a t : Int} {k : Nat} (hN : 4 ≤ N ∧ N ≤ 7) (hf : 1 ≤ f ∧ f ≤ 3) (ht : t = 1 ∨ t = 2) (ha : 0 ≤ a) (hk : a + t * (k : Int) ≤ 60) (h30 : k ≤ 30) : qokB N f (cvw a t k) (cnm a t k) (cwho N k) = true := by
  have hc : COk (N : Int) f := ⟨by omega, by omega⟩
  unfold qokB
  rw [cnm_view ht ha hk h30, cnm_steps ht ha hk h30]
  cases k with
  | zero => simp [hc, cnm_nil, cwho]
  | succ k =>
    have ho : OkL (N : Int) (fromL 0 N) := fromL_ok (by omega) (by omega)
    have hq : quorumOf (N : Int) f ≤ ((fromL 0 N).length : Int) := by rw [fromL_len]; unfold quorumOf; rw [if_pos hc]; omega
    rw [if_neg (cnm_ne ht ha hk h30)]
    simp [hc, cwho, ho, hq]
def cdn (a t : Int) (k : Nat) : ByteArray := if t = 1 then cnm a t (k - 2) else ⟨#[]⟩
theorem cvw_up {a t : Int} (ht : t = 1 ∨ t = 2) (ha : 0 ≤ a) (k : Nat) : cvw a t k < cvw a t (k + 1) ∧ cvw a t (k - 1) ≤ cvw a t k ∧ 0 ≤ cvw a t k := by
  unfold cvw
  rcases ht with rfl | rfl
  · rcases k with _ | _ | k <;> simp <;> omega
  · rcases k with _ | _ | k <;> simp <;> omega
theorem cvw_le {a t : Int} {k : Nat} (hk : a + t * (k : Int) ≤ 60) : cvw a t k ≤ 60 := by unfold cvw; split <;> omega
theorem cdn_some {a t : Int} {k : Nat} (ht : t = 1 ∨ t = 2) (ha : 0 ≤ a) (hk : a + t * (k : Int) ≤ 60) (h30 : k ≤ 30) : (stepsAns (cdn a t k)).isSome = true := by
  unfold cdn
  split
  · rename_i h1
    subst h1
    rw [cnm_steps (.inl rfl) ha (by push_cast at hk ⊢; omega) (by omega)]; rfl
  · rw [steps_nil]; rfl
theorem chn_sok {N : Nat} {f a t : Int} {k : Nat} (hN : 4 ≤ N ∧ N ≤ 7) (hf : 1 ≤ f ∧ f ≤ 3) (ht : t = 1 ∨ t = 2) (ha : 0 ≤ a) (hk : a + t * (k : Int) ≤ 60) (h30 : k ≤ 30) : sokB N f 0 (cvw a t (k - 1)) (cvw a t k) (cnm a t k) (cwho N k) (cdn a t k) = true := by
  have h1 := cvw_up ht ha k
  have h2 := cvw_le hk
  have h3 := (cvw_up ht ha (k - 1)).2.2
  exact sok_mk (by omega) (by omega) h3 (by omega) (chn_qok hN hf ht ha hk h30) (cdn_some ht ha hk h30)
theorem chn_up2 {a t : Int} {k : Nat} (ht : t = 1 ∨ t = 2) (ha : 0 ≤ a) (hk : a + t * ((k + 1 : Nat) : Int) ≤ 60) (h30 : k + 1 ≤ 30) : up2 (cnm a t (k + 1)) = cnm a t (k - 1) := by
  unfold up2
  rw [cnm_up ht ha hk h30]
  cases k with
  | zero => rw [cnm_nil, up_nil]
  | succ k =>
    have h0 : a + t * ((k + 1 : Nat) : Int) ≤ 60 := by push_cast at hk ⊢; rcases ht with rfl | rfl <;> omega
    rw [cnm_up ht ha h0 (by omega)]; rfl
theorem cnm_ext {a t : Int} {k : Nat} (ht : t = 1 ∨ t = 2) (ha : 0 ≤ a) (hk : a + t * (k : Int) ≤ 60) (h30 : k ≤ 30) : extB (cnm a t k) (cnm a t (k - 1)) = true := by
  have h0 : a + t * ((k - 1 : Nat) : Int) ≤ 60 := by rcases k with _ | k <;> push_cast at hk ⊢ <;> rcases ht with rfl | rfl <;> first | omega | (simp at hk ⊢; omega)
  refine (extB_iff _ _).2 ⟨_, _, cnm_steps ht ha hk h30, cnm_steps ht ha h0 (by omega), ?_⟩
  cases k with
  | zero => exact List.prefix_refl _
  | succ k => exact ⟨_, rfl⟩
theorem chn_done {a t : Int} {k : Nat} (ht : t = 1 ∨ t = 2) (ha : 0 ≤ a) (hk : a + t * ((k + 1 : Nat) : Int) ≤ 60) (h30 : k + 1 ≤ 30) : doneOf (cdn a t k) (cnm a t (k + 1)) = cdn a t (k + 1) := by
  have hk0 : a + t * ((k - 1 : Nat) : Int) ≤ 60 := by rcases k with _ | k <;> push_cast at hk ⊢ <;> rcases ht with rfl | rfl <;> first | omega | (simp at hk ⊢; omega)
  have hu := chn_up2 ht ha hk h30
  have hv := cnm_view ht ha hk h30
  have hv0 := cnm_view ht ha hk0 (by omega)
  unfold doneOf stB
  rw [hu, hv, hv0]
  rcases ht with rfl | rfl
  · rcases Nat.lt_or_ge k 2 with h2 | h2
    · have e : cnm a 1 (k - 1) = ⟨#[]⟩ := by rw [show k - 1 = 0 by omega]; rfl
      rw [e]
      simp [cdn, show k - 2 = 0 by omega, show k + 1 - 2 = 0 by omega]
    · have hne : cnm a 1 (k - 1) ≠ ⟨#[]⟩ := by
        obtain ⟨j, rfl⟩ : ∃ j, k = j + 2 := ⟨k - 2, by omega⟩
        exact cnm_ne (k := j) (.inl rfl) ha (by push_cast at hk ⊢; omega) (by omega)
      have hd : cvw a 1 (k + 1) - cvw a 1 (k - 1) = 2 := by
        unfold cvw; rw [if_neg (by omega), if_neg (by omega)]; omega
      have he := cnm_ext (k := k - 1) (.inl rfl) ha hk0 (by omega)
      rw [show k - 1 - 1 = k - 2 by omega] at he
      simp [cdn, hne, hd, he, show k + 1 - 2 = k - 1 by omega]
  · have h2 : (cvw a 2 (k + 1) - cvw a 2 (k - 1) == 2) = false ∨ cnm a 2 (k - 1) = ⟨#[]⟩ := by
      rcases Nat.lt_or_ge k 2 with h2 | h2
      · right; rw [show k - 1 = 0 by omega]; rfl
      · left; unfold cvw; rw [if_neg (by omega), if_neg (by omega)]; simp; omega
    rcases h2 with h2 | h2
    · rw [h2]; simp [cdn]
    · rw [h2]; simp [cdn]
theorem chn_step {N : Nat} {f a t : Int} {k : Nat} (hN : 4 ≤ N ∧ N ≤ 7) (hf : 1 ≤ f ∧ f ≤ 3) (ht : t = 1 ∨ t = 2) (ha : 0 ≤ a) (hk : a + t * ((k + 1 : Nat) : Int) ≤ 60) (h30 : k + 1 ≤ 30) :
    bnewB N f (cvw a t k) (cnm a t k) (cwho N k) (a + t * ((k : Int) + 1)) [] = true ∧ nameAns (cnm a t k) (a + t * ((k : Int) + 1)) [] = cnm a t (k + 1) ∧
    goB N f 0 (cvw a t (k - 1)) (cvw a t k) (cnm a t k) (cwho N k) (cdn a t k) (a + t * ((k : Int) + 1)) (cnm a t (k + 1)) (fromL 0 N) = true ∧
    seeL true (cvw a t (k - 1)) (cnm a t (k + 1)) = cvw a t k ∧ seeV true (cvw a t k) (a + t * ((k : Int) + 1)) = cvw a t (k + 1) ∧ seeS true (cvw a t k) (a + t * ((k : Int) + 1)) (cnm a t k) (cnm a t (k + 1)) = cnm a t (k + 1) ∧
    seeX true (cvw a t k) (a + t * ((k : Int) + 1)) (cwho N k) (fromL 0 N) = fromL 0 N ∧ seeD true (cdn a t k) (cnm a t (k + 1)) = cdn a t (k + 1) := by
  have h0 : a + t * (k : Int) ≤ 60 := by push_cast at hk; rcases ht with rfl | rfl <;> omega
  have ev : a + t * ((k : Int) + 1) = cvw a t (k + 1) := by unfold cvw; rw [if_neg (by omega)]; push_cast; rfl
  have hn := cnm_name ht ha hk h30
  have hq := chn_qok hN hf ht ha h0 (by omega)
  have hq1 := chn_qok hN hf ht ha hk h30
  have hs := chn_sok hN hf ht ha h0 (by omega)
  have hu := cnm_up ht ha hk h30
  have hv := cnm_view ht ha hk h30
  have hv0 := cnm_view ht ha h0 (by omega)
  have hc := cvw_up ht ha k
  have hw : cwho N (k + 1) = fromL 0 N := rfl
  rw [hw] at hq1
  refine ⟨?_, hn, ?_, ?_, ?_, ?_, ?_, ?_⟩
  · unfold bnewB bokB
    rw [hn, hq, hu, hv, ev]
    have hh : 0 < heightAns (cnm a t (k + 1)) := by unfold heightAns; rw [cnm_steps ht ha hk h30]; simp [chn_len]
    simp [hh]
  · rw [ev]; unfold goB; rw [hs, hq1]; rfl
  · show lockOf _ _ = _
    unfold lockOf
    rw [hu, hv0]
    split <;> omega
  · rw [ev]; show (if cvw a t k < cvw a t (k + 1) then _ else _) = _; rw [if_pos hc.1]
  · rw [ev]; show (if cvw a t k < cvw a t (k + 1) then _ else _) = _; rw [if_pos hc.1]
  · rw [ev]; show (if cvw a t k < cvw a t (k + 1) then _ else _) = _; rw [if_pos hc.1]
  · exact chn_done ht ha hk h30
theorem cnm_size {a t : Int} {k : Nat} (ht : t = 1 ∨ t = 2) (ha : 0 ≤ a) (hk : a + t * (k : Int) ≤ 60) (h30 : k ≤ 30) : (cnm a t k).size ≤ 1920 := name_len (by rw [cnm_steps ht ha hk h30]; rfl)
theorem cdn_size {a t : Int} {k : Nat} (ht : t = 1 ∨ t = 2) (ha : 0 ≤ a) (hk : a + t * (k : Int) ≤ 60) (h30 : k ≤ 30) : (cdn a t k).size ≤ 1920 := name_len (cdn_some ht ha hk h30)

theorem os_oi {w : World} {B B' : Nat} {v u : Value} {ps : List ByteArray} {ys : List Int} (h : OS w B v ps) (h' : OI w B' u ys) (j : Nat) (hv : v.ownBlock = some j) : u.ownBlock ≠ some j := by
  rcases h.2 with ⟨rfl, _⟩ | ⟨g, cap, cur, rfl, _, hg, _⟩
  · simp [Value.ownBlock] at hv
  · rcases h'.2 with ⟨rfl, _⟩ | ⟨g', cap', cur', rfl, _, hg', _⟩
    · simp [Value.ownBlock]
    · intro e
      simp [Value.ownBlock] at e hv
      subst hv
      rw [e, hg] at hg'
      simp at hg'
theorem OS.kp {w w' : World} {base : Nat} {X : Nat → Prop} {v : Value} {xs : List ByteArray} (h : OS w base v xs) (k : Kp w w' X) (hv : ∀ k, v.ownBlock = some k → ¬ X k) : OS w' base v xs := by
  refine ⟨h.1, ?_⟩
  rcases h.2 with hn | ⟨g, cap, cur, rfl, hb, hgg, rest⟩
  · exact .inl hn
  · refine .inr ⟨g, cap, cur, rfl, hb, ?_, rest⟩
    rw [k.block g (Array.getElem?_eq_some_iff.1 hgg).1 (hv g rfl)]
    exact hgg
theorem OS.form {w : World} {base : Nat} {v : Value} {xs : List ByteArray} (h : OS w base v xs) : ∃ ao ca, v = .slice ao xs.length ca := by
  rcases h.2 with ⟨rfl, h0⟩ | ⟨g, cap, cur, rfl, _⟩
  · exact ⟨none, 0, by rw [h0]⟩
  · exact ⟨_, _, rfl⟩
theorem OS.at {w : World} {base : Nat} {ao : Option Addr} {n ca : Nat} {xs : List ByteArray} (h : OS w base (.slice ao n ca) xs) (k : Nat) (hk : k < xs.length) : ∃ g, ao = some ⟨g, 0, none⟩ ∧ w.cell? ⟨g, k, none⟩ = some (.string (xs.getD k ByteArray.empty)) := by
  rcases h.2 with ⟨e, h0⟩ | ⟨g, cap, cur, e, hb, hg, rest⟩
  · omega
  · cases e
    refine ⟨g, rfl, ?_⟩
    rw [World.ownsRow.cellAt h k (by omega)]; simp [List.getElem?_eq_getElem hk]
def cnames (a t : Int) (j : Nat) : List ByteArray := (List.range j).map fun i => cnm a t (i + 1)
theorem cnames_len (a t : Int) (j : Nat) : (cnames a t j).length = j := by simp [cnames]
theorem cnames_succ (a t : Int) (j : Nat) : cnames a t j ++ [cnm a t (j + 1)] = cnames a t (j + 1) := by simp [cnames, List.range_succ]
theorem cnames_get (a t : Int) (j i : Nat) (h : i < j) : (cnames a t j).getD i ByteArray.empty = cnm a t (i + 1) := by
  simp [cnames, List.getD_eq_getElem?_getD, h]
def qcel (aW : Option Addr) (kW N k : Nat) : Value := if k = 0 then .slice none 0 0 else .slice aW N kW
theorem qcel_form (aW : Option Addr) (kW N k : Nat) : ∃ qa qc, qcel aW kW N k = .slice qa (cwho N k).length qc ∧ ∀ w base, OI w base (.slice aW N kW) (fromL 0 N) → N ≤ 7 → RI w (.slice qa (cwho N k).length qc) (cwho N k) := by
  unfold qcel cwho
  by_cases hk : k = 0
  · rw [if_pos hk, if_pos hk]
    exact ⟨none, 0, rfl, fun w base _ _ => ⟨by simp, none, 0, rfl, .inl rfl⟩⟩
  · rw [if_neg hk, if_neg hk]
    refine ⟨aW, kW, by rw [fromL_len], fun w base h hN => ?_⟩
    rw [fromL_len]
    exact h.ri (by rw [fromL_len]; omega)
theorem rt_none (w : World) : RT w (.slice none 0 0) [] := ⟨by simp, none, 0, rfl, .inl rfl⟩
theorem oW_ri {w : World} {base : Nat} {aW : Option Addr} {N kW : Nat} (h : OI w base (.slice aW N kW) (fromL 0 N)) (hN : N ≤ 7) : RI w (.slice aW N kW) (fromL 0 N) := h.ri (by rw [fromL_len]; omega)
structure CInv (w0 : World) (a t f : Int) (N bC bS bQ bw bn : Nat) (aW : Option Addr) (kW j : Nat) (nv su : Value) (wx : World) : Prop where
  nam : OS wx bn nv (cnames a t j)
  con : Loc wx bC #[.int .i64 (N : Int), .int .i64 f]
  saf : Loc wx bS #[.int .i64 0, .int .i64 (cvw a t (j - 1)), .int .i64 (cvw a t j), .string (cnm a t j), su, .string (cdn a t j)]
  cer : Loc wx bQ #[.int .i64 (cvw a t j), .string (cnm a t j), qcel aW kW N j]
  who : OI wx bw (.slice aW N kW) (fromL 0 N)
  own : OI wx bw su (cwho N j)
  top : ∀ b, su.ownBlock = some b → bn ≤ b
  bel : Below w0.heap.size w0 wx
theorem CInv.more {w0 : World} {a t f : Int} {N bC bS bQ bw bn : Nat} {aW : Option Addr} {kW j : Nat} {nv su : Value} {wx : World} (h1 : OS wx bn nv (cnames a t (j + 1))) (h2 : Loc wx bC #[.int .i64 (N : Int), .int .i64 f])
    (h3 : Loc wx bS #[.int .i64 0, .int .i64 (cvw a t j), .int .i64 (cvw a t (j + 1)), .string (cnm a t (j + 1)), su, .string (cdn a t (j + 1))]) (h4 : Loc wx bQ #[.int .i64 (cvw a t (j + 1)), .string (cnm a t (j + 1)), .slice aW N kW])
    (h5 : OI wx bw (.slice aW N kW) (fromL 0 N)) (h6 : OI wx bw su (fromL 0 N)) (h7 : ∀ b, su.ownBlock = some b → bn ≤ b) (h8 : Below w0.heap.size w0 wx) : CInv w0 a t f N bC bS bQ bw bn aW kW (j + 1) nv su wx :=
  ⟨h1, h2, h3, h4, h5, h6, h7, h8⟩
theorem chn_again {N : Nat} {f a t : Int} {k : Nat} (hN : 4 ≤ N ∧ N ≤ 7) (hf : 1 ≤ f ∧ f ≤ 3) (ht : t = 1 ∨ t = 2) (ha : 0 ≤ a) (hk : a + t * ((k + 1 : Nat) : Int) ≤ 60) (h30 : k + 1 ≤ 30) :
    goB N f 0 (cvw a t k) (cvw a t (k + 1)) (cnm a t (k + 1)) (fromL 0 N) (cdn a t (k + 1)) (cvw a t (k + 1)) (cnm a t (k + 1)) (fromL 0 N) = true ∧
    seeL true (cvw a t k) (cnm a t (k + 1)) = cvw a t k ∧ seeV true (cvw a t (k + 1)) (cvw a t (k + 1)) = cvw a t (k + 1) ∧ seeS true (cvw a t (k + 1)) (cvw a t (k + 1)) (cnm a t (k + 1)) (cnm a t (k + 1)) = cnm a t (k + 1) ∧
    seeX true (cvw a t (k + 1)) (cvw a t (k + 1)) (fromL 0 N) (fromL 0 N) = fromL 0 N ∧ seeD true (cdn a t (k + 1)) (cnm a t (k + 1)) = cdn a t (k + 1) := by
  have h0 : a + t * (k : Int) ≤ 60 := by push_cast at hk; rcases ht with rfl | rfl <;> omega
  have hs := chn_sok hN hf ht ha hk h30
  have hq := chn_qok hN hf ht ha hk h30
  have hw : cwho N (k + 1) = fromL 0 N := rfl
  rw [hw] at hs hq
  refine ⟨?_, ?_, ?_, ?_, ?_, ?_⟩
  · unfold goB; rw [hq, Bool.and_true]; exact hs
  · show lockOf _ _ = _
    unfold lockOf
    rw [cnm_up ht ha hk h30, cnm_view ht ha h0 (by omega)]
    split <;> omega
  · show (if _ < _ then _ else _) = _; rw [if_neg (by omega)]
  · show (if _ < _ then _ else _) = _; rw [if_neg (by omega)]
  · show (if _ < _ then _ else _) = _; rw [if_neg (by omega)]
  · show doneOf _ _ = _
    rw [← chn_done ht ha hk h30]
    exact (see_twice 0 0 _ 0 _).2.2
end Go.Proofs.YtgfboghieejbkaaGreatDoor
namespace Go.Proofs.YtgfboghieejbkaaGreatDoor
open Go.RowKit

theorem Loc.grown {w w' : World} {r g : Nat} {cs : Array Value} (h : Loc w r cs) (hg : w.grownBy w' (some g)) (hr : r ≠ g) : Loc w' r cs := h.kp (kp_of hg) hr
theorem Loc.grownNew {w w' : World} {r : Nat} {row : Option Nat} {cs : Array Value} (h : Loc w r cs) (hg : w.grownBy w' row) (hr : row ≠ some r) : Loc w' r cs := h.kp (kp_grown hg) hr
theorem OI.drawn {w w' : World} {base g : Nat} {v : Value} {xs : List Int} (h : OI w base v xs) (hg : w.grownBy w' (some g)) (hlt : g < base) : OI w' base v xs :=
  h.grown hg (fun k hk e => by have := World.ownsRow.lt h k hk; cases e; omega)
end Go.Proofs.YtgfboghieejbkaaGreatDoor
namespace Go.Proofs.YtgfboghieejbkaaGreatDoor
open Go.RowKit
set_option linter.unusedSectionVars false
variable [∀ (a b c d : Int), Decidable (Ok4 a b c d)]
variable [∀ (a b c d : Nat), Decidable (okN a b c d)]
variable [∀ (x : T4), Decidable (OkT x)]

set_option maxHeartbeats 1600000 in
set_option maxRecDepth 100000 in
theorem at_any (ao : Option Addr) (ca : Nat) (zs : List Int) (i : Int) (hi : i = 0 ∨ i = 1 ∨ i = 2 ∨ i = 3) (w : World) (h : DCode w ao zs) :
    Calls Tryz.prog 64 #[.slice ao zs.length ca, .int .i64 i] w fun e w' => ∃ x : Int, e = .returned (.int .i64 x) ∧ 0 ≤ x ∧ x ≤ 255 ∧ Below w.heap.size w w' := by
  have hz := h.len
  by_cases hl : i < (zs.length : Int)
  · obtain ⟨k, rfl⟩ : ∃ k : Nat, i = (k : Int) := ⟨i.toNat, by omega⟩
    have hk : k < zs.length := by omega
    have hf := h.fit k hk
    rcases h.code with rfl | ⟨b, off, rfl, hc⟩
    · simp at hk
    have hc' := hc k hk
    clear hc h hi
    generalize zs.getD k 0 = y at *
    obtain ⟨h0, h1⟩ := hf
    generalize zs.length = n at *
    have hw : IntKind.i64.wrap y = y := by rw [IntKind.wrap_i64]; omega
    have hd : decide ((k : Int) < (n : Int)) = true := by simpa using hl
    go_enter Tryz.func64, Tryz.ntmps64
    go_wp2
    go_ret
    exact ⟨y, rfl, h0, h1, Below.refl _ _⟩
  · clear h
    generalize zs.length = n at *
    have hd : decide (i < (n : Int)) = false := by simpa using hl
    rcases hi with rfl | rfl | rfl | rfl
    all_goals
      go_enter Tryz.func64, Tryz.ntmps64
      go_wp2
      go_ret
      refine ⟨_, rfl, ?_, ?_, Below.refl _ _⟩ <;> omega
end Go.Proofs.YtgfboghieejbkaaGreatDoor
namespace Go.Proofs.YtgfboghieejbkaaGreatDoor
open Go.RowKit
set_option linter.unusedSectionVars false
variable [∀ (a b c d : Int), Decidable (Ok4 a b c d)]

abbrev z4 : T4 := (0, 0, 0, 0)
def AllOk (ts : List T4) : Prop := ∀ k, k < ts.length → Ok4 (ts.getD k z4).1 (ts.getD k z4).2.1 (ts.getD k z4).2.2.1 (ts.getD k z4).2.2.2
variable [∀ (ts : List T4), Decidable (AllOk ts)]
def Cells4K (w : World) (g k : Nat) (t : T4) : Prop := w.cell? ⟨g, k * 4, none⟩ = some (.int .i64 t.1) ∧ w.cell? ⟨g, k * 4 + 1, none⟩ = some (.int .i64 t.2.1) ∧ w.cell? ⟨g, k * 4 + 2, none⟩ = some (.int .i64 t.2.2.1) ∧ w.cell? ⟨g, k * 4 + 3, none⟩ = some (.int .i64 t.2.2.2)
theorem RT.at {w : World} {ao : Option Addr} {n ca : Nat} {xs : List T4} (h : RT w (.slice ao n ca) xs) (k : Nat) (hk : k < xs.length) : ∃ g, ao = some ⟨g, 0, none⟩ ∧ Cells4K w g k (xs.getD k z4) := by
  obtain ⟨_, ao', ca', e, h⟩ := h
  cases e
  rcases h with rfl | ⟨g, rfl, h⟩
  · simp at hk
  · exact ⟨g, rfl, h k hk⟩
theorem RT.form {w : World} {v : Value} {xs : List T4} (h : RT w v xs) : ∃ ao ca, v = .slice ao xs.length ca := by obtain ⟨_, ao, ca, e, _⟩ := h; exact ⟨ao, ca, e⟩
theorem Cells4K.below {w w' : World} {B g k : Nat} {t : T4} (h : Cells4K w g k t) (hb : Below B w w') (hg : w.heap.size ≤ B) : Cells4K w' g k t := by
  have hl : g < B := Nat.lt_of_lt_of_le (cell_lt h.1) hg
  exact ⟨(hb.cell (p := ⟨g, k * 4, none⟩) hl).trans h.1, (hb.cell (p := ⟨g, k * 4 + 1, none⟩) hl).trans h.2.1, (hb.cell (p := ⟨g, k * 4 + 2, none⟩) hl).trans h.2.2.1, (hb.cell (p := ⟨g, k * 4 + 3, none⟩) hl).trans h.2.2.2⟩

set_option maxHeartbeats 400000 in
set_option maxRecDepth 100000 in
theorem notTx_any (a b c d : Int) (w : World) :
    Calls Tryz.prog 188 #[txv a b c d] w fun e w' => e = .returned (.bool (!decide (Ok4 a b c d))) ∧ Below w.heap.size w w' := by
  have TO := hide fun w => implTxOk a b c d w
  generalize decide (Ok4 a b c d) = q at *
  go_enter Tryz.func188, Tryz.ntmps188
  go_wp2_with (first | (go_at_call 210; refine (unhide TO _).mono ?_; rintro e w' ⟨rfl, bb⟩))
  go_ret
  exact ⟨rfl, ((Below.refl _ _).alloc (Nat.le_refl _) _).trans (bb.mono (by simp))⟩

set_option maxHeartbeats 1600000 in
set_option maxRecDepth 100000 in
theorem index_any (v : Value) (ts : List T4) (w : World) (h : RT w v ts) :
    Calls Tryz.prog 209 #[v, .func (.func 188) #[] #[]] w fun e w' => ∃ i : Int, e = .returned (.int .i64 i) ∧ (0 ≤ i ↔ ¬ AllOk ts) ∧ Below w.heap.size w w' := by
  obtain ⟨ao, ca, rfl⟩ := h.form
  have hl := h.1
  have H := hide h
  obtain ⟨n, hn⟩ : ∃ n, ts.length = n := ⟨_, rfl⟩
  have Hn := hide hn
  rw [hn] at hl H ⊢
  clear h hn
  go_enter Tryz.func209, Tryz.ntmps209
  go_wp2
  go_loopw [8] (fun i wr => ∃ k : Nat, k ≤ n ∧ i = .int .i64 k ∧ Hid (∀ j, j < k → Ok4 (ts.getD j z4).1 (ts.getD j z4).2.1 (ts.getD j z4).2.2.1 (ts.getD j z4).2.2.2) ∧ Below w.heap.size w wr) (fun i _ => n - (intOf i).toNat)
  case atStart => exact ⟨0, Nat.zero_le _, rfl, hide (fun j hj => absurd hj (Nat.not_lt_zero j)), Below.refl _ _⟩
  case round =>
    obtain ⟨k, hk, rfl, HA, br⟩ := hrel
    by_cases hlt : k < n
    · obtain ⟨g, rfl, hc⟩ := (unhide H).at k (by rw [unhide Hn]; exact hlt)
      obtain ⟨c0, c1, c2, c3⟩ := hc.below br (Nat.le_refl _)
      have NT := hide fun w => notTx_any (ts.getD k z4).1 (ts.getD k z4).2.1 (ts.getD k z4).2.2.1 (ts.getD k z4).2.2.2 w
      have HS := hide fun (h : Ok4 (ts.getD k z4).1 (ts.getD k z4).2.1 (ts.getD k z4).2.2.1 (ts.getD k z4).2.2.2) => (show ∀ j, j < k + 1 → Ok4 (ts.getD j z4).1 (ts.getD j z4).2.1 (ts.getD j z4).2.2.1 (ts.getD j z4).2.2.2 from fun j hj => by
        by_cases e : j = k
        · rw [e]; exact h
        · exact unhide HA j (by omega))
      have HN : Hid (¬ Ok4 (ts.getD k z4).1 (ts.getD k z4).2.1 (ts.getD k z4).2.2.1 (ts.getD k z4).2.2.2 → ¬ AllOk ts) := hide fun h ha => h (ha k (by rw [unhide Hn]; exact hlt))
      clear HA hc
      generalize ts.getD k z4 = x at *
      obtain ⟨xa, xb, xc, xd⟩ := x
      dsimp only at c0 c1 c2 c3 NT HS HN
      by_cases ho : Ok4 xa xb xc xd
      · rw [decide_eq_true ho] at NT
        have HS := hide (unhide HS ho)
        clear HN ho
        go_wp2_with (first | (go_at_call 188; refine (unhide NT _).mono ?_; rintro e w2 ⟨rfl, b2⟩))
        go_roundw
        case rel => exact ⟨k + 1, by omega, by go_num, HS, br.trans (b2.mono br.size)⟩
        case measure => simp [intOf]; omega
      · rw [decide_eq_false ho] at NT
        have HN := hide (unhide HN ho)
        clear HS ho
        go_wp2_with (first | (go_at_call 188; refine (unhide NT _).mono ?_; rintro e w2 ⟨rfl, b2⟩))
        go_ret
        exact ⟨k, rfl, ⟨fun _ => unhide HN, fun _ => by omega⟩, br.trans (b2.mono br.size)⟩
    · have hkn : k = n := by omega
      have HN : Hid (AllOk ts) := hide fun j hj => unhide HA j (by have := unhide Hn; omega)
      clear HA
      subst hkn
      go_wp2
      go_ret
      exact ⟨-1, rfl, ⟨fun h => by omega, fun h => absurd (unhide HN) h⟩, br⟩

set_option maxHeartbeats 400000 in
set_option maxRecDepth 100000 in
theorem contains_any (v : Value) (ts : List T4) (w : World) (h : RT w v ts) :
    Calls Tryz.prog 187 #[v, .func (.func 188) #[] #[]] w fun e w' => e = .returned (.bool (!decide (AllOk ts))) ∧ Below w.heap.size w w' := by
  have IX := hide fun w h => index_any v ts w h
  have H := hide h
  obtain ⟨ao, ca, rfl⟩ := h.form
  clear h
  go_enter Tryz.func187, Tryz.ntmps187
  go_wp2_with fail
  refine (unhide IX _ (unhide H)).mono ?_
  rintro e w2 ⟨i, rfl, hi, b2⟩
  have HI := hide hi
  clear hi
  go_wp2
  go_ret
  refine ⟨?_, b2⟩
  have e : decide (0 ≤ i) = !decide (AllOk ts) := by
    by_cases hA : AllOk ts
    · rw [decide_eq_true hA, decide_eq_false (fun h => (unhide HI).1 h hA)]; rfl
    · rw [decide_eq_false hA, decide_eq_true ((unhide HI).2 hA)]; rfl
  rw [← e]; rfl
end Go.Proofs.YtgfboghieejbkaaGreatDoor
namespace Go.Proofs
open Go.Shelf
def Tryz.lays169_ren : Go.Shelf.Ren := ⟨fun | 169 => 208 | n => n, fun | 70 => 227 | 9 => 9 | 0 => 0 | 72 => 229 | 37 => 22 | 127 => 236 | 3 => 3 | 5 => 5 | n => n, fun | n => n⟩
theorem Tryz.lays169 : Go.Proofs.Lays.n169 Tryz.prog Tryz.lays169_ren := {
  mixed := by kernel_rfl
  f169 := Tryz.func208.trans (congrArg some (by kernel_rfl))
  t0 := Tryz.underlying0
  a0 := Tryz.isAgg0
  z0 := Tryz.sizeOf0
  v0 := Tryz.zeroValue0
  t3 := Tryz.underlying3
  a3 := Tryz.isAgg3
  z3 := Tryz.sizeOf3
  v3 := Tryz.zeroValue3
  t9 := Tryz.underlying9
  a9 := Tryz.isAgg9
  z9 := Tryz.sizeOf9
  v9 := Tryz.zeroValue9
  t37 := Tryz.underlying22
  a37 := Tryz.isAgg22
  z37 := Tryz.sizeOf22
  v37 := Tryz.zeroValue22
  t70 := Tryz.underlying227
  a70 := Tryz.isAgg227
  z70 := Tryz.sizeOf227
  v70 := Tryz.zeroValue227
  t72 := Tryz.underlying229
  a72 := Tryz.isAgg229
  z72 := Tryz.sizeOf229
  v72 := Tryz.zeroValue229
  t127 := Tryz.underlying236
  a127 := Tryz.isAgg236
  z127 := Tryz.sizeOf236
  v127 := Tryz.zeroValue236 }
theorem Tryz.Builder_Extra_169 : Builder.Extra Tryz.prog Tryz.lays169_ren := {
  sizeBuilder := by kernel_rfl
  liesBuilder := by kernel_rfl
  t5 := Tryz.underlying5
  a5 := Tryz.isAgg5
  z5 := Tryz.sizeOf5
  v5 := Tryz.zeroValue5
  infoByte := by kernel_rfl
  cellsByte := by kernel_rfl
  sizeByte := by kernel_rfl
  neB5 := by decide }
open Go.RowKit in
theorem Tryz.Builder_String_any (B b : Nat) (l : List UInt8) (w : World) (h : Lib.IsBuilder 229 5 B b (Lib.byteCells l) w) (hBw : B ≤ w.heap.size) :
    Calls Tryz.prog 208 #[.pointer (some ⟨b, 0, none⟩)] w fun e w' => e = .returned (.string ⟨l.toArray⟩) ∧ Below B w w' := Any.Builder_String_any Tryz.lays169 Tryz.Builder_Extra_169 B b l w h hBw
end Go.Proofs
namespace Go.Proofs.YtgfboghieejbkaaGreatDoor
open Go.RowKit

theorem Tryz.infoB : (Tryz.prog.info? 229).map (fun i => (i.zero, i.size, i.bytes)) = some (some (.agg #[.pointer none, .slice none 0 0]), 2, 32) := by kernel_rfl
theorem liesB : liesAt Tryz.prog Tryz.prog.depth 229 (2 / Tryz.prog.cellsOf 229) 0 229 1 = true := by kernel_rfl

set_option maxHeartbeats 1000000 in
set_option maxRecDepth 100000 in
theorem check_used (b : Nat) (w : World) (h0 : w.cell? ⟨b, 0, none⟩ = some (.pointer (some ⟨b, 0, none⟩))) :
    Calls Tryz.prog 221 #[.pointer (some ⟨b, 0, none⟩)] w fun e w' => e = .returned (.tuple #[]) ∧ w' = w := by
  obtain ⟨j, hj, _⟩ := info_parts Tryz.infoB
  have hq := Lib.run_neq_ptr_same (P := Tryz.prog) w (⟨b, 0, none⟩ : Addr) Tryz.underlying227 hj
  go_enter Tryz.func221, Tryz.ntmps221
  go_wp2
  go_end0
  exact ⟨rfl, rfl⟩

set_option maxHeartbeats 1000000 in
set_option maxRecDepth 100000 in
theorem check_new (b : Nat) (w : World) (h0 : w.cell? ⟨b, 0, none⟩ = some (.pointer none)) (hsh : w.shape? b = some (229, 2)) (hfz : w.frozen? ⟨b, 0, none⟩ = false) :
    Calls Tryz.prog 221 #[.pointer (some ⟨b, 0, none⟩)] w fun e w' => e = .returned (.tuple #[]) ∧ w' = w.setCell ⟨b, 0, none⟩ (.pointer (some ⟨b, 0, none⟩)) := by
  obtain ⟨j, hj, _, hjs, _⟩ := info_parts Tryz.infoB
  have hlt : b < w.heap.size := cell_lt h0
  have k1 := Lib.run_to_unsafe (P := Tryz.prog) w (⟨b, 0, none⟩ : Addr) Tryz.underlying227 Tryz.underlying248 hj (by rw [hjs]; decide) hsh (show 0 < 2 by decide)
  have k2 : ∀ x : Value, (callFunc 234 #[x]).run Tryz.prog w = .ok (.value x) w := fun x => by
    rw [run_callFunc_extern Tryz.func234 (by kernel_rfl) (by kernel_rfl) (by kernel_rfl) (e := Extern.AbiNoEscape.same) (by kernel_rfl), Lib.run_noEscape]; rfl
  have k3 := Lib.run_from_unsafe (P := Tryz.prog) w (⟨b, 0, none⟩ : Addr) Tryz.underlying248 Tryz.underlying227 hj hsh liesB
  have hq := Lib.run_neq_ptr_same (P := Tryz.prog) (w.setCell ⟨b, 0, none⟩ (.pointer (some ⟨b, 0, none⟩))) (⟨b, 0, none⟩ : Addr) Tryz.underlying227 hj
  have hc := World.cell?_setCell_same w ⟨b, 0, none⟩ (.pointer (some ⟨b, 0, none⟩)) h0
  go_enter Tryz.func221, Tryz.ntmps221
  go_wp2
  go_end0
  exact ⟨rfl, rfl⟩

theorem check_any (B b : Nat) (bs : List Value) (w : World) (h : Lib.IsBuilder 229 5 B b bs w) :
    Calls Tryz.prog 221 #[.pointer (some ⟨b, 0, none⟩)] w fun e w' => e = .returned (.tuple #[]) ∧ Lib.BuilderAt 229 5 B b (.pointer (some ⟨b, 0, none⟩)) bs w' ∧ Below B w w' := by
  rcases h with h | h
  · refine (check_new b w h.cell0 h.shape h.frozen0).mono ?_
    rintro e w' ⟨rfl, rfl⟩
    exact ⟨rfl, h.used _, (Below.refl B w).setCell (p := ⟨b, 0, none⟩) h.1 _⟩
  · refine (check_used b w h.cell0).mono ?_
    rintro e w' ⟨rfl, rfl⟩
    exact ⟨rfl, h, Below.refl B _⟩
theorem own_slice {w : World} {B : Nat} {e : TypeId} {k : Nat} {v : Value} {n : Nat} {xs : List Value} (h : w.ownsRow B e k v n xs) (hn : 0 < n) : ∃ g cap, v = .slice (some ⟨g, 0, none⟩) n cap := by
  rcases h.2 with ⟨_, h0⟩ | ⟨g, cap, cur, hv, _⟩
  · omega
  · exact ⟨g, cap, hv⟩
theorem b_block {w1 w2 : World} {b : Nat} {v p : Value} (hbk : w1.heap[b]? = some (.cells #[p, v] 229 (0, 0))) (hg : w1.grownBy w2 v.ownBlock) (hne : v.ownBlock ≠ some b) : w2.heap[b]? = some (.cells #[p, v] 229 (0, 0)) := by
  have hlt : b < w1.heap.size := (Array.getElem?_eq_some_iff.1 hbk).1
  rw [hg.block b hlt (fun e => hne e.symm)]; exact hbk

set_option maxHeartbeats 2000000 in
set_option maxRecDepth 100000 in
theorem writeByte (B b : Nat) (bs : List Value) (c : Int) (w : World) (h : Lib.IsBuilder 229 5 B b bs w) (hlen : bs.length ≤ 1000000000) (hBw : B ≤ w.heap.size) :
    Calls Tryz.prog 206 #[.pointer (some ⟨b, 0, none⟩), .int .u8 c] w fun e w' => e = .returned .nilIface ∧ Lib.BuilderAt 229 5 B b (.pointer (some ⟨b, 0, none⟩)) (bs ++ [.int .u8 c]) w' ∧ Below B w w' := by
  obtain ⟨i0, hi, hz0, hz1, hz2⟩ := info_parts Tryz.info5
  go_enter Tryz.func206, Tryz.ntmps206
  go_wp2_with fail
  refine (check_any B b bs _ h).mono ?_
  rintro e w1 ⟨rfl, ⟨hB, v, hbk, hown, hne⟩, b1⟩
  have s1 := b1.size
  have c1 : w1.cell? ⟨b, 1, none⟩ = some v := by rw [Lib.cell_of_heap hbk]; rfl
  have hba : (w1.alloc (.cells #[.int .u8 c] 5)).heap[b]? = some (.cells #[.pointer (some ⟨b, 0, none⟩), v] 229 (0, 0)) := by
    rw [Lib.alloc_old w1 _ b (Array.getElem?_eq_some_iff.1 hbk).1]; exact hbk
  clear h
  go_wp2_with (first
    | (at_builtin; refine wpList_append_own _ rfl _ _ 22 rfl B 5 i0 (.int .u8 0) 1 1 Tryz.underlying22 hi hz0 hz1 hz2 rfl (by decide) _ _ _ rfl (hown.alloc _) ⟨w1.heap.size, 0, none⟩ 1 1 [.int .u8 c] rfl rfl (one_cell _ _ _) (one_plain _ _) (by unfold maxLen; omega) (by omega) (by simp; omega) ?_; intro v' w2 ho' hg' _; have hb2 := b_block hba hg' hne; have d1 : w2.cell? ⟨b, 1, none⟩ = some v := (by rw [Lib.cell_of_heap hb2]; rfl); have f1 := Lib.frozen_of_heap hb2 1; have be := (b1.alloc (by omega) (.cells #[.int .u8 c] 5)).grown hg' (by simp; omega) (fun k hk => (hown.lt k hk).1); obtain ⟨g, cap, rfl⟩ := own_slice ho' (by omega); clear hg' hown hba hbk c1))
  go_ret
  exact ⟨rfl, Lib.BuilderAt.put hB hb2 (bs' := bs ++ [.int .u8 c]) (by simpa using ho') (by decide), be.setCell (p := ⟨b, 1, none⟩) hB _⟩

set_option maxHeartbeats 2000000 in
set_option maxRecDepth 100000 in
theorem writeString (B b : Nat) (bs : List Value) (s : ByteArray) (w : World) (h : Lib.IsBuilder 229 5 B b bs w) (hlen : bs.length ≤ 1000000000) (hs : s.size ≤ 1000000000) (hs0 : 0 < s.size) (hBw : B ≤ w.heap.size) :
    Calls Tryz.prog 207 #[.pointer (some ⟨b, 0, none⟩), .string s] w fun e w' => e = .returned (.tuple #[.int .i64 s.size, .nilIface]) ∧ Lib.BuilderAt 229 5 B b (.pointer (some ⟨b, 0, none⟩)) (bs ++ Lib.strCells s) w' ∧ Below B w w' := by
  obtain ⟨i0, hi, hz0, hz1, hz2⟩ := info_parts Tryz.info5
  go_enter Tryz.func207, Tryz.ntmps207
  go_wp2_with fail
  refine (check_any B b bs _ h).mono ?_
  rintro e w1 ⟨rfl, ⟨hB, v, hbk, hown, hne⟩, b1⟩
  have s1 := b1.size
  have c1 : w1.cell? ⟨b, 1, none⟩ = some v := by rw [Lib.cell_of_heap hbk]; rfl
  clear h
  go_wp2_with (first
    | (at_builtin; refine Lib.wpList_append_own_string _ rfl _ _ 22 9 rfl B 5 i0 Tryz.underlying22 Tryz.underlying9 hi hz0 hz1 hz2 _ _ _ rfl hown s rfl (by unfold maxLen; omega) (by omega) (by omega) ?_; intro v' w2 ho' hg' _; have hb2 := b_block hbk hg' hne; have d1 : w2.cell? ⟨b, 1, none⟩ = some v := (by rw [Lib.cell_of_heap hb2]; rfl); have f1 := Lib.frozen_of_heap hb2 1; have be := b1.grown hg' (by omega) (fun k hk => (hown.lt k hk).1); obtain ⟨g, cap, rfl⟩ := own_slice ho' (by omega); clear hg' hown hbk c1))
  go_ret2
  exact ⟨rfl, Lib.BuilderAt.put hB hb2 (bs' := bs ++ Lib.strCells s) (by simpa [Lib.strCells_length] using ho') (by decide), be.setCell (p := ⟨b, 1, none⟩) hB _⟩
theorem bat_below {w w' : World} {B b : Nat} {p : Value} {bs : List Value} (h : Lib.BuilderAt 229 5 B b p bs w) (hb : Below w.heap.size w w') : Lib.BuilderAt 229 5 B b p bs w' := by
  have hlt := h.lt
  obtain ⟨hB, v, hbk, hown, hne⟩ := h
  exact ⟨hB, v, (hb.block b hlt).trans hbk, World.ownsRow.kept (row := none) hown ⟨hb.os, hb.tape, hb.output, hb.size, fun k hk _ => hb.block k hk⟩ (by cases v.ownBlock <;> simp), hne⟩
theorem isb_below {w w' : World} {B b : Nat} {bs : List Value} (h : Lib.IsBuilder 229 5 B b bs w) (hb : Below w.heap.size w w') : Lib.IsBuilder 229 5 B b bs w' :=
  h.elim (fun x => .inl (bat_below x hb)) (fun x => .inr (bat_below x hb))
theorem isb_new (w : World) : Lib.IsBuilder 229 5 w.heap.size w.heap.size [] (w.alloc (.cells #[.pointer none, .slice none 0 0] 229)) :=
  .inl ⟨Nat.le_refl _, .slice none 0 0, heap_alloc_new w _, World.ownsRow_nil _ _ _ _, by simp [Value.ownBlock]⟩
end Go.Proofs.YtgfboghieejbkaaGreatDoor
namespace Go.Proofs.YtgfboghieejbkaaGreatDoor
open Go.RowKit
set_option linter.unusedSectionVars false
variable [∀ (a b c d : Int), Decidable (Ok4 a b c d)]
variable [∀ (a b c d : Nat), Decidable (okN a b c d)]
variable [∀ (x : T4), Decidable (OkT x)]

theorem strCells_bytes (s : ByteArray) : Lib.strCells s = Lib.byteCells s.data.toList := by simp [Lib.strCells, Lib.byteCells]
theorem byteCells_app (x y : List UInt8) : Lib.byteCells x ++ Lib.byteCells y = Lib.byteCells (x ++ y) := by simp [Lib.byteCells]
theorem byteCells_len (x : List UInt8) : (Lib.byteCells x).length = x.length := by simp [Lib.byteCells]

set_option maxHeartbeats 4000000 in
set_option maxRecDepth 100000 in
theorem implTxsText (v : Value) (xs : List T4) (w : World) (hx : xs.length ≤ 1048577) (h : RT w v xs) (ht : Pow w) :
    Calls Tryz.prog 186 #[v] w fun e w' => e = .returned (.string (txsT xs)) ∧ Below w.heap.size w w' := by
  obtain ⟨hl, ao, ca, rfl, ha⟩ := h
  have HT := hide ht
  clear ht
  go_enter Tryz.func186, Tryz.ntmps186
  go_wp2
  go_loopw [9] (fun i wr => ∃ k : Nat, k ≤ xs.length ∧ i = .int .i64 k ∧ Hid (Lib.IsBuilder 229 5 w.heap.size w.heap.size (Lib.byteCells (accT xs k)) wr) ∧ Hid (∀ j, j < k → OkT (xs.getD j (0, 0, 0, 0))) ∧ Below w.heap.size w wr ∧ w.heap.size + 1 ≤ wr.heap.size) (fun i _ => xs.length - (intOf i).toNat)
  case atStart => exact ⟨0, Nat.zero_le _, rfl, hide (isb_new w), hide (fun j hj => by omega), (Below.refl _ _).alloc (Nat.le_refl _) _, by simp⟩
  case round =>
    obtain ⟨k, hk, rfl, HB, HK, br, hsz⟩ := hrel
    by_cases hlt : k < xs.length
    · rcases ha with ha | ⟨g, rfl, ha⟩
      · subst ha; simp at hlt
      obtain ⟨a0, a1, a2, a3⟩ := ha k hlt
      have hg : g < w.heap.size := cell_lt a0
      have c0 := (br.cell (p := ⟨g, k * 4, none⟩) hg).trans a0
      have c1 := (br.cell (p := ⟨g, k * 4 + 1, none⟩) hg).trans a1
      have c2 := (br.cell (p := ⟨g, k * 4 + 2, none⟩) hg).trans a2
      have c3 := (br.cell (p := ⟨g, k * 4 + 3, none⟩) hg).trans a3
      have hal := accT_len xs k
      have hts := txT_size (xs.getD k (0, 0, 0, 0))
      have HS : Hid (accT xs (k + 1) = (if 0 < k then accT xs k ++ [44] else accT xs k) ++ (txT (xs.getD k (0, 0, 0, 0))).data.toList) := rfl
      have HNO := hide (fun h => txsT_no hlt h)
      clear ha a0 a1 a2 a3
      generalize hxk : xs.getD k (0, 0, 0, 0) = x at *
      obtain ⟨xa, xb, xc, xd⟩ := x
      simp only at c0 c1 c2 c3
      have CT := hide fun w ht => implTxText xa xb xc xd w ht
      have htx : txT (xa, xb, xc, xd) = txt xa xb xc xd := rfl
      have ba : Below w.heap.size w (wr.alloc (.cells #[.int .i64 xa, .int .i64 xb, .int .i64 xc, .int .i64 xd] 183)) := br.alloc (by omega) _
      have bA : Below wr.heap.size wr (wr.alloc (.cells #[.int .i64 xa, .int .i64 xb, .int .i64 xc, .int .i64 xd] 183)) := (Below.refl _ _).alloc (Nat.le_refl _) _
      by_cases hok : OkT (xa, xb, xc, xd)
      · have hne := txT_ne hok
        rw [htx] at hne HS hts
        have HK' : Hid (∀ j, j < k + 1 → OkT (xs.getD j (0, 0, 0, 0))) := fun j hj => by
          by_cases e : j = k
          · subst e; rw [hxk]; exact hok
          · exact HK.out j (by omega)
        clear htx HK HNO hok hxk
        generalize txt xa xb xc xd = t at *
        have hn1 := str_ne hne
        have hn2 := ne2 hne
        have hts0 : 0 < t.size := by
          rcases Nat.eq_zero_or_pos t.size with h0 | h0
          · exact absurd (ByteArray.ext (Array.eq_empty_of_size_eq_zero h0)) hne
          · exact h0
        go_wp2_with fail
        refine (unhide CT _ ((unhide HT).below ba)).mono ?_
        rintro e w1 ⟨rfl, b1⟩
        have b1' := ba.trans (b1.mono ba.size)
        have s1 := b1.size
        have bw : Below wr.heap.size wr w1 := bA.trans (b1.mono bA.size)
        have B1 := hide (isb_below HB.out bw)
        have hs1 : w.heap.size + 1 ≤ w1.heap.size := by have := bw.size; omega
        by_cases hk0 : 0 < k
        · go_wp2_with fail
          refine (writeByte _ _ _ 44 _ (unhide B1) (by rw [byteCells_len]; omega) (by omega)).mono ?_
          rintro e w2 ⟨rfl, B2, b2⟩
          have s2 := b2.size
          have b2' := b1'.trans b2
          have B2' := hide B2
          clear B2
          go_wp2_with fail
          refine (writeString _ _ _ t _ (.inr (unhide B2')) (by simp only [List.length_append, byteCells_len, List.length_cons, List.length_nil]; omega) (by omega) hts0 (by omega)).mono ?_
          rintro e w3 ⟨rfl, B3, b3⟩
          have s3 := b3.size
          have b3' := b2'.trans b3
          have B3' : Hid (Lib.IsBuilder 229 5 w.heap.size w.heap.size (Lib.byteCells (accT xs (k + 1))) w3) := by
            show Lib.IsBuilder _ _ _ _ _ _
            rw [unhide HS, if_pos hk0, ← byteCells_app, ← byteCells_app, ← strCells_bytes]
            exact .inr B3
          clear B3 HS
          go_wp2
          go_roundw
          case rel => exact ⟨k + 1, by omega, by go_num, B3', HK', b3', by omega⟩
          case measure => simp [intOf]; omega
        · go_wp2_with fail
          refine (writeString _ _ _ t _ (unhide B1) (by rw [byteCells_len]; omega) (by omega) hts0 (by omega)).mono ?_
          rintro e w3 ⟨rfl, B3, b3⟩
          have s3 := b3.size
          have b3' := b1'.trans b3
          have B3' : Hid (Lib.IsBuilder 229 5 w.heap.size w.heap.size (Lib.byteCells (accT xs (k + 1))) w3) := by
            show Lib.IsBuilder _ _ _ _ _ _
            rw [unhide HS, if_neg hk0, ← byteCells_app, ← strCells_bytes]
            exact .inr B3
          clear B3 HS
          go_wp2
          go_roundw
          case rel => exact ⟨k + 1, by omega, by go_num, B3', HK', b3', by omega⟩
          case measure => simp [intOf]; omega
      · have HN := hide ((unhide HNO) hok)
        have hte := txT_no hok
        rw [htx] at hte
        rw [hte] at CT
        clear HNO HK HS hok hte htx
        go_wp2_with fail
        refine (unhide CT _ ((unhide HT).below ba)).mono ?_
        rintro e w1 ⟨rfl, b1⟩
        go_wp2
        go_ret
        exact ⟨by rw [unhide HN]; rfl, ba.trans (b1.mono ba.size)⟩
    · have hkn : k = xs.length := by omega
      have HY : Hid (txsT xs = toB (accT xs k)) := by rw [hkn]; rw [hkn] at HK; exact txsT_yes HK.out
      clear HK ha
      go_wp2_with fail
      refine (Tryz.Builder_String_any _ _ _ _ HB.out (by omega)).mono ?_
      rintro e w1 ⟨rfl, b1⟩
      have b1' := br.trans b1
      have HY' : Hid (txsT xs = (⟨(accT xs k).toArray⟩ : ByteArray)) := HY
      generalize (⟨(accT xs k).toArray⟩ : ByteArray) = ok at *
      go_wp2
      go_ret
      exact ⟨by rw [HY'.out]; rfl, b1'⟩
end Go.Proofs.YtgfboghieejbkaaGreatDoor
namespace Go.Proofs.YtgfboghieejbkaaGreatDoor
open Go.RowKit
set_option linter.unusedSectionVars false
variable [∀ (a b c d : Int), Decidable (Ok4 a b c d)]
variable [∀ (a b c d : Nat), Decidable (okN a b c d)]
variable [∀ (last : Int) (s : St), Decidable (GoodSt last s)]
variable [∀ (x : T4), Decidable (OkT x)]
variable [∀ (ts : List T4), Decidable (AllOk ts)]

theorem allOk_iff (ts : List T4) : AllOk ts ↔ ∀ x ∈ ts, OkT x := by
  constructor
  · intro h x hx
    obtain ⟨j, hj, rfl⟩ := List.getElem_of_mem hx
    have := h j hj
    rwa [List.getD_eq_getElem?_getD, List.getElem?_eq_getElem hj] at this
  · intro h k hk
    have := h _ (List.getElem_mem hk)
    rw [List.getD_eq_getElem?_getD, List.getElem?_eq_getElem hk]
    exact this

set_option maxHeartbeats 8000000 in
set_option maxRecDepth 100000 in
theorem implNameOf (up : ByteArray) (view : Int) (v : Value) (xs : List T4) (w : World) (hu : up.size + xs.length * 28 + 100 ≤ 33554432) (hx : xs.length ≤ 1048577) (h0 : -9223372036854775808 ≤ view) (h1 : view ≤ 9223372036854775807) (h : RT w v xs) (hE : Env w) :
    Calls Tryz.prog 146 #[.string up, .int .i64 view, v] w fun e w' => e = .returned (.string (nameAns up view xs)) ∧ Below w.heap.size w w' := by
  have DG := hide fun w hE => implDigits_any view w (by omega) (by omega) (Env.pow hE)
  have TT := hide fun w h hE => implTxsText v xs w (by omega) h (Env.pow hE)
  have CF := hide fun w h => contains_any v xs w h
  have NO := hide fun w hE => implNameOk (toB (nmOut up view xs)) w (by
    have := itoa_short view h0 h1
    have := txsT_len xs
    rw [toB_size]; unfold nmOut
    simp only [List.length_append, List.length_cons, Array.length_toList, ByteArray.size_data]
    omega) hE
  have NA : nameAns up view xs = if decide (AllOk xs) = true ∧ (stepsAns (toB (nmOut up view xs))).isSome = true then toB (nmOut up view xs) else ⟨#[]⟩ := by
    unfold nameAns
    by_cases ha : AllOk xs
    · rw [decide_eq_true ha]
      by_cases hq : (stepsAns (toB (nmOut up view xs))).isSome = true
      · rw [if_pos ⟨(allOk_iff xs).1 ha, hq⟩, if_pos ⟨rfl, hq⟩]
      · rw [if_neg fun e => hq e.2, if_neg fun e => hq e.2]
    · rw [decide_eq_false ha, if_neg fun e => ha ((allOk_iff xs).2 e.1), if_neg fun e => by cases e.1]
  rw [NA]
  have EQ : up ++ (⟨#[47]⟩ : ByteArray) ++ (⟨(Lib.itoa view).toArray⟩ : ByteArray) ++ (⟨#[124]⟩ : ByteArray) ++ txsT xs = toB (nmOut up view xs) := by
    apply ba_ext
    rw [toB_list]
    simp [nmOut, ByteArray.data_append]
  have hd : (⟨(Lib.itoa view).toArray⟩ : ByteArray).size ≤ 21 := by
    have := itoa_short view h0 h1
    simpa [ByteArray.size] using this
  have hts := txsT_len xs
  obtain ⟨ao, ca, rfl⟩ := h.form
  have RTH := hide h
  clear h NA
  generalize toB (nmOut up view xs) = z at *
  generalize (⟨(Lib.itoa view).toArray⟩ : ByteArray) = d at *
  generalize txsT xs = tt at *
  generalize (stepsAns z).isSome = b at *
  generalize decide (AllOk xs) = c at *
  generalize xs.length = len at *
  have q0 : ∀ w, (Op.stringOp .add up (⟨#[47]⟩ : ByteArray)).run Tryz.prog w = .ok (.string (up ++ (⟨#[47]⟩ : ByteArray))) w := fun w => run_string_add_sum w _ _ (by show up.size + 1 ≤ _; omega)
  have q1 : ∀ w, (Op.stringOp .add (up ++ (⟨#[47]⟩ : ByteArray)) d).run Tryz.prog w = .ok (.string (up ++ (⟨#[47]⟩ : ByteArray) ++ d)) w := fun w => run_string_add_sum w _ _ (by simp [ByteArray.size_append]; show up.size + 1 + d.size ≤ _; omega)
  have q2 : ∀ w, (Op.stringOp .add (up ++ (⟨#[47]⟩ : ByteArray) ++ d) (⟨#[124]⟩ : ByteArray)).run Tryz.prog w = .ok (.string (up ++ (⟨#[47]⟩ : ByteArray) ++ d ++ (⟨#[124]⟩ : ByteArray))) w := fun w => run_string_add_sum w _ _ (by simp [ByteArray.size_append]; show up.size + 1 + d.size + 1 ≤ _; omega)
  have q3 : ∀ w, (Op.stringOp .add (up ++ (⟨#[47]⟩ : ByteArray) ++ d ++ (⟨#[124]⟩ : ByteArray)) tt).run Tryz.prog w = .ok (.string z) w := fun w => by
    rw [run_string_add_sum w _ _ (by simp [ByteArray.size_append]; show up.size + 1 + d.size + 1 + tt.size ≤ _; omega), EQ]
  clear EQ
  generalize up ++ (⟨#[47]⟩ : ByteArray) = a1 at *
  generalize a1 ++ d = a2 at *
  generalize a2 ++ (⟨#[124]⟩ : ByteArray) = a3 at *
  obtain ⟨r, hr⟩ : ∃ r, (if c = true ∧ b = true then z else (⟨#[]⟩ : ByteArray)) = r := ⟨_, rfl⟩
  rw [hr]
  have HR := hide hr
  have HE := hide hE
  clear hE hr
  go_enter Tryz.func146, Tryz.ntmps146
  go_wp2_with fail
  refine (unhide DG _ (unhide HE)).mono ?_
  rintro _ w1 ⟨rfl, b1⟩
  clear DG
  go_wp2_with fail
  refine (unhide TT _ ((unhide RTH).below b1) ((unhide HE).below b1)).mono ?_
  rintro _ w2 ⟨rfl, b2⟩
  have B2 := b1.trans (b2.mono b1.size)
  clear TT b2 b1
  go_wp2_with fail
  refine (unhide CF _ ((unhide RTH).below B2)).mono ?_
  rintro _ w3 ⟨rfl, b3⟩
  have B3 := B2.trans (b3.mono B2.size)
  clear CF b3 B2
  cases c with
  | false =>
    go_wp2
    go_ret
    have e : r = ⟨#[]⟩ := by rw [← unhide HR]; simp
    exact ⟨by rw [e]; rfl, B3⟩
  | true =>
    go_wp2_with fail
    refine (unhide NO _ ((unhide HE).below B3)).mono ?_
    rintro _ w4 ⟨rfl, b4⟩
    have B4 := B3.trans (b4.mono B3.size)
    clear NO b4 B3
    cases b with
    | false =>
      go_wp2
      go_ret
      have e : r = ⟨#[]⟩ := by rw [← unhide HR]; simp
      exact ⟨by rw [e]; rfl, B4⟩
    | true =>
      go_wp2
      go_ret
      have e : r = z := by rw [← unhide HR]; simp
      exact ⟨by rw [e]; rfl, B4⟩
end Go.Proofs.YtgfboghieejbkaaGreatDoor
namespace Go.Proofs.YtgfboghieejbkaaGreatDoor
open Go.RowKit
set_option linter.unusedSectionVars false
variable [∀ (a b c d : Int), Decidable (Ok4 a b c d)]
variable [∀ (a b c d : Nat), Decidable (okN a b c d)]
variable [∀ (last : Int) (s : St), Decidable (GoodSt last s)]
variable [∀ (x : T4), Decidable (OkT x)]
variable [∀ (n : Int) (s : List Int), Decidable (OkL n s)]
variable [∀ (n f : Int), Decidable (COk n f)]
variable [∀ (ts : List T4), Decidable (AllOk ts)]

set_option maxHeartbeats 8000000 in
set_option maxRecDepth 100000 in
theorem implBlockNew (n f v : Int) (s : ByteArray) (ao : Option Addr) (ca : Nat) (xs : List Int) (view : Int) (lv : Value) (ts : List T4) (w : World) (hs : s.size + ts.length * 28 + 100 ≤ 33554432) (hx : ts.length ≤ 1048577) (h0 : -9223372036854775808 ≤ view) (h1 : view ≤ 9223372036854775807) (ht : RT w lv ts) (hE : Env w) (ha : RI w (.slice ao xs.length ca) xs) :
    Calls Tryz.prog 66 #[cv n f, qv v s (.slice ao xs.length ca), .int .i64 view, lv] w fun e w' => ∃ u, e = .returned (.tuple #[bv (if bnewB n f v s xs view ts then nameAns s view ts else ⟨#[]⟩) (if bnewB n f v s xs view ts then v else 0) (if bnewB n f v s xs view ts then s else ⟨#[]⟩) u, .bool (bnewB n f v s xs view ts)]) ∧ OI w' w.heap.size u (if bnewB n f v s xs view ts then xs else []) ∧ Below w.heap.size w w' := by
  obtain ⟨w0, hw0⟩ : ∃ w0, ((w.alloc (.cells #[.int .i64 n, .int .i64 f] 32)).alloc (.cells #[.int .i64 v, .string s, .slice ao xs.length ca] 40)).alloc (.cells #[.string ⟨#[]⟩, .int .i64 0, .string ⟨#[]⟩, .slice none 0 0] 65) = w0 := ⟨_, rfl⟩
  have Bw0 : Below w.heap.size w w0 := hw0 ▸ ((qalloc2 _ _ _).alloc (by simp; omega) _)
  have LC : Loc w0 w.heap.size #[.int .i64 n, .int .i64 f] := hw0 ▸ ((loc_at w _ _ rfl).alloc _).alloc _
  have LQ : Loc w0 (w.heap.size + 1) #[.int .i64 v, .string s, .slice ao xs.length ca] := hw0 ▸ (loc_at (w.alloc _) _ _ (by simp)).alloc _
  have LZ : Loc w0 (w.heap.size + 1 + 1) #[.string ⟨#[]⟩, .int .i64 0, .string ⟨#[]⟩, .slice none 0 0] := hw0 ▸ loc_at ((w.alloc _).alloc _) _ _ (by simp)
  have s0 : w0.heap.size = w.heap.size + 1 + 1 + 1 := by rw [← hw0]; simp
  have hnl : (nameAns s view ts).size ≤ 1920 := nameAns_len _ _ _
  have NM := hide fun w' (b : Below w0.heap.size w0 w') => implNameOf s view lv ts w' hs hx h0 h1 ((ht.below Bw0).below b) ((hE.below Bw0).below b)
  have TO := hide fun w' (b : Below w0.heap.size w0 w') => qtold_any (w.heap.size + 1) v s ao ca xs w' (LQ.below b LQ.lt) ((ha.below Bw0 (Nat.le_refl _)).below b (Nat.le_refl _)) (by omega)
  have OK := hide fun a k w' (b : Below w0.heap.size w0 w') h => implBlockOk n f (nameAns s view ts) v s a k xs w' (by omega) (by omega) ((hE.below Bw0).below b) h
  have VO := hide fun w' (b : Below w0.heap.size w0 w') => implViewOf (nameAns s view ts) w' (by omega) ((hE.below Bw0).below b)
  have hB : bnewB n f v s xs view ts = (bokB n f (nameAns s view ts) v s xs && (viewAns (nameAns s view ts) == view)) := rfl
  have hl := ha.1
  clear ht ha hE
  generalize bokB n f (nameAns s view ts) v s xs = q at *
  generalize viewAns (nameAns s view ts) = vw at *
  generalize nameAns s view ts = m at *
  have HB := hide hB
  clear hB
  go_enter Tryz.func66, Tryz.ntmps66
  have Bx := Below.refl w0.heap.size w0
  have cLQ0 := LQ.cell 0 rfl
  have cLQ1 := LQ.cell 1 rfl
  have cLQ2 := LQ.cell 2 rfl
  go_wp2_with fail
  clear hw0
  refine (unhide NM _ Bx).mono ?_
  rintro _ w1 ⟨rfl, bb⟩
  clear cLQ0 cLQ1 cLQ2
  have Bw1 := Bw0.trans (bb.mono Bw0.size)
  have sw1 := bb.size
  replace LC := LC.below bb LC.lt
  replace LQ := LQ.below bb LQ.lt
  replace LZ := LZ.below bb LZ.lt
  replace Bx := Bx.trans (bb.mono Bx.size)
  clear Bw0
  clear bb
  go_wp2_with fail
  refine (unhide TO _ Bx).mono ?_
  rintro _ w2 ⟨vT, rfl, oT, bb⟩
  have Bw2 := Bw1.trans (bb.mono Bw1.size)
  have sw2 := bb.size
  replace LC := LC.below bb LC.lt
  replace LQ := LQ.below bb LQ.lt
  replace LZ := LZ.below bb LZ.lt
  replace Bx := Bx.trans (bb.mono Bx.size)
  clear Bw1
  clear bb
  have toT := World.ownsRow.lt oT
  obtain ⟨aoT, koT, rfl⟩ := oT.form
  obtain ⟨w3, hw3⟩ : ∃ x, w2.alloc (.cells #[.string m, .int .i64 v, .string s, .slice aoT xs.length koT] 65) = x := ⟨_, rfl⟩
  have bb : Below w2.heap.size w2 w3 := hw3 ▸ qalloc _ _
  have X : Loc w3 w2.heap.size #[.string m, .int .i64 v, .string s, .slice aoT xs.length koT] := hw3 ▸ loc_at w2 _ _ rfl
  have zw3 : w3.heap.size = w2.heap.size + 1 := by rw [← hw3]; simp
  have Bw3 := Bw2.trans (bb.mono Bw2.size)
  have sw3 := bb.size
  replace LC := LC.below bb LC.lt
  replace LQ := LQ.below bb LQ.lt
  replace LZ := LZ.below bb LZ.lt
  replace oT := oT.below bb
  replace Bx := Bx.trans (bb.mono Bx.size)
  clear Bw2
  clear bb
  have cLC0 := LC.cell 0 rfl
  have cLC1 := LC.cell 1 rfl
  have cX0 := X.cell 0 rfl
  have cX1 := X.cell 1 rfl
  have cX2 := X.cell 2 rfl
  have cX3 := X.cell 3 rfl
  go_wp2_with fail
  clear hw3
  refine (unhide OK _ _ _ Bx (oT.ri (by omega))).mono ?_
  rintro _ w4 ⟨rfl, bb⟩
  clear cLC0 cLC1 cX0 cX1 cX2 cX3
  have Bw4 := Bw3.trans (bb.mono Bw3.size)
  have sw4 := bb.size
  replace LC := LC.below bb LC.lt
  replace LQ := LQ.below bb LQ.lt
  replace LZ := LZ.below bb LZ.lt
  replace X := X.below bb X.lt
  replace oT := oT.below bb
  replace Bx := Bx.trans (bb.mono Bx.size)
  clear Bw3
  clear bb
  cases q
  · have hb : bnewB n f v s xs view ts = false := unhide HB
    have K5 := kp4 w4 (w.heap.size + 1 + 1) (.string ⟨#[]⟩) (.int .i64 0) (.string ⟨#[]⟩) (.slice none 0 0)
    have cLZ0 := LZ.cell 0 rfl
    have cLZ1 := LZ.cell 1 rfl
    have cLZ2 := LZ.cell 2 rfl
    have cLZ3 := LZ.cell 3 rfl
    have fz := LZ.frozen
    clear LZ
    go_wp2
    all_goals
      refine bodyPost_ret (v := .tuple #[bv ⟨#[]⟩ 0 ⟨#[]⟩ (.slice none 0 0), .bool false]) (by simp [results, Tryz.results66, go_sem, cLZ0, cLZ1, cLZ2, cLZ3]) rfl ?_
      refine ⟨.slice none 0 0, ?_⟩
      exact ⟨rfl, World.ownsRow_nil _ _ _ _, Below.kp Bw4 K5 Bw4.size (fun k hk => by omega)⟩
  · have cX0 := X.cell 0 rfl
    have cX1 := X.cell 1 rfl
    have cX2 := X.cell 2 rfl
    have cX3 := X.cell 3 rfl
    go_wp2_with fail
    refine (unhide VO _ Bx).mono ?_
    rintro _ w5 ⟨rfl, bb⟩
    clear cX0 cX1 cX2 cX3
    have Bw5 := Bw4.trans (bb.mono Bw4.size)
    have sw5 := bb.size
    replace LC := LC.below bb LC.lt
    replace LQ := LQ.below bb LQ.lt
    replace LZ := LZ.below bb LZ.lt
    replace X := X.below bb X.lt
    replace oT := oT.below bb
    replace Bx := Bx.trans (bb.mono Bx.size)
    clear Bw4
    clear bb
    by_cases hv : vw = view
    · have hb : bnewB n f v s xs view ts = true := by rw [unhide HB]; simp [hv]
      have hn : (vw != view) = false := by simp [hv]
      clear hv
      have cX0 := X.cell 0 rfl
      have cX1 := X.cell 1 rfl
      have cX2 := X.cell 2 rfl
      have cX3 := X.cell 3 rfl
      have K5 := kp4 w5 (w.heap.size + 1 + 1) (.string m) (.int .i64 v) (.string s) (.slice aoT xs.length koT)
      have cLZ0 := LZ.cell 0 rfl
      have cLZ1 := LZ.cell 1 rfl
      have cLZ2 := LZ.cell 2 rfl
      have cLZ3 := LZ.cell 3 rfl
      have fz := LZ.frozen
      clear LZ
      go_wp2
      refine bodyPost_ret (v := .tuple #[bv m v s (.slice aoT xs.length koT), .bool true]) (by simp [results, Tryz.results66, go_sem, cLZ0, cLZ1, cLZ2, cLZ3]) rfl ?_
      refine ⟨.slice aoT xs.length koT, ?_⟩
      exact ⟨rfl, (oT.kp K5 (fun k hk => by have := toT k hk; omega)).mono (by omega), Below.kp Bw5 K5 Bw5.size (fun k hk => by omega)⟩
    · have hb : bnewB n f v s xs view ts = false := by rw [unhide HB]; simp [hv]
      have hn : (vw != view) = true := by simp [hv]
      clear hv
      have K5 := kp4 w5 (w.heap.size + 1 + 1) (.string ⟨#[]⟩) (.int .i64 0) (.string ⟨#[]⟩) (.slice none 0 0)
      have cLZ0 := LZ.cell 0 rfl
      have cLZ1 := LZ.cell 1 rfl
      have cLZ2 := LZ.cell 2 rfl
      have cLZ3 := LZ.cell 3 rfl
      have fz := LZ.frozen
      clear LZ
      go_wp2
      all_goals
        refine bodyPost_ret (v := .tuple #[bv ⟨#[]⟩ 0 ⟨#[]⟩ (.slice none 0 0), .bool false]) (by simp [results, Tryz.results66, go_sem, cLZ0, cLZ1, cLZ2, cLZ3]) rfl ?_
        refine ⟨.slice none 0 0, ?_⟩
        exact ⟨rfl, World.ownsRow_nil _ _ _ _, Below.kp Bw5 K5 Bw5.size (fun k hk => by omega)⟩
end Go.Proofs.YtgfboghieejbkaaGreatDoor
namespace Go.Proofs.YtgfboghieejbkaaGreatDoor
open Go.RowKit
set_option linter.unusedSectionVars false
variable [∀ (a b c d : Int), Decidable (Ok4 a b c d)]
variable [∀ (a b c d : Nat), Decidable (okN a b c d)]
variable [∀ (x : T4), Decidable (OkT x)]
variable [∀ (n f : Int), Decidable (COk n f)]

abbrev zc : Obj := .cells #[.int .i64 0, .int .i64 0] 32
end Go.Proofs.YtgfboghieejbkaaGreatDoor
namespace Go.Proofs.YtgfboghieejbkaaGreatDoor
open Go.RowKit
set_option linter.unusedSectionVars false
variable [∀ (a b c d : Int), Decidable (Ok4 a b c d)]
variable [∀ (a b c d : Nat), Decidable (okN a b c d)]
variable [∀ (x : T4), Decidable (OkT x)]
variable [∀ (n f : Int), Decidable (COk n f)]
variable [∀ (last : Int) (s : St), Decidable (GoodSt last s)]

theorem PI.kept {w w' : World} {ao : Option Addr} {n ca : Nat} {xs : List Int} {row : Option Nat} (h : PI w (.slice ao n ca) xs) (hg : w.grownBy w' row) (hr : ∀ j, row = some j → (Value.slice ao n ca).ownBlock = some j → False) : PI w' (.slice ao n ca) xs := by
  obtain ⟨a, c, e, h⟩ := h
  refine ⟨a, c, e, ?_⟩
  rcases h with h | ⟨ad, rfl, h⟩
  · exact .inl h
  · refine .inr ⟨ad, rfl, fun j u hj => ?_⟩
    have hc := h j u hj
    cases e
    have hb : (ad.add j).block = ad.block := by unfold Addr.add; split <;> rfl
    exact (kp_grown hg).cell hc (fun e => hr _ e (by simp [Value.ownBlock, hb]))
theorem cell_one (w : World) (x : Int) (t : TypeId) : ∀ j u, ([x].map (Value.int .i64))[j]? = some u → (w.alloc (.cells #[.int .i64 x] t)).cell? ((⟨w.heap.size, 0, none⟩ : Addr).add j) = some u := by
  intro j u hj
  match j, hj with
  | 0, hj => simp at hj; subst hj; exact (loc_at w #[.int .i64 x] t rfl).cell 0 rfl
  | j + 1, hj => simp at hj
end Go.Proofs.YtgfboghieejbkaaGreatDoor
