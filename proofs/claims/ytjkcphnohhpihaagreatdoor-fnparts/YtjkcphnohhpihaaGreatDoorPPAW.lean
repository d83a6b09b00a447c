/- Lemmas; their conditions stand in each statement. -/
import Derived.Test.YtjkcphnohhpihaaGreatDoorPPAV
import Derived.RangeFuncNested
import Derived.RangeFuncBound
set_option maxRecDepth 100000
set_option maxHeartbeats 2000000
set_option linter.unusedSectionVars false
namespace Go.Proofs.YtjkcphnohhpihaaGreatDoor
section
open Go.RowKit
variable [∀ (a b c d : Int), Decidable (Ok4 a b c d)]
variable [∀ (a b c d : Nat), Decidable (okN a b c d)]
variable [∀ (last : Int) (s : St), Decidable (GoodSt last s)]
variable [∀ (x : T4), Decidable (OkT x)]
def pc : List UInt8 → List UInt8
 | [] => []
 | c :: t => c :: t.takeWhile (· != 47)
def rs : List UInt8 → List UInt8
 | [] => []
 | _ :: t => t.dropWhile (· != 47)
theorem pc_rs (r : List UInt8) : pc r ++ rs r = r := by
 cases r with
 | nil => rfl
 | cons c t => simp [pc, rs, List.takeWhile_append_dropWhile]
theorem rs_lt {r : List UInt8} (h : r ≠ []) : (rs r).length < r.length := by
 cases r with
 | nil => exact absurd rfl h
 | cons c t =>
  have:=congrArg List.length (List.takeWhile_append_dropWhile (p:=(· != (47 : UInt8))) (l:=t))
  rw [List.length_append] at this
  simp only [rs, List.length_cons]; omega
theorem rs_head (r : List UInt8) : rs r = [] ∨ ∃ q, rs r = 47 :: q := by
 cases r with
 | nil => exact .inl rfl
 | cons c t =>
  show t.dropWhile _ = [] ∨ ∃ q, t.dropWhile _ = 47 :: q
  cases h : t.dropWhile (· != (47 : UInt8)) with
  | nil => exact .inl rfl
  | cons x q =>
   have hx:=List.head_dropWhile_not (p:=(· != (47 : UInt8))) (l:=t) (by rw [h]; simp)
   simp only [h, List.head_cons] at hx
   exact .inr ⟨q, by rw [show x = 47 by simpa using hx]⟩
def rsN (l : List UInt8) : Nat → List UInt8
 | 0 => l
 | k + 1 => rs (rsN l k)
theorem rsN_le (l : List UInt8) (k : Nat) : (rsN l k).length ≤ l.length := by
 induction k with
 | zero => exact Nat.le_refl _
 | succ k ih =>
  by_cases h : rsN l k = []
  ·show (rs (rsN l k)).length ≤ _; rw [h]; exact Nat.zero_le _
  have:=rs_lt h; show (rs (rsN l k)).length ≤ _; omega
theorem rounds (l : List UInt8) : ∃ m, rsN l m = [] ∧ ∀ k, k < m → rsN l k ≠ [] := by
 have key : ∀ n k, (rsN l k).length ≤ n → (∀ j, j < k → rsN l j ≠ []) → ∃ m, rsN l m = [] ∧ ∀ k, k < m → rsN l k ≠ []:=by
  intro n
  induction n with
  | zero => exact fun k h hk => ⟨k, List.length_eq_zero_iff.1 (Nat.le_zero.1 h), hk⟩
  | succ n ih =>
   intro k h hk
   by_cases e : rsN l k = []
   ·exact ⟨k, e, hk⟩
   have:=rs_lt e
   exact ih (k + 1) (by show (rs (rsN l k)).length ≤ n; omega) fun j hj => by
    by_cases e2 : j = k
    ·subst e2; exact e
    exact hk j (by omega)
 exact key _ 0 (Nat.le_refl _) fun j hj => by omega
def stepP (p : List UInt8) : Option St := if p.head? = some 47 then stepOf (toB p.tail) else none
def lastV (ss : List St) : Int := (ss.getLast?.map (·.1)).getD 0
theorem lastV_snoc (ss : List St) (x : St) : lastV (ss ++ [x]) = x.1 := by simp [lastV]
theorem lastV_ge {ss : List St} (h : OkSts ss) : 0 ≤ lastV ss ∧ lastV ss ≤ 60 := by
 unfold lastV
 cases e : ss.getLast? with
 | none => simp
 | some x =>
  have:=(h.2.1 x (List.mem_of_getLast? e)).1
  simp; omega
theorem views_le {ss : List St} (h : OkSts ss) : ∀ s ∈ ss, s.1 ≤ lastV ss := by
 intro s hs
 obtain ⟨ss', x, rfl⟩ : ∃ ss' x, ss = ss' ++ [x]:=⟨ss.dropLast, ss.getLast (List.ne_nil_of_mem hs), (List.dropLast_concat_getLast _).symm⟩
 rw [lastV_snoc]
 rcases List.mem_append.1 hs with h1 | h1
 ·have:=(List.pairwise_append.1 h.2.2).2.2 s h1 x (by simp)
  omega
 simp at h1; subst h1; exact Int.le_refl _
theorem piece_on {l r : List UInt8} {ss : List St} {x : St} (h : l = nm ss ++ r) (hk : OkSts ss) (hx : stepP (pc r) = some x) (hg : GoodSt (lastV ss) x) (hl : ss.length < 30) : l = nm (ss ++ [x]) ++ rs r ∧ OkSts (ss ++ [x]) := by
 unfold stepP at hx
 split at hx
 ·rename_i hh
  obtain ⟨h1, h2, h3⟩:=stepOf_some hx
  rw [toB_list] at h1
  have hp : pc r = 47 :: stText x:=by
   rw [← h1]
   cases hpc : pc r with
   | nil => rw [hpc] at hh; simp at hh
   | cons c t => rw [hpc] at hh; simp at hh; rw [hh]; rfl
  obtain ⟨g1, g2, g3⟩:=hg
  have hz:=lastV_ge hk
  have hx : OkSt x:=⟨⟨by omega, g2⟩, g3, h3⟩
  refine ⟨?_, by simp; omega, fun s hs => ?_, ?_⟩
  ·rw [nm_snoc, ← hp, List.append_assoc, pc_rs]; exact h
  ·rcases List.mem_append.1 hs with h4 | h4
   ·exact hk.2.1 s h4
   simp at h4; subst h4; exact hx
  refine List.pairwise_append.2 ⟨hk.2.2, by simp, fun s hs t ht => ?_⟩
  simp at ht; subst ht
  have:=views_le hk s hs
  omega
 cases hx
theorem nm_head : ∀ ss : List St, nm ss = [] ∨ ∃ q, nm ss = 47 :: q := fun ss => by
 cases ss with
 | nil => exact .inl rfl
 | cons s ss => exact .inr ⟨_, rfl⟩
theorem piece_no {s : ByteArray} {r : List UInt8} {ss : List St} (h : s.data.toList = nm ss ++ r) (hr : r ≠ []) (hk : OkSts ss) (hh : ss = [] ∨ ∃ q, r = 47 :: q)
 (hn : ∀ x, stepP (pc r) = some x → GoodSt (lastV ss) x → ss.length < 30 → False) : stepsAns s = none := by
 cases hs : stepsAns s with
 | none => rfl
 | some tt =>
  exfalso
  obtain ⟨h1, h2⟩:=(names_iff _ _).1 hs
  have hpre : ss <+: tt:=by
   rcases hh with rfl | hh
   ·exact List.nil_prefix
   exact nm_pre ss tt hk.2.1 h2.2.1 r (h1.symm.trans h) (.inr hh)
  obtain ⟨uu, rfl⟩:=hpre
  rw [h, nm_append] at h1
  have h1:=List.append_cancel_left h1
  cases uu with
  | nil => exact hr h1
  | cons x uu =>
   have hx : OkSt x:=h2.2.1 x (by simp)
   have e1 : r = 47 :: (stText x ++ nm uu):=by rw [h1]; simp [nm]
   have hc : ∀ y ∈ stText x, (y != (47 : UInt8)) = true:=fun y hy => by
    have:=stText_clean x
    simp; intro e; subst e; exact this hy
   have e2 : pc r = 47 :: stText x:=by
    rw [e1]
    show 47 :: (stText x ++ nm uu).takeWhile _ = _
    rw [List.takeWhile_append_of_pos hc]
    rcases nm_head uu with e | ⟨q, e⟩
    ·rw [e]; simp
    rw [e]; simp
   refine hn x ?_ ?_ ?_
   ·unfold stepP
    rw [e2]
    refine (if_pos rfl).trans ?_
    exact stepOf_text hx (toB_list _)
   ·have hv : lastV ss < x.1:=by
     unfold lastV
     cases e : ss.getLast? with
     | none => have := hx.1; simp; omega
     | some y =>
      have:=(List.pairwise_append.1 h2.2.2).2.2 y (List.mem_of_getLast? e) x (by simp)
      simpa using this
    exact ⟨hv, hx.1.2, hx.2.1⟩
   have:=h2.1; simp at this; omega
theorem piece_end {s : ByteArray} {ss : List St} (h : s.data.toList = nm ss ++ []) (hk : OkSts ss) : stepsAns s = some ss := (names_iff _ _).2 ⟨by simpa using h, hk⟩
theorem ib_cases (m : UInt8) (l : List UInt8) : (m ∉ l ∧ Lib.indexByte l m = -1) ∨ (m ∈ l ∧ Lib.indexByte l m = ((l.takeWhile (· != m)).length : Int)) := by
 induction l with
 | nil => exact .inl ⟨by simp, rfl⟩
 | cons b l ih =>
  unfold Lib.indexByte
  by_cases h : b = m
  ·subst h; exact .inr ⟨by simp, by simp⟩
  have hb : (b == m) = false:=by simpa using h
  have hn : (b != m) = true:=by simpa using h
  rw [if_neg (by simpa using h)]
  rcases ih with ⟨h1, h2⟩ | ⟨h1, h2⟩
  ·rw [h2]; exact .inl ⟨by simp [h1, Ne.symm h], rfl⟩
  rw [h2, if_neg (by simp)]
  refine .inr ⟨by simp [h1], ?_⟩
  rw [List.takeWhile_cons, if_pos hn]; simp

theorem lite_index (m : UInt8) (s : ByteArray) (w : World) :
 Calls Tryz.prog 161 #[.string s,.string ⟨#[m]⟩] w fun e w' => e = .returned (.int .i64 (Lib.indexByte s.data.toList m)) ∧ w' = w := by
 have IB:=hide fun w => Tryz.stringslite_IndexByte s (m.toNat : Int) w
 have e1 : ((m.toNat : Nat) : Int).toNat.toUInt8 = m:=by simp
 rw [e1] at IB
 have hz : (⟨#[m]⟩ : ByteArray).size = 1:=rfl
 have hi : (⟨#[m]⟩ : ByteArray)[0]'(by rw [hz]; omega) = m:=rfl
 have hne : ([m] == s.toList) = true → Lib.indexByte s.data.toList m = 0:=fun h => by
  have h1 : s.toList = [m]:=(by simpa using h : [m] = s.toList).symm
  rw [ByteArray.toList_eq] at h1
  rw [h1]; simp [Lib.indexByte]
 cases hb : ([m] == s.toList) with
 | true =>
  rw [hne hb]
  clear IB hne
  go_enter Tryz.func161, Tryz.ntmps161
  go_wp2
  go_ret
  exact ⟨rfl, rfl⟩
 | false =>
  clear hne
  generalize Lib.indexByte s.data.toList m = r at *
  go_enter Tryz.func161, Tryz.ntmps161
  go_wp2_with (first | (go_at_call 170; refine (IB.out _).mono ?_; rintro e w' ⟨rfl, rfl⟩))
  go_ret
  exact ⟨rfl, rfl⟩
theorem index_mark (m : UInt8) (s : ByteArray) (w : World) :
 Calls Tryz.prog 151 #[.string s,.string ⟨#[m]⟩] w fun e w' => e = .returned (.int .i64 (Lib.indexByte s.data.toList m)) ∧ w' = w := by
 have IB:=hide fun w => lite_index m s w
 generalize Lib.indexByte s.data.toList m = r at *
 generalize (⟨#[m]⟩ : ByteArray) = q at *
 go_enter Tryz.func151, Tryz.ntmps151
 go_wp2_with (first | (go_at_call 161; refine (IB.out _).mono ?_; rintro e w' ⟨rfl, rfl⟩))
 go_ret
 exact ⟨rfl, rfl⟩
def cutA (m : UInt8) (s : ByteArray) : ByteArray × ByteArray := if m ∈ s.data.toList then (toB (hd m s.data.toList), toB (tl m s.data.toList)) else (s, ⟨#[]⟩)
theorem cutA_size (m : UInt8) (s : ByteArray) : (cutA m s).1.size ≤ s.size ∧ (cutA m s).2.size ≤ s.size := by
 unfold cutA
 split
 ·have h:=congrArg List.length (List.takeWhile_append_dropWhile (p:=(· != m)) (l:=s.data.toList))
  rw [List.length_append] at h
  have h2 : s.data.toList.length = s.size:=by simp
  simp only [toB_size, hd, tl, List.length_tail]
  omega
 exact ⟨Nat.le_refl _, Nat.zero_le _⟩
theorem cut_ext {m : UInt8} {s : ByteArray} (h : m ∈ s.data.toList) : ∃ k : Nat, k < s.size ∧ (s.data.toList.takeWhile (· != m)).length = k ∧ s.extract 0 k = (cutA m s).1 ∧ s.extract (k + 1) s.size = (cutA m s).2 := by
 have h1:=List.takeWhile_append_dropWhile (p:=(· != m)) (l:=s.data.toList)
 have h3:=congrArg List.length h1
 rw [List.length_append] at h3
 have h2 : s.data.toList.length = s.size:=by simp
 have h4 : s.data.toList.dropWhile (· != m) ≠ []:=fun e => by
  rw [e, List.append_nil] at h1
  have:=(List.all_takeWhile (p:=(· != m)) (l:=s.data.toList))
  rw [h1] at this
  have:=List.all_eq_true.1 this m h
  simp at this
 have h5 : 0 < (s.data.toList.dropWhile (· != m)).length:=List.length_pos_iff.2 h4
 have e1 : hd m s.data.toList = s.data.toList.takeWhile (· != m):=rfl
 have e2 : tl m s.data.toList = (s.data.toList.dropWhile (· != m)).tail:=rfl
 unfold cutA
 rw [if_pos h, e1, e2]
 generalize s.data.toList.takeWhile (· != m) = x at *
 generalize s.data.toList.dropWhile (· != m) = y at *
 refine ⟨_, by omega, rfl, ?_, ?_⟩
 ·rw [ext_toB, ← h1]; simp
 rw [rst_all, ← h1]; simp

theorem lite_cut (m : UInt8) (s : ByteArray) (w : World) (hs : s.size ≤ 33554432) :
 Calls Tryz.prog 163 #[.string s,.string ⟨#[m]⟩] w fun e w' => e = .returned (.tuple #[.string (cutA m s).1,.string (cutA m s).2,.bool (decide (m ∈ s.data.toList))]) ∧ Below w.heap.size w w' := by
 have IX:=hide fun w => lite_index m s w
 have hz : (⟨#[m]⟩ : ByteArray).size = 1:=rfl
 rcases ib_cases m s.data.toList with ⟨h1, h2⟩ | ⟨h1, h2⟩
 ·rw [h2] at IX
  have e1 : cutA m s = (s, ⟨#[]⟩):=if_neg h1
  rw [e1, decide_eq_false h1]
  clear h1 h2 e1
  generalize (⟨#[m]⟩ : ByteArray) = q at *
  go_enter Tryz.func163, Tryz.ntmps163
  go_wp2_with (first | (go_at_call 161; refine (IX.out _).mono ?_; rintro e w' ⟨rfl, rfl⟩))
  go_ret3
  exact ⟨rfl, Below.refl _ _⟩
 obtain ⟨k, hk, hkl, e1, e2⟩:=cut_ext h1
 rw [h2, hkl] at IX
 rw [← e1, ← e2, decide_eq_true h1]
 clear h1 h2 e1 e2 hkl
 have mixed : Tryz.prog.follows .mixedOrders = true:=by kernel_rfl
 generalize (⟨#[m]⟩ : ByteArray) = q at *
 go_enter Tryz.func163, Tryz.ntmps163
 go_wp2_with (first | (go_at_call 161; refine (IX.out _).mono ?_; rintro e w' ⟨rfl, rfl⟩))
 go_region_o
 go_wp2
 go_ret3
 exact ⟨rfl, (Below.refl _ _).drew⟩
theorem cut_mark (m : UInt8) (s : ByteArray) (w : World) (hs : s.size ≤ 33554432) :
 Calls Tryz.prog 153 #[.string s,.string ⟨#[m]⟩] w fun e w' => e = .returned (.tuple #[.string (cutA m s).1,.string (cutA m s).2,.bool (decide (m ∈ s.data.toList))]) ∧ Below w.heap.size w w' := by
 have IX:=hide fun w => lite_cut m s w hs
 generalize decide (m ∈ s.data.toList) = r at *
 generalize cutA m s = r at *
 generalize (⟨#[m]⟩ : ByteArray) = q at *
 go_enter Tryz.func153, Tryz.ntmps153
 go_wp2_with (first | (go_at_call 163; refine (IX.out _).mono ?_; rintro e w' ⟨rfl, bb⟩))
 go_ret3
 exact ⟨rfl, bb⟩
end
section
open Go Go.RowKit
theorem grown_of {w w' : World} (h : Below w.heap.size w w') : w.grownBy w' none := ⟨h.os, h.tape, h.output, h.size, fun k hk _ => h.block k hk⟩
def fedPost (B n₀ : Nat) (G X : World → Prop) (W : World) : Exit → Act → World → Prop
 | .normal, _, W' => KeepsFrom B W W' ∧ Below n₀ W W' ∧ G W'
 | .ret, _, W' => KeepsFrom B W W' ∧ X W'
 | _, _, _ => False
def Feeds (F : Fence) (n : Nat) (P : Program) (gf : Nat) (lb : Array Value) (n₀ m : Nat) (hand : Nat → Array Value → World → World → Prop) (w : World) : Prop :=
 ∀ (l : Nat) (J X : Nat → World → Prop) (W : World), Below w.heap.size w W → (∀ k A A', J k A → Below A.heap.size A A' → J k A') → (∀ k A A', X k A → Below A.heap.size A A' → X k A') →
  (∀ k vs U V, J k U → Below U.heap.size U V → k < m → hand k vs U V → YieldAt F (n - 1) P l vs V fun e V' => (e = .returned (.bool true) ∧ J (k + 1) V' ∧ Below n₀ V V') ∨ (e = .returned (.bool false) ∧ X k V')) →
  J 0 W → CallsIn F n P gf (#[.func (.yield l) #[] #[]] ++ lb) W fun e W' => (∃ v, e = .returned v) ∧ (J m W' ∨ ∃ k, k < m ∧ X k W')

variable {F : Fence} {n : Nat} {P : Program}
theorem range_fed {g : Operand} {ps : Array Tmp} {assign body : Code} {R : Exit → Act → World → Prop} {a : Act} {w : World}
 (hro : F.round = none) (h1 : 1 ≤ n) {gf : Nat} {lb : Array Value} (hg : a.eval g = .func (.func gf) #[] lb) (hFg : F.fn gf) (eg : ∀ args w, (callFunc gf args).run P w = .ok (.enter gf args) w)
 {n₀ m : Nat} {hand : Nat → Array Value → World → World → Prop} (hn₀ : n₀ ≤ w.heap.size) (hps : ∀ k vs U W, hand k vs U W → vs.size = ps.size) (hseq : Feeds F (n - 1) P gf lb n₀ m hand w)
 (I X : Nat → World → Prop) (hI : OwnFrom w.heap.size I) (hX : OwnFrom w.heap.size X) (h0 : I 0 w)
 (Ax : Nat → Act → World → Prop) (hAx : ∀ a', OwnFrom w.heap.size (fun k W => Ax k a' W))
 (hassign : ∀ (l k : Nat) (vs : Array Value) (U W : World) (K : Act → World → Prop), k < m → I k U → Below U.heap.size U W → hand k vs U W → (∀ a' W', KeepsFrom w.heap.size W W' → Below n₀ W W' → Ax k a' W' → K a' W') →
  assign.wpIn (F.inRound l) (n - 1 - 1) P (Exit.then K (fun _ _ _ => False)) { tmps := (ps.zip vs).foldl (fun t (p, v) => t.setIfInBounds p v) a.tmps, defers := [] } W)
 (hbody : ∀ (l k : Nat) (a' : Act) (W : World), k < m → Ax k a' W → body.wpIn (F.inRound l) (n - 1 - 1) P (fedPost w.heap.size n₀ (I (k + 1)) (X k) W) a' W)
 (hdone : ∀ (D : Nat) (W : World), w.heap.size ≤ D → I m W → W.heap[D]? = some (.deferred (some [])) → R .normal { a with defers := { target := .collected D, args := #[] } :: a.defers } W)
 (hstop : ∀ (D k : Nat) (W : World), w.heap.size ≤ D → k < m → X k W → W.heap[D]? = some (.deferred (some [])) → Code.ret.wpIn F n P R { a with defers := { target := .collected D, args := #[] } :: a.defers } W) :
 (Code.rangeFunc g ps assign body).wpIn F n P R a w := by
 refine wpIn_rangeFunc fun fn hfn => ?_
 rw [hro]
 -- the two blocks that the statement lays: where deferred calls are kept, and the loop's record
 let D := w.heap.size
 let L := w.heap.size + 1
 let book : LoopState → Option Code → Loop := fun st j => { state := st, pending := j, fn, tmps := a.tmps, params := ps, assign, body, defers := D }
 let W0 := (w.alloc (.deferred (some []))).alloc (.loop (book .ready none))
 have zW0 : W0.heap.size = w.heap.size + 2:=by simp [W0]
 have bW0 : Below w.heap.size w W0:=((Below.refl _ w).alloc (Nat.le_refl _) _).alloc (by simp) _
 have rec0 : W0.heap[L]? = some (.loop (book .ready none)):=by
  have:=World.alloc_heap_new (w.alloc (.deferred (some []))) (.loop (book .ready none))
  rwa [World.size_alloc] at this
 have def0 : W0.heap[D]? = some (.deferred (some [])):=(Below.heap_alloc _ _ _ (by simp [D])).trans (World.alloc_heap_new w _)
 have iW0 : I 0 W0:=hI.alloc _ (hI.alloc _ h0)
 refine ⟨L, [{ target := .collected D, args := #[] }], W0, { target := .fn (.func gf) lb, args := #[.func (.yield L) #[] #[]] }, W0, gf, #[.func (.yield L) #[] #[]] ++ lb, W0, run_enterLoop_outer _ _ _ _ _, ?_, ?_, ?_, fun _ => h1, ?_⟩
 ·simp only [resolve, hg]
  simp [go_sem]
 ·intro f' hf'; simp [Target.leads] at hf'; subst hf'; exact hFg
 ·simp [invoke, go_sem, eg]
 -- what the caller keeps between rounds: its own word, and both blocks
 refine (hseq L (fun k W => I k W ∧ W.heap[L]? = some (.loop (book .ready none)) ∧ W.heap[D]? = some (.deferred (some []))) (fun k W => X k W ∧ W.heap[L]? = some (.loop (book .done (some .ret))) ∧ W.heap[D]? = some (.deferred (some [])))
  W0 bW0 (fun k A A' h hb => ?_) (fun k A A' h hb => ?_) ?_ ⟨iW0, rec0, def0⟩).mono ?_
 ·exact ⟨hI k A A' none h.1 (grown_of hb) (fun r e => by cases e), (hb.block L (Array.getElem?_eq_some_iff.1 h.2.1).1).trans h.2.1, (hb.block D (Array.getElem?_eq_some_iff.1 h.2.2).1).trans h.2.2⟩
 ·exact ⟨hX k A A' none h.1 (grown_of hb) (fun r e => by cases e), (hb.block L (Array.getElem?_eq_some_iff.1 h.2.1).1).trans h.2.1, (hb.block D (Array.getElem?_eq_some_iff.1 h.2.2).1).trans h.2.2⟩
 ·rintro k vs U V ⟨iU, recU, defU⟩ bU hk hh
  have recV:=(bU.block L (Array.getElem?_eq_some_iff.1 recU).1).trans recU
  have defV:=(bU.block D (Array.getElem?_eq_some_iff.1 defU).1).trans defU
  refine ⟨fn, _, assign, body, run_yield (P := P) (args := vs) recV (hps k vs U V hh), roundIn_of_wpIn hfn (hassign L k vs U V _ hk iU bU hh ?_)⟩
  intro a' A kA bA xA
  have recA:=kA.same L _ (by simp [L]) recV rfl
  have defA:=kA.same D _ (Nat.le_refl _) defV rfl
  have ltA:=(Array.getElem?_eq_some_iff.1 recA).1
  refine ⟨_, run_beginRound recA rfl, ?_⟩
  generalize hM : A.putObj L (.loop { book .ready none with state := .busy }) = M
  have recM : M.heap[L]? = some (.loop { book .ready none with state:=.busy }):=hM ▸ World.putObj_heap_same ltA
  have defM : M.heap[D]? = some (.deferred (some [])):=hM ▸ (World.putObj_heap_other (by simp [L, D])).trans defA
  have bM : Below n₀ A M:=hM ▸ belowK_b (w:=w) hn₀ A L _ _ (by simp [L]) recA rfl rfl
  have xM : Ax k a' M:=hM ▸ (hAx a').putObj _ xA (by simp [L]) recA rfl
  refine wpIn_mono (hbody L k a' M hk xM) ?_
  intro e a3 Z hZ
  cases e with
  | normal =>
   obtain ⟨kZ, bZ, iZ⟩:=hZ
   have recZ:=kZ.same L _ (by simp [L]) recM rfl
   have defZ:=kZ.same D _ (Nat.le_refl _) defM rfl
   refine ⟨_, _, run_endRound (P := P) none recZ, .inl ⟨rfl, ⟨hI.putObj _ iZ (by simp [L]) recZ rfl, World.putObj_heap_same (Array.getElem?_eq_some_iff.1 recZ).1, (World.putObj_heap_other (by simp [L, D])).trans defZ⟩, ?_⟩⟩
   exact bA.trans (bM.trans (bZ.trans (belowK_b (w := w) hn₀ Z L _ _ (by simp [L]) recZ rfl rfl)))
  | ret =>
   obtain ⟨kZ, iZ⟩:=hZ
   have recZ:=kZ.same L _ (by simp [L]) recM rfl
   have defZ:=kZ.same D _ (Nat.le_refl _) defM rfl
   exact ⟨_, _, run_endRound (P := P) (some .ret) recZ, .inr ⟨rfl, hX.putObj _ iZ (by simp [L]) recZ rfl, World.putObj_heap_same (Array.getElem?_eq_some_iff.1 recZ).1, (World.putObj_heap_other (by simp [L, D])).trans defZ⟩⟩
  | exit id => exact hZ.elim
  | goto t => exact hZ.elim
  | panic c => exact hZ.elim
  | outgrown => exact hZ.elim
 rintro e Z ⟨⟨v, rfl⟩, (⟨iZ, recZ, defZ⟩ | ⟨k, hk, iZ, recZ, defZ⟩)⟩
 ·exact ⟨none, _, run_endLoop (P := P) recZ (by simp [book]), hdone D _ (Nat.le_refl _) (hI.putObj _ iZ (by simp [L]) recZ rfl) ((World.putObj_heap_other (by simp [L, D])).trans defZ)⟩
 exact ⟨some .ret, _, run_endLoop (P := P) recZ (by simp [book]), hstop D k _ (Nat.le_refl _) hk (hX.putObj _ iZ (by simp [L]) recZ rfl) ((World.putObj_heap_other (by simp [L, D])).trans defZ)⟩
end
section
open Go.RowKit
variable [∀ (a b c d : Int), Decidable (Ok4 a b c d)]
variable [∀ (a b c d : Nat), Decidable (okN a b c d)]
variable [∀ (last : Int) (s : St), Decidable (GoodSt last s)]
variable [∀ (x : T4), Decidable (OkT x)]
theorem toB_self (s : ByteArray) : toB s.data.toList = s := ba_ext (toB_list _)
theorem tw_take (p : UInt8 → Bool) (t : List UInt8) : t.take (t.takeWhile p).length = t.takeWhile p ∧ t.drop (t.takeWhile p).length = t.dropWhile p := by
 have h:=List.takeWhile_append_dropWhile (p:=p) (l:=t)
 generalize t.takeWhile p = x at *
 generalize t.dropWhile p = y at *
 rw [← h]; simp
theorem tw_all (p : UInt8 → Bool) (t : List UInt8) (h : ∀ y ∈ t, p y = true) : t.takeWhile p = t := by
 induction t with
 | nil => rfl
 | cons c t ih => rw [List.takeWhile_cons, if_pos (h c (by simp)), ih fun y hy => h y (by simp [hy])]
theorem cut_step {s : ByteArray} (h : s.data.toList ≠ []) (h2 : (47 : UInt8) ∈ (s.extract 1 s.size).data.toList) : ∃ k : Nat, k + 1 < s.size ∧ ((s.extract 1 s.size).data.toList.takeWhile (· != 47)).length = k ∧ s.extract 0 (k + 1) = toB (pc s.data.toList) ∧ s.extract (k + 1) s.size = toB (rs s.data.toList) := by
 have hl : s.data.toList.length = s.size:=by simp
 rw [rst_all, toB_list] at h2 ⊢
 generalize hll : s.data.toList = l at *
 cases l with
 | nil => exact absurd rfl h
 | cons c t =>
  simp only [List.drop_succ_cons, List.drop_zero] at h2 ⊢
  have h1:=List.takeWhile_append_dropWhile (p:=(· != (47 : UInt8))) (l:=t)
  have h3:=congrArg List.length h1
  rw [List.length_append] at h3
  have h4 : t.dropWhile (· != 47) ≠ []:=fun e => by
   rw [e, List.append_nil] at h1
   have:=(List.all_takeWhile (p:=(· != (47 : UInt8))) (l:=t))
   rw [h1] at this
   have:=List.all_eq_true.1 this 47 h2
   simp at this
  have h5 : 0 < (t.dropWhile (· != 47)).length:=List.length_pos_iff.2 h4
  simp only [List.length_cons] at hl
  refine ⟨_, by omega, rfl, ?_, ?_⟩
  ·rw [ext_toB, hll]
   congr 1
   simp only [pc, Nat.sub_zero, List.drop_zero, List.take_succ_cons]
   rw [(tw_take _ t).1]
  rw [rst_all, hll]
  congr 1
  simp only [rs, List.drop_succ_cons]
  exact (tw_take _ t).2

theorem cutStep_any (s : ByteArray) (w : World) (hs : s.size ≤ 33554432) (hne : s.data.toList ≠ []) :
 Calls Tryz.prog 138 #[.string s] w fun e w' => e = .returned (.tuple #[.string (toB (pc s.data.toList)),.string (toB (rs s.data.toList))]) ∧ Below w.heap.size w w' := by
 have IX:=hide fun w => index_mark 47 (s.extract 1 s.size) w
 have h1 : 1 ≤ s.size:=by
  have hl : s.data.toList.length = s.size:=by simp
  have:=List.length_pos_iff.2 hne
  omega
 rcases ib_cases 47 (s.extract 1 s.size).data.toList with ⟨h2, h3⟩ | ⟨h2, h3⟩
 ·rw [h3] at IX
  have e1 : toB (pc s.data.toList) = s ∧ rs s.data.toList = []:=by
   rw [rst_all, toB_list] at h2
   generalize hll : s.data.toList = l at *
   cases l with
   | nil => exact absurd rfl hne
   | cons c t =>
    simp only [List.drop_succ_cons, List.drop_zero] at h2
    have hw : ∀ y ∈ t, (y != (47 : UInt8)) = true:=fun y hy => by simp; intro e; subst e; exact h2 hy
    have ew : t.takeWhile (· != 47) = t:=tw_all _ t hw
    refine ⟨?_, ?_⟩
    ·show toB (c :: t.takeWhile _) = s
     rw [ew, ← hll, toB_self]
    show t.dropWhile _ = []
    have:=List.takeWhile_append_dropWhile (p:=(· != (47 : UInt8))) (l:=t)
    rw [ew] at this
    simpa using this
  rw [e1.1, e1.2]
  clear h2 h3 e1 hne
  go_enter Tryz.func138, Tryz.ntmps138
  go_wp2_with (first | (go_at_call 151; refine (IX.out _).mono ?_; rintro e w' ⟨rfl, rfl⟩))
  go_ret2
  exact ⟨rfl, Below.refl _ _⟩
 obtain ⟨k, hk, hkl, e1, e2⟩:=cut_step hne h2
 rw [h3, hkl] at IX
 rw [← e1, ← e2]
 clear h2 h3 e1 e2 hne hkl
 have mixed : Tryz.prog.follows .mixedOrders = true:=by kernel_rfl
 go_enter Tryz.func138, Tryz.ntmps138
 go_wp2_with (first | (go_at_call 151; refine (IX.out _).mono ?_; rintro e w' ⟨rfl, rfl⟩))
 go_region_o
 go_wp2
 go_ret2
 exact ⟨rfl, (Below.refl _ _).drew⟩
theorem stepP_cut (l : List UInt8) : stepP l = if Lib.hasPrefix l [47] = true ∧ decide ((124 : UInt8) ∈ Lib.trimPrefix l [47]) = true ∧ (numOf (cutA 124 (toB (Lib.trimPrefix l [47]))).1.data.toList).isSome = true ∧ (txsAns (cutA 124 (toB (Lib.trimPrefix l [47]))).2).isSome = true
 then some (nans (numOf (cutA 124 (toB (Lib.trimPrefix l [47]))).1.data.toList), (txsAns (cutA 124 (toB (Lib.trimPrefix l [47]))).2).getD []) else none := by
 unfold stepP
 cases l with
 | nil => rfl
 | cons c t =>
  by_cases hc : c = 47
  ·subst hc
   have h1 : Lib.hasPrefix (47 :: t) [47] = true:=by simp [Lib.hasPrefix]
   have h2 : Lib.trimPrefix (47 :: t) [47] = t:=by simp [Lib.trimPrefix, h1]
   rw [h1, h2]
   refine (if_pos rfl).trans ?_
   show stepOf (toB t) = _
   unfold stepOf cutA
   rw [toB_list]
   by_cases hm : (124 : UInt8) ∈ t
   ·rw [if_pos hm, if_pos hm, decide_eq_true hm]
    simp only [toB_list]
    cases hn : numOf (hd 124 t) with
    | none => simp
    | some n =>
     cases ht : txsAns (toB (tl 124 t)) with
     | none => simp
     | some ts => simp [nans]
   rw [if_neg hm, decide_eq_false hm]; simp
  have h1 : Lib.hasPrefix (c :: t) [47] = false:=by
   show ((47 == c) && _) = false
   rw [show ((47 : UInt8) == c) = false from by simpa using Ne.symm hc]; rfl
  rw [if_neg (by simp; exact hc), if_neg (by rw [h1]; simp)]
theorem row_lower2 {w : World} {B B' : Nat} {v : Value} {xs : List T4} (h : OT w B v xs) (hb : B' ≤ B) : OT w B' v xs := by
 refine ⟨h.1, ?_⟩
 rcases h.2 with h | ⟨g, cap, cur, h1, h2, h3⟩
 ·exact .inl h
 exact .inr ⟨g, cap, cur, h1, by omega, h3⟩
def Two (w : World) (g : Nat) (n : Int) (v : Value) : Prop := w.cell? ⟨g, 0, none⟩ = some (.int .i64 n) ∧ w.cell? ⟨g, 1, none⟩ = some v
theorem two_new (w : World) (n : Int) (v : Value) (t : TypeId) : Two (w.alloc (.cells #[.int .i64 n, v] t)) w.heap.size n v := by
 refine ⟨?_, ?_⟩ <;> simp
theorem Two.below {w w' : World} {g B : Nat} {n : Int} {v : Value} (h : Two w g n v) (hb : Below B w w') (hg : g < B) : Two w' g n v :=
 ⟨(hb.cell (p := ⟨g, 0, none⟩) hg).trans h.1, (hb.cell (p := ⟨g, 1, none⟩) hg).trans h.2⟩
theorem grown_put (W : World) (a : Addr) (v : Value) : W.grownBy (W.setCell a v) (some a.block) :=
 ⟨rfl, rfl, rfl, (KeepsWalks.setCell W a v).size, fun k _ hk => Below.heap_setCell _ _ _ k (fun e => hk (by rw [e]))⟩
theorem ot_set {W : World} {B : Nat} {v : Value} {xs : List T4} (h : OT W B v xs) (a : Addr) (u : Value) (ha : a.block < B) : OT (W.setCell a u) B v xs := by
 refine World.ownsRow.kept h (grown_put W a u) ?_
 cases hv : v.ownBlock with
 | none => exact .inl rfl
 | some b =>
  refine .inr fun e => ?_
  have:=(World.ownsRow.lt h b hv).1
  have e2 : b = a.block:=by simpa using e
  omega
abbrev stepV (o : Option St) (v : Value) : Value := .agg #[.int .i64 ((o.map (·.1)).getD 0), v]
abbrev stepT (o : Option St) : List T4 := (o.map (·.2)).getD []

theorem stepOf_any (s : ByteArray) (w : World) (hs : s.size ≤ 33554432) (hE : Env w) :
 Calls Tryz.prog 139 #[.string s] w fun e w' => ∃ v, e = .returned (.tuple #[stepV (stepP s.data.toList) v,.bool (stepP s.data.toList).isSome]) ∧ OT w' w.heap.size v (stepT (stepP s.data.toList)) ∧ Below w.heap.size w w' := by
 have CP:=hide fun w => Tryz.strings_CutPrefix s ⟨#[47]⟩ w
 have HO:=hide (stepP_cut s.data.toList)
 have hz : (Lib.trimPrefix s.data.toList [47]).length ≤ s.size:=by
  have hl : s.data.toList.length = s.size:=by simp
  unfold Lib.trimPrefix
  split <;> simp
 have e1 : (⟨#[47]⟩ : ByteArray).data.toList = [47]:=rfl
 rw [e1] at CP
 have e2 : (⟨(Lib.trimPrefix s.data.toList [47]).toArray⟩ : ByteArray) = toB (Lib.trimPrefix s.data.toList [47]):=rfl
 rw [e2] at CP
 obtain ⟨mk, hmk⟩ : ∃ b, Lib.hasPrefix s.data.toList [47] = b:=⟨_, rfl⟩
 obtain ⟨tp, htp⟩ : ∃ b, Lib.trimPrefix s.data.toList [47] = b:=⟨_, rfl⟩
 rw [hmk] at CP HO
 rw [htp] at CP HO hz
 obtain ⟨tx, htx⟩ : ∃ b, toB tp = b:=⟨_, rfl⟩
 have hts : tx.size ≤ 33554432:=by rw [← htx, toB_size]; omega
 have e3 : tx.data.toList = tp:=by rw [← htx, toB_list]
 have CT:=hide fun w => cut_mark 124 tx w hts
 rw [htx] at CP HO
 rw [e3] at CT
 have hc:=cutA_size 124 tx
 obtain ⟨pt, hpt⟩ : ∃ b, decide ((124 : UInt8) ∈ tp) = b:=⟨_, rfl⟩
 rw [hpt] at CT HO
 obtain ⟨ca, hca⟩ : ∃ b, cutA 124 tx = b:=⟨_, rfl⟩
 rw [hca] at CT HO hc
 have NU:=hide fun w hE => number_any ca.1 (by omega) w hE
 have TX:=hide fun w hE => implTxsOf ca.2 w (by omega) hE
 obtain ⟨cn, hcn⟩ : ∃ x, numOf ca.1.data.toList = x:=⟨_, rfl⟩
 obtain ⟨ct, hct⟩ : ∃ x, txsAns ca.2 = x:=⟨_, rfl⟩
 rw [hcn] at NU HO
 rw [hct] at TX HO
 obtain ⟨o, ho⟩ : ∃ o, stepP s.data.toList = o:=⟨_, rfl⟩
 rw [ho] at HO ⊢
 obtain ⟨n, hn⟩ : ∃ n, nans cn = n:=⟨_, rfl⟩
 obtain ⟨bn, hbn⟩ : ∃ b, cn.isSome = b:=⟨_, rfl⟩
 obtain ⟨bt, hbt⟩ : ∃ b, ct.isSome = b:=⟨_, rfl⟩
 obtain ⟨ts, hts2⟩ : ∃ b, ct.getD [] = b:=⟨_, rfl⟩
 rw [hn] at NU HO
 rw [hbn] at NU HO
 rw [hbt] at TX HO
 rw [hts2] at TX HO
 have HE:=hide hE
 clear hE hmk htp htx hts e1 e2 e3 hc hpt hca hcn hct ho hn hbn hbt hts2 hz hs
 obtain ⟨c1, c2⟩:=ca
 go_enter Tryz.func139, Tryz.ntmps139
 go_wp2_with fail
 refine (CP.out _).mono ?_
 rintro _ w1 ⟨rfl, rfl⟩
 go_wp2_with fail
 refine (CT.out _).mono ?_
 rintro _ w2 ⟨rfl, b2⟩
 have b0 : Below w.heap.size w (w.alloc (.cells #[.int .i64 0,.slice none 0 0] 141)):=(Below.refl _ _).alloc (Nat.le_refl _) _
 have T0:=two_new w 0 (.slice none 0 0) 141
 have F0 : ∀ j, (w.alloc (.cells #[.int .i64 0,.slice none 0 0] 141)).frozen? ⟨w.heap.size, j, none⟩ = false:=fun j => by simp [go_sem]
 have z0 : (w.alloc (.cells #[.int .i64 0,.slice none 0 0] 141)).heap.size = w.heap.size + 1:=by simp
 generalize (w.alloc (.cells #[.int .i64 0,.slice none 0 0] 141)) = w0 at *
 have HE:=hide (HE.out.below b0)
 go_wp2_with fail
 refine (NU.out _ (HE.out.below b2)).mono ?_
 rintro _ w3 ⟨rfl, b3⟩
 have b23:=bu b2 b3
 go_wp2_with fail
 refine (TX.out _ (HE.out.below b23)).mono ?_
 rintro _ w4 ⟨vt, rfl, ot, b4⟩
 have b24:=bu b23 b4
 obtain ⟨ta, tc, rfl⟩ : ∃ ta tc, vt = .slice ta ts.length tc:=by
  rcases ot.2 with ⟨rfl, h0⟩ | ⟨g, cap, cur, rfl, _⟩
  ·exact ⟨none, 0, by rw [h0]⟩
  exact ⟨_, _, rfl⟩
 clear CP CT NU TX b3 b4
 have s23:=b23.size
 have OTT:=hide (row_lower2 (B':=w.heap.size + 1) ot (by omega))
 obtain ⟨t0, t1⟩:=T0.below b24 (by omega)
 have F4:=frozen_below b24 (by omega) F0
 have B4:=b0.trans (b24.mono (by omega))
 clear ot F0 T0 b24 b23 b0
 cases mk with
 | false =>
  have HO:=HO.out.trans (if_neg (by simp)); subst HO
  go_wp2
  refine bodyPost_ret (v := .tuple #[stepV none (.slice none 0 0),.bool false]) (by simp [results, Tryz.results139, go_sem, t0, t1]) rfl ?_
  exact ⟨_, rfl, World.ownsRow_nil _ _ _ _, (B4.setCell (Nat.le_refl _) _).setCell (Nat.le_refl _) _⟩
 | true =>
 cases pt with
 | false =>
  have HO:=HO.out.trans (if_neg (by simp)); subst HO
  go_wp2
  refine bodyPost_ret (v := .tuple #[stepV none (.slice none 0 0),.bool false]) (by simp [results, Tryz.results139, go_sem, t0, t1]) rfl ?_
  exact ⟨_, rfl, World.ownsRow_nil _ _ _ _, (B4.setCell (Nat.le_refl _) _).setCell (Nat.le_refl _) _⟩
 | true =>
 cases bn with
 | false =>
  have HO:=HO.out.trans (if_neg (by simp)); subst HO
  go_wp2
  refine bodyPost_ret (v := .tuple #[stepV none (.slice none 0 0),.bool false]) (by simp [results, Tryz.results139, go_sem, t0, t1]) rfl ?_
  exact ⟨_, rfl, World.ownsRow_nil _ _ _ _, (B4.setCell (Nat.le_refl _) _).setCell (Nat.le_refl _) _⟩
 | true =>
 cases bt with
 | false =>
  have HO:=HO.out.trans (if_neg (by simp)); subst HO
  go_wp2
  refine bodyPost_ret (v := .tuple #[stepV none (.slice none 0 0),.bool false]) (by simp [results, Tryz.results139, go_sem, t0, t1]) rfl ?_
  exact ⟨_, rfl, World.ownsRow_nil _ _ _ _, (B4.setCell (Nat.le_refl _) _).setCell (Nat.le_refl _) _⟩
 | true =>
  have HO:=HO.out.trans (if_pos (by simp)); subst HO
  go_wp2
  refine bodyPost_ret (v := .tuple #[stepV (some (n, ts)) (.slice ta ts.length tc),.bool true]) (by simp [results, Tryz.results139, go_sem, t0, t1]) rfl ?_
  exact ⟨_, rfl, row_lower2 (ot_set (ot_set OTT.out _ _ (by show w.heap.size < _; omega)) _ _ (by show w.heap.size < _; omega)) (by omega), (B4.setCell (Nat.le_refl _) _).setCell (Nat.le_refl _) _⟩
end
end Go.Proofs.YtjkcphnohhpihaaGreatDoor
