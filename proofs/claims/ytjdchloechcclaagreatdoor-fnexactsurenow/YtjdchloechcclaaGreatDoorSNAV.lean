/- Lemmas, as stated. -/
import Derived.RangeFuncNested
import Derived.RangeFuncBound
import Derived.Test.YtjdchloechcclaaGreatDoorSNAU
set_option maxRecDepth 100000
set_option maxHeartbeats 8000000
set_option linter.unusedSectionVars false
namespace Go.Proofs.YtjdchloechcclaaGreatDoor
section
open Go Go.RowKit
theorem grown_of {w w' : World} (h : Below w.heap.size w w') : w.grownBy w' none := ⟨h.os, h.tape, h.output, h.size, fun k hk _ => h.block k hk⟩
def fedPost (B n₀ : Nat) (G X : World → Prop) (W : World) : Exit → Act → World → Prop
 | .normal, _, W' => KeepsFrom B W W' ∧ Below n₀ W W' ∧ G W'
 | .ret, _, W' => KeepsFrom B W W' ∧ X W'
 | _, _, _ => False
def Feeds (F : Fence) (n : Nat) (P : Program) (gf : Nat) (lb : Array Value) (n₀ m : Nat) (hand : Nat → Array Value → World → World → Prop) (w : World) : Prop :=
 ∀ (l : Nat) (J X : Nat → World → Prop) (W : World), Below w.heap.size w W → (∀ k A A', J k A → Below A.heap.size A A' → J k A') → (∀ k A A', X k A → Below A.heap.size A A' → X k A') →
  (∀ k vs U V, J k U → Below U.heap.size U V → k < m → hand k vs U V → YieldAt F (n - 1) P l vs V fun e V' => (e = .returned (.bool true) ∧ J (k + 1) V' ∧ Below n₀ V V') ∨ (e = .returned (.bool false) ∧ X k V')) →
  J 0 W → CallsIn F n P gf (#[.func (.yield l) #[] #[]] ++ lb) W fun e W' => (∃ v, e = .returned v) ∧ (J m W' ∨ ∃ k, k < m ∧ X k W')

variable {F : Fence} {n : Nat} {P : Program}
theorem range_fed {g : Operand} {ps : Array Tmp} {assign body : Code} {R : Exit → Act → World → Prop} {a : Act} {w : World}
 (hro : F.round = none) (h1 : 1 ≤ n) {gf : Nat} {lb : Array Value} (hg : a.eval g = .func (.func gf) #[] lb) (hFg : F.fn gf) (eg : ∀ args w, (callFunc gf args).run P w = .ok (.enter gf args) w)
 {n₀ m : Nat} {hand : Nat → Array Value → World → World → Prop} (hn₀ : n₀ ≤ w.heap.size) (hps : ∀ k vs U W, hand k vs U W → vs.size = ps.size) (hseq : Feeds F (n - 1) P gf lb n₀ m hand w)
 (I X : Nat → World → Prop) (hI : OwnFrom w.heap.size I) (hX : OwnFrom w.heap.size X) (h0 : I 0 w)
 (Ax : Nat → Act → World → Prop) (hAx : ∀ a', OwnFrom w.heap.size (fun k W => Ax k a' W))
 (hassign : ∀ (l k : Nat) (vs : Array Value) (U W : World) (K : Act → World → Prop), k < m → I k U → Below U.heap.size U W → hand k vs U W → (∀ a' W', KeepsFrom w.heap.size W W' → Below n₀ W W' → Ax k a' W' → K a' W') →
  assign.wpIn (F.inRound l) (n - 1 - 1) P (Exit.then K (fun _ _ _ => False)) { tmps := (ps.zip vs).foldl (fun t (p, v) => t.setIfInBounds p v) a.tmps, defers := [] } W)
 (hbody : ∀ (l k : Nat) (a' : Act) (W : World), k < m → Ax k a' W → body.wpIn (F.inRound l) (n - 1 - 1) P (fedPost w.heap.size n₀ (I (k + 1)) (X k) W) a' W)
 (hdone : ∀ (D : Nat) (W : World), w.heap.size ≤ D → I m W → W.heap[D]? = some (.deferred (some [])) → R .normal { a with defers := { target := .collected D, args := #[] } :: a.defers } W)
 (hstop : ∀ (D k : Nat) (W : World), w.heap.size ≤ D → k < m → X k W → W.heap[D]? = some (.deferred (some [])) → Code.ret.wpIn F n P R { a with defers := { target := .collected D, args := #[] } :: a.defers } W) :
 (Code.rangeFunc g ps assign body).wpIn F n P R a w := by
 refine wpIn_rangeFunc fun fn hfn => ?_
 rw [hro]
 -- the two blocks that the statement lays: where deferred calls are kept, and the loop's record
 let D := w.heap.size
 let L := w.heap.size + 1
 let book : LoopState → Option Code → Loop := fun st j => { state := st, pending := j, fn, tmps := a.tmps, params := ps, assign, body, defers := D }
 let W0 := (w.alloc (.deferred (some []))).alloc (.loop (book .ready none))
 have zW0 : W0.heap.size = w.heap.size + 2:=by simp [W0]
 have bW0 : Below w.heap.size w W0:=((Below.refl _ w).alloc (Nat.le_refl _) _).alloc (by simp) _
 have rec0 : W0.heap[L]? = some (.loop (book .ready none)):=by
  have:=World.alloc_heap_new (w.alloc (.deferred (some []))) (.loop (book .ready none))
  rwa [World.size_alloc] at this
 have def0 : W0.heap[D]? = some (.deferred (some [])):=(Below.heap_alloc _ _ _ (by simp [D])).trans (World.alloc_heap_new w _)
 have iW0 : I 0 W0:=hI.alloc _ (hI.alloc _ h0)
 refine ⟨L, [{ target := .collected D, args := #[] }], W0, { target := .fn (.func gf) lb, args := #[.func (.yield L) #[] #[]] }, W0, gf, #[.func (.yield L) #[] #[]] ++ lb, W0, run_enterLoop_outer _ _ _ _ _, ?_, ?_, ?_, fun _ => h1, ?_⟩
 ·simp only [resolve, hg]
  simp [go_sem]
 ·intro f' hf'; simp [Target.leads] at hf'; subst hf'; exact hFg
 ·simp [invoke, go_sem, eg]
 -- what the caller keeps between rounds: its own word, and both blocks
 refine (hseq L (fun k W => I k W ∧ W.heap[L]? = some (.loop (book .ready none)) ∧ W.heap[D]? = some (.deferred (some []))) (fun k W => X k W ∧ W.heap[L]? = some (.loop (book .done (some .ret))) ∧ W.heap[D]? = some (.deferred (some [])))
  W0 bW0 (fun k A A' h hb => ?_) (fun k A A' h hb => ?_) ?_ ⟨iW0, rec0, def0⟩).mono ?_
 ·exact ⟨hI k A A' none h.1 (grown_of hb) (fun r e => by cases e), (hb.block L (Array.getElem?_eq_some_iff.1 h.2.1).1).trans h.2.1, (hb.block D (Array.getElem?_eq_some_iff.1 h.2.2).1).trans h.2.2⟩
 ·exact ⟨hX k A A' none h.1 (grown_of hb) (fun r e => by cases e), (hb.block L (Array.getElem?_eq_some_iff.1 h.2.1).1).trans h.2.1, (hb.block D (Array.getElem?_eq_some_iff.1 h.2.2).1).trans h.2.2⟩
 ·rintro k vs U V ⟨iU, recU, defU⟩ bU hk hh
  have recV:=(bU.block L (Array.getElem?_eq_some_iff.1 recU).1).trans recU
  have defV:=(bU.block D (Array.getElem?_eq_some_iff.1 defU).1).trans defU
  refine ⟨fn, _, assign, body, run_yield (P := P) (args := vs) recV (hps k vs U V hh), roundIn_of_wpIn hfn (hassign L k vs U V _ hk iU bU hh ?_)⟩
  intro a' A kA bA xA
  have recA:=kA.same L _ (by simp [L]) recV rfl
  have defA:=kA.same D _ (Nat.le_refl _) defV rfl
  have ltA:=(Array.getElem?_eq_some_iff.1 recA).1
  refine ⟨_, run_beginRound recA rfl, ?_⟩
  generalize hM : A.putObj L (.loop { book .ready none with state := .busy }) = M
  have recM : M.heap[L]? = some (.loop { book .ready none with state:=.busy }):=hM ▸ World.putObj_heap_same ltA
  have defM : M.heap[D]? = some (.deferred (some [])):=hM ▸ (World.putObj_heap_other (by simp [L, D])).trans defA
  have bM : Below n₀ A M:=hM ▸ belowK_b (w:=w) hn₀ A L _ _ (by simp [L]) recA rfl rfl
  have xM : Ax k a' M:=hM ▸ (hAx a').putObj _ xA (by simp [L]) recA rfl
  refine wpIn_mono (hbody L k a' M hk xM) ?_
  intro e a3 Z hZ
  cases e with
  | normal =>
   obtain ⟨kZ, bZ, iZ⟩:=hZ
   have recZ:=kZ.same L _ (by simp [L]) recM rfl
   have defZ:=kZ.same D _ (Nat.le_refl _) defM rfl
   refine ⟨_, _, run_endRound (P := P) none recZ, .inl ⟨rfl, ⟨hI.putObj _ iZ (by simp [L]) recZ rfl, World.putObj_heap_same (Array.getElem?_eq_some_iff.1 recZ).1, (World.putObj_heap_other (by simp [L, D])).trans defZ⟩, ?_⟩⟩
   exact bA.trans (bM.trans (bZ.trans (belowK_b (w := w) hn₀ Z L _ _ (by simp [L]) recZ rfl rfl)))
  | ret =>
   obtain ⟨kZ, iZ⟩:=hZ
   have recZ:=kZ.same L _ (by simp [L]) recM rfl
   have defZ:=kZ.same D _ (Nat.le_refl _) defM rfl
   exact ⟨_, _, run_endRound (P := P) (some .ret) recZ, .inr ⟨rfl, hX.putObj _ iZ (by simp [L]) recZ rfl, World.putObj_heap_same (Array.getElem?_eq_some_iff.1 recZ).1, (World.putObj_heap_other (by simp [L, D])).trans defZ⟩⟩
  | exit id => exact hZ.elim
  | goto t => exact hZ.elim
  | panic c => exact hZ.elim
  | outgrown => exact hZ.elim
 rintro e Z ⟨⟨v, rfl⟩, (⟨iZ, recZ, defZ⟩ | ⟨k, hk, iZ, recZ, defZ⟩)⟩
 ·exact ⟨none, _, run_endLoop (P := P) recZ (by simp [book]), hdone D _ (Nat.le_refl _) (hI.putObj _ iZ (by simp [L]) recZ rfl) ((World.putObj_heap_other (by simp [L, D])).trans defZ)⟩
 exact ⟨some .ret, _, run_endLoop (P := P) recZ (by simp [book]), hstop D k _ (Nat.le_refl _) hk (hX.putObj _ iZ (by simp [L]) recZ rfl) ((World.putObj_heap_other (by simp [L, D])).trans defZ)⟩
end
section
open Go.RowKit
variable [∀ (a b c d : Int), Decidable (Ok4 a b c d)]
variable [∀ (a b c d : Nat), Decidable (okN a b c d)]
variable [∀ (last : Int) (s : St), Decidable (GoodSt last s)]
variable [∀ (x : T4), Decidable (OkT x)]
theorem toB_self (s : ByteArray) : toB s.data.toList = s := ba_ext (toB_list _)
theorem tw_take (p : UInt8 → Bool) (t : List UInt8) : t.take (t.takeWhile p).length = t.takeWhile p ∧ t.drop (t.takeWhile p).length = t.dropWhile p := by
 have h:=List.takeWhile_append_dropWhile (p:=p) (l:=t)
 generalize t.takeWhile p = x at *
 generalize t.dropWhile p = y at *
 rw [← h]; simp
theorem tw_all (p : UInt8 → Bool) (t : List UInt8) (h : ∀ y ∈ t, p y = true) : t.takeWhile p = t := by
 induction t with
 | nil => rfl
 | cons c t ih => rw [List.takeWhile_cons, if_pos (h c (by simp)), ih fun y hy => h y (by simp [hy])]
theorem cut_step {s : ByteArray} (h : s.data.toList ≠ []) (h2 : (47 : UInt8) ∈ (s.extract 1 s.size).data.toList) : ∃ k : Nat, k + 1 < s.size ∧ ((s.extract 1 s.size).data.toList.takeWhile (· != 47)).length = k ∧ s.extract 0 (k + 1) = toB (pc s.data.toList) ∧ s.extract (k + 1) s.size = toB (rs s.data.toList) := by
 have hl : s.data.toList.length = s.size:=by simp
 rw [rst_all, toB_list] at h2 ⊢
 generalize hll : s.data.toList = l at *
 cases l with
 | nil => exact absurd rfl h
 | cons c t =>
  simp only [List.drop_succ_cons, List.drop_zero] at h2 ⊢
  have h1:=List.takeWhile_append_dropWhile (p:=(· != (47 : UInt8))) (l:=t)
  have h3:=congrArg List.length h1
  rw [List.length_append] at h3
  have h4 : t.dropWhile (· != 47) ≠ []:=fun e => by
   rw [e, List.append_nil] at h1
   have:=(List.all_takeWhile (p:=(· != (47 : UInt8))) (l:=t))
   rw [h1] at this
   have:=List.all_eq_true.1 this 47 h2
   simp at this
  have h5 : 0 < (t.dropWhile (· != 47)).length:=List.length_pos_iff.2 h4
  simp only [List.length_cons] at hl
  refine ⟨_, by omega, rfl, ?_, ?_⟩
  ·rw [ext_toB, hll]
   congr 1
   simp only [pc, Nat.sub_zero, List.drop_zero, List.take_succ_cons]
   rw [(tw_take _ t).1]
  rw [rst_all, hll]
  congr 1
  simp only [rs, List.drop_succ_cons]
  exact (tw_take _ t).2

theorem cutStep_any (s : ByteArray) (w : World) (hs : s.size ≤ 33554432) (hne : s.data.toList ≠ []) :
 Calls Tryz.prog 226 #[.string s] w fun e w' => e = .returned (.tuple #[.string (toB (pc s.data.toList)),.string (toB (rs s.data.toList))]) ∧ Below w.heap.size w w' := by
 have IX:=hide fun w => index_mark 47 (s.extract 1 s.size) w
 have h1 : 1 ≤ s.size:=by
  have hl : s.data.toList.length = s.size:=by simp
  have:=List.length_pos_iff.2 hne
  omega
 rcases ib_cases 47 (s.extract 1 s.size).data.toList with ⟨h2, h3⟩ | ⟨h2, h3⟩
 ·rw [h3] at IX
  have e1 : toB (pc s.data.toList) = s ∧ rs s.data.toList = []:=by
   rw [rst_all, toB_list] at h2
   generalize hll : s.data.toList = l at *
   cases l with
   | nil => exact absurd rfl hne
   | cons c t =>
    simp only [List.drop_succ_cons, List.drop_zero] at h2
    have hw : ∀ y ∈ t, (y != (47 : UInt8)) = true:=fun y hy => by simp; intro e; subst e; exact h2 hy
    have ew : t.takeWhile (· != 47) = t:=tw_all _ t hw
    refine ⟨?_, ?_⟩
    ·show toB (c :: t.takeWhile _) = s
     rw [ew, ← hll, toB_self]
    show t.dropWhile _ = []
    have:=List.takeWhile_append_dropWhile (p:=(· != (47 : UInt8))) (l:=t)
    rw [ew] at this
    simpa using this
  rw [e1.1, e1.2]
  clear h2 h3 e1 hne
  go_enter Tryz.func226, Tryz.ntmps226
  go_wp2_with (first | (go_at_call 241; refine (IX.out _).mono ?_; rintro e w' ⟨rfl, rfl⟩))
  go_ret2
  exact ⟨rfl, Below.refl _ _⟩
 obtain ⟨k, hk, hkl, e1, e2⟩:=cut_step hne h2
 rw [h3, hkl] at IX
 rw [← e1, ← e2]
 clear h2 h3 e1 e2 hne hkl
 have mixed : Tryz.prog.follows .mixedOrders = true:=by kernel_rfl
 go_enter Tryz.func226, Tryz.ntmps226
 go_wp2_with (first | (go_at_call 241; refine (IX.out _).mono ?_; rintro e w' ⟨rfl, rfl⟩))
 go_region_o
 go_wp2
 go_ret2
 exact ⟨rfl, (Below.refl _ _).drew⟩
theorem stepP_cut (l : List UInt8) : stepP l = if Lib.hasPrefix l [47] = true ∧ decide ((124 : UInt8) ∈ Lib.trimPrefix l [47]) = true ∧ (numOf (cutA 124 (toB (Lib.trimPrefix l [47]))).1.data.toList).isSome = true ∧ (txsAns (cutA 124 (toB (Lib.trimPrefix l [47]))).2).isSome = true
 then some (nans (numOf (cutA 124 (toB (Lib.trimPrefix l [47]))).1.data.toList), (txsAns (cutA 124 (toB (Lib.trimPrefix l [47]))).2).getD []) else none := by
 unfold stepP
 cases l with
 | nil => rfl
 | cons c t =>
  by_cases hc : c = 47
  ·subst hc
   have h1 : Lib.hasPrefix (47 :: t) [47] = true:=by simp [Lib.hasPrefix]
   have h2 : Lib.trimPrefix (47 :: t) [47] = t:=by simp [Lib.trimPrefix, h1]
   rw [h1, h2]
   refine (if_pos rfl).trans ?_
   show stepOf (toB t) = _
   unfold stepOf cutA
   rw [toB_list]
   by_cases hm : (124 : UInt8) ∈ t
   ·rw [if_pos hm, if_pos hm, decide_eq_true hm]
    simp only [toB_list]
    cases hn : numOf (hd 124 t) with
    | none => simp
    | some n =>
     cases ht : txsAns (toB (tl 124 t)) with
     | none => simp
     | some ts => simp [nans]
   rw [if_neg hm, decide_eq_false hm]; simp
  have h1 : Lib.hasPrefix (c :: t) [47] = false:=by
   show ((47 == c) && _) = false
   rw [show ((47 : UInt8) == c) = false from by simpa using Ne.symm hc]; rfl
  rw [if_neg (by simp; exact hc), if_neg (by rw [h1]; simp)]
theorem row_lower2 {w : World} {B B' : Nat} {v : Value} {xs : List T4} (h : OT w B v xs) (hb : B' ≤ B) : OT w B' v xs := by
 refine ⟨h.1, ?_⟩
 rcases h.2 with h | ⟨g, cap, cur, h1, h2, h3⟩
 ·exact .inl h
 exact .inr ⟨g, cap, cur, h1, by omega, h3⟩
def Two (w : World) (g : Nat) (n : Int) (v : Value) : Prop := w.cell? ⟨g, 0, none⟩ = some (.int .i64 n) ∧ w.cell? ⟨g, 1, none⟩ = some v
theorem two_new (w : World) (n : Int) (v : Value) (t : TypeId) : Two (w.alloc (.cells #[.int .i64 n, v] t)) w.heap.size n v := by
 refine ⟨?_, ?_⟩ <;> simp
theorem Two.below {w w' : World} {g B : Nat} {n : Int} {v : Value} (h : Two w g n v) (hb : Below B w w') (hg : g < B) : Two w' g n v :=
 ⟨(hb.cell (p := ⟨g, 0, none⟩) hg).trans h.1, (hb.cell (p := ⟨g, 1, none⟩) hg).trans h.2⟩
theorem grown_put (W : World) (a : Addr) (v : Value) : W.grownBy (W.setCell a v) (some a.block) :=
 ⟨rfl, rfl, rfl, (KeepsWalks.setCell W a v).size, fun k _ hk => Below.heap_setCell _ _ _ k (fun e => hk (by rw [e]))⟩
theorem ot_set {W : World} {B : Nat} {v : Value} {xs : List T4} (h : OT W B v xs) (a : Addr) (u : Value) (ha : a.block < B) : OT (W.setCell a u) B v xs := by
 refine World.ownsRow.kept h (grown_put W a u) ?_
 cases hv : v.ownBlock with
 | none => exact .inl rfl
 | some b =>
  refine .inr fun e => ?_
  have:=(World.ownsRow.lt h b hv).1
  have e2 : b = a.block:=by simpa using e
  omega
abbrev stepV (o : Option St) (v : Value) : Value := .agg #[.int .i64 ((o.map (·.1)).getD 0), v]
abbrev stepT (o : Option St) : List T4 := (o.map (·.2)).getD []

theorem stepOf_any (s : ByteArray) (w : World) (hs : s.size ≤ 33554432) (hE : Env w) :
 Calls Tryz.prog 227 #[.string s] w fun e w' => ∃ v, e = .returned (.tuple #[stepV (stepP s.data.toList) v,.bool (stepP s.data.toList).isSome]) ∧ OT w' w.heap.size v (stepT (stepP s.data.toList)) ∧ Below w.heap.size w w' := by
 have CP:=hide fun w => Tryz.strings_CutPrefix s ⟨#[47]⟩ w
 have HO:=hide (stepP_cut s.data.toList)
 have hz : (Lib.trimPrefix s.data.toList [47]).length ≤ s.size:=by
  have hl : s.data.toList.length = s.size:=by simp
  unfold Lib.trimPrefix
  split <;> simp
 have e1 : (⟨#[47]⟩ : ByteArray).data.toList = [47]:=rfl
 rw [e1] at CP
 have e2 : (⟨(Lib.trimPrefix s.data.toList [47]).toArray⟩ : ByteArray) = toB (Lib.trimPrefix s.data.toList [47]):=rfl
 rw [e2] at CP
 obtain ⟨mk, hmk⟩ : ∃ b, Lib.hasPrefix s.data.toList [47] = b:=⟨_, rfl⟩
 obtain ⟨tp, htp⟩ : ∃ b, Lib.trimPrefix s.data.toList [47] = b:=⟨_, rfl⟩
 rw [hmk] at CP HO
 rw [htp] at CP HO hz
 obtain ⟨tx, htx⟩ : ∃ b, toB tp = b:=⟨_, rfl⟩
 have hts : tx.size ≤ 33554432:=by rw [← htx, toB_size]; omega
 have e3 : tx.data.toList = tp:=by rw [← htx, toB_list]
 have CT:=hide fun w => cut_mark 124 tx w hts
 rw [htx] at CP HO
 rw [e3] at CT
 have hc:=cutA_size 124 tx
 obtain ⟨pt, hpt⟩ : ∃ b, decide ((124 : UInt8) ∈ tp) = b:=⟨_, rfl⟩
 rw [hpt] at CT HO
 obtain ⟨ca, hca⟩ : ∃ b, cutA 124 tx = b:=⟨_, rfl⟩
 rw [hca] at CT HO hc
 have NU:=hide fun w hE => number_any ca.1 (by omega) w hE
 have TX:=hide fun w hE => implTxsOf ca.2 w (by omega) hE
 obtain ⟨cn, hcn⟩ : ∃ x, numOf ca.1.data.toList = x:=⟨_, rfl⟩
 obtain ⟨ct, hct⟩ : ∃ x, txsAns ca.2 = x:=⟨_, rfl⟩
 rw [hcn] at NU HO
 rw [hct] at TX HO
 obtain ⟨o, ho⟩ : ∃ o, stepP s.data.toList = o:=⟨_, rfl⟩
 rw [ho] at HO ⊢
 obtain ⟨n, hn⟩ : ∃ n, nans cn = n:=⟨_, rfl⟩
 obtain ⟨bn, hbn⟩ : ∃ b, cn.isSome = b:=⟨_, rfl⟩
 obtain ⟨bt, hbt⟩ : ∃ b, ct.isSome = b:=⟨_, rfl⟩
 obtain ⟨ts, hts2⟩ : ∃ b, ct.getD [] = b:=⟨_, rfl⟩
 rw [hn] at NU HO
 rw [hbn] at NU HO
 rw [hbt] at TX HO
 rw [hts2] at TX HO
 have HE:=hide hE
 clear hE hmk htp htx hts e1 e2 e3 hc hpt hca hcn hct ho hn hbn hbt hts2 hz hs
 obtain ⟨c1, c2⟩:=ca
 go_enter Tryz.func227, Tryz.ntmps227
 go_wp2_with fail
 refine (CP.out _).mono ?_
 rintro _ w1 ⟨rfl, rfl⟩
 go_wp2_with fail
 refine (CT.out _).mono ?_
 rintro _ w2 ⟨rfl, b2⟩
 have b0 : Below w.heap.size w (w.alloc (.cells #[.int .i64 0,.slice none 0 0] 224)):=(Below.refl _ _).alloc (Nat.le_refl _) _
 have T0:=two_new w 0 (.slice none 0 0) 224
 have F0 : ∀ j, (w.alloc (.cells #[.int .i64 0,.slice none 0 0] 224)).frozen? ⟨w.heap.size, j, none⟩ = false:=fun j => by simp [go_sem]
 have z0 : (w.alloc (.cells #[.int .i64 0,.slice none 0 0] 224)).heap.size = w.heap.size + 1:=by simp
 generalize (w.alloc (.cells #[.int .i64 0,.slice none 0 0] 224)) = w0 at *
 have HE:=hide (HE.out.below b0)
 go_wp2_with fail
 refine (NU.out _ (HE.out.below b2)).mono ?_
 rintro _ w3 ⟨rfl, b3⟩
 have b23:=bu b2 b3
 go_wp2_with fail
 refine (TX.out _ (HE.out.below b23)).mono ?_
 rintro _ w4 ⟨vt, rfl, ot, b4⟩
 have b24:=bu b23 b4
 obtain ⟨ta, tc, rfl⟩ : ∃ ta tc, vt = .slice ta ts.length tc:=by
  rcases ot.2 with ⟨rfl, h0⟩ | ⟨g, cap, cur, rfl, _⟩
  ·exact ⟨none, 0, by rw [h0]⟩
  exact ⟨_, _, rfl⟩
 clear CP CT NU TX b3 b4
 have s23:=b23.size
 have OTT:=hide (row_lower2 (B':=w.heap.size + 1) ot (by omega))
 obtain ⟨t0, t1⟩:=T0.below b24 (by omega)
 have F4:=frozen_below b24 (by omega) F0
 have B4:=b0.trans (b24.mono (by omega))
 clear ot F0 T0 b24 b23 b0
 cases mk with
 | false =>
  have HO:=HO.out.trans (if_neg (by simp)); subst HO
  go_wp2
  refine bodyPost_ret (v := .tuple #[stepV none (.slice none 0 0),.bool false]) (by simp [results, Tryz.results227, go_sem, t0, t1]) rfl ?_
  exact ⟨_, rfl, World.ownsRow_nil _ _ _ _, (B4.setCell (Nat.le_refl _) _).setCell (Nat.le_refl _) _⟩
 | true =>
 cases pt with
 | false =>
  have HO:=HO.out.trans (if_neg (by simp)); subst HO
  go_wp2
  refine bodyPost_ret (v := .tuple #[stepV none (.slice none 0 0),.bool false]) (by simp [results, Tryz.results227, go_sem, t0, t1]) rfl ?_
  exact ⟨_, rfl, World.ownsRow_nil _ _ _ _, (B4.setCell (Nat.le_refl _) _).setCell (Nat.le_refl _) _⟩
 | true =>
 cases bn with
 | false =>
  have HO:=HO.out.trans (if_neg (by simp)); subst HO
  go_wp2
  refine bodyPost_ret (v := .tuple #[stepV none (.slice none 0 0),.bool false]) (by simp [results, Tryz.results227, go_sem, t0, t1]) rfl ?_
  exact ⟨_, rfl, World.ownsRow_nil _ _ _ _, (B4.setCell (Nat.le_refl _) _).setCell (Nat.le_refl _) _⟩
 | true =>
 cases bt with
 | false =>
  have HO:=HO.out.trans (if_neg (by simp)); subst HO
  go_wp2
  refine bodyPost_ret (v := .tuple #[stepV none (.slice none 0 0),.bool false]) (by simp [results, Tryz.results227, go_sem, t0, t1]) rfl ?_
  exact ⟨_, rfl, World.ownsRow_nil _ _ _ _, (B4.setCell (Nat.le_refl _) _).setCell (Nat.le_refl _) _⟩
 | true =>
  have HO:=HO.out.trans (if_pos (by simp)); subst HO
  go_wp2
  refine bodyPost_ret (v := .tuple #[stepV (some (n, ts)) (.slice ta ts.length tc),.bool true]) (by simp [results, Tryz.results227, go_sem, t0, t1]) rfl ?_
  exact ⟨_, rfl, row_lower2 (ot_set (ot_set OTT.out _ _ (by show w.heap.size < _; omega)) _ _ (by show w.heap.size < _; omega)) (by omega), (B4.setCell (Nat.le_refl _) _).setCell (Nat.le_refl _) _⟩
end
section
open Go.RowKit Go.Shelf
variable [∀ (a b c d : Int), Decidable (Ok4 a b c d)]
variable [∀ (a b c d : Nat), Decidable (okN a b c d)]
variable [∀ (last : Int) (s : St), Decidable (GoodSt last s)]
variable [∀ (x : T4), Decidable (OkT x)]
attribute [local go_sem] Oper.semAt_some

def Hands (s : ByteArray) (k : Nat) (vs : Array Value) (U V : World) : Prop := ∃ v, vs = #[stepV (stepP (pc (rsN s.data.toList k))) v,.bool (stepP (pc (rsN s.data.toList k))).isSome] ∧ OT V U.heap.size v (stepT (stepP (pc (rsN s.data.toList k))))

theorem iter_feeds (s : ByteArray) (hs : s.size ≤ 33554432) (m Bs n : Nat) (hm : rsN s.data.toList m = [] ∧ ∀ k, k < m → rsN s.data.toList k ≠ []) (wb w : World) (hE : Env wb) (hb : Below wb.heap.size wb w) (hc : w.cell? ⟨Bs, 0, none⟩ = some (.string s)) :
 Feeds Fence.wide n Tryz.prog 225 #[.pointer (some ⟨Bs, 0, none⟩)] wb.heap.size m (Hands s) w := fun l J X W hW hJ hX hY h0 => by
 have hcW : W.cell? ⟨Bs, 0, none⟩ = some (.string s):=(hW.cell (p:=⟨Bs, 0, none⟩) (cell_lt hc)).trans hc
 have HB:=hide (bu hb hW)
 have HE:=hide hE
 have HY:=hide hY
 have HJ:=hide hJ
 have HM:=hide hm
 clear hc hW hE hY hJ hX hb hm
 refine callsIn_of_wp Tryz.func225 rfl trivial ?_ rfl
 simp only [Tryz.ntmps225, List.size_toArray, List.length_cons, List.length_nil, Nat.reduceAdd, Nat.reduceSub, Array.replicate_succ, Array.replicate_zero, List.push_toArray, List.append_toArray, List.nil_append, List.cons_append]
 gi_wp2
 gi_loopw [3] (fun r wr => ∃ k : Nat, k ≤ m ∧ r = .string (toB (rsN s.data.toList k)) ∧ Hid (J k wr) ∧ Hid (Below wb.heap.size wb wr)) (fun r _ => match r with | .string x => x.size | _ => 0)
 case atStart => exact ⟨0, Nat.zero_le _, by show _ = Value.string (toB s.data.toList); rw [toB_self], h0, HB⟩
 case round =>
  obtain ⟨k, hk, rfl, HJk, HBk⟩:=hrel
  by_cases hz : rsN s.data.toList k = []
  ·have ez : toB (rsN s.data.toList k) = ⟨#[]⟩:=by rw [hz]; rfl
   rw [ez]
   have hkm : k = m:=by
    by_cases e : k < m
    ·exact absurd hz (HM.out.2 k e)
    omega
   subst hkm
   have HJk':=HJk.out
   gi_wp2
   go_end0
   exact ⟨⟨_, rfl⟩, .inl HJk'⟩
  have hkm : k < m:=by
   by_cases e : k = m
   ·subst e; exact absurd HM.out.1 hz
   omega
  have hsz : (toB (rsN s.data.toList k)).size ≤ 33554432:=by
   have:=rsN_le s.data.toList k
   have hl : s.data.toList.length = s.size:=by simp
   rw [toB_size]; omega
  have hsp : (toB (pc (rsN s.data.toList k))).size ≤ 33554432:=by
   have:=congrArg List.length (pc_rs (rsN s.data.toList k))
   rw [List.length_append] at this
   rw [toB_size] at hsz ⊢; omega
  have CS:=hide fun w => cutStep_any (toB (rsN s.data.toList k)) w hsz (by rw [toB_list]; exact hz)
  have SO:=hide fun w hE => stepOf_any (toB (pc (rsN s.data.toList k))) w hsp hE
  rw [toB_list] at CS SO
  have HZ : Hid ((toB (rs (rsN s.data.toList k))).size < (toB (rsN s.data.toList k)).size):=hide (by rw [toB_size, toB_size]; exact rs_lt hz)
  have hne2 : ((toB (rsN s.data.toList k)).toList == []) = false:=by
   rw [beq_eq_false_iff_ne, ByteArray.toList_eq, toB_list]; exact hz
  have hne:=str_ne (toB_ne hz)
  have YV:=hide fun V v h hv => HY.out k #[stepV (stepP (pc (rsN s.data.toList k))) v,.bool (stepP (pc (rsN s.data.toList k))).isSome] wr V HJk.out h hkm ⟨v, rfl, hv⟩
  have e2 : rs (rsN s.data.toList k) = rsN s.data.toList (k + 1):=rfl
  rw [e2] at HZ CS
  obtain ⟨x, hx⟩ : ∃ x, toB (rsN s.data.toList k) = x:=⟨_, rfl⟩
  obtain ⟨x', hx'⟩ : ∃ x, toB (rsN s.data.toList (k + 1)) = x:=⟨_, rfl⟩
  obtain ⟨p, hp⟩ : ∃ x, toB (pc (rsN s.data.toList k)) = x:=⟨_, rfl⟩
  obtain ⟨o, ho⟩ : ∃ x, stepP (pc (rsN s.data.toList k)) = x:=⟨_, rfl⟩
  rw [hx] at CS HZ hne hne2 ⊢
  rw [hx'] at CS HZ
  rw [hp] at CS SO
  rw [ho] at SO YV
  clear hx hp ho hsz hsp e2 hz
  gi_wp2_with fail
  refine ⟨trivial, fun h => (by cases h), (callsIn_wide.2 (CS.out _)).mono ?_⟩
  rintro _ w1 ⟨rfl, b1⟩
  gi_wp2_with fail
  refine ⟨trivial, fun h => (by cases h), (callsIn_wide.2 (SO.out _ (HE.out.below (HBk.out.trans (b1.mono HBk.out.size))))).mono ?_⟩
  rintro _ w2 ⟨v, rfl, ot, b2⟩
  have b12:=bu b1 b2
  obtain ⟨fn, tmps, assign, body, hy, hR⟩:=YV.out w2 v b12 (row_lower2 ot b1.size)
  clear CS SO YV
  gi_wp2
  refine ⟨fun h => (by cases h), hR.mono ?_⟩
  rintro e w3 (⟨rfl, hJ3, hk3⟩ | ⟨rfl, hX3⟩)
  ·have HB3:=hide ((HBk.out.trans (b12.mono HBk.out.size)).trans hk3)
   have HJ3:=hide hJ3
   clear hR hy hJ3 ot b1 b2 b12 hk3
   gi_wp2
   go_roundw
   case rel => exact ⟨k + 1, hkm, by rw [hx'], HJ3, HB3⟩
   case measure => exact HZ.out
  clear hR hy ot b1 b2 b12
  gi_wp2
  refine bodyPost_ret (results_none rfl _ _ _) rfl ?_
  exact ⟨⟨_, rfl⟩, .inr ⟨k, hkm, hX3⟩⟩
theorem stepsOf_any (s : ByteArray) (w : World) :
 Calls Tryz.prog 202 #[.string s] w fun e w' => e = .returned (.func (.func 225) #[] #[.pointer (some ⟨w.heap.size, 0, none⟩)]) ∧ w' = w.alloc (.cells #[.string s] 9) := by
 have hmf : ∀ (fn : Fn) (first cap : Array Value) (w : World), (Instr.makeFunc fn first cap).run Tryz.prog w = .ok (.func fn first cap) w:=fun _ _ _ _ => rfl
 go_enter Tryz.func202, Tryz.ntmps202
 go_wp2
 go_ret
 exact ⟨rfl, rfl⟩
end
section
open Go.RowKit
variable [∀ (a b c d : Int), Decidable (Ok4 a b c d)]
variable [∀ (a b c d : Nat), Decidable (okN a b c d)]
theorem os_base {w : World} {B B' : Nat} {v : Value} {xs : List ByteArray} (h : OS w B v xs) (hB : B' ≤ B) : OS w B' v xs := by
 refine ⟨h.1, ?_⟩
 rcases h.2 with h | ⟨g, cap, cur, h1, h2, h3⟩
 ·exact .inl h
 exact .inr ⟨g, cap, cur, h1, by omega, h3⟩

theorem specTxsOf (s : ByteArray) (w : World) (hs : s.size ≤ 33554432) :
 Calls Tryz.prog 194 #[.string s] w fun e w' => ∃ v, e = .returned (.tuple #[v,.bool (txsAns s).isSome]) ∧ OT w' w.heap.size v ((txsAns s).getD []) ∧ Below w.heap.size w w' := by
 obtain ⟨i0, hi, hz0, hz1, hz2⟩:=info_parts Tryz.infoTx
 unfold txsAns
 by_cases hz : s = ⟨#[]⟩
 ·rw [if_pos hz]
  subst hz
  go_enter Tryz.func194, Tryz.ntmps194
  go_wp2
  go_ret2
  exact ⟨_, rfl, World.ownsRow_lit w #[] 0 (Nat.le_refl _) (by unfold maxLen; omega) rfl, (Below.refl _ _).alloc (Nat.le_refl _) _⟩
 rw [if_neg hz]
 have hne:=str_ne hz
 have hne2 : (s.toList == []) = false:=by
  rw [beq_eq_false_iff_ne]; intro e; apply hz; apply ByteArray.ext; apply Array.toList_inj.1; rw [ByteArray.toList_eq] at e; exact e
 have SP:=hide fun w => specSplit_any s 44 w hs
 have hpn : 0 < (splitAns s 44).length:=by simp [splitAns]
 have hpl:=splitAns_len s 44
 have hpz : Hid (∀ p ∈ splitAns s 44, p.size ≤ 33554432):=fun p hp => Nat.le_trans (split_size s 44 p hp) hs
 generalize splitAns s 44 = ps at *
 clear hz
 go_enter Tryz.func194, Tryz.ntmps194
 go_wp2_with fail
 refine (SP.out _).mono ?_
 rintro e w1 ⟨vp, rfl, op', b1'⟩
 have b1 : Below w.heap.size w w1:=((Below.refl _ _).alloc (Nat.le_refl _) _).trans (b1'.mono (by simp))
 have op : OS w1 w.heap.size vp ps:=os_base op' (by simp)
 have OL:=hide (OT.below (show OT _ w.heap.size _ [] from World.ownsRow_lit w #[] 0 (Nat.le_refl _) (by unfold maxLen; omega) rfl) b1')
 clear op' b1'
 rcases op.2 with ⟨_, h0⟩ | ⟨gp, pc, pcur, rfl, _⟩
 ·omega
 have OP:=hide op
 clear op SP
 go_wp2
 go_loopw [4, 6] (fun v i wr => ∃ (k : Nat) (ys : List T4), k ≤ ps.length ∧ i = .int .i64 k ∧ ys.length = k ∧ Hid (allTx (ps.take k) = some ys) ∧ OT wr w.heap.size v ys ∧ OS wr w.heap.size (.slice (some ⟨gp, 0, none⟩) ps.length pc) ps ∧ Below w.heap.size w wr) (fun _ i _ => ps.length - (intOf i).toNat)
 case atStart => exact ⟨0, [], by omega, rfl, rfl, rfl, OL.out, OP.out, b1⟩
 case round =>
  obtain ⟨k, ys, hk, rfl, hyl, HA, ho, hp, hb⟩:=hrel
  have hsz:=hb.size
  by_cases hlt : k < ps.length
  ·have hc:=os_cell hp rfl k hlt
   have hm:=hpz.out _ (getD_mem hlt)
   have HT:=hide (take_more ps k hlt)
   have CT:=hide fun w => specTxOf (ps.getD k ByteArray.empty) w hm
   have HB:=hide (And.intro ho (And.intro hp hb))
   clear ho hp hb hm
   generalize ps.getD k ByteArray.empty = p at *
   cases ht : txAns p.data.toList with
   | none =>
    have HN : Hid (allTx ps = none):=allTx_none (k + 1) (by rw [HT.out, allTx_more, ht]; cases allTx (ps.take k) <;> rfl)
    rw [ht] at CT
    clear ht HT HA
    go_wp2_with fail
    refine (CT.out _).mono ?_
    rintro e w2 ⟨rfl, b2⟩
    have hw : Below w.heap.size w (w2.alloc (.cells #[.int .i64 0,.int .i64 0,.int .i64 0,.int .i64 0] 70)):=(HB.out.2.2.trans (b2.mono hsz)).alloc (by have:=b2.size; omega) _
    unfold txval
    go_wp2
    go_ret2
    exact ⟨_, by rw [HN.out]; rfl, by rw [HN.out]; have hq := World.ownsRow_lit (base := w.heap.size) (e := 70) (size := 4) (w2.alloc (.cells #[.int .i64 0,.int .i64 0,.int .i64 0,.int .i64 0] 70)) #[] 0 hw.size (by unfold maxLen; omega) (by simp); simpa [OT, tcells] using hq, hw.alloc hw.size _⟩
   | some q =>
    obtain ⟨a, b, c, d⟩:=q
    have HN : Hid (allTx (ps.take (k + 1)) = some (ys ++ [((a : Int), (b : Int), (c : Int), (d : Int))])):=by
     show allTx _ = _
     rw [HT.out, allTx_more, HA.out, ht]; rfl
    rw [ht] at CT
    clear ht HT HA
    go_wp2_with fail
    refine (CT.out _).mono ?_
    rintro e w2 ⟨rfl, b2⟩
    obtain ⟨ho, hp, hb⟩:=HB.out
    have s2:=b2.size
    have ho2:=ot_alloc (ot_alloc (ho.below b2) (.cells #[.int .i64 a,.int .i64 b,.int .i64 c,.int .i64 d] 70)) (.cells #[.int .i64 a,.int .i64 b,.int .i64 c,.int .i64 d] 70)
    have hp2:=os_alloc (os_alloc (hp.below b2) (.cells #[.int .i64 a,.int .i64 b,.int .i64 c,.int .i64 d] 70)) (.cells #[.int .i64 a,.int .i64 b,.int .i64 c,.int .i64 d] 70)
    have hb2 : Below w.heap.size w ((w2.alloc (.cells #[.int .i64 a,.int .i64 b,.int .i64 c,.int .i64 d] 70)).alloc (.cells #[.int .i64 a,.int .i64 b,.int .i64 c,.int .i64 d] 70)):=((hb.trans (b2.mono hsz)).alloc (by omega) _).alloc (by simp; omega) _
    have hdis:=os_ot hp2 ho2
    clear ho hp hb HB b2 hc
    unfold txval
    go_wp2_with (first
     | (at_builtin; refine wpList_append_own _ rfl _ _ 41 rfl w.heap.size 70 i0 (txv 0 0 0 0) 4 32 Tryz.underlying41 hi hz0 hz1 hz2 rfl (by decide) _ _ _ rfl ho2 ⟨w2.heap.size + 1, 0, none⟩ 1 1 (tcell ((a : Int), (b : Int), (c : Int), (d : Int))) rfl rfl (by have := four_cell (w2.alloc (.cells #[.int .i64 a,.int .i64 b,.int .i64 c,.int .i64 d] 70)) ((a : Int), (b : Int), (c : Int), (d : Int)) 70; simpa using this) (four_plain _) (by unfold maxLen; omega) (by omega) (by simp; omega) ?_; intro v' w3 ho' hg' _; have R := ot_more (by simp; omega) ho2 hb2 ho' hg'; have RP : OS w3 w.heap.size (.slice (some ⟨gp, 0, none⟩) ps.length pc) ps := World.ownsRow.kept hp2 hg' hdis; clear ho2 ho' hg' hb2 hp2 hdis))
    go_roundw
    case rel => exact ⟨k + 1, _, by omega, by go_num, by simp [hyl], HN, R.1, RP, R.2⟩
    case measure => simp [intOf]; omega
  have hkn : k = ps.length:=by omega
  have HN : Hid (allTx ps = some ys):=by
   have:=HA.out
   rw [hkn, List.take_of_length_le (Nat.le_refl _)] at this
   exact this
  have HO:=hide ho
  clear ho hp HA
  go_wp2
  go_ret2
  exact ⟨_, by rw [HN.out]; rfl, by rw [HN.out]; exact HO.out, hb⟩
end
section
open Go.RowKit
variable [∀ (a b c d : Int), Decidable (Ok4 a b c d)]
variable [∀ (a b c d : Nat), Decidable (okN a b c d)]
variable [∀ (last : Int) (s : St), Decidable (GoodSt last s)]
theorem own_types {w : World} {B B' n n' s s' : Nat} {e e' : TypeId} {v u : Value} {xs ys : List Value} (h : w.ownsRow B e s v n xs) (h' : w.ownsRow B' e' s' u n' ys) (he : e ≠ e') : v.ownBlock = none ∨ v.ownBlock ≠ u.ownBlock := by
 rcases h.2 with ⟨rfl, _⟩ | ⟨g, cap, cur, rfl, _, hg, _⟩
 ·exact .inl rfl
 rcases h'.2 with ⟨rfl, _⟩ | ⟨g', cap', cur', rfl, _, hg', _⟩
 ·exact .inr (by simp [Value.ownBlock])
 refine .inr fun e2 => ?_
 simp [Value.ownBlock] at e2
 rw [e2, hg'] at hg
 simp at hg
 exact he hg.2.symm
theorem none_apart {w : World} {B n s : Nat} {e : TypeId} {v : Value} {xs : List Value} {c : Nat} (h : w.ownsRow (B + 1) e s v n xs) : (Value.slice (some ⟨B, 0, none⟩) 0 c).ownBlock = none ∨ (Value.slice (some ⟨B, 0, none⟩) 0 c).ownBlock ≠ v.ownBlock := .inr fun e => by
 have:=(World.ownsRow.lt h B (by rw [← e]; rfl)).1
 omega
theorem row_lower {w : World} {B B' n s : Nat} {e : TypeId} {v : Value} {xs : List Value} (h : w.ownsRow B e s v n xs) (hb : B' ≤ B) : w.ownsRow B' e s v n xs := by
 refine ⟨h.1, ?_⟩
 rcases h.2 with h | ⟨g, cap, cur, h1, h2, h3⟩
 ·exact .inl h
 exact .inr ⟨g, cap, cur, h1, by omega, h3⟩
theorem two_plain (n : Int) (a : Option Addr) (l c : Nat) : ∀ u ∈ scell (n, .slice a l c), u.oneCell' = true := by
 intro u hu
 simp [scell] at hu
 rcases hu with rfl | rfl <;> rfl
theorem two_cell (w : World) (p : Int × Value) (t : TypeId) (j : Nat) (u : Value) (h : (scell p)[j]? = some u) : (w.alloc (.cells #[.int .i64 p.1, p.2] t)).cell? ((⟨w.heap.size, 0, none⟩ : Addr).add j) = some u := by
 match j, h with
 | 0, h => simp [scell] at h; subst h; simp [Addr.add]
 | 1, h => simp [scell] at h; subst h; simp [Addr.add]
 | j + 2, h => simp [scell] at h
theorem stepOf_cut (p : ByteArray) : stepOf p = if (cutS 124 p.data.toList).2.2 = true ∧ (numOf (cutS 124 p.data.toList).1).isSome = true ∧ (txsAns (toB (cutS 124 p.data.toList).2.1)).isSome = true then some (nans (numOf (cutS 124 p.data.toList).1), (txsAns (toB (cutS 124 p.data.toList).2.1)).getD []) else none := by
 unfold stepOf cutS
 by_cases hm : (124 : UInt8) ∈ p.data.toList
 ·rw [if_pos hm, if_pos hm]
  cases hn : numOf (hd 124 p.data.toList) with
  | none => simp
  | some n =>
   cases ht : txsAns (toB (tl 124 p.data.toList)) with
   | none => simp
   | some ts => simp [nans]
 rw [if_neg hm, if_neg hm]; simp
theorem tail_get (ps : List ByteArray) (k : Nat) (h : k + 1 < ps.length) : ps.tail.take (k + 1) = ps.tail.take k ++ [ps.getD (k + 1) ByteArray.empty] := by
 cases ps with
 | nil => simp at h
 | cons p ps =>
  simp only [List.tail_cons]
  simp at h
  rw [List.take_succ_eq_append_getElem h]
  simp [List.getD_eq_getElem?_getD, List.getElem?_eq_getElem h]

theorem specSteps (s : ByteArray) (w : World) (hs : s.size ≤ 33554432) :
 Calls Tryz.prog 162 #[.string s] w fun e w' => ∃ v, e = .returned (.tuple #[v,.bool (stepsAns s).isSome]) ∧ OSt w' w.heap.size v ((stepsAns s).getD []) ∧ Below w.heap.size w w' := by
 obtain ⟨i0, hi, hz0, hz1, hz2⟩:=info_parts Tryz.infoSt
 obtain ⟨w0, hw0⟩ : ∃ w0, (w.alloc (.cells #[] 224)).alloc (.cells #[] 224) = w0:=⟨_, rfl⟩
 have z0 : w0.heap.size = w.heap.size + 1 + 1:=by rw [← hw0]; simp
 have B0 : Below w.heap.size w w0:=hw0 ▸ ((Below.refl _ _).alloc (Nat.le_refl _) _).alloc (by simp) _
 have R1 : (w.alloc (.cells #[] 224)).ownsRow w.heap.size 224 2 (.slice (some ⟨w.heap.size, 0, none⟩) 0 0) 0 []:=World.ownsRow_lit w #[] 0 (Nat.le_refl _) (by unfold maxLen; omega) rfl
 have N0 : w0.ownsRow w.heap.size 224 2 (.slice (some ⟨w.heap.size, 0, none⟩) 0 0) 0 []:=hw0 ▸ R1.alloc _
 have O0 : w0.ownsRow (w.heap.size + 1) 224 2 (.slice (some ⟨w.heap.size + 1, 0, none⟩) 0 0) 0 []:=by
  have:=World.ownsRow_lit (base:=w.heap.size + 1) (e:=224) (size:=2) (w.alloc (.cells #[] 224)) #[] 0 (by simp) (by unfold maxLen; omega) rfl
  rw [hw0] at this
  have e : (w.alloc (.cells #[] 224)).heap.size = w.heap.size + 1:=by simp
  rw [e] at this
  exact this
 clear R1
 unfold stepsAns
 by_cases hz : s = ⟨#[]⟩
 ·rw [if_pos hz]
  subst hz
  go_enter Tryz.func162, Tryz.ntmps162
  go_wp2
  go_ret2
  refine ⟨_, rfl, ⟨[], rfl, ?_, fun k hk => by simp at hk, fun i j _ hj => by simp at hj⟩, B0⟩
  refine ⟨O0.1, ?_⟩
  rcases O0.2 with h | ⟨g, cap, cur, h1, h2, h3⟩
  ·exact .inl h
  exact .inr ⟨g, cap, cur, h1, by omega, h3⟩
 rw [if_neg hz]
 have hne:=str_ne hz
 have hne2 : (s.toList == []) = false:=by
  rw [beq_eq_false_iff_ne]; intro e; apply hz; apply ByteArray.ext; apply Array.toList_inj.1; rw [ByteArray.toList_eq] at e; exact e
 have SP:=hide fun w => specSplit_any s 47 w hs
 have hpn : 0 < (splitAns s 47).length:=by simp [splitAns]
 have hpz : Hid (∀ p ∈ splitAns s 47, p.size ≤ 33554432):=fun p hp => Nat.le_trans (split_size s 47 p hp) hs
 have hpl:=splitAns_len s 47
 have NONE : Hid (∀ w', Below w.heap.size w w' → w'.ownsRow w.heap.size 224 2 (.slice (some ⟨w.heap.size, 0, none⟩) 0 0) 0 [] → OSt w' w.heap.size (.slice (some ⟨w.heap.size, 0, none⟩) 0 0) []):=hide fun w' _ h => ⟨[], rfl, h, fun k hk => by simp at hk, fun i j _ hj => by simp at hj⟩
 generalize splitAns s 47 = ps at *
 generalize hA : (if ps.getD 0 ByteArray.empty = ⟨#[]⟩ ∧ ps.length ≤ 31 then (stepsRun ps.tail).map (·.2) else none) = A
 have HA:=hide hA
 clear hz hA
 go_enter Tryz.func162, Tryz.ntmps162
 go_wp2_with fail
 clear hw0
 refine (SP.out _).mono ?_
 rintro e w1 ⟨vp, rfl, op, b1⟩
 have s1:=b1.size
 have B1:=bu B0 b1
 have k1 : w0.grownBy w1 none:=⟨b1.os, b1.tape, b1.output, b1.size, fun k hk _ => b1.block k hk⟩
 have N1:=N0.kept k1 (by simp [Value.ownBlock])
 have O1:=O0.kept k1 (by simp [Value.ownBlock])
 rcases op.2 with ⟨_, h0⟩ | ⟨gp, pc, pcur, rfl, _⟩
 ·omega
 have c0:=os_cell op rfl 0 hpn
 have OP:=hide op
 have N1:=hide N1
 clear op SP k1 b1 N0 O0 B0
 by_cases h0 : ps.getD 0 ByteArray.empty = ⟨#[]⟩
 ·rw [h0] at c0
  by_cases h31 : ps.length ≤ 31
  ·have E : Hid (A = (stepsRun ps.tail).map (·.2)):=hide (HA.out.symm.trans (if_pos ⟨h0, h31⟩))
   have h31' : decide ((31 : Int) < (ps.length : Int)) = false:=by simp; omega
   go_wp2
   clear c0
   go_loopw [5, 7, 8] (fun out last i wr => ∃ (k : Nat) (l : Int) (ss : List St) (vs : List Value), k + 1 ≤ ps.length ∧ i = .int .i64 ((k + 1 : Nat) : Int) ∧ last = .int .i64 l ∧ Hid (stepsRun (ps.tail.take k) = some (l, ss)) ∧ ss.length = k ∧ OStV wr (w.heap.size + 1) out ss vs ∧ OS wr w0.heap.size (.slice (some ⟨gp, 0, none⟩) ps.length pc) ps ∧ wr.ownsRow w.heap.size 224 2 (.slice (some ⟨w.heap.size, 0, none⟩) 0 0) 0 [] ∧ Below w.heap.size w wr ∧ w.heap.size + 1 ≤ wr.heap.size) (fun _ _ i _ => ps.length - (intOf i).toNat)
   case atStart => exact ⟨0, 0, [], [], by omega, by go_num, rfl, hide (by rw [List.take_zero]; rfl), rfl, ⟨rfl, O1, fun k hk => by simp at hk, fun i j _ hj => by simp at hj⟩, OP.out, N1.out, B1, by omega⟩
   case round =>
    clear O1 N1 OP B1
    obtain ⟨k, l, ss, vs, hk, rfl, rfl, HR, hsl, ost, hp, nr, br, sz⟩:=hrel
    subst hsl
    obtain ⟨oa, oc, rfl⟩:=OSt.form ⟨vs, ost⟩
    have RO1:=(stepsRun_ok _ _ HR.out).2.1
    by_cases hlt : ss.length + 1 < ps.length
    ·have hc:=os_cell hp rfl (ss.length + 1) hlt
     have hm:=hpz.out _ (getD_mem hlt)
     have HT:=hide (tail_get ps ss.length hlt)
     have HC:=hide (stepOf_cut (ps.getD (ss.length + 1) ByteArray.empty))
     have CUT:=hide fun w => l2Cut_any 124 124 rfl (ps.getD (ss.length + 1) ByteArray.empty) w hm
     generalize ps.getD (ss.length + 1) ByteArray.empty = p at *
     have hc1 : (cutS 124 p.data.toList).1.length ≤ 33554432 ∧ (cutS 124 p.data.toList).2.1.length ≤ 33554432:=by
      have h1:=cutS_len 124 p.data.toList
      have h2 : p.data.toList.length = p.size:=by simp
      omega
     obtain ⟨c, hcc⟩ : ∃ c, cutS 124 p.data.toList = c:=⟨_, rfl⟩
     rw [hcc] at CUT HC hc1
     clear hcc
     have NU:=hide fun w => specNumber_any (toB c.1) w (by rw [toB_size]; unfold maxLen; omega)
     have TX:=hide fun w => specTxsOf (toB c.2.1) w (by rw [toB_size]; omega)
     rw [toB_list] at NU
     obtain ⟨cn, hcn⟩ : ∃ x, numOf c.1 = x:=⟨_, rfl⟩
     obtain ⟨ct, hct⟩ : ∃ x, txsAns (toB c.2.1) = x:=⟨_, rfl⟩
     rw [hcn] at NU HC
     rw [hct] at TX HC
     have hn0 : 0 ≤ nans cn ∧ nans cn ≤ 999999:=by
      cases cn with
      | none => simp [nans]
      | some m => have := numOf_some hcn; simp [nans]; omega
     clear hcn hct
     obtain ⟨n, hn⟩ : ∃ n, nans cn = n:=⟨_, rfl⟩
     obtain ⟨bn, hbn⟩ : ∃ b, cn.isSome = b:=⟨_, rfl⟩
     obtain ⟨bt, hbt⟩ : ∃ b, ct.isSome = b:=⟨_, rfl⟩
     obtain ⟨ts, hts⟩ : ∃ b, ct.getD [] = b:=⟨_, rfl⟩
     rw [hn] at NU HC hn0
     rw [hbn] at NU HC
     rw [hbt] at TX HC
     rw [hts] at TX HC
     clear hn hbn hbt hts
     have OST:=hide ost
     have NR:=hide nr
     have HP:=hide hp
     clear ost nr hp
     go_wp2_with fail
     refine (CUT.out _).mono ?_
     rintro _ w2 ⟨rfl, b2⟩
     go_wp2_with fail
     refine (NU.out _).mono ?_
     rintro _ w3 ⟨rfl, b3⟩
     have b23 : Below wr.heap.size wr w3:=bu b2 b3
     go_wp2_with fail
     refine (TX.out _).mono ?_
     rintro _ w4 ⟨vt, rfl, ot, b4⟩
     have b24 : Below wr.heap.size wr w4:=bu b23 b4
     have B4:=bu br b24
     have s24:=b24.size
     have s23:=b23.size
     have ost4:=OST.out.below b24
     have k24 : wr.grownBy w4 none:=⟨b24.os, b24.tape, b24.output, b24.size, fun k hk _ => b24.block k hk⟩
     have nr4:=World.ownsRow.kept NR.out k24 (by simp [Value.ownBlock])
     have hp4:=HP.out.below b24
     obtain ⟨ta, tc, rfl⟩ : ∃ ta tc, vt = .slice ta ts.length tc:=by
      rcases ot.2 with ⟨rfl, h0⟩ | ⟨g, cap, cur, rfl, _⟩
      ·exact ⟨none, 0, by rw [h0]⟩
      exact ⟨_, _, rfl⟩
     clear CUT NU TX b2 b3 b4
     have RN : Hid (stepOf p = none → stepsRun ps.tail = none):=hide fun h => stepsRun_none (ss.length + 1) (by rw [HT.out, stepsRun_more, HR.out]; unfold stepAcc; rw [h]; rfl)
     obtain ⟨c1, c2, cb⟩:=c
     cases cb with
     | false =>
      have F:=hide (RN.out (by rw [HC.out, if_neg (by simp)]))
      go_wp2
      go_ret2
      rw [E.out, F.out]
      exact ⟨_, rfl, NONE.out _ B4 nr4, B4⟩
     | true =>
     cases bn with
     | false =>
      have F:=hide (RN.out (by rw [HC.out, if_neg (by simp)]))
      go_wp2
      go_ret2
      rw [E.out, F.out]
      exact ⟨_, rfl, NONE.out _ B4 nr4, B4⟩
     | true =>
     cases bt with
     | false =>
      have F:=hide (RN.out (by rw [HC.out, if_neg (by simp)]))
      go_wp2
      go_ret2
      rw [E.out, F.out]
      exact ⟨_, rfl, NONE.out _ B4 nr4, B4⟩
     | true =>
     have HS : Hid (stepOf p = some (n, ts)):=hide (by rw [HC.out, if_pos (by simp)])
     have RG : Hid (¬ GoodSt l (n, ts) → stepsRun ps.tail = none):=hide fun h => stepsRun_none (ss.length + 1) (by rw [HT.out, stepsRun_more, HR.out]; unfold stepAcc; rw [HS.out]; exact if_neg h)
     clear RN HC
     by_cases g1 : n ≤ l
     ·have F:=hide (RG.out fun h => by have:=h.1; simp only at this; omega)
      have g1' : decide (n ≤ l) = true:=by simp; omega
      go_wp2
      go_ret2
      rw [E.out, F.out]
      exact ⟨_, rfl, NONE.out _ B4 nr4, B4⟩
     have g1' : decide (n ≤ l) = false:=by simp; omega
     by_cases g2 : 60 < n
     ·have F:=hide (RG.out fun h => by have:=h.2.1; simp only at this; omega)
      have g2' : decide (60 < n) = true:=by simp; omega
      go_wp2
      go_ret2
      rw [E.out, F.out]
      exact ⟨_, rfl, NONE.out _ B4 nr4, B4⟩
     have g2' : decide (60 < n) = false:=by simp; omega
     by_cases g3 : 2 < ts.length
     ·have F:=hide (RG.out fun h => by have:=h.2.2; simp only at this; omega)
      have g3' : decide ((2 : Int) < (ts.length : Int)) = true:=by simp; omega
      go_wp2
      go_ret2
      rw [E.out, F.out]
      exact ⟨_, rfl, NONE.out _ B4 nr4, B4⟩
     have g3' : decide ((2 : Int) < (ts.length : Int)) = false:=by simp; omega
     have HN : Hid (stepsRun (ps.tail.take (ss.length + 1)) = some (n, ss ++ [(n, ts)])):=hide (by
      rw [HT.out, stepsRun_more, HR.out]; unfold stepAcc; rw [HS.out]
      exact if_pos ⟨by omega, by omega, by show ts.length ≤ 2; omega⟩)
     have bX : Below w4.heap.size w4 (w4.alloc (.cells #[.int .i64 n,.slice ta ts.length tc] 224)):=(Below.refl _ _).alloc (Nat.le_refl _) _
     have ostX:=ost4.below bX
     have otX:=ot.below bX
     have hpX:=hp4.below bX
     have nrX:=World.ownsRow.alloc nr4 (.cells #[.int .i64 n,.slice ta ts.length tc] 224)
     have BX:=bu B4 bX
     have hN : ∀ k, k < ss.length → ∀ b, (vs.getD k (.slice none 0 0)).ownBlock = some b → b < w3.heap.size:=fun k hk b hb => by
      have:=(World.ownsRow.lt (OST.out.each k hk) b hb).2; omega
     have hl31 : ss.length ≤ 31:=by omega
     clear RG ost4 ot hp4 nr4 B4
     go_wp2_with (first
      | (at_builtin; refine wpList_append_own _ rfl _ _ 206 rfl (w.heap.size + 1) 224 i0 (.agg #[.int .i64 0,.slice none 0 0]) 2 32 Tryz.underlying206 hi hz0 hz1 hz2 rfl (by decide) _ _ _ rfl ostX.row ⟨w4.heap.size, 0, none⟩ 1 1 (scell (n,.slice ta ts.length tc)) rfl rfl (two_cell w4 (n,.slice ta ts.length tc) 224) (two_plain _ _ _ _) (by unfold maxLen; omega) (by omega) (by simp; omega) ?_; intro v' w5 ho' hg' _; have R := ost_more ostX otX hN (by omega) ho' hg'; have RP := World.ownsRow.kept hpX hg' (own_types hpX ostX.row (by decide)); have RN := World.ownsRow.kept nrX hg' (none_apart ostX.row); have RB := BX.grown hg' BX.size (fun k hk => by have := (World.ownsRow.lt ostX.row k hk).1; omega); have SZ : w4.heap.size ≤ w5.heap.size := (by have := hg'.size; simp at this; omega); clear ho' hg' ostX otX hpX nrX BX bX))
     go_roundw
     case rel => exact ⟨ss.length + 1, n, _, _, by omega, by go_num, rfl, HN, by simp, R, RP, RN, RB, by omega⟩
     case measure => simp [intOf]; omega
    have hk2 : ps.tail.take ss.length = ps.tail:=List.take_of_length_le (by simp; omega)
    rw [hk2] at HR
    have hlt' : decide (((ss.length + 1 : Nat) : Int) < (ps.length : Int)) = false:=by simp; omega
    go_wp2
    go_ret2
    rw [E.out, HR.out]
    refine ⟨_, rfl, ⟨vs, ost.len, ?_, fun k hk => ?_, ost.apart⟩, br⟩
    ·exact row_lower ost.row (by omega)
    exact row_lower (ost.each k hk) (by omega)
  have E : A = none:=HA.out.symm.trans (if_neg fun h => h31 h.2)
  have h31' : decide ((31 : Int) < (ps.length : Int)) = true:=by simp; omega
  go_wp2
  go_ret2
  rw [E]
  exact ⟨_, rfl, NONE.out _ B1 N1.out, B1⟩
 have E : A = none:=HA.out.symm.trans (if_neg fun h => h0 h.1)
 have hn0:=str_ne h0
 have hn1 : ((ps.getD 0 ByteArray.empty).toList = []) = False:=eq_false fun e => h0 (by apply ByteArray.ext; apply Array.toList_inj.1; rw [ByteArray.toList_eq] at e; exact e)
 generalize ps.getD 0 ByteArray.empty = p0 at *
 go_wp2
 go_ret2
 rw [E]
 exact ⟨_, rfl, NONE.out _ B1 N1.out, B1⟩
end
end Go.Proofs.YtjdchloechcclaaGreatDoor
