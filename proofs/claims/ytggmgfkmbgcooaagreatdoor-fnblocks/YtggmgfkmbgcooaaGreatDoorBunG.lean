/- Texts that belong together: ImplStep, Iter, ImplSteps, ImplNames. -/
import Derived.Test.YtggmgfkmbgcooaaGreatDoorBunF
import Derived.Test.YtggmgfkmbgcooaaGreatDoorBunC
import Derived.Test.YtggmgfkmbgcooaaGreatDoorBunB
import Derived.Test.YtggmgfkmbgcooaaGreatDoorBunE
import Derived.RangeFuncCalls
import Derived.RangeFuncLeaves
import Derived.Shelf.Abstract
import Derived.Shelf.RegionOpen
import Derived.WalkKit
import Derived.OwnWalkIn
import Derived.TacticsInMore
import Derived.LoopNIn
import Derived.LoopIn
import Derived.Laws.AppendOwn
import Derived.RangeFuncBox
import Derived.Lib.LastIndexByte
/- impl.cutStep and impl.stepOf. -/
namespace Go.Proofs.YtggmgfkmbgcooaaGreatDoor
open Go.RowKit
set_option linter.unusedSectionVars false
variable [∀ (a b c d : Int), Decidable (Ok4 a b c d)]
variable [∀ (a b c d : Nat), Decidable (okN a b c d)]
variable [∀ (last : Int) (s : St), Decidable (GoodSt last s)]
variable [∀ (x : T4), Decidable (OkT x)]

theorem toB_self (s : ByteArray) : toB s.data.toList = s := ba_ext (toB_list _)
theorem tw_take (p : UInt8 → Bool) (t : List UInt8) : t.take (t.takeWhile p).length = t.takeWhile p ∧ t.drop (t.takeWhile p).length = t.dropWhile p := by
  have h := List.takeWhile_append_dropWhile (p := p) (l := t)
  generalize t.takeWhile p = x at *
  generalize t.dropWhile p = y at *
  rw [← h]; simp
theorem tw_all (p : UInt8 → Bool) (t : List UInt8) (h : ∀ y ∈ t, p y = true) : t.takeWhile p = t := by
  induction t with
  | nil => rfl
  | cons c t ih => rw [List.takeWhile_cons, if_pos (h c (by simp)), ih fun y hy => h y (by simp [hy])]
theorem cut_step {s : ByteArray} (h : s.data.toList ≠ []) (h2 : (47 : UInt8) ∈ (s.extract 1 s.size).data.toList) : ∃ k : Nat, k + 1 < s.size ∧ ((s.extract 1 s.size).data.toList.takeWhile (· != 47)).length = k ∧ s.extract 0 (k + 1) = toB (pc s.data.toList) ∧ s.extract (k + 1) s.size = toB (rs s.data.toList) := by
  have hl : s.data.toList.length = s.size := by simp
  rw [rst_all, toB_list] at h2 ⊢
  generalize hll : s.data.toList = l at *
  cases l with
  | nil => exact absurd rfl h
  | cons c t =>
    simp only [List.drop_succ_cons, List.drop_zero] at h2 ⊢
    have h1 := List.takeWhile_append_dropWhile (p := (· != (47 : UInt8))) (l := t)
    have h3 := congrArg List.length h1
    rw [List.length_append] at h3
    have h4 : t.dropWhile (· != 47) ≠ [] := fun e => by
      rw [e, List.append_nil] at h1
      have := (List.all_takeWhile (p := (· != (47 : UInt8))) (l := t))
      rw [h1] at this
      have := List.all_eq_true.1 this 47 h2
      simp at this
    have h5 : 0 < (t.dropWhile (· != 47)).length := List.length_pos_iff.2 h4
    simp only [List.length_cons] at hl
    refine ⟨_, by omega, rfl, ?_, ?_⟩
    · rw [ext_toB, hll]
      congr 1
      simp only [pc, Nat.sub_zero, List.drop_zero, List.take_succ_cons]
      rw [(tw_take _ t).1]
    · rw [rst_all, hll]
      congr 1
      simp only [rs, List.drop_succ_cons]
      exact (tw_take _ t).2

set_option maxHeartbeats 1000000 in
set_option maxRecDepth 100000 in
theorem cutStep_any (s : ByteArray) (w : World) (hs : s.size ≤ 33554432) (hne : s.data.toList ≠ []) :
    Calls Tryz.prog 120 #[.string s] w fun e w' => e = .returned (.tuple #[.string (toB (pc s.data.toList)), .string (toB (rs s.data.toList))]) ∧ Below w.heap.size w w' := by
  have IX := hide fun w => index_mark 47 (s.extract 1 s.size) w
  have h1 : 1 ≤ s.size := by
    have hl : s.data.toList.length = s.size := by simp
    have := List.length_pos_iff.2 hne
    omega
  rcases ib_cases 47 (s.extract 1 s.size).data.toList with ⟨h2, h3⟩ | ⟨h2, h3⟩
  · rw [h3] at IX
    have e1 : toB (pc s.data.toList) = s ∧ rs s.data.toList = [] := by
      rw [rst_all, toB_list] at h2
      generalize hll : s.data.toList = l at *
      cases l with
      | nil => exact absurd rfl hne
      | cons c t =>
        simp only [List.drop_succ_cons, List.drop_zero] at h2
        have hw : ∀ y ∈ t, (y != (47 : UInt8)) = true := fun y hy => by simp; intro e; subst e; exact h2 hy
        have ew : t.takeWhile (· != 47) = t := tw_all _ t hw
        refine ⟨?_, ?_⟩
        · show toB (c :: t.takeWhile _) = s
          rw [ew, ← hll, toB_self]
        · show t.dropWhile _ = []
          have := List.takeWhile_append_dropWhile (p := (· != (47 : UInt8))) (l := t)
          rw [ew] at this
          simpa using this
    rw [e1.1, e1.2]
    clear h2 h3 e1 hne
    go_enter Tryz.func120, Tryz.ntmps120
    go_wp2_with (first | (go_at_call 133; refine (unhide IX _).mono ?_; rintro e w' ⟨rfl, rfl⟩))
    go_ret2
    exact ⟨rfl, Below.refl _ _⟩
  · obtain ⟨k, hk, hkl, e1, e2⟩ := cut_step hne h2
    rw [h3, hkl] at IX
    rw [← e1, ← e2]
    clear h2 h3 e1 e2 hne hkl
    have mixed : Tryz.prog.follows .mixedOrders = true := by kernel_rfl
    go_enter Tryz.func120, Tryz.ntmps120
    go_wp2_with (first | (go_at_call 133; refine (unhide IX _).mono ?_; rintro e w' ⟨rfl, rfl⟩))
    go_region_o
    go_wp2
    go_ret2
    exact ⟨rfl, (Below.refl _ _).drew⟩
/-- What CutPrefix, Cut, Number and TxsOf tell of a piece. -/
theorem stepP_cut (l : List UInt8) : stepP l = if Lib.hasPrefix l [47] = true ∧ decide ((124 : UInt8) ∈ Lib.trimPrefix l [47]) = true ∧ (numOf (cutA 124 (toB (Lib.trimPrefix l [47]))).1.data.toList).isSome = true ∧ (txsAns (cutA 124 (toB (Lib.trimPrefix l [47]))).2).isSome = true
    then some (nans (numOf (cutA 124 (toB (Lib.trimPrefix l [47]))).1.data.toList), (txsAns (cutA 124 (toB (Lib.trimPrefix l [47]))).2).getD []) else none := by
  unfold stepP
  cases l with
  | nil => rfl
  | cons c t =>
    by_cases hc : c = 47
    · subst hc
      have h1 : Lib.hasPrefix (47 :: t) [47] = true := by simp [Lib.hasPrefix]
      have h2 : Lib.trimPrefix (47 :: t) [47] = t := by simp [Lib.trimPrefix, h1]
      rw [h1, h2]
      refine (if_pos rfl).trans ?_
      show stepOf (toB t) = _
      unfold stepOf cutA
      rw [toB_list]
      by_cases hm : (124 : UInt8) ∈ t
      · rw [if_pos hm, if_pos hm, decide_eq_true hm]
        simp only [toB_list]
        cases hn : numOf (hd 124 t) with
        | none => simp
        | some n =>
          cases ht : txsAns (toB (tl 124 t)) with
          | none => simp
          | some ts => simp [nans]
      · rw [if_neg hm, decide_eq_false hm]; simp
    · have h1 : Lib.hasPrefix (c :: t) [47] = false := by
        show ((47 == c) && _) = false
        rw [show ((47 : UInt8) == c) = false from by simpa using Ne.symm hc]; rfl
      rw [if_neg (by simp; exact hc), if_neg (by rw [h1]; simp)]
theorem row_lower2 {w : World} {B B' : Nat} {v : Value} {xs : List T4} (h : OT w B v xs) (hb : B' ≤ B) : OT w B' v xs := by
  refine ⟨h.1, ?_⟩
  rcases h.2 with h | ⟨g, cap, cur, h1, h2, h3⟩
  · exact .inl h
  · exact .inr ⟨g, cap, cur, h1, by omega, h3⟩
/-- A step's two cells. -/
def Two (w : World) (g : Nat) (n : Int) (v : Value) : Prop := w.cell? ⟨g, 0, none⟩ = some (.int .i64 n) ∧ w.cell? ⟨g, 1, none⟩ = some v
theorem two_new (w : World) (n : Int) (v : Value) (t : TypeId) : Two (w.alloc (.cells #[.int .i64 n, v] t)) w.heap.size n v := by
  refine ⟨?_, ?_⟩ <;> simp
theorem Two.below {w w' : World} {g B : Nat} {n : Int} {v : Value} (h : Two w g n v) (hb : Below B w w') (hg : g < B) : Two w' g n v :=
  ⟨(hb.cell (p := ⟨g, 0, none⟩) hg).trans h.1, (hb.cell (p := ⟨g, 1, none⟩) hg).trans h.2⟩
theorem grown_put (W : World) (a : Addr) (v : Value) : W.grownBy (W.setCell a v) (some a.block) :=
  ⟨rfl, rfl, rfl, (KeepsWalks.setCell W a v).size, fun k _ hk => Below.heap_setCell _ _ _ k (fun e => hk (by rw [e]))⟩
theorem ot_set {W : World} {B : Nat} {v : Value} {xs : List T4} (h : OT W B v xs) (a : Addr) (u : Value) (ha : a.block < B) : OT (W.setCell a u) B v xs := by
  refine World.ownsRow.kept h (grown_put W a u) ?_
  cases hv : v.ownBlock with
  | none => exact .inl rfl
  | some b =>
    refine .inr fun e => ?_
    have := (World.ownsRow.lt h b hv).1
    have e2 : b = a.block := by simpa using e
    omega
/-- A step as the program hands it. -/
abbrev stepV (o : Option St) (v : Value) : Value := .agg #[.int .i64 ((o.map (·.1)).getD 0), v]
abbrev stepT (o : Option St) : List T4 := (o.map (·.2)).getD []

set_option maxHeartbeats 2000000 in
set_option maxRecDepth 100000 in
theorem stepOf_any (s : ByteArray) (w : World) (hs : s.size ≤ 33554432) (hE : Env w) :
    Calls Tryz.prog 121 #[.string s] w fun e w' => ∃ v, e = .returned (.tuple #[stepV (stepP s.data.toList) v, .bool (stepP s.data.toList).isSome]) ∧ OT w' w.heap.size v (stepT (stepP s.data.toList)) ∧ Below w.heap.size w w' := by
  have CP := hide fun w => Tryz.strings_CutPrefix s ⟨#[47]⟩ w
  have HO := hide (stepP_cut s.data.toList)
  have hz : (Lib.trimPrefix s.data.toList [47]).length ≤ s.size := by
    have hl : s.data.toList.length = s.size := by simp
    unfold Lib.trimPrefix
    split <;> simp
  have e1 : (⟨#[47]⟩ : ByteArray).data.toList = [47] := rfl
  rw [e1] at CP
  have e2 : (⟨(Lib.trimPrefix s.data.toList [47]).toArray⟩ : ByteArray) = toB (Lib.trimPrefix s.data.toList [47]) := rfl
  rw [e2] at CP
  obtain ⟨mk, hmk⟩ : ∃ b, Lib.hasPrefix s.data.toList [47] = b := ⟨_, rfl⟩
  obtain ⟨tp, htp⟩ : ∃ b, Lib.trimPrefix s.data.toList [47] = b := ⟨_, rfl⟩
  rw [hmk] at CP HO
  rw [htp] at CP HO hz
  obtain ⟨tx, htx⟩ : ∃ b, toB tp = b := ⟨_, rfl⟩
  have hts : tx.size ≤ 33554432 := by rw [← htx, toB_size]; omega
  have e3 : tx.data.toList = tp := by rw [← htx, toB_list]
  have CT := hide fun w => cut_mark 124 tx w hts
  rw [htx] at CP HO
  rw [e3] at CT
  have hc := cutA_size 124 tx
  obtain ⟨pt, hpt⟩ : ∃ b, decide ((124 : UInt8) ∈ tp) = b := ⟨_, rfl⟩
  rw [hpt] at CT HO
  obtain ⟨ca, hca⟩ : ∃ b, cutA 124 tx = b := ⟨_, rfl⟩
  rw [hca] at CT HO hc
  have NU := hide fun w hE => number_any ca.1 (by omega) w hE
  have TX := hide fun w hE => implTxsOf ca.2 w (by omega) hE
  obtain ⟨cn, hcn⟩ : ∃ x, numOf ca.1.data.toList = x := ⟨_, rfl⟩
  obtain ⟨ct, hct⟩ : ∃ x, txsAns ca.2 = x := ⟨_, rfl⟩
  rw [hcn] at NU HO
  rw [hct] at TX HO
  obtain ⟨o, ho⟩ : ∃ o, stepP s.data.toList = o := ⟨_, rfl⟩
  rw [ho] at HO ⊢
  obtain ⟨n, hn⟩ : ∃ n, nans cn = n := ⟨_, rfl⟩
  obtain ⟨bn, hbn⟩ : ∃ b, cn.isSome = b := ⟨_, rfl⟩
  obtain ⟨bt, hbt⟩ : ∃ b, ct.isSome = b := ⟨_, rfl⟩
  obtain ⟨ts, hts2⟩ : ∃ b, ct.getD [] = b := ⟨_, rfl⟩
  rw [hn] at NU HO
  rw [hbn] at NU HO
  rw [hbt] at TX HO
  rw [hts2] at TX HO
  have HE := hide hE
  clear hE hmk htp htx hts e1 e2 e3 hc hpt hca hcn hct ho hn hbn hbt hts2 hz hs
  obtain ⟨c1, c2⟩ := ca
  go_enter Tryz.func121, Tryz.ntmps121
  go_wp2_with fail
  refine (unhide CP _).mono ?_
  rintro _ w1 ⟨rfl, rfl⟩
  go_wp2_with fail
  refine (unhide CT _).mono ?_
  rintro _ w2 ⟨rfl, b2⟩
  have b0 : Below w.heap.size w (w.alloc (.cells #[.int .i64 0, .slice none 0 0] 85)) := (Below.refl _ _).alloc (Nat.le_refl _) _
  have T0 := two_new w 0 (.slice none 0 0) 85
  have F0 : ∀ j, (w.alloc (.cells #[.int .i64 0, .slice none 0 0] 85)).frozen? ⟨w.heap.size, j, none⟩ = false := fun j => by simp [go_sem]
  have z0 : (w.alloc (.cells #[.int .i64 0, .slice none 0 0] 85)).heap.size = w.heap.size + 1 := by simp
  generalize (w.alloc (.cells #[.int .i64 0, .slice none 0 0] 85)) = w0 at *
  have HE := hide ((unhide HE).below b0)
  go_wp2_with fail
  refine (unhide NU _ ((unhide HE).below b2)).mono ?_
  rintro _ w3 ⟨rfl, b3⟩
  have b23 := b2.trans (b3.mono b2.size)
  go_wp2_with fail
  refine (unhide TX _ ((unhide HE).below b23)).mono ?_
  rintro _ w4 ⟨vt, rfl, ot, b4⟩
  have b24 := b23.trans (b4.mono b23.size)
  obtain ⟨ta, tc, rfl⟩ : ∃ ta tc, vt = .slice ta ts.length tc := by
    rcases ot.2 with ⟨rfl, h0⟩ | ⟨g, cap, cur, rfl, _⟩
    · exact ⟨none, 0, by rw [h0]⟩
    · exact ⟨_, _, rfl⟩
  clear CP CT NU TX b3 b4
  have s23 := b23.size
  have OTT := hide (row_lower2 (B' := w.heap.size + 1) ot (by omega))
  obtain ⟨t0, t1⟩ := T0.below b24 (by omega)
  have F4 := frozen_below b24 (by omega) F0
  have B4 := b0.trans (b24.mono (by omega))
  clear ot F0 T0 b24 b23 b0
  cases mk with
  | false =>
    have HO := (unhide HO).trans (if_neg (by simp)); subst HO
    go_wp2
    refine bodyPost_ret (v := .tuple #[stepV none (.slice none 0 0), .bool false]) (by simp [results, Tryz.results121, go_sem, t0, t1]) rfl ?_
    exact ⟨_, rfl, World.ownsRow_nil _ _ _ _, (B4.setCell (Nat.le_refl _) _).setCell (Nat.le_refl _) _⟩
  | true =>
  cases pt with
  | false =>
    have HO := (unhide HO).trans (if_neg (by simp)); subst HO
    go_wp2
    refine bodyPost_ret (v := .tuple #[stepV none (.slice none 0 0), .bool false]) (by simp [results, Tryz.results121, go_sem, t0, t1]) rfl ?_
    exact ⟨_, rfl, World.ownsRow_nil _ _ _ _, (B4.setCell (Nat.le_refl _) _).setCell (Nat.le_refl _) _⟩
  | true =>
  cases bn with
  | false =>
    have HO := (unhide HO).trans (if_neg (by simp)); subst HO
    go_wp2
    refine bodyPost_ret (v := .tuple #[stepV none (.slice none 0 0), .bool false]) (by simp [results, Tryz.results121, go_sem, t0, t1]) rfl ?_
    exact ⟨_, rfl, World.ownsRow_nil _ _ _ _, (B4.setCell (Nat.le_refl _) _).setCell (Nat.le_refl _) _⟩
  | true =>
  cases bt with
  | false =>
    have HO := (unhide HO).trans (if_neg (by simp)); subst HO
    go_wp2
    refine bodyPost_ret (v := .tuple #[stepV none (.slice none 0 0), .bool false]) (by simp [results, Tryz.results121, go_sem, t0, t1]) rfl ?_
    exact ⟨_, rfl, World.ownsRow_nil _ _ _ _, (B4.setCell (Nat.le_refl _) _).setCell (Nat.le_refl _) _⟩
  | true =>
    have HO := (unhide HO).trans (if_pos (by simp)); subst HO
    go_wp2
    refine bodyPost_ret (v := .tuple #[stepV (some (n, ts)) (.slice ta ts.length tc), .bool true]) (by simp [results, Tryz.results121, go_sem, t0, t1]) rfl ?_
    exact ⟨_, rfl, row_lower2 (ot_set (ot_set (unhide OTT) _ _ (by show w.heap.size < _; omega)) _ _ (by show w.heap.size < _; omega)) (by omega), (B4.setCell (Nat.le_refl _) _).setCell (Nat.le_refl _) _⟩
end Go.Proofs.YtggmgfkmbgcooaaGreatDoor

/- impl.stepsOf and what it hands back: the pieces of a text, one by one, each read as a step. -/
namespace Go.Proofs.YtggmgfkmbgcooaaGreatDoor
open Go.RowKit Go.Shelf
set_option linter.unusedSectionVars false
variable [∀ (a b c d : Int), Decidable (Ok4 a b c d)]
variable [∀ (a b c d : Nat), Decidable (okN a b c d)]
variable [∀ (last : Int) (s : St), Decidable (GoodSt last s)]
variable [∀ (x : T4), Decidable (OkT x)]
attribute [local go_sem] Oper.semAt_some

/-- What round k hands: the k-th piece read as a step, its payments in memory that the caller has not seen. -/
def Hands (s : ByteArray) (k : Nat) (vs : Array Value) (U V : World) : Prop := ∃ v, vs = #[stepV (stepP (pc (rsN s.data.toList k))) v, .bool (stepP (pc (rsN s.data.toList k))).isSome] ∧ OT V U.heap.size v (stepT (stepP (pc (rsN s.data.toList k))))

set_option maxHeartbeats 4000000 in
set_option maxRecDepth 100000 in
theorem iter_feeds (s : ByteArray) (hs : s.size ≤ 33554432) (m Bs n : Nat) (hm : rsN s.data.toList m = [] ∧ ∀ k, k < m → rsN s.data.toList k ≠ []) (wb w : World) (hE : Env wb) (hb : Below wb.heap.size wb w) (hc : w.cell? ⟨Bs, 0, none⟩ = some (.string s)) :
    Feeds Fence.wide n Tryz.prog 119 #[.pointer (some ⟨Bs, 0, none⟩)] wb.heap.size m (Hands s) w := fun l J X W hW hJ hX hY h0 => by
  have hcW : W.cell? ⟨Bs, 0, none⟩ = some (.string s) := (hW.cell (p := ⟨Bs, 0, none⟩) (cell_lt hc)).trans hc
  have HB := hide (hb.trans (hW.mono hb.size))
  have HE := hide hE
  have HY := hide hY
  have HJ := hide hJ
  have HM := hide hm
  clear hc hW hE hY hJ hX hb hm
  refine callsIn_of_wp Tryz.func119 rfl trivial ?_ rfl
  simp only [Tryz.ntmps119, List.size_toArray, List.length_cons, List.length_nil, Nat.reduceAdd, Nat.reduceSub, Array.replicate_succ, Array.replicate_zero, List.push_toArray, List.append_toArray, List.nil_append, List.cons_append]
  gi_wp2
  gi_loopw [3] (fun r wr => ∃ k : Nat, k ≤ m ∧ r = .string (toB (rsN s.data.toList k)) ∧ Hid (J k wr) ∧ Hid (Below wb.heap.size wb wr)) (fun r _ => match r with | .string x => x.size | _ => 0)
  case atStart => exact ⟨0, Nat.zero_le _, by show _ = Value.string (toB s.data.toList); rw [toB_self], h0, HB⟩
  case round =>
    obtain ⟨k, hk, rfl, HJk, HBk⟩ := hrel
    by_cases hz : rsN s.data.toList k = []
    · have ez : toB (rsN s.data.toList k) = ⟨#[]⟩ := by rw [hz]; rfl
      rw [ez]
      have hkm : k = m := by
        by_cases e : k < m
        · exact absurd hz ((unhide HM).2 k e)
        · omega
      subst hkm
      have HJk' := unhide HJk
      gi_wp2
      go_end0
      exact ⟨⟨_, rfl⟩, .inl HJk'⟩
    · have hkm : k < m := by
        by_cases e : k = m
        · subst e; exact absurd (unhide HM).1 hz
        · omega
      have hsz : (toB (rsN s.data.toList k)).size ≤ 33554432 := by
        have := rsN_le s.data.toList k
        have hl : s.data.toList.length = s.size := by simp
        rw [toB_size]; omega
      have hsp : (toB (pc (rsN s.data.toList k))).size ≤ 33554432 := by
        have := congrArg List.length (pc_rs (rsN s.data.toList k))
        rw [List.length_append] at this
        rw [toB_size] at hsz ⊢; omega
      have CS := hide fun w => cutStep_any (toB (rsN s.data.toList k)) w hsz (by rw [toB_list]; exact hz)
      have SO := hide fun w hE => stepOf_any (toB (pc (rsN s.data.toList k))) w hsp hE
      rw [toB_list] at CS SO
      have HZ : Hid ((toB (rs (rsN s.data.toList k))).size < (toB (rsN s.data.toList k)).size) := hide (by rw [toB_size, toB_size]; exact rs_lt hz)
      have hne2 : ((toB (rsN s.data.toList k)).toList == []) = false := by
        rw [beq_eq_false_iff_ne, ByteArray.toList_eq, toB_list]; exact hz
      have hne := str_ne (toB_ne hz)
      have YV := hide fun V v h hv => unhide HY k #[stepV (stepP (pc (rsN s.data.toList k))) v, .bool (stepP (pc (rsN s.data.toList k))).isSome] wr V (unhide HJk) h hkm ⟨v, rfl, hv⟩
      have e2 : rs (rsN s.data.toList k) = rsN s.data.toList (k + 1) := rfl
      rw [e2] at HZ CS
      obtain ⟨x, hx⟩ : ∃ x, toB (rsN s.data.toList k) = x := ⟨_, rfl⟩
      obtain ⟨x', hx'⟩ : ∃ x, toB (rsN s.data.toList (k + 1)) = x := ⟨_, rfl⟩
      obtain ⟨p, hp⟩ : ∃ x, toB (pc (rsN s.data.toList k)) = x := ⟨_, rfl⟩
      obtain ⟨o, ho⟩ : ∃ x, stepP (pc (rsN s.data.toList k)) = x := ⟨_, rfl⟩
      rw [hx] at CS HZ hne hne2 ⊢
      rw [hx'] at CS HZ
      rw [hp] at CS SO
      rw [ho] at SO YV
      clear hx hp ho hsz hsp e2 hz
      gi_wp2_with fail
      refine ⟨trivial, fun h => (by cases h), (callsIn_wide.2 (unhide CS _)).mono ?_⟩
      rintro _ w1 ⟨rfl, b1⟩
      gi_wp2_with fail
      refine ⟨trivial, fun h => (by cases h), (callsIn_wide.2 (unhide SO _ ((unhide HE).below ((unhide HBk).trans (b1.mono (unhide HBk).size))))).mono ?_⟩
      rintro _ w2 ⟨v, rfl, ot, b2⟩
      have b12 := b1.trans (b2.mono b1.size)
      obtain ⟨fn, tmps, assign, body, hy, hR⟩ := unhide YV w2 v b12 (row_lower2 ot b1.size)
      clear CS SO YV
      gi_wp2
      refine ⟨fun h => (by cases h), hR.mono ?_⟩
      rintro e w3 (⟨rfl, hJ3, hk3⟩ | ⟨rfl, hX3⟩)
      · have HB3 := hide (((unhide HBk).trans (b12.mono (unhide HBk).size)).trans hk3)
        have HJ3 := hide hJ3
        clear hR hy hJ3 ot b1 b2 b12 hk3
        gi_wp2
        go_roundw
        case rel => exact ⟨k + 1, hkm, by rw [hx'], HJ3, HB3⟩
        case measure => exact unhide HZ
      · clear hR hy ot b1 b2 b12
        gi_wp2
        refine bodyPost_ret (results_none rfl _ _ _) rfl ?_
        exact ⟨⟨_, rfl⟩, .inr ⟨k, hkm, hX3⟩⟩
/-- impl.stepsOf: the function that hands the pieces of s. -/
theorem stepsOf_any (s : ByteArray) (w : World) :
    Calls Tryz.prog 91 #[.string s] w fun e w' => e = .returned (.func (.func 119) #[] #[.pointer (some ⟨w.heap.size, 0, none⟩)]) ∧ w' = w.alloc (.cells #[.string s] 9) := by
  have hmf : ∀ (fn : Fn) (first cap : Array Value) (w : World), (Instr.makeFunc fn first cap).run Tryz.prog w = .ok (.func fn first cap) w := fun _ _ _ _ => rfl
  go_enter Tryz.func91, Tryz.ntmps91
  go_wp2
  go_ret
  exact ⟨rfl, rfl⟩
end Go.Proofs.YtggmgfkmbgcooaaGreatDoor

/- impl.Steps: it answers what stepsAns says, in memory of its own. -/
namespace Go.Proofs.YtggmgfkmbgcooaaGreatDoor
open Go.RowKit Go.Shelf
set_option linter.unusedSectionVars false
variable [∀ (a b c d : Int), Decidable (Ok4 a b c d)]
variable [∀ (a b c d : Nat), Decidable (okN a b c d)]
variable [∀ (last : Int) (s : St), Decidable (GoodSt last s)]
variable [∀ (x : T4), Decidable (OkT x)]
attribute [local go_sem] Oper.semAt_some

section keeps
variable {W W' : World} {row : Option Nat} {B : Nat}
theorem row_keep {base e size n : Nat} {v : Value} {xs : List Value} (h : W.ownsRow base e size v n xs) (hg : W.grownBy W' row) (hr : ∀ r, row = some r → B ≤ r ∧ ∃ o : Obj, W.heap[r]? = some o ∧ o.isCells = false) : W'.ownsRow base e size v n xs := by
  refine h.kept hg ?_
  rcases h.2 with ⟨rfl, _⟩ | ⟨g, cap, cur, rfl, _, hgb, _⟩
  · exact .inl rfl
  · refine .inr fun e' => ?_
    obtain ⟨_, o, ho, hc⟩ := hr g (by simpa [Value.ownBlock] using e'.symm)
    rw [hgb] at ho; cases ho; cases hc
theorem box_keep {b : Nat} {t : TypeId} {v : Value} (h : Boxed W b t v) (hg : W.grownBy W' row) (hr : ∀ r, row = some r → B ≤ r ∧ ∃ o : Obj, W.heap[r]? = some o ∧ o.isCells = false) : Boxed W' b t v := by
  refine h.kept hg fun e => ?_
  obtain ⟨_, o, ho, hc⟩ := hr b e.symm
  rw [show W.heap[b]? = _ from h] at ho; cases ho; cases hc
theorem ost_keep {base : Nat} {v : Value} {ss : List St} {vs : List Value} (h : OStV W base v ss vs) (hg : W.grownBy W' row) (hr : ∀ r, row = some r → B ≤ r ∧ ∃ o : Obj, W.heap[r]? = some o ∧ o.isCells = false) : OStV W' base v ss vs :=
  ⟨h.len, row_keep h.row hg hr, fun k hk => row_keep (h.each k hk) hg hr, h.apart⟩
end keeps
/-- What Steps holds between rounds, ss having been read: its four variables, and its list. -/
structure Mem (w W : World) (ss : List St) (vs : List Value) (v : Value) : Prop where
  r0 : Boxed W w.heap.size 81 (.slice none 0 0)
  r1 : Boxed W (w.heap.size + 1) 4 (.bool false)
  st : Boxed W (w.heap.size + 1 + 1) 81 v
  la : Boxed W (w.heap.size + 1 + 1 + 1) 3 (.int .i64 (lastV ss))
  own : OStV W (w.heap.size + 5) v ss vs
  below : Below w.heap.size w W
  size : w.heap.size + 5 ≤ W.heap.size
theorem Mem.keep {w W W' : World} {ss : List St} {vs : List Value} {v : Value} {row : Option Nat} {B : Nat} (h : Mem w W ss vs v) (hB : w.heap.size ≤ B) (hg : W.grownBy W' row) (hr : ∀ r, row = some r → B ≤ r ∧ ∃ o : Obj, W.heap[r]? = some o ∧ o.isCells = false) : Mem w W' ss vs v :=
  ⟨box_keep h.r0 hg hr, box_keep h.r1 hg hr, box_keep h.st hg hr, box_keep h.la hg hr, ost_keep h.own hg hr, h.below.grown hg h.below.size (fun k e => Nat.le_trans hB (hr k e).1), Nat.le_trans h.size hg.size⟩
/-- Behind the append: the variables are as they were. -/
theorem mem_boxes {w W w1 : World} {ss : List St} {vs : List Value} {v : Value} {tmp : Obj} (me : Mem w W ss vs v) (hg : (W.alloc tmp).grownBy w1 v.ownBlock) :
    Boxed w1 w.heap.size 81 (.slice none 0 0) ∧ Boxed w1 (w.heap.size + 1) 4 (.bool false) ∧ Boxed w1 (w.heap.size + 1 + 1) 81 v ∧ Boxed w1 (w.heap.size + 1 + 1 + 1) 3 (.int .i64 (lastV ss)) ∧ KeepsOthers W w1 ∧ Below w.heap.size W w1 ∧ W.heap.size ≤ w1.heap.size := by
  have hne : ∀ b, b < w.heap.size + 5 → some b ≠ v.ownBlock := fun b hb e => by
    have := (World.ownsRow.lt me.own.row b e.symm).1
    omega
  have hz := hg.size
  simp only [World.size_alloc] at hz
  refine ⟨(me.r0.alloc tmp).kept hg (hne _ (by omega)), (me.r1.alloc tmp).kept hg (hne _ (by omega)), (me.st.alloc tmp).kept hg (hne _ (by omega)), (me.la.alloc tmp).kept hg (hne _ (by omega)), ?_, ?_, by omega⟩
  · refine (KeepsOthers.alloc W tmp).trans (KeepsOthers.of_grownBy hg fun j o ej hj => ?_)
    rcases (me.own.row.alloc tmp).2 with ⟨rfl, _⟩ | ⟨g, cap, cur, rfl, _, hgb, _⟩
    · simp [Value.ownBlock] at ej
    · obtain rfl : g = j := by simpa [Value.ownBlock] using ej
      rw [hgb] at hj; cases hj; rfl
  · have hsz := me.below.size
    refine ((Below.refl w.heap.size W).alloc hsz tmp).grown hg (by simp; omega) fun j ej => ?_
    have := (World.ownsRow.lt me.own.row j ej).1
    omega
theorem ost_set {V : World} {B : Nat} {v : Value} {ss : List St} {vs : List Value} (h : OStV V B v ss vs) (b : Nat) (y : Value) (hb : b < B) : OStV (V.setCell ⟨b, 0, none⟩ y) B v ss vs := by
  refine h.kept (grown_put V ⟨b, 0, none⟩ y) ?_ fun k hk => ?_
  · cases hv : v.ownBlock with
    | none => exact .inl rfl
    | some g =>
      refine .inr fun e => ?_
      have := (World.ownsRow.lt h.row g hv).1
      have e2 : g = b := by simpa using e
      omega
  · cases hv : (vs.getD k (.slice none 0 0)).ownBlock with
    | none => exact .inl rfl
    | some g =>
      refine .inr fun e => ?_
      have := (World.ownsRow.lt (h.each k hk) g hv).1
      have e2 : g = b := by simpa using e
      omega
/-- Behind the stores: one step more. -/
theorem mem_more {w W w1 : World} {ss : List St} {vs : List Value} {v v' u : Value} {x : St} {tmp : Obj} (me : Mem w W ss vs v) (hg : (W.alloc tmp).grownBy w1 v.ownBlock) (own1 : OStV w1 (w.heap.size + 5) v' (ss ++ [x]) (vs ++ [u])) :
    Mem w ((w1.setCell ⟨w.heap.size + 1 + 1, 0, none⟩ v').setCell ⟨w.heap.size + 1 + 1 + 1, 0, none⟩ (.int .i64 x.1)) (ss ++ [x]) (vs ++ [u]) v' ∧ KeepsOthers W ((w1.setCell ⟨w.heap.size + 1 + 1, 0, none⟩ v').setCell ⟨w.heap.size + 1 + 1 + 1, 0, none⟩ (.int .i64 x.1)) ∧ Below w.heap.size W ((w1.setCell ⟨w.heap.size + 1 + 1, 0, none⟩ v').setCell ⟨w.heap.size + 1 + 1 + 1, 0, none⟩ (.int .i64 x.1)) := by
  obtain ⟨b0, b1, b2, b3, k1, bl, z⟩ := mem_boxes me hg
  have hset : ∀ (V : World) (b : Nat) (y : Value), b < w.heap.size + 5 → OStV V (w.heap.size + 5) v' (ss ++ [x]) (vs ++ [u]) → OStV (V.setCell ⟨b, 0, none⟩ y) (w.heap.size + 5) v' (ss ++ [x]) (vs ++ [u]) := fun V b y hb h => ost_set h b y hb
  have bb : Below w.heap.size W ((w1.setCell ⟨w.heap.size + 1 + 1, 0, none⟩ v').setCell ⟨w.heap.size + 1 + 1 + 1, 0, none⟩ (.int .i64 x.1)) := (bl.setCell (p := ⟨w.heap.size + 1 + 1, 0, none⟩) (by show w.heap.size ≤ w.heap.size + 1 + 1; omega) _).setCell (p := ⟨w.heap.size + 1 + 1 + 1, 0, none⟩) (by show w.heap.size ≤ w.heap.size + 1 + 1 + 1; omega) _
  refine ⟨⟨(b0.other (by omega) _).other (by omega) _, (b1.other (by omega) _).other (by omega) _, (b2.set _).other (by omega) _, ?_, hset _ _ _ (by omega) (hset _ _ _ (by omega) own1), me.below.trans bb, ?_⟩, (k1.trans (KeepsOthers.setCell _ _ _)).trans (KeepsOthers.setCell _ _ _), bb⟩
  · rw [lastV_snoc]; exact (b3.other (by omega) _).set _
  · have := bb.size
    have := me.size
    omega
theorem step_in {w W w1 : World} {ss : List St} {vs : List Value} {va ta : Option Addr} {vc tc N Q : Nat} {n : Int} {ts : List T4} {v' : Value} (me : Mem w W ss vs (.slice va ss.length vc)) (hN : ∀ j, j < ss.length → ∀ b, (vs.getD j (.slice none 0 0)).ownBlock = some b → b < N) (hbN : w.heap.size + 5 ≤ N)
    (ot : OT (W.alloc (.cells #[.int .i64 n, .slice ta ts.length tc] 85)) N (.slice ta ts.length tc) ts) (q0 : W.cell? ⟨Q, 0, none⟩ = some (.int .i64 n)) (hvq : ∀ b, (Value.slice va ss.length vc).ownBlock = some b → b ≠ Q) (hQ : w.heap.size + 5 ≤ Q)
    (ho : w1.ownsRow (w.heap.size + 5) 85 2 v' (ss.length + 1) (scells ((ss.map (·.1)).zip vs) ++ scell (n, .slice ta ts.length tc))) (hg : (W.alloc (.cells #[.int .i64 n, .slice ta ts.length tc] 85)).grownBy w1 (Value.slice va ss.length vc).ownBlock) :
    ∃ g' cap', v' = .slice (some ⟨g', 0, none⟩) (ss.length + 1) cap' ∧ w1.cell? ⟨w.heap.size + 1 + 1, 0, none⟩ = some (.slice va ss.length vc) ∧ w1.frozen? ⟨w.heap.size + 1 + 1, 0, none⟩ = false ∧
      (w1.setCell ⟨w.heap.size + 1 + 1, 0, none⟩ v').cell? ⟨w.heap.size + 1 + 1 + 1, 0, none⟩ = some (.int .i64 (lastV ss)) ∧ (w1.setCell ⟨w.heap.size + 1 + 1, 0, none⟩ v').frozen? ⟨w.heap.size + 1 + 1 + 1, 0, none⟩ = false ∧ (w1.setCell ⟨w.heap.size + 1 + 1, 0, none⟩ v').cell? ⟨Q, 0, none⟩ = some (.int .i64 n) ∧
      Hid (Mem w ((w1.setCell ⟨w.heap.size + 1 + 1, 0, none⟩ v').setCell ⟨w.heap.size + 1 + 1 + 1, 0, none⟩ (.int .i64 n)) (ss ++ [(n, ts)]) (vs ++ [.slice ta ts.length tc]) v' ∧ KeepsOthers W ((w1.setCell ⟨w.heap.size + 1 + 1, 0, none⟩ v').setCell ⟨w.heap.size + 1 + 1 + 1, 0, none⟩ (.int .i64 n)) ∧ Below w.heap.size W ((w1.setCell ⟨w.heap.size + 1 + 1, 0, none⟩ v').setCell ⟨w.heap.size + 1 + 1 + 1, 0, none⟩ (.int .i64 n))) := by
  have bX : Below W.heap.size W (W.alloc (.cells #[.int .i64 n, .slice ta ts.length tc] 85)) := (Below.refl _ _).alloc (Nat.le_refl _) _
  have own1 := ost_more (me.own.below bX) ot hN hbN ho hg
  obtain ⟨g', cap', e⟩ := ownsRow_succ ho
  obtain ⟨_, _, b2, b3, _, _, _⟩ := mem_boxes me hg
  have b3' := b3.other (B' := w.heap.size + 1 + 1) (by omega) v'
  have hq1 : w1.heap[Q]? = W.heap[Q]? := (hg.block Q (by have := cell_lt q0; simp at *; omega) (fun e => hvq Q e.symm rfl)).trans (Below.heap_alloc _ _ _ (cell_lt q0))
  have p0 : w1.cell? ⟨Q, 0, none⟩ = some (.int .i64 n) := (World.cell?_of_block (w := W) (w' := w1) hq1).trans q0
  exact ⟨g', cap', e, b2.cell, b2.frozen, b3'.cell, b3'.frozen, (World.cell?_setCell_other _ _ _ _ (fun e => by have := congrArg Addr.block e; simp only at this; omega)).trans p0, hide (mem_more (x := (n, ts)) me hg own1)⟩
/-- What has been read of s in k rounds. -/
def Sofar (s : ByteArray) (k : Nat) (ss : List St) : Prop := ss.length = k ∧ s.data.toList = nm ss ++ rsN s.data.toList k ∧ OkSts ss
def SI (s : ByteArray) (w : World) (k : Nat) (W : World) : Prop := ∃ ss vs v, Sofar s k ss ∧ Mem w W ss vs v
/-- It has been left: s is no name. -/
def SX (s : ByteArray) (w : World) (_ : Nat) (W : World) : Prop := stepsAns s = none ∧ Boxed W w.heap.size 81 (.slice none 0 0) ∧ Boxed W (w.heap.size + 1) 4 (.bool false) ∧ Below w.heap.size w W
abbrev fnIt (w : World) : Value := .func (.func 119) #[] #[.pointer (some ⟨w.heap.size + 1 + 1 + 1 + 1, 0, none⟩)]
/-- A round's beginning: the step has been taken over. -/
def SA (s : ByteArray) (w : World) (k : Nat) (a' : Act) (W : World) : Prop := ∃ (ss : List St) (vs : List Value) (v u : Value) (N Q : Nat), Sofar s k ss ∧ Mem w W ss vs v ∧ (∀ j, j < ss.length → ∀ b, (vs.getD j (.slice none 0 0)).ownBlock = some b → b < N) ∧ w.heap.size + 5 ≤ N ∧ OT W N u (stepT (stepP (pc (rsN s.data.toList k)))) ∧
  w.heap.size + 5 ≤ Q ∧ Two W Q (((stepP (pc (rsN s.data.toList k))).map (·.1)).getD 0) u ∧ (∀ b, v.ownBlock = some b → b ≠ Q) ∧
  a' = { tmps := #[.string s, undef, .pointer (some ⟨w.heap.size, 0, none⟩), .pointer (some ⟨w.heap.size + 1, 0, none⟩), .pointer (some ⟨w.heap.size + 1 + 1, 0, none⟩), .pointer (some ⟨w.heap.size + 1 + 1 + 1, 0, none⟩), .pointer (some ⟨Q, 0, none⟩), .bool (stepP (pc (rsN s.data.toList k))).isSome, .string s, fnIt w, stepV (stepP (pc (rsN s.data.toList k))) u, .bool (stepP (pc (rsN s.data.toList k))).isSome, undef, undef, undef, undef, undef, undef, undef, undef, undef, undef, undef, undef, undef, undef, undef, undef, undef, undef, undef, undef, undef, undef, undef, undef, undef, undef, undef, undef], defers := [] }

set_option maxHeartbeats 8000000 in
set_option maxRecDepth 100000 in
theorem implSteps (s : ByteArray) (w : World) (hs : s.size ≤ 33554432) (hE : Env w) :
    Calls Tryz.prog 54 #[.string s] w fun e w' => ∃ v, e = .returned (.tuple #[v, .bool (stepsAns s).isSome]) ∧ OSt w' w.heap.size v ((stepsAns s).getD []) ∧ Below w.heap.size w w' := by
  obtain ⟨m, hm⟩ := rounds s.data.toList
  have SO := hide fun w => stepsOf_any s w
  refine (callsIn_wide (n := 5)).1 ?_
  refine callsIn_of_wp_marks Tryz.func54 rfl trivial ?_ rfl
  simp only [Tryz.ntmps54, List.size_toArray, List.length_cons, List.length_nil, Nat.reduceAdd, Nat.reduceSub, Array.replicate_succ, Array.replicate_zero, List.push_toArray, List.append_toArray, List.nil_append, List.cons_append]
  gi_wp2_with fail
  refine ⟨trivial, (callsIn_wide.2 (unhide SO _)).mono ?_⟩
  rintro _ w1 ⟨rfl, rfl⟩
  gi_wp2
  obtain ⟨wl, hwl⟩ : ∃ wl, ((((w.alloc (.cells #[.slice none 0 0] 81)).alloc (.cells #[.bool false] 4)).alloc (.cells #[.slice none 0 0] 81)).alloc (.cells #[.int .i64 0] 3)).alloc (.cells #[.string s] 9) = wl := ⟨_, rfl⟩
  have zl : wl.heap.size = w.heap.size + 5 := by rw [← hwl]; simp
  have bl : Below w.heap.size w wl := hwl ▸ (((((Below.refl _ _).alloc (Nat.le_refl _) _).alloc (by simp) _).alloc (by simp; omega) _).alloc (by simp; omega) _).alloc (by simp; omega) _
  have m0 : Mem w wl [] [] (.slice none 0 0) := by
    refine ⟨?_, ?_, ?_, ?_, ⟨rfl, World.ownsRow_nil _ _ _ _, fun k hk => by simp at hk, fun i j _ hj => by simp at hj⟩, bl, by omega⟩
    · rw [← hwl]; exact ((((Boxed.new w _ _).alloc _).alloc _).alloc _).alloc _
    · rw [← hwl]; have := (((Boxed.new (w.alloc (.cells #[.slice none 0 0] 81)) 4 (.bool false)).alloc (.cells #[.slice none 0 0] 81)).alloc (.cells #[.int .i64 0] 3)).alloc (.cells #[.string s] 9); simpa using this
    · rw [← hwl]; have := ((Boxed.new ((w.alloc (.cells #[.slice none 0 0] 81)).alloc (.cells #[.bool false] 4)) 81 (.slice none 0 0)).alloc (.cells #[.int .i64 0] 3)).alloc (.cells #[.string s] 9); simpa using this
    · rw [← hwl]; have := (Boxed.new (((w.alloc (.cells #[.slice none 0 0] 81)).alloc (.cells #[.bool false] 4)).alloc (.cells #[.slice none 0 0] 81)) 3 (.int .i64 0)).alloc (.cells #[.string s] 9); simpa [lastV] using this
  have cl : wl.cell? ⟨w.heap.size + 4, 0, none⟩ = some (.string s) := by
    have := (Boxed.new ((((w.alloc (.cells #[.slice none 0 0] 81)).alloc (.cells #[.bool false] 4)).alloc (.cells #[.slice none 0 0] 81)).alloc (.cells #[.int .i64 0] 3)) 9 (.string s)).cell
    rw [hwl] at this
    simpa using this
  have hzz : ((((w.alloc (.cells #[.slice none 0 0] 81)).alloc (.cells #[.bool false] 4)).alloc (.cells #[.slice none 0 0] 81)).alloc (.cells #[.int .i64 0] 3)).heap.size = w.heap.size + 4 := by simp
  have FE := iter_feeds s hs m (w.heap.size + 4) 4 hm w wl hE bl cl
  rw [hwl]
  try simp only [hzz]
  clear hwl hzz
  refine range_fed rfl (by omega) (gf := 119) (lb := #[.pointer (some ⟨w.heap.size + 4, 0, none⟩)]) rfl trivial (enters_of Tryz.func119 (by kernel_rfl) rfl) (hn₀ := by omega) (fun k vs U W h => by obtain ⟨v, rfl, _⟩ := h; rfl) FE
    (SI s w) (SX s w) ?hI ?hX ?h0 (SA s w) ?hAx ?hassign ?hbody ?hdone ?hstop
  case hI =>
    rintro k W W' row ⟨ss, vs, v, so, me⟩ hg hr
    exact ⟨ss, vs, v, so, me.keep (by omega) hg hr⟩
  case hX =>
    rintro k W W' row ⟨h1, h2, h3, h4⟩ hg hr
    exact ⟨h1, box_keep h2 hg hr, box_keep h3 hg hr, h4.grown hg h4.size (fun k e => by have := (hr k e).1; omega)⟩
  case h0 => exact ⟨[], [], _, ⟨rfl, rfl, by simp [OkSts]⟩, m0⟩
  case hAx =>
    rintro a' k W W' row ⟨ss, vs, v, u, N, Q, so, me, h1, h2, h3, h4, h5, h7, h8⟩ hg hr
    exact ⟨ss, vs, v, u, N, Q, so, me.keep (by omega) hg hr, h1, h2, row_keep h3 hg hr, h4, ⟨cell_kept h5.1 hg (fun r e => (hr r e).2), cell_kept h5.2 hg (fun r e => (hr r e).2)⟩, h7, h8⟩
  case hassign =>
    intro l k vs U W K hk hi bU hh hK
    obtain ⟨ss, ws, v, so, me⟩ := hi
    obtain ⟨u, rfl, ot⟩ := hh
    have hN : ∀ j, j < ss.length → ∀ b, (ws.getD j (.slice none 0 0)).ownBlock = some b → b < U.heap.size := fun j hj b hb => (World.ownsRow.lt (me.own.each j hj) b hb).2
    have hV : ∀ b, v.ownBlock = some b → b < U.heap.size := fun b hb => (World.ownsRow.lt me.own.row b hb).2
    have hU := me.size
    have hUW := bU.size
    have meW := me.keep (B := w.heap.size) (Nat.le_refl _) (grown_of bU) (fun r e => by cases e)
    obtain ⟨ta, tl, tc, rfl⟩ : ∃ ta tl tc, u = .slice ta tl tc := by
      rcases ot.2 with ⟨rfl, h0⟩ | ⟨g, cap, cur, rfl, _⟩
      · exact ⟨none, 0, 0, rfl⟩
      · exact ⟨_, _, _, rfl⟩
    have SAK : ∀ a', a' = _ → SA s w k a' (W.alloc (.cells #[.int .i64 (((stepP (pc (rsN s.data.toList k))).map (·.1)).getD 0), .slice ta tl tc] 85)) := fun a' ha => ⟨ss, ws, v, .slice ta tl tc, U.heap.size, W.heap.size, so, meW.keep (B := w.heap.size) (Nat.le_refl _) (World.grownBy_alloc W _ none) (fun r e => by cases e), hN, hU, World.ownsRow.alloc ot _, by omega, two_new W _ _ _, fun b hb => by have := hV b hb; omega, ha⟩
    have bA : Below w.heap.size W (W.alloc (.cells #[.int .i64 (((stepP (pc (rsN s.data.toList k))).map (·.1)).getD 0), .slice ta tl tc] 85)) := (Below.refl _ _).alloc (by omega) _
    have kA : KeepsFrom wl.heap.size W (W.alloc (.cells #[.int .i64 (((stepP (pc (rsN s.data.toList k))).map (·.1)).getD 0), .slice ta tl tc] 85)) := (KeepsOthers.alloc _ _).from _
    clear hN hV meW me ot so FE hE
    gi_wp2
    exact hK _ _ kA bA (SAK _ rfl)
  case hbody =>
    rintro l k a' W hk ⟨ss, vs, v, u, N, Q, so, me, hN, hbN, ot, hQ, two, hvq, rfl⟩
    have c0 := me.r0.cell
    have f0 := me.r0.frozen
    have c1 := me.r1.cell
    have f1 := me.r1.frozen
    have c2 := me.st.cell
    have c3 := me.la.cell
    have hl0 := lastV_ge so.2.2
    have hl30 := so.2.2.1
    have NO : Hid ((∀ x, stepP (pc (rsN s.data.toList k)) = some x → GoodSt (lastV ss) x → ss.length < 30 → False) → stepsAns s = none) := hide fun h => by
      refine piece_no so.2.1 (hm.2 k hk) so.2.2 ?_ h
      cases k with
      | zero => exact .inl (List.length_eq_zero_iff.1 so.1)
      | succ k => exact .inr ((rs_head (rsN s.data.toList k)).resolve_left (hm.2 (k + 1) hk))
    have OUT : Hid (stepsAns s = none → SX s w k ((W.setCell ⟨w.heap.size, 0, none⟩ (.slice none 0 0)).setCell ⟨w.heap.size + 1, 0, none⟩ (.bool false)) ∧ KeepsFrom wl.heap.size W ((W.setCell ⟨w.heap.size, 0, none⟩ (.slice none 0 0)).setCell ⟨w.heap.size + 1, 0, none⟩ (.bool false))) := hide fun h => ⟨⟨h, (me.r0.set _).other (by omega) _, (me.r1.other (by omega) _).set _, (me.below.setCell (p := ⟨w.heap.size, 0, none⟩) (Nat.le_refl _) _).setCell (p := ⟨w.heap.size + 1, 0, none⟩) (by show w.heap.size ≤ w.heap.size + 1; omega) _⟩, ((KeepsOthers.setCell _ _ _).trans (KeepsOthers.setCell _ _ _)).from _⟩
    obtain ⟨va, vc, rfl⟩ := OSt.form ⟨vs, me.own⟩
    obtain ⟨q0, q1⟩ := two
    have ON : Hid (∀ x, stepP (pc (rsN s.data.toList k)) = some x → GoodSt (lastV ss) x → ss.length < 30 → Sofar s (k + 1) (ss ++ [x])) := hide fun x hx hg h30 => by
      obtain ⟨h1, h2⟩ := piece_on so.2.1 so.2.2 hx hg h30
      exact ⟨by simp [so.1], h1, h2⟩
    obtain ⟨o, ho⟩ : ∃ o, stepP (pc (rsN s.data.toList k)) = o := ⟨_, rfl⟩
    rw [ho] at NO ON ot q0 ⊢
    have ME := hide me
    clear FE hm so me ho hE cl m0 bl
    cases o with
    | none =>
      have OUT := hide (unhide OUT (unhide NO fun x hx => by cases hx))
      clear NO ON
      simp only [Option.isSome_none, Option.map_none, Option.getD_none, stepV] at *
      gi_wp2_with fail
      refine ⟨trivial, ?_⟩
      gi_wp2
      exact ⟨(unhide OUT).2, (unhide OUT).1⟩
    | some x =>
      obtain ⟨n, ts⟩ := x
      simp only [Option.isSome_some, Option.map_some, Option.getD_some, stepV, stepT] at *
      obtain ⟨ta, tc, rfl⟩ : ∃ ta tc, u = .slice ta ts.length tc := by
        rcases ot.2 with ⟨rfl, h0⟩ | ⟨g, cap, cur, rfl, _⟩
        · exact ⟨none, 0, by rw [h0]⟩
        · exact ⟨_, _, rfl⟩
      have OT' := hide ot
      clear ot
      by_cases g0 : ss.length = 30
      · have OUT := hide (unhide OUT (unhide NO fun x _ _ h => by omega))
        clear NO ON
        have g0' : decide ((ss.length : Int) = 30) = true := by simp; omega
        gi_wp2_with fail
        refine ⟨trivial, ?_⟩
        gi_wp2
        exact ⟨(unhide OUT).2, (unhide OUT).1⟩
      have g0' : decide ((ss.length : Int) = 30) = false := by simp; omega
      have g0b : (((ss.length : Nat) : Int) == 30) = false := by rw [beq_eq_false_iff_ne]; omega
      by_cases g3 : 2 < ts.length
      · have OUT := hide (unhide OUT (unhide NO fun x hx h _ => by cases hx; have := h.2.2; simp only at this; omega))
        clear NO ON
        have g3' : decide ((2 : Int) < (ts.length : Int)) = true := by simp; omega
        gi_wp2_with fail
        refine ⟨trivial, ?_⟩
        gi_wp2
        exact ⟨(unhide OUT).2, (unhide OUT).1⟩
      have g3' : decide ((2 : Int) < (ts.length : Int)) = false := by simp; omega
      by_cases g1 : lastV ss + 1 ≤ n ∧ n ≤ 60
      · have WI := hide fun w => within_yes n (lastV ss + 1) 60 w g1.1 g1.2
        have ON := hide (unhide ON (n, ts) rfl ⟨by show lastV ss < n; omega, g1.2, by show ts.length ≤ 2; omega⟩ (by omega))
        clear NO OUT
        obtain ⟨i0, hi, hz0, hz1, hz2⟩ := info_parts Tryz.infoSt
        have me := unhide ME
        have sz := me.size
        have bX : Below W.heap.size W (W.alloc (.cells #[.int .i64 n, .slice ta ts.length tc] 85)) := (Below.refl _ _).alloc (Nat.le_refl _) _
        have ostX := me.own.below bX
        have otX := (unhide OT').below bX
        clear OT' me
        gi_wp2_with fail
        refine ⟨trivial, (CallsIn.inRound l (callsIn_wide.2 (unhide WI _))).mono ?_⟩
        rintro _ w2 ⟨rfl, rfl⟩
        gi_wp2_with (gi_at_builtin; refine wpListIn_append_own _ rfl _ _ 81 rfl (w.heap.size + 5) 85 i0 (.agg #[.int .i64 0, .slice none 0 0]) 2 32 Tryz.underlying81 hi hz0 hz1 hz2 rfl (by decide) _ _ _ rfl ostX.row ⟨w2.heap.size, 0, none⟩ 1 1 (scell (n, .slice ta ts.length tc)) rfl rfl (two_cell w2 (n, .slice ta ts.length tc) 85) (two_plain _ _ _ _) (by unfold maxLen; omega) (by omega) (by simp; omega) ?_; intro v' w1 hown' hgrow _; obtain ⟨g', cap', rfl, d2, e2, d3, e3, p1, MM⟩ := step_in (unhide ME) hN hbN otX q0 hvq hQ hown' hgrow; clear hgrow hown' ostX otX ME q0 q1 c0 c1 c2 c3 f0 f1 bX)
        exact ⟨(unhide MM).2.1.from _, (unhide MM).2.2, ⟨_, _, _, unhide ON, (unhide MM).1⟩⟩
      · have OUT := hide (unhide OUT (unhide NO fun x hx h _ => by cases hx; have h1 := h.1; have h2 := h.2.1; simp only at h1 h2; omega))
        have WI := hide fun w => within_no n (lastV ss + 1) 60 w (by omega)
        clear NO ON
        gi_wp2_with fail
        refine ⟨trivial, (CallsIn.inRound l (callsIn_wide.2 (unhide WI _))).mono ?_⟩
        rintro _ w2 ⟨rfl, rfl⟩
        gi_wp2
        exact ⟨(unhide OUT).2, (unhide OUT).1⟩
  case hdone =>
    rintro D W hD ⟨ss, vs, v, so, me⟩ hK
    have HA := hide (piece_end (by have := so.2.1; rwa [hm.1] at this) so.2.2)
    obtain ⟨va, vc, rfl⟩ := OSt.form ⟨vs, me.own⟩
    have c0 := me.r0.cell
    have f0 := me.r0.frozen
    have b1 := me.r1.other (B' := w.heap.size) (by omega) (.slice va ss.length vc)
    have c1 := b1.cell
    have f1 := b1.frozen
    have c2 := me.st.cell
    have ME := hide me
    have B0 := (((me.r0.set (.slice va ss.length vc)).other (B' := w.heap.size + 1) (by omega) (.bool true)).kept (grownBy_putObj' _ D (.deferred none)) (fun e => by cases e; omega)).cell
    have B1 := ((b1.set (.bool true)).kept (grownBy_putObj' _ D (.deferred none)) (fun e => by cases e; omega)).cell
    have hK' := (KeepsOthers.setCell (W.setCell ⟨w.heap.size, 0, none⟩ (.slice va ss.length vc)) ⟨w.heap.size + 1, 0, none⟩ (.bool true)).same D _ ((KeepsOthers.setCell W ⟨w.heap.size, 0, none⟩ (.slice va ss.length vc)).same D _ hK rfl) rfl
    clear FE hm so me hE cl m0 bl b1
    gi_wp2
    refine ⟨by simp, .inl ⟨_, _, rfl, run_takeDeferred hK', ?_⟩⟩
    refine ⟨.tuple #[.slice va ss.length vc, .bool true], by simp [results, Tryz.results54, go_sem, B0, B1], .slice va ss.length vc, by rw [unhide HA]; rfl, ?_, ?_⟩
    · rw [unhide HA]
      have h1 := ost_set (ost_set (unhide ME).own w.heap.size (.slice va ss.length vc) (by omega)) (w.heap.size + 1) (.bool true) (by omega)
      have h2 := ost_keep (B := 0) h1 (grownBy_putObj' _ D (.deferred none)) (fun r e => by cases e; exact ⟨Nat.zero_le _, _, hK', rfl⟩)
      exact ⟨vs, h2.len, row_lower h2.row (by omega), fun k hk => row_lower (h2.each k hk) (by omega), h2.apart⟩
    · exact (((unhide ME).below.setCell (p := ⟨w.heap.size, 0, none⟩) (Nat.le_refl _) _).setCell (p := ⟨w.heap.size + 1, 0, none⟩) (by show w.heap.size ≤ w.heap.size + 1; omega) _).trans (belowK_b (w := w) (Nat.le_refl _) _ D _ _ (by omega) hK' rfl rfl)
  case hstop =>
    rintro D k W hD hk ⟨hn, b0, b1, bel⟩ hK
    have B0 := (b0.kept (grownBy_putObj' _ D (.deferred none)) (fun e => by cases e; omega)).cell
    have B1 := (b1.kept (grownBy_putObj' _ D (.deferred none)) (fun e => by cases e; omega)).cell
    clear FE hm hE cl m0 bl
    gi_wp2
    refine ⟨by simp, .inl ⟨_, _, rfl, run_takeDeferred hK, ?_⟩⟩
    refine ⟨.tuple #[.slice none 0 0, .bool false], by simp [results, Tryz.results54, go_sem, B0, B1], .slice none 0 0, by rw [hn]; rfl, by rw [hn]; exact ost_nil _ _, ?_⟩
    exact bel.trans (belowK_b (w := w) (Nat.le_refl _) _ D _ _ (by omega) hK rfl rfl)
end Go.Proofs.YtggmgfkmbgcooaaGreatDoor

/- impl.NameOk, Height, ViewOf, Extends, Meets, UpOf. -/
namespace Go.Proofs.YtggmgfkmbgcooaaGreatDoor
open Go.RowKit
set_option linter.unusedSectionVars false
variable [∀ (a b c d : Int), Decidable (Ok4 a b c d)]
variable [∀ (a b c d : Nat), Decidable (okN a b c d)]
variable [∀ (last : Int) (s : St), Decidable (GoodSt last s)]
variable [∀ (x : T4), Decidable (OkT x)]

set_option maxHeartbeats 8000000 in
set_option maxRecDepth 100000 in
theorem implNameOk (s : ByteArray) (w : World) (hs : s.size ≤ 33554432) (hE : Env w) :
    Calls Tryz.prog 55 #[.string s] w fun e w' => e = .returned (.bool (stepsAns s).isSome) ∧ Below w.heap.size w w' := by
  have ST := hide fun w hE => implSteps s w hs hE
  generalize stepsAns s = A at *
  go_enter Tryz.func55, Tryz.ntmps55
  go_wp2_with fail
  refine (unhide ST _ hE).mono ?_
  rintro e w1 ⟨v, rfl, _, b1⟩
  go_wp2
  go_ret
  exact ⟨rfl, b1⟩


set_option maxHeartbeats 8000000 in
set_option maxRecDepth 100000 in
theorem implHeight (s : ByteArray) (w : World) (hs : s.size ≤ 33554432) (hE : Env w) :
    Calls Tryz.prog 18 #[.string s] w fun e w' => e = .returned (.int .i64 (heightAns s)) ∧ Below w.heap.size w w' := by
  have ST := hide fun w hE => implSteps s w hs hE
  have hl : ∀ ss, stepsAns s = some ss → ss.length ≤ 30 := fun ss h => ((names_iff _ _).1 h).2.1
  unfold heightAns
  generalize stepsAns s = A at *
  go_enter Tryz.func18, Tryz.ntmps18
  go_wp2_with fail
  refine (unhide ST _ hE).mono ?_
  rintro e w1 ⟨v, rfl, o1, b1⟩
  obtain ⟨ao, ca, rfl⟩ := o1.form
  clear o1 ST hE
  cases A with
  | none =>
    go_wp2
    go_ret
    exact ⟨rfl, b1⟩
  | some ss =>
    have hl := hl ss rfl
    go_wp2
    go_ret
    exact ⟨rfl, b1⟩


set_option maxHeartbeats 8000000 in
set_option maxRecDepth 100000 in
theorem implViewOf (s : ByteArray) (w : World) (hs : s.size ≤ 33554432) (hE : Env w) :
    Calls Tryz.prog 16 #[.string s] w fun e w' => e = .returned (.int .i64 (viewAns s)) ∧ Below w.heap.size w w' := by
  have ST := hide fun w hE => implSteps s w hs hE
  have hl : ∀ ss, stepsAns s = some ss → ss.length ≤ 30 ∧ ∀ x ∈ ss, OkSt x := fun ss h => ⟨((names_iff _ _).1 h).2.1, ((names_iff _ _).1 h).2.2.1⟩
  unfold viewAns
  generalize stepsAns s = A at *
  go_enter Tryz.func16, Tryz.ntmps16
  go_wp2_with fail
  refine (unhide ST _ hE).mono ?_
  rintro e w1 ⟨v, rfl, o1, b1⟩
  cases A with
  | none =>
    obtain ⟨ao, ca, rfl⟩ := o1.form
    clear o1 ST hl
    go_wp2
    go_ret
    exact ⟨rfl, b1⟩
  | some ss =>
    obtain ⟨hl, hok⟩ := hl ss rfl
    obtain ⟨ao, ca, hv, r⟩ := o1.rst (fun x hx => by have := (hok x hx).2.1; omega)
    subst hv
    clear o1 ST hok
    simp only [Option.getD_some] at *
    rcases r with rfl | ⟨g, rfl, r⟩
    · go_wp2
      go_ret
      exact ⟨rfl, b1⟩
    · by_cases h0 : ss.length = 0
      · obtain rfl := List.length_eq_zero_iff.1 h0
        go_wp2
        go_ret
        exact ⟨rfl, b1⟩
      · obtain ⟨n, hn⟩ : ∃ n, ss.length = n + 1 := ⟨ss.length - 1, by omega⟩
        obtain ⟨u, c0, c1, _⟩ := r n (by omega)
        have hlast := hide (show (ss.getLast?.map (·.1)).getD 0 = (ss.getD n zst).1 by
          rw [List.getLast?_eq_getElem?, List.getD_eq_getElem?_getD, List.getElem?_eq_getElem (show ss.length - 1 < ss.length by omega), List.getElem?_eq_getElem (show n < ss.length by omega)]
          simp [hn])
        have hi : ((n + 1 : Nat) : Int) - 1 = n := by omega
        generalize (ss.getD n zst).1 = x at *
        clear r h0
        go_wp2
        go_ret
        exact ⟨by rw [show ((some ss).getD []) = ss from rfl, unhide hlast]; rfl, b1⟩


theorem ext_eq (s t : ByteArray) : extB s t = ((stepsAns s).isSome && (stepsAns t).isSome && Lib.hasPrefix (s ++ (⟨#[47]⟩ : ByteArray)).data.toList (t ++ (⟨#[47]⟩ : ByteArray)).data.toList) := by
  rw [Bool.eq_iff_iff, extB_bytes, Bool.and_eq_true, Bool.and_eq_true, and_assoc]
  have e : ∀ x : ByteArray, (x ++ (⟨#[47]⟩ : ByteArray)).data.toList = x.data.toList ++ [47] := fun x => by simp [ByteArray.data_append]
  rw [e, e]
  have : Lib.hasPrefix (s.data.toList ++ [47]) (t.data.toList ++ [47]) = true ↔ extL s.data.toList t.data.toList := by
    unfold Lib.hasPrefix
    rw [List.isPrefixOf_iff_prefix]
    exact pre_mark _ _
  rw [this]

set_option maxHeartbeats 8000000 in
set_option maxRecDepth 100000 in
theorem implExtends (s t : ByteArray) (w : World) (hs : s.size ≤ 33554432) (ht : t.size ≤ 33554432) (hE : Env w) :
    Calls Tryz.prog 17 #[.string s, .string t] w fun e w' => e = .returned (.bool (extB s t)) ∧ Below w.heap.size w w' := by
  have NS := hide fun w hE => implNameOk s w hs hE
  have NT := hide fun w hE => implNameOk t w ht hE
  have HP := hide fun w => Tryz.strings_HasPrefix (s ++ (⟨#[47]⟩ : ByteArray)) (t ++ (⟨#[47]⟩ : ByteArray)) w
  rw [ext_eq s t]
  have q1 : ∀ w, (Op.stringOp .add s (⟨#[47]⟩ : ByteArray)).run Tryz.prog w = .ok (.string (s ++ (⟨#[47]⟩ : ByteArray))) w := fun w => run_string_add_sum w _ _ (by show s.size + 1 ≤ _; omega)
  have q2 : ∀ w, (Op.stringOp .add t (⟨#[47]⟩ : ByteArray)).run Tryz.prog w = .ok (.string (t ++ (⟨#[47]⟩ : ByteArray))) w := fun w => run_string_add_sum w _ _ (by show t.size + 1 ≤ _; omega)
  generalize Lib.hasPrefix (s ++ (⟨#[47]⟩ : ByteArray)).data.toList (t ++ (⟨#[47]⟩ : ByteArray)).data.toList = x at *
  generalize (stepsAns s).isSome = a at *
  generalize (stepsAns t).isSome = b at *
  go_enter Tryz.func17, Tryz.ntmps17
  go_wp2_with fail
  refine (unhide NS _ hE).mono ?_
  rintro _ w1 ⟨rfl, b1⟩
  have hE1 := hE.below b1
  clear NS hE
  cases a with
  | false =>
    clear NT HP q1 q2 hE1
    go_wp2
    go_ret
    exact ⟨rfl, b1⟩
  | true =>
    go_wp2_with fail
    refine (unhide NT _ hE1).mono ?_
    rintro _ w2 ⟨rfl, b2⟩
    have b12 := b1.trans (b2.mono b1.size)
    clear NT b2 b1 hE1
    cases b with
    | false =>
      clear HP q1 q2
      go_wp2
      go_ret
      exact ⟨rfl, b12⟩
    | true =>
      generalize s ++ (⟨#[47]⟩ : ByteArray) = s' at *
      generalize t ++ (⟨#[47]⟩ : ByteArray) = t' at *
      go_wp2_with fail
      refine (unhide HP _).mono ?_
      rintro _ w3 ⟨rfl, rfl⟩
      go_wp2
      go_ret
      exact ⟨by simp, b12⟩

/-- The last mark of a name: what is ahead of it is the name's Up. -/
theorem last_up {s : ByteArray} {ss : List St} (h : stepsAns s = some ss) (h1 : 1 ≤ ss.length) : ∃ k : Nat, k < s.size ∧ Lib.lastIndexByte s 47 = k ∧ s.extract 0 k = upAns s := by
  have hat : ∀ j, j < s.size → s.data.toList[j]? = some s.data[j]! := fun j hj => by
    rw [getElem!_pos s.data j (by simpa using hj)]; simp
  have hl : s.data.toList.length = s.size := by simp
  rcases Lib.lastIndexByte_spec s 47 with ⟨_, h2⟩ | ⟨i, hi, e, hx, hn⟩
  · exfalso
    obtain ⟨h3, _⟩ := (names_iff _ _).1 h
    cases ss with
    | nil => simp at h1
    | cons x ss =>
      have h0 : s.data.toList[0]? = some 47 := by rw [h3]; rfl
      have hz : 0 < s.size := by
        have := (List.getElem?_eq_some_iff.1 h0).1
        omega
      have := h2 0 hz
      rw [hat 0 hz] at h0
      rw [Option.some.inj h0] at this
      exact this rfl
  · refine ⟨i, hi, e, ?_⟩
    have hi' : s.data.toList[i]? = some 47 := by
      rw [hat i hi]; congr 1
      exact UInt8.toNat_inj.1 (by show s.data[i]!.toNat = 47; omega)
    have hd : (47 : UInt8) ∉ s.data.toList.drop (i + 1) := fun hm => by
      obtain ⟨j, hj, e2⟩ := List.getElem_of_mem hm
      rw [List.length_drop] at hj
      rw [List.getElem_drop] at e2
      have hj2 : i + 1 + j < s.size := by omega
      have h4 := hat _ hj2
      rw [List.getElem?_eq_getElem (by omega), e2] at h4
      have := hn (i + 1 + j) (by omega) hj2
      rw [← Option.some.inj h4] at this
      exact this rfl
    have := up_cut h (i + 1) (by omega) hd (.inr hi')
    rw [← this, ext_toB]; simp

set_option maxHeartbeats 8000000 in
set_option maxRecDepth 100000 in
theorem implUpOf (s : ByteArray) (w : World) (hs : s.size ≤ 33554432) (hE : Env w) :
    Calls Tryz.prog 19 #[.string s] w fun e w' => e = .returned (.string (upAns s)) ∧ Below w.heap.size w w' := by
  have HT := hide fun w hE => implHeight s w hs hE
  have LM := hide fun w => last_mark 47 s w hs
  have hc : heightAns s < 1 → upAns s = ⟨#[]⟩ := fun h => by
    unfold heightAns at h
    unfold upAns
    cases e : stepsAns s with
    | none => rfl
    | some ss =>
      rw [e] at h
      have : ss = [] := List.length_eq_zero_iff.1 (by simp only at h; omega)
      subst this; rfl
  have hh : ¬ heightAns s < 1 → ∃ k : Nat, k < s.size ∧ Lib.lastIndexByte s 47 = k ∧ s.extract 0 k = upAns s := fun h => by
    unfold heightAns at h
    cases e : stepsAns s with
    | none => rw [e] at h; simp at h
    | some ss => rw [e] at h; exact last_up e (by simp only at h; omega)
  have e47 : (((47 : UInt8).toNat : Nat) : Int) = 47 := rfl
  rw [e47] at LM
  generalize heightAns s = n at *
  by_cases hn : n < 1
  · rw [hc hn]
    clear LM hc hh
    have hn' : decide (n < 1) = true := by simpa using hn
    go_enter Tryz.func19, Tryz.ntmps19
    go_wp2_with fail
    refine (unhide HT _ hE).mono ?_
    rintro _ w1 ⟨rfl, b1⟩
    clear HT hE
    go_wp2
    go_ret
    exact ⟨rfl, b1⟩
  · obtain ⟨k, hk, e1, e2⟩ := hh hn
    rw [e1] at LM
    rw [← e2]
    have CL := hide fun w => clone_any (s.extract 0 k) w (by rw [ByteArray.size_extract]; omega)
    clear hc hh e1 e2
    have hn' : decide (n < 1) = false := by simpa using hn
    go_enter Tryz.func19, Tryz.ntmps19
    go_wp2_with fail
    refine (unhide HT _ hE).mono ?_
    rintro _ w1 ⟨rfl, b1⟩
    clear HT hE
    go_wp2_with fail
    refine (unhide LM _).mono ?_
    rintro _ w2 ⟨rfl, rfl⟩
    go_wp2_with fail
    refine (unhide CL _).mono ?_
    rintro _ w3 ⟨rfl, b3⟩
    go_wp2
    go_ret
    exact ⟨rfl, b1.trans (b3.mono b1.size)⟩
end Go.Proofs.YtggmgfkmbgcooaaGreatDoor
