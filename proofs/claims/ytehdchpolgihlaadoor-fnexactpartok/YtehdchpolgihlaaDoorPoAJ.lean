/- Texts that belong together: Clone, SplitPlain, Split, SpecSplit, TxsOf, StepsPlain, StepRows, SpecTxsOf, SpecSteps. -/
import Derived.Test.YtehdchpolgihlaaDoorPoAA
import Derived.Test.YtehdchpolgihlaaDoorShelfClone
import Derived.WalkKit
import Derived.Test.YtehdchpolgihlaaDoorPoAE
import Derived.Test.YtehdchpolgihlaaDoorPoAI
import Derived.OwnWalk
import Derived.Maps.AppendAt
import Derived.Test.YtehdchpolgihlaaDoorPoAH
/- strings.Clone and lists of texts of the call's own. -/
namespace Go.Proofs.YtehdchpolgihlaaDoor
open Go.RowKit

/-- v is a list of the call's own, from block 'base' on, of the texts xs. -/
def OS (w : World) (base : Nat) (v : Value) (xs : List ByteArray) : Prop := w.ownsRow base 9 1 v xs.length (xs.map Value.string)
theorem OS.below {w w' : World} {base : Nat} {v : Value} {xs : List ByteArray} (h : OS w base v xs) (hb : Below w.heap.size w w') : OS w' base v xs :=
  World.ownsRow.kept (row := none) h ⟨hb.os, hb.tape, hb.output, hb.size, fun k hk _ => hb.block k hk⟩ (by cases v.ownBlock <;> simp)

theorem clone_any (s : ByteArray) (w : World) (hs : s.size ≤ 281474976710656) :
    Calls Tryd.prog 38 #[.string s] w fun e w' => e = .returned (.string s) ∧ Below w.heap.size w w' := by
  go_enter Tryd.func38, Tryd.ntmps38
  go_wp2_with fail
  refine (Tryd.stringslite_Clone s _ hs).mono ?_
  rintro e w' ⟨rfl, b⟩
  go_wp2
  go_ret
  exact ⟨rfl, b⟩
end Go.Proofs.YtehdchpolgihlaaDoor

/- The plain mathematics of Split. Nothing of the program. -/
namespace Go.Proofs.YtehdchpolgihlaaDoor

/-- Behind the first k bytes: the pieces that are cut, and where the next one begins. -/
def pcs (s : ByteArray) (b : Int) : Nat → List ByteArray × Nat
  | 0 => ([], 0)
  | k + 1 => if ((s.data.toList.getD k 0).toNat : Int) = b then ((pcs s b k).1 ++ [s.extract (pcs s b k).2 k], k + 1) else pcs s b k
theorem pcs_le (s : ByteArray) (b : Int) (k : Nat) : (pcs s b k).2 ≤ k ∧ (pcs s b k).1.length ≤ k := by
  induction k with
  | zero => simp [pcs]
  | succ k ih =>
    rw [pcs]; split
    · simp; omega
    · omega
/-- What Split answers. -/
def splitAns (s : ByteArray) (b : Int) : List ByteArray := (pcs s b s.size).1 ++ [s.extract (pcs s b s.size).2 s.size]
theorem splitAns_len (s : ByteArray) (b : Int) : (splitAns s b).length ≤ s.size + 1 := by
  have := (pcs_le s b s.size).2
  simp [splitAns]; omega
theorem pcs_hit (s : ByteArray) (b : Int) (k : Nat) (h : k < s.size) (hb : (s[k].toNat : Int) = b) : pcs s b (k + 1) = ((pcs s b k).1 ++ [s.extract (pcs s b k).2 k], k + 1) := by
  rw [pcs, if_pos]
  rw [← hb]
  have : s.data.toList.getD k 0 = s[k] := by rw [List.getD_eq_getElem?_getD, List.getElem?_eq_getElem (by simpa using h)]; rfl
  rw [this]
theorem pcs_miss (s : ByteArray) (b : Int) (k : Nat) (h : k < s.size) (hb : (s[k].toNat : Int) ≠ b) : pcs s b (k + 1) = pcs s b k := by
  rw [pcs, if_neg]
  have : s.data.toList.getD k 0 = s[k] := by rw [List.getD_eq_getElem?_getD, List.getElem?_eq_getElem (by simpa using h)]; rfl
  rw [this]; exact hb
end Go.Proofs.YtehdchpolgihlaaDoor

/- impl.Split: what it answers. -/
namespace Go.Proofs.YtehdchpolgihlaaDoor
open Go.RowKit

/-- One text more behind what is owned. -/
theorem os_more {B : Nat} {w wr w1 : World} {v v' : Value} {o : Obj} {xs : List ByteArray} {c : ByteArray} (hB : B ≤ wr.heap.size) (ho : OS wr B v xs) (hb : Below B w wr)
    (ho' : w1.ownsRow B 9 1 v' (xs.length + 1) (xs.map Value.string ++ [.string c])) (hg : (wr.alloc o).grownBy w1 v.ownBlock) :
    OS w1 B v' (xs ++ [c]) ∧ Below B w w1 :=
  ⟨by unfold OS; simpa using ho', (hb.alloc hB o).grown hg (by simp; omega) (fun j hj => (ho.lt j hj).1)⟩

theorem ext_size (s : ByteArray) (n k : Nat) : (s.extract n k).size ≤ s.size := by rw [ByteArray.size_extract]; omega

set_option maxHeartbeats 1600000 in
set_option maxRecDepth 100000 in
theorem split_any (s : ByteArray) (b : Int) (w : World) (hs : s.size ≤ 33554432) :
    Calls Tryd.prog 88 #[.string s, .int .u8 b] w fun e w' => ∃ v, e = .returned v ∧ OS w' w.heap.size v (splitAns s b) ∧ Below w.heap.size w w' := by
  obtain ⟨i0, hi, hz0, hz1, hz2⟩ := info_parts Tryd.info9
  go_enter Tryd.func88, Tryd.ntmps88
  go_wp2
  go_loopw [5, 6, 7] (fun v f i wr => ∃ k n : Nat, k ≤ s.size ∧ n ≤ k ∧ i = .int .i64 k ∧ f = .int .i64 n ∧ Hid (n = (pcs s b k).2) ∧ OS wr w.heap.size v (pcs s b k).1 ∧ Below w.heap.size w wr) (fun _ _ i _ => s.size - (intOf i).toNat)
  case atStart => exact ⟨0, 0, by omega, by omega, rfl, rfl, rfl, World.ownsRow_nil _ _ _ _, Below.refl _ _⟩
  case round =>
    obtain ⟨k, n, hk, hnk, rfl, rfl, HN, ho, hb⟩ := hrel
    have hsz := hb.size
    have hpl := (pcs_le s b k).2
    by_cases hlt : k < s.size
    · by_cases hbk : (s[k].toNat : Int) = b
      · have hbk' : ((s[k].toNat : Int) == b) = true := by simp [hbk]
        have HP := hide (pcs_hit s b k hlt hbk)
        clear hbk
        go_wp2_with fail
        refine (clone_any _ _ (by have := ext_size s n k; omega)).mono ?_
        rintro e w1 ⟨rfl, b1⟩
        have s1 := b1.size
        have ho1 := ho.below b1
        have hb1 := hb.trans (b1.mono hsz)
        clear ho hb
        go_wp2_with (first
          | (at_builtin; refine wpList_append_own _ rfl _ _ 70 rfl w.heap.size 9 i0 (.string ⟨#[]⟩) 1 16 Tryd.underlying70 hi hz0 hz1 hz2 rfl (by decide) _ _ _ rfl (World.ownsRow.alloc ho1 _) ⟨w1.heap.size, 0, none⟩ 1 1 [.string (s.extract n k)] rfl rfl (one_cell _ _ _) (one_text _) (by unfold maxLen; omega) (by omega) (by simp; omega) ?_; intro v' w2 ho' hg' _; have R := os_more (by omega) ho1 hb1 ho' hg'; clear ho1 ho' hg' hb1))
        go_roundw
        case rel => exact ⟨k + 1, k + 1, by omega, by omega, by go_num, by go_num, by rw [unhide HP]; rfl, by rw [unhide HP, ← HN.out]; exact R.1, R.2⟩
        case measure => simp [intOf]; omega
      · have hbk' : ((s[k].toNat : Int) == b) = false := by simp [hbk]
        have HP := hide (pcs_miss s b k hlt hbk)
        clear hbk
        have HO := hide ho
        clear ho
        go_wp2
        go_roundw
        case rel => exact ⟨k + 1, n, by omega, by omega, by go_num, rfl, by rw [unhide HP]; exact HN, by rw [unhide HP]; exact unhide HO, hb⟩
        case measure => simp [intOf]; omega
    · have hks : k = s.size := by omega
      have HA : Hid (splitAns s b = (pcs s b k).1 ++ [s.extract n s.size]) := by unfold splitAns; rw [HN.out, hks]; rfl
      clear hks
      go_wp2_with fail
      refine (clone_any _ _ (by have := ext_size s n s.size; omega)).mono ?_
      rintro e w1 ⟨rfl, b1⟩
      have s1 := b1.size
      have ho1 := ho.below b1
      have hb1 := hb.trans (b1.mono hsz)
      clear ho hb
      go_wp2_with (first
        | (at_builtin; refine wpList_append_own _ rfl _ _ 70 rfl w.heap.size 9 i0 (.string ⟨#[]⟩) 1 16 Tryd.underlying70 hi hz0 hz1 hz2 rfl (by decide) _ _ _ rfl (World.ownsRow.alloc ho1 _) ⟨w1.heap.size, 0, none⟩ 1 1 [.string (s.extract n s.size)] rfl rfl (one_cell _ _ _) (one_text _) (by unfold maxLen; omega) (by omega) (by simp; omega) ?_; intro v' w2 ho' hg' _; have R := os_more (by omega) ho1 hb1 ho' hg'; clear ho1 ho' hg' hb1))
      go_ret
      exact ⟨_, rfl, by rw [HA.out]; exact R.1, R.2⟩
end Go.Proofs.YtehdchpolgihlaaDoor

/- spec.Split: what it answers. -/
namespace Go.Proofs.YtehdchpolgihlaaDoor
open Go.RowKit

set_option maxHeartbeats 1600000 in
set_option maxRecDepth 100000 in
theorem specSplit_any (s : ByteArray) (b : Int) (w : World) (hs : s.size ≤ 33554432) :
    Calls Tryd.prog 42 #[.string s, .int .u8 b] w fun e w' => ∃ v, e = .returned v ∧ OS w' w.heap.size v (splitAns s b) ∧ Below w.heap.size w w' := by
  obtain ⟨i0, hi, hz0, hz1, hz2⟩ := info_parts Tryd.info9
  go_enter Tryd.func42, Tryd.ntmps42
  go_wp2
  go_loopw [5, 6, 7] (fun v f i wr => ∃ k : Nat, k ≤ s.size + 1 ∧ i = .int .i64 k ∧ Below w.heap.size w wr ∧ ((k ≤ s.size ∧ ∃ n : Nat, n ≤ k ∧ f = .int .i64 n ∧ Hid (n = (pcs s b k).2) ∧ OS wr w.heap.size v (pcs s b k).1) ∨ (k = s.size + 1 ∧ OS wr w.heap.size v (splitAns s b)))) (fun _ _ i _ => s.size + 1 - (intOf i).toNat)
  case atStart => exact ⟨0, by omega, rfl, (Below.refl _ _).alloc (Nat.le_refl _) _, .inl ⟨by omega, 0, by omega, rfl, rfl, World.ownsRow_lit w #[] 0 (Nat.le_refl _) (by unfold maxLen; omega) rfl⟩⟩
  case round =>
    obtain ⟨k, hk, rfl, hb, hcase⟩ := hrel
    have hsz := hb.size
    rcases hcase with ⟨hks, n, hnk, rfl, HN, ho⟩ | ⟨rfl, ho⟩
    · have hpl := (pcs_le s b k).2
      by_cases hlt : k < s.size
      · have hke : ((k : Int) == (s.size : Int)) = false := by simp; omega
        by_cases hbk : (s[k].toNat : Int) = b
        · have hbk' : ((s[k].toNat : Int) == b) = true := by simp [hbk]
          have HP := hide (pcs_hit s b k hlt hbk)
          clear hbk
          go_wp2_with (first
            | (at_builtin; refine wpList_append_own _ rfl _ _ 70 rfl w.heap.size 9 i0 (.string ⟨#[]⟩) 1 16 Tryd.underlying70 hi hz0 hz1 hz2 rfl (by decide) _ _ _ rfl (World.ownsRow.alloc ho _) ⟨wr.heap.size, 0, none⟩ 1 1 [.string (s.extract n k)] rfl rfl (one_cell _ _ _) (one_text _) (by unfold maxLen; omega) (by omega) (by simp; omega) ?_; intro v' w2 ho' hg' _; have R := os_more hsz ho hb ho' hg'; clear ho ho' hg' hb))
          go_roundw
          case rel => exact ⟨k + 1, by omega, by go_num, R.2, .inl ⟨by omega, k + 1, by omega, by go_num, by rw [unhide HP]; rfl, by rw [unhide HP, ← HN.out]; exact R.1⟩⟩
          case measure => simp [intOf]; omega
        · have hbk' : ((s[k].toNat : Int) == b) = false := by simp [hbk]
          have HP := hide (pcs_miss s b k hlt hbk)
          clear hbk
          have HO := hide ho
          clear ho
          go_wp2
          go_roundw
          case rel => exact ⟨k + 1, by omega, by go_num, hb, .inl ⟨by omega, n, by omega, rfl, by rw [unhide HP]; exact HN, by rw [unhide HP]; exact unhide HO⟩⟩
          case measure => simp [intOf]; omega
      · have hks' : k = s.size := by omega
        have hke : ((k : Int) == (s.size : Int)) = true := by simp; omega
        have HA : Hid (splitAns s b = (pcs s b k).1 ++ [s.extract n k]) := by unfold splitAns; rw [HN.out, hks']; rfl
        have HK := hide hks'
        clear hks'
        go_wp2_with (first
          | (at_builtin; refine wpList_append_own _ rfl _ _ 70 rfl w.heap.size 9 i0 (.string ⟨#[]⟩) 1 16 Tryd.underlying70 hi hz0 hz1 hz2 rfl (by decide) _ _ _ rfl (World.ownsRow.alloc ho _) ⟨wr.heap.size, 0, none⟩ 1 1 [.string (s.extract n k)] rfl rfl (one_cell _ _ _) (one_text _) (by unfold maxLen; omega) (by omega) (by simp; omega) ?_; intro v' w2 ho' hg' _; have R := os_more hsz ho hb ho' hg'; clear ho ho' hg' hb))
        go_roundw
        case rel => exact ⟨k + 1, by omega, by go_num, R.2, .inr ⟨by rw [unhide HK], by rw [HA.out]; exact R.1⟩⟩
        case measure => simp [intOf]; omega
    · have HO := hide ho
      clear ho
      go_wp2
      go_ret
      exact ⟨_, rfl, unhide HO, hb⟩
end Go.Proofs.YtehdchpolgihlaaDoor

/- TxsOf of the program and of the specification. -/
namespace Go.Proofs.YtehdchpolgihlaaDoor
open Go.RowKit
set_option linter.unusedSectionVars false
variable [∀ (a b c d : Int), Decidable (Ok4 a b c d)]
variable [∀ (a b c d : Nat), Decidable (okN a b c d)]

def toT (q : Nat × Nat × Nat × Nat) : T4 := (q.1, q.2.1, q.2.2.1, q.2.2.2)
/-- The payments of which these are the texts. -/
def allTx : List ByteArray → Option (List T4)
  | [] => some []
  | p :: ps => match txAns p.data.toList with
    | some q => (allTx ps).map (toT q :: ·)
    | none => none
theorem allTx_more (ps : List ByteArray) (p : ByteArray) : allTx (ps ++ [p]) = (allTx ps).bind fun ys => (txAns p.data.toList).map fun q => ys ++ [toT q] := by
  induction ps with
  | nil => rw [List.nil_append, allTx, allTx]; cases txAns p.data.toList <;> simp [allTx]
  | cons r ps ih =>
    rw [List.cons_append, allTx, allTx]
    cases txAns r.data.toList with
    | none => rfl
    | some q => simp only [ih]; cases allTx ps <;> cases txAns p.data.toList <;> simp
theorem allTx_none {ps : List ByteArray} (k : Nat) (h : allTx (ps.take k) = none) : allTx ps = none := by
  rw [← List.take_append_drop k ps]
  generalize ps.drop k = r
  generalize ps.take k = l at h
  induction l with
  | nil => simp [allTx] at h
  | cons x l ih =>
    rw [List.cons_append, allTx]
    rw [allTx] at h
    cases hx : txAns x.data.toList with
    | none => rfl
    | some q => rw [hx] at h; simp at h; simp [ih h]
theorem take_more (ps : List ByteArray) (k : Nat) (hk : k < ps.length) : ps.take (k + 1) = ps.take k ++ [ps.getD k ByteArray.empty] := by
  rw [List.take_succ_eq_append_getElem hk, List.getD_eq_getElem?_getD, List.getElem?_eq_getElem hk]; rfl
/-- What TxsOf answers. -/
def txsAns (s : ByteArray) : Option (List T4) := if s = ⟨#[]⟩ then some [] else allTx (splitAns s 44)
theorem pcs_size (s : ByteArray) (b : Int) (k : Nat) : ∀ p ∈ (pcs s b k).1, p.size ≤ s.size := by
  induction k with
  | zero => simp [pcs]
  | succ k ih =>
    rw [pcs]; split
    · intro p hp
      rw [List.mem_append] at hp
      rcases hp with hp | hp
      · exact ih p hp
      · simp at hp; rw [hp]; exact ext_size s _ _
    · exact ih
theorem split_size (s : ByteArray) (b : Int) : ∀ p ∈ splitAns s b, p.size ≤ s.size := by
  intro p hp
  unfold splitAns at hp
  rw [List.mem_append] at hp
  rcases hp with hp | hp
  · exact pcs_size s b _ p hp
  · simp at hp; rw [hp]; exact ext_size s _ _
theorem getD_mem {ps : List ByteArray} {k : Nat} (hk : k < ps.length) : ps.getD k ByteArray.empty ∈ ps := by
  rw [List.getD_eq_getElem?_getD, List.getElem?_eq_getElem hk]; exact List.getElem_mem hk

theorem Tryd.infoTx : (Tryd.prog.info? 99).map (fun i => (i.zero, i.size, i.bytes)) = some (some (txv 0 0 0 0), 4, 32) := by kernel_rfl
theorem four_cell (w : World) (x : T4) (t : TypeId) (j : Nat) (u : Value) (h : (tcell x)[j]? = some u) : (w.alloc (.cells #[.int .i64 x.1, .int .i64 x.2.1, .int .i64 x.2.2.1, .int .i64 x.2.2.2] t)).cell? ((⟨w.heap.size, 0, none⟩ : Addr).add j) = some u := by
  match j, h with
  | 0, h => simp [tcell] at h; subst h; simp [Addr.add]
  | 1, h => simp [tcell] at h; subst h; simp [Addr.add]
  | 2, h => simp [tcell] at h; subst h; simp [Addr.add]
  | 3, h => simp [tcell] at h; subst h; simp [Addr.add]
  | j + 4, h => simp [tcell] at h
theorem four_plain (x : T4) (u : Value) (h : u ∈ tcell x) : u.oneCell' = true := by
  simp [tcell] at h; rcases h with rfl | rfl | rfl | rfl <;> rfl
/-- A list of texts and a list of payments lie in two blocks. -/
theorem os_ot {w : World} {B B' : Nat} {v u : Value} {ps : List ByteArray} {ys : List T4} (h : OS w B v ps) (h' : OT w B' u ys) : v.ownBlock = none ∨ v.ownBlock ≠ u.ownBlock := by
  rcases h.2 with ⟨rfl, _⟩ | ⟨g, cap, cur, rfl, _, hg, _⟩
  · exact .inl rfl
  · rcases h'.2 with ⟨rfl, _⟩ | ⟨g', cap', cur', rfl, _, hg', _⟩
    · exact .inr (by simp [Value.ownBlock])
    · refine .inr fun e => ?_
      simp [Value.ownBlock] at e
      rw [e, hg'] at hg
      simp at hg
/-- One payment more behind what is owned. -/
theorem ot_more {B : Nat} {w wr w1 : World} {v v' : Value} {xs : List T4} {x : T4} (hB : B ≤ wr.heap.size) (ho : OT wr B v xs) (hb : Below B w wr)
    (ho' : w1.ownsRow B 99 4 v' (xs.length + 1) (tcells xs ++ tcell x)) (hg : wr.grownBy w1 v.ownBlock) :
    OT w1 B v' (xs ++ [x]) ∧ Below B w w1 :=
  ⟨by unfold OT; rw [tcells_append, List.length_append]; simpa [tcells] using ho', hb.grown hg hB (fun j hj => (ho.lt j hj).1)⟩
theorem os_alloc {w : World} {B : Nat} {v : Value} {xs : List ByteArray} (h : OS w B v xs) (o : Obj) : OS (w.alloc o) B v xs := World.ownsRow.alloc h o
theorem ot_alloc {w : World} {B : Nat} {v : Value} {xs : List T4} (h : OT w B v xs) (o : Obj) : OT (w.alloc o) B v xs := World.ownsRow.alloc h o
theorem os_cell {w : World} {B g n cap : Nat} {ps : List ByteArray} (h : OS w B (.slice (some ⟨g, 0, none⟩) n cap) ps) (hn : n = ps.length) (k : Nat) (hk : k < ps.length) : w.cell? ⟨g, k, none⟩ = some (.string (ps.getD k ByteArray.empty)) := by
  subst hn
  rw [World.ownsRow.cellAt h k (by omega)]; simp [List.getElem?_eq_getElem hk]

set_option maxHeartbeats 4000000 in
set_option maxRecDepth 100000 in
theorem implTxsOf (s : ByteArray) (w : World) (hs : s.size ≤ 33554432) (hE : Env w) :
    Calls Tryd.prog 70 #[.string s] w fun e w' => ∃ v, e = .returned (.tuple #[v, .bool (txsAns s).isSome]) ∧ OT w' w.heap.size v ((txsAns s).getD []) ∧ Below w.heap.size w w' := by
  obtain ⟨i0, hi, hz0, hz1, hz2⟩ := info_parts Tryd.infoTx
  unfold txsAns
  by_cases hz : s = ⟨#[]⟩
  · rw [if_pos hz]
    subst hz
    go_enter Tryd.func70, Tryd.ntmps70
    go_wp2
    go_ret2
    exact ⟨_, rfl, World.ownsRow_nil _ _ _ _, Below.refl _ _⟩
  · rw [if_neg hz]
    have hne := str_ne hz
    have hne2 : (s.toList == []) = false := by
      rw [beq_eq_false_iff_ne]; intro e; apply hz; apply ByteArray.ext; apply Array.toList_inj.1; rw [ByteArray.toList_eq] at e; exact e
    have SP := hide fun w => split_any s 44 w hs
    have hpn : 0 < (splitAns s 44).length := by simp [splitAns]
    have hpl := splitAns_len s 44
    have hpz : Hid (∀ p ∈ splitAns s 44, p.size ≤ 33554432) := fun p hp => Nat.le_trans (split_size s 44 p hp) hs
    generalize splitAns s 44 = ps at *
    have HE := hide hE
    clear hE hz
    go_enter Tryd.func70, Tryd.ntmps70
    go_wp2_with fail
    refine (unhide SP _).mono ?_
    rintro e w1 ⟨vp, rfl, op, b1⟩
    rcases op.2 with ⟨_, h0⟩ | ⟨gp, pc, pcur, rfl, _⟩
    · omega
    have OP := hide op
    clear op SP
    go_wp2
    go_loopw [4, 14] (fun v i wr => ∃ (k : Nat) (ys : List T4), k ≤ ps.length ∧ i = .int .i64 k ∧ ys.length = k ∧ Hid (allTx (ps.take k) = some ys) ∧ OT wr w.heap.size v ys ∧ OS wr w.heap.size (.slice (some ⟨gp, 0, none⟩) ps.length pc) ps ∧ Below w.heap.size w wr) (fun _ i _ => ps.length - (intOf i).toNat)
    case atStart => exact ⟨0, [], by omega, rfl, rfl, rfl, World.ownsRow_nil _ _ _ _, unhide OP, b1⟩
    case round =>
      obtain ⟨k, ys, hk, rfl, hyl, HA, ho, hp, hb⟩ := hrel
      have hsz := hb.size
      by_cases hlt : k < ps.length
      · have hc := os_cell hp rfl k hlt
        have hm := hpz.out _ (getD_mem hlt)
        have HT := hide (take_more ps k hlt)
        have CT := hide fun w hE => implTxOf (ps.getD k ByteArray.empty) w hm hE
        have HB := hide (And.intro ho (And.intro hp hb))
        clear ho hp hb hm
        generalize ps.getD k ByteArray.empty = p at *
        cases ht : txAns p.data.toList with
        | none =>
          have HN : Hid (allTx ps = none) := allTx_none (k + 1) (by rw [unhide HT, allTx_more, ht]; cases allTx (ps.take k) <;> rfl)
          rw [ht] at CT
          clear ht HT HA
          go_wp2_with fail
          refine (unhide CT _ ((unhide HE).below (unhide HB).2.2)).mono ?_
          rintro e w2 ⟨rfl, b2⟩
          have hw : Below w.heap.size w (w2.alloc (.cells #[.int .i64 0, .int .i64 0, .int .i64 0, .int .i64 0] 99)) := ((unhide HB).2.2.trans (b2.mono hsz)).alloc (by have := b2.size; omega) _
          unfold txval
          go_wp2
          go_ret2
          exact ⟨_, by rw [HN.out]; rfl, by rw [HN.out]; exact World.ownsRow_nil _ _ _ _, hw⟩
        | some q =>
          obtain ⟨a, b, c, d⟩ := q
          have HN : Hid (allTx (ps.take (k + 1)) = some (ys ++ [((a : Int), (b : Int), (c : Int), (d : Int))])) := by
            show allTx _ = _
            rw [unhide HT, allTx_more, HA.out, ht]; rfl
          rw [ht] at CT
          clear ht HT HA
          go_wp2_with fail
          refine (unhide CT _ ((unhide HE).below (unhide HB).2.2)).mono ?_
          rintro e w2 ⟨rfl, b2⟩
          obtain ⟨ho, hp, hb⟩ := unhide HB
          have s2 := b2.size
          have ho2 := ot_alloc (ot_alloc (ho.below b2) (.cells #[.int .i64 a, .int .i64 b, .int .i64 c, .int .i64 d] 99)) (.cells #[.int .i64 a, .int .i64 b, .int .i64 c, .int .i64 d] 99)
          have hp2 := os_alloc (os_alloc (hp.below b2) (.cells #[.int .i64 a, .int .i64 b, .int .i64 c, .int .i64 d] 99)) (.cells #[.int .i64 a, .int .i64 b, .int .i64 c, .int .i64 d] 99)
          have hb2 : Below w.heap.size w ((w2.alloc (.cells #[.int .i64 a, .int .i64 b, .int .i64 c, .int .i64 d] 99)).alloc (.cells #[.int .i64 a, .int .i64 b, .int .i64 c, .int .i64 d] 99)) := ((hb.trans (b2.mono hsz)).alloc (by omega) _).alloc (by simp; omega) _
          have hdis := os_ot hp2 ho2
          clear ho hp hb HB b2 hc
          unfold txval
          go_wp2_with (first
            | (at_builtin; refine wpList_append_own _ rfl _ _ 57 rfl w.heap.size 99 i0 (txv 0 0 0 0) 4 32 Tryd.underlying57 hi hz0 hz1 hz2 rfl (by decide) _ _ _ rfl ho2 ⟨w2.heap.size + 1, 0, none⟩ 1 1 (tcell ((a : Int), (b : Int), (c : Int), (d : Int))) rfl rfl (by have := four_cell (w2.alloc (.cells #[.int .i64 a, .int .i64 b, .int .i64 c, .int .i64 d] 99)) ((a : Int), (b : Int), (c : Int), (d : Int)) 99; simpa using this) (four_plain _) (by unfold maxLen; omega) (by omega) (by simp; omega) ?_; intro v' w3 ho' hg' _; have R := ot_more (by simp; omega) ho2 hb2 ho' hg'; have RP : OS w3 w.heap.size (.slice (some ⟨gp, 0, none⟩) ps.length pc) ps := World.ownsRow.kept hp2 hg' hdis; clear ho2 ho' hg' hb2 hp2 hdis))
          go_roundw
          case rel => exact ⟨k + 1, _, by omega, by go_num, by simp [hyl], HN, R.1, RP, R.2⟩
          case measure => simp [intOf]; omega
      · have hkn : k = ps.length := by omega
        have HN : Hid (allTx ps = some ys) := by
          have := HA.out
          rw [hkn, List.take_of_length_le (Nat.le_refl _)] at this
          exact this
        have HO := hide ho
        clear ho hp HA
        go_wp2
        go_ret2
        exact ⟨_, by rw [HN.out]; rfl, by rw [HN.out]; exact unhide HO, hb⟩
end Go.Proofs.YtehdchpolgihlaaDoor

/- Steps of a name: plain mathematics. -/
namespace Go.Proofs.YtehdchpolgihlaaDoor
open Go.RowKit
set_option linter.unusedSectionVars false
variable [∀ (a b c d : Int), Decidable (Ok4 a b c d)]
variable [∀ (a b c d : Nat), Decidable (okN a b c d)]

/-- A step: its view, its payments. -/
abbrev St := Int × List T4
abbrev zst : St := (0, [])
/-- The step of which p is the text. -/
def stepOf (p : ByteArray) : Option St :=
  if (124 : UInt8) ∈ p.data.toList then (numOf (hd 124 p.data.toList)).bind fun n => (txsAns (toB (tl 124 p.data.toList))).map fun ts => ((n : Int), ts) else none
def GoodSt (last : Int) (s : St) : Prop := last < s.1 ∧ s.1 ≤ 60 ∧ s.2.length ≤ 2
variable [∀ (last : Int) (s : St), Decidable (GoodSt last s)]
/-- One part more. -/
def stepAcc (o : Option (Int × List St)) (p : ByteArray) : Option (Int × List St) := o.bind fun q => (stepOf p).bind fun s => if GoodSt q.1 s then some (s.1, q.2 ++ [s]) else none
def stepsRun (ps : List ByteArray) : Option (Int × List St) := ps.foldl stepAcc (some (0, []))
/-- What Steps answers. -/
def stepsAns (s : ByteArray) : Option (List St) :=
  if s = ⟨#[]⟩ then some []
  else if (splitAns s 47).getD 0 ByteArray.empty = ⟨#[]⟩ ∧ (splitAns s 47).length ≤ 31 then (stepsRun (splitAns s 47).tail).map (·.2) else none
theorem stepsRun_more (ps : List ByteArray) (p : ByteArray) : stepsRun (ps ++ [p]) = stepAcc (stepsRun ps) p := by
  unfold stepsRun; rw [List.foldl_append]; rfl
theorem acc_none (ps : List ByteArray) : ps.foldl stepAcc none = none := by
  induction ps with
  | nil => rfl
  | cons p ps ih => rw [List.foldl_cons]; exact ih
theorem stepsRun_none {ps : List ByteArray} (k : Nat) (h : stepsRun (ps.take k) = none) : stepsRun ps = none := by
  have e : stepsRun ps = (ps.drop k).foldl stepAcc (stepsRun (ps.take k)) := by
    unfold stepsRun
    rw [← List.foldl_append, List.take_append_drop]
  rw [e, h]
  exact acc_none _
/-- What has been read: views ascend, are within bounds; two payments a step at most. -/
theorem stepsRun_ok (ps : List ByteArray) (q : Int × List St) (h : stepsRun ps = some q) : q.2.length = ps.length ∧ (0 ≤ q.1 ∧ q.1 ≤ 60) ∧ (ps.length : Int) ≤ q.1 ∧ ∀ s ∈ q.2, (1 ≤ s.1 ∧ s.1 ≤ q.1) ∧ s.2.length ≤ 2 := by
  generalize hn : ps.length = n
  induction n generalizing ps q with
  | zero =>
    have : ps = [] := List.length_eq_zero_iff.1 hn
    subst this
    cases h
    exact ⟨rfl, by simp, by simp, fun s hs => by simp at hs⟩
  | succ n ih =>
    obtain ⟨ps', p, rfl⟩ : ∃ ps' p, ps = ps' ++ [p] := ⟨ps.dropLast, ps.getLast (fun e => by rw [e] at hn; simp at hn), (List.dropLast_concat_getLast _).symm⟩
    rw [stepsRun_more] at h
    unfold stepAcc at h
    cases hr : stepsRun ps' with
    | none => rw [hr] at h; cases h
    | some q' =>
      rw [hr] at h
      cases hs : stepOf p with
      | none => rw [hs] at h; simp at h
      | some s =>
        rw [hs] at h
        simp only [Option.bind_some] at h
        split at h
        · rename_i hg
          cases h
          obtain ⟨h1, h2, h3, h4⟩ := ih ps' q' hr (by simpa using hn)
          obtain ⟨g1, g2, g3⟩ := hg
          refine ⟨by simp [h1], ⟨by show 0 ≤ s.1; omega, g2⟩, by show (((n + 1 : Nat)) : Int) ≤ s.1; omega, fun y hy => ?_⟩
          rcases List.mem_append.1 hy with hy | hy
          · obtain ⟨⟨a1, a2⟩, a3⟩ := h4 y hy
            exact ⟨⟨a1, by show y.1 ≤ s.1; omega⟩, a3⟩
          · simp at hy
            subst hy
            exact ⟨⟨by omega, Int.le_refl _⟩, g3⟩
        · cases h
end Go.Proofs.YtehdchpolgihlaaDoor

/- Lists of steps in memory: a row of two cells each, and each step's own list of payments. -/
namespace Go.Proofs.YtehdchpolgihlaaDoor
open Go.RowKit
set_option linter.unusedSectionVars false
variable [∀ (a b c d : Int), Decidable (Ok4 a b c d)]
variable [∀ (a b c d : Nat), Decidable (okN a b c d)]
variable [∀ (last : Int) (s : St), Decidable (GoodSt last s)]

theorem Tryd.infoSt : (Tryd.prog.info? 59).map (fun i => (i.zero, i.size, i.bytes)) = some (some (.agg #[.int .i64 0, .slice none 0 0]), 2, 32) := by kernel_rfl
def scell (p : Int × Value) : List Value := [.int .i64 p.1, p.2]
def scells (ps : List (Int × Value)) : List Value := ps.flatMap scell
theorem scells_len (ps : List (Int × Value)) : (scells ps).length = ps.length * 2 := by
  induction ps with
  | nil => rfl
  | cons p ps ih => simp [scells, scell] at *; omega
theorem scells_append (ps qs : List (Int × Value)) : scells (ps ++ qs) = scells ps ++ scells qs := by simp [scells]
theorem scells_get (ps : List (Int × Value)) (k j : Nat) (hk : k < ps.length) (hj : j < 2) : (scells ps)[k * 2 + j]? = (scell (ps.getD k (0, .slice none 0 0)))[j]? := by
  induction ps generalizing k with
  | nil => simp at hk
  | cons p ps ih =>
    have e : scells (p :: ps) = scell p ++ scells ps := by simp [scells]
    rw [e]
    cases k with
    | zero => rw [Nat.zero_mul, Nat.zero_add, List.getElem?_append_left (by simp [scell]; exact hj)]; rfl
    | succ k =>
      rw [List.getElem?_append_right (by simp [scell]; omega), show (scell p).length = 2 from rfl, show (k + 1) * 2 + j - 2 = k * 2 + j from by omega, ih k (by simpa using hk)]
      rfl
/-- v is a row of the call's own, from block 'base' on, of the steps ss, whose lists vs are the call's own too, each in a block of its own. -/
structure OStV (w : World) (base : Nat) (v : Value) (ss : List St) (vs : List Value) : Prop where
  len : vs.length = ss.length
  row : w.ownsRow base 59 2 v ss.length (scells ((ss.map (·.1)).zip vs))
  each : ∀ k, k < ss.length → OT w base (vs.getD k (.slice none 0 0)) (ss.getD k zst).2
  apart : ∀ i j, i < j → j < ss.length → ∀ b, (vs.getD i (.slice none 0 0)).ownBlock = some b → (vs.getD j (.slice none 0 0)).ownBlock ≠ some b
def OSt (w : World) (base : Nat) (v : Value) (ss : List St) : Prop := ∃ vs, OStV w base v ss vs
/-- A row of steps and a list of payments lie in two blocks. -/
theorem st_ot {w : World} {B B' n : Nat} {v u : Value} {cs : List Value} {ys : List T4} (h : w.ownsRow B 59 2 v n cs) (h' : OT w B' u ys) (b : Nat) (hv : v.ownBlock = some b) : u.ownBlock ≠ some b := by
  rcases h.2 with ⟨rfl, _⟩ | ⟨g, cap, cur, rfl, _, hg, _⟩
  · simp [Value.ownBlock] at hv
  · rcases h'.2 with ⟨rfl, _⟩ | ⟨g', cap', cur', rfl, _, hg', _⟩
    · simp [Value.ownBlock]
    · intro e
      simp [Value.ownBlock] at e hv
      subst hv
      rw [e, hg] at hg'
      simp at hg'
theorem OStV.below {w w' : World} {base : Nat} {v : Value} {ss : List St} {vs : List Value} (h : OStV w base v ss vs) (hb : Below w.heap.size w w') : OStV w' base v ss vs :=
  ⟨h.len, World.ownsRow.kept (row := none) h.row ⟨hb.os, hb.tape, hb.output, hb.size, fun k hk _ => hb.block k hk⟩ (by cases v.ownBlock <;> simp), fun k hk => (h.each k hk).below hb, h.apart⟩
theorem OSt.below {w w' : World} {base : Nat} {v : Value} {ss : List St} (h : OSt w base v ss) (hb : Below w.heap.size w w') : OSt w' base v ss := by
  obtain ⟨vs, h⟩ := h; exact ⟨vs, h.below hb⟩
theorem ost_nil (w : World) (base : Nat) : OSt w base (.slice none 0 0) [] := ⟨[], rfl, World.ownsRow_nil _ _ _ _, fun k hk => by simp at hk, fun i j _ hj => by simp at hj⟩
theorem OSt.form {w : World} {base : Nat} {v : Value} {ss : List St} (h : OSt w base v ss) : ∃ ao ca, v = .slice ao ss.length ca := by
  obtain ⟨vs, h⟩ := h
  rcases h.row.2 with ⟨rfl, h0⟩ | ⟨g, cap, cur, rfl, _⟩
  · exact ⟨none, 0, by rw [h0]⟩
  · exact ⟨_, _, rfl⟩
/-- v reads as the steps ss. -/
def RSt (w : World) (v : Value) (ss : List St) : Prop :=
  ∃ ao cap, v = .slice ao ss.length cap ∧ (ss = [] ∨ ∃ g, ao = some ⟨g, 0, none⟩ ∧ ∀ k, k < ss.length → ∃ u, w.cell? ⟨g, k * 2, none⟩ = some (.int .i64 (ss.getD k zst).1) ∧ w.cell? ⟨g, k * 2 + 1, none⟩ = some u ∧ RT w u (ss.getD k zst).2)
theorem zip_get (ss : List St) (vs : List Value) (hl : vs.length = ss.length) (k : Nat) (hk : k < ss.length) : ((ss.map (·.1)).zip vs).getD k (0, .slice none 0 0) = ((ss.getD k zst).1, vs.getD k (.slice none 0 0)) := by
  rw [List.getD_eq_getElem?_getD, List.getElem?_eq_getElem (by simp; omega)]
  simp [List.getElem?_eq_getElem hk, List.getElem?_eq_getElem (show k < vs.length by omega)]
theorem OSt.rst {w : World} {base : Nat} {v : Value} {ss : List St} (h : OSt w base v ss) (hs : ∀ s ∈ ss, s.2.length ≤ 35184372088832) : RSt w v ss := by
  obtain ⟨vs, h⟩ := h
  have hz : ((ss.map (·.1)).zip vs).length = ss.length := by simp [h.len]
  rcases h.row.2 with ⟨rfl, h0⟩ | ⟨g, cap, cur, rfl, _⟩
  · exact ⟨none, 0, by rw [h0], .inl (List.length_eq_zero_iff.1 h0)⟩
  · refine ⟨_, cap, rfl, .inr ⟨g, rfl, fun k hk => ?_⟩⟩
    have c0 := World.ownsRow.cellAt h.row (k * 2 + 0) (by omega)
    have c1 := World.ownsRow.cellAt h.row (k * 2 + 1) (by omega)
    rw [scells_get _ k _ (by omega) (by omega), zip_get ss vs h.len k hk] at c0 c1
    exact ⟨_, c0, c1, (h.each k hk).rt (hs _ (by rw [List.getD_eq_getElem?_getD, List.getElem?_eq_getElem hk]; exact List.getElem_mem hk))⟩
theorem RSt.below {w w' : World} {v : Value} {ss : List St} (h : RSt w v ss) (hb : Below w.heap.size w w') : RSt w' v ss := by
  obtain ⟨ao, cap, rfl, h⟩ := h
  refine ⟨ao, cap, rfl, ?_⟩
  rcases h with h | ⟨g, rfl, h⟩
  · exact .inl h
  · refine .inr ⟨g, rfl, fun k hk => ?_⟩
    obtain ⟨u, c0, c1, r⟩ := h k hk
    have hg : g < w.heap.size := cell_lt c0
    exact ⟨u, (hb.cell (p := ⟨g, k * 2, none⟩) hg).trans c0, (hb.cell (p := ⟨g, k * 2 + 1, none⟩) hg).trans c1, r.below hb⟩
/-- One step more behind what is owned. -/
theorem ost_more {w w' : World} {base N : Nat} {v v' : Value} {ss : List St} {vs : List Value} {n : Int} {u : Value} {ts : List T4} (h : OStV w base v ss vs) (hu : OT w N u ts) (hN : ∀ k, k < ss.length → ∀ b, (vs.getD k (.slice none 0 0)).ownBlock = some b → b < N) (hbN : base ≤ N)
    (hr : w'.ownsRow base 59 2 v' (ss.length + 1) (scells ((ss.map (·.1)).zip vs) ++ scell (n, u))) (hg : w.grownBy w' v.ownBlock) : OStV w' base v' (ss ++ [(n, ts)]) (vs ++ [u]) := by
  have keep : ∀ (x : Value) (zs : List T4) (B : Nat), OT w B x zs → OT w' B x zs := fun x zs B hx => World.ownsRow.kept hx hg (by
    cases hxo : x.ownBlock with
    | none => exact .inl rfl
    | some b => exact .inr fun e => st_ot h.row hx b e.symm hxo)
  refine ⟨by simp [h.len], ?_, fun k hk => ?_, fun i j hij hj b hb => ?_⟩
  · have e : ((ss ++ [(n, ts)]).map (·.1)).zip (vs ++ [u]) = (ss.map (·.1)).zip vs ++ [(n, u)] := by
      rw [List.map_append, List.zip_append (by simp [h.len])]; rfl
    rw [e, scells_append, List.length_append]
    simpa [scells] using hr
  · rw [List.length_append, List.length_singleton] at hk
    by_cases e : k < ss.length
    · rw [List.getD_eq_getElem?_getD, List.getElem?_append_left (by rw [h.len]; exact e), ← List.getD_eq_getElem?_getD, List.getD_eq_getElem?_getD (l := ss ++ _), List.getElem?_append_left e, ← List.getD_eq_getElem?_getD]
      exact keep _ _ _ (h.each k e)
    · obtain rfl : k = ss.length := by omega
      have e1 : (vs ++ [u]).getD ss.length (.slice none 0 0) = u := by rw [← h.len]; simp
      have e2 : (ss ++ [(n, ts)]).getD ss.length zst = (n, ts) := by simp
      rw [e1, e2]
      have hk' := keep _ _ _ hu
      refine ⟨hk'.1, ?_⟩
      rcases hk'.2 with hn | ⟨g, cap, cur, rfl, hgN, rest⟩
      · exact .inl hn
      · exact .inr ⟨g, cap, cur, rfl, Nat.le_trans hbN hgN, rest⟩
  · rw [List.length_append, List.length_singleton] at hj
    have hi : i < ss.length := by omega
    rw [List.getD_eq_getElem?_getD, List.getElem?_append_left (by rw [h.len]; exact hi), ← List.getD_eq_getElem?_getD] at hb
    by_cases e : j < ss.length
    · rw [List.getD_eq_getElem?_getD, List.getElem?_append_left (by rw [h.len]; exact e), ← List.getD_eq_getElem?_getD]
      exact h.apart i j hij e b hb
    · obtain rfl : j = ss.length := by omega
      have e1 : (vs ++ [u]).getD ss.length (.slice none 0 0) = u := by rw [← h.len]; simp
      rw [e1]
      intro e3
      have := hN i hi b hb
      have := (World.ownsRow.lt hu b e3).1
      omega
end Go.Proofs.YtehdchpolgihlaaDoor

/- spec.TxsOf: what it answers. -/
namespace Go.Proofs.YtehdchpolgihlaaDoor
open Go.RowKit
set_option linter.unusedSectionVars false
variable [∀ (a b c d : Int), Decidable (Ok4 a b c d)]
variable [∀ (a b c d : Nat), Decidable (okN a b c d)]

theorem os_base {w : World} {B B' : Nat} {v : Value} {xs : List ByteArray} (h : OS w B v xs) (hB : B' ≤ B) : OS w B' v xs := by
  refine ⟨h.1, ?_⟩
  rcases h.2 with h | ⟨g, cap, cur, h1, h2, h3⟩
  · exact .inl h
  · exact .inr ⟨g, cap, cur, h1, by omega, h3⟩

set_option maxHeartbeats 4000000 in
set_option maxRecDepth 100000 in
theorem specTxsOf (s : ByteArray) (w : World) (hs : s.size ≤ 33554432) :
    Calls Tryd.prog 45 #[.string s] w fun e w' => ∃ v, e = .returned (.tuple #[v, .bool (txsAns s).isSome]) ∧ OT w' w.heap.size v ((txsAns s).getD []) ∧ Below w.heap.size w w' := by
  obtain ⟨i0, hi, hz0, hz1, hz2⟩ := info_parts Tryd.infoTx
  unfold txsAns
  by_cases hz : s = ⟨#[]⟩
  · rw [if_pos hz]
    subst hz
    go_enter Tryd.func45, Tryd.ntmps45
    go_wp2
    go_ret2
    exact ⟨_, rfl, World.ownsRow_lit w #[] 0 (Nat.le_refl _) (by unfold maxLen; omega) rfl, (Below.refl _ _).alloc (Nat.le_refl _) _⟩
  · rw [if_neg hz]
    have hne := str_ne hz
    have hne2 : (s.toList == []) = false := by
      rw [beq_eq_false_iff_ne]; intro e; apply hz; apply ByteArray.ext; apply Array.toList_inj.1; rw [ByteArray.toList_eq] at e; exact e
    have SP := hide fun w => specSplit_any s 44 w hs
    have hpn : 0 < (splitAns s 44).length := by simp [splitAns]
    have hpl := splitAns_len s 44
    have hpz : Hid (∀ p ∈ splitAns s 44, p.size ≤ 33554432) := fun p hp => Nat.le_trans (split_size s 44 p hp) hs
    generalize splitAns s 44 = ps at *
    clear hz
    go_enter Tryd.func45, Tryd.ntmps45
    go_wp2_with fail
    refine (unhide SP _).mono ?_
    rintro e w1 ⟨vp, rfl, op', b1'⟩
    have b1 : Below w.heap.size w w1 := ((Below.refl _ _).alloc (Nat.le_refl _) _).trans (b1'.mono (by simp))
    have op : OS w1 w.heap.size vp ps := os_base op' (by simp)
    have OL := hide (OT.below (show OT _ w.heap.size _ [] from World.ownsRow_lit w #[] 0 (Nat.le_refl _) (by unfold maxLen; omega) rfl) b1')
    clear op' b1'
    rcases op.2 with ⟨_, h0⟩ | ⟨gp, pc, pcur, rfl, _⟩
    · omega
    have OP := hide op
    clear op SP
    go_wp2
    go_loopw [4, 6] (fun v i wr => ∃ (k : Nat) (ys : List T4), k ≤ ps.length ∧ i = .int .i64 k ∧ ys.length = k ∧ Hid (allTx (ps.take k) = some ys) ∧ OT wr w.heap.size v ys ∧ OS wr w.heap.size (.slice (some ⟨gp, 0, none⟩) ps.length pc) ps ∧ Below w.heap.size w wr) (fun _ i _ => ps.length - (intOf i).toNat)
    case atStart => exact ⟨0, [], by omega, rfl, rfl, rfl, unhide OL, unhide OP, b1⟩
    case round =>
      obtain ⟨k, ys, hk, rfl, hyl, HA, ho, hp, hb⟩ := hrel
      have hsz := hb.size
      by_cases hlt : k < ps.length
      · have hc := os_cell hp rfl k hlt
        have hm := hpz.out _ (getD_mem hlt)
        have HT := hide (take_more ps k hlt)
        have CT := hide fun w => specTxOf (ps.getD k ByteArray.empty) w hm
        have HB := hide (And.intro ho (And.intro hp hb))
        clear ho hp hb hm
        generalize ps.getD k ByteArray.empty = p at *
        cases ht : txAns p.data.toList with
        | none =>
          have HN : Hid (allTx ps = none) := allTx_none (k + 1) (by rw [unhide HT, allTx_more, ht]; cases allTx (ps.take k) <;> rfl)
          rw [ht] at CT
          clear ht HT HA
          go_wp2_with fail
          refine (unhide CT _).mono ?_
          rintro e w2 ⟨rfl, b2⟩
          have hw : Below w.heap.size w (w2.alloc (.cells #[.int .i64 0, .int .i64 0, .int .i64 0, .int .i64 0] 99)) := ((unhide HB).2.2.trans (b2.mono hsz)).alloc (by have := b2.size; omega) _
          unfold txval
          go_wp2
          go_ret2
          exact ⟨_, by rw [HN.out]; rfl, by rw [HN.out]; have hq := World.ownsRow_lit (base := w.heap.size) (e := 99) (size := 4) (w2.alloc (.cells #[.int .i64 0, .int .i64 0, .int .i64 0, .int .i64 0] 99)) #[] 0 hw.size (by unfold maxLen; omega) (by simp); simpa [OT, tcells] using hq, hw.alloc hw.size _⟩
        | some q =>
          obtain ⟨a, b, c, d⟩ := q
          have HN : Hid (allTx (ps.take (k + 1)) = some (ys ++ [((a : Int), (b : Int), (c : Int), (d : Int))])) := by
            show allTx _ = _
            rw [unhide HT, allTx_more, HA.out, ht]; rfl
          rw [ht] at CT
          clear ht HT HA
          go_wp2_with fail
          refine (unhide CT _).mono ?_
          rintro e w2 ⟨rfl, b2⟩
          obtain ⟨ho, hp, hb⟩ := unhide HB
          have s2 := b2.size
          have ho2 := ot_alloc (ot_alloc (ho.below b2) (.cells #[.int .i64 a, .int .i64 b, .int .i64 c, .int .i64 d] 99)) (.cells #[.int .i64 a, .int .i64 b, .int .i64 c, .int .i64 d] 99)
          have hp2 := os_alloc (os_alloc (hp.below b2) (.cells #[.int .i64 a, .int .i64 b, .int .i64 c, .int .i64 d] 99)) (.cells #[.int .i64 a, .int .i64 b, .int .i64 c, .int .i64 d] 99)
          have hb2 : Below w.heap.size w ((w2.alloc (.cells #[.int .i64 a, .int .i64 b, .int .i64 c, .int .i64 d] 99)).alloc (.cells #[.int .i64 a, .int .i64 b, .int .i64 c, .int .i64 d] 99)) := ((hb.trans (b2.mono hsz)).alloc (by omega) _).alloc (by simp; omega) _
          have hdis := os_ot hp2 ho2
          clear ho hp hb HB b2 hc
          unfold txval
          go_wp2_with (first
            | (at_builtin; refine wpList_append_own _ rfl _ _ 57 rfl w.heap.size 99 i0 (txv 0 0 0 0) 4 32 Tryd.underlying57 hi hz0 hz1 hz2 rfl (by decide) _ _ _ rfl ho2 ⟨w2.heap.size + 1, 0, none⟩ 1 1 (tcell ((a : Int), (b : Int), (c : Int), (d : Int))) rfl rfl (by have := four_cell (w2.alloc (.cells #[.int .i64 a, .int .i64 b, .int .i64 c, .int .i64 d] 99)) ((a : Int), (b : Int), (c : Int), (d : Int)) 99; simpa using this) (four_plain _) (by unfold maxLen; omega) (by omega) (by simp; omega) ?_; intro v' w3 ho' hg' _; have R := ot_more (by simp; omega) ho2 hb2 ho' hg'; have RP : OS w3 w.heap.size (.slice (some ⟨gp, 0, none⟩) ps.length pc) ps := World.ownsRow.kept hp2 hg' hdis; clear ho2 ho' hg' hb2 hp2 hdis))
          go_roundw
          case rel => exact ⟨k + 1, _, by omega, by go_num, by simp [hyl], HN, R.1, RP, R.2⟩
          case measure => simp [intOf]; omega
      · have hkn : k = ps.length := by omega
        have HN : Hid (allTx ps = some ys) := by
          have := HA.out
          rw [hkn, List.take_of_length_le (Nat.le_refl _)] at this
          exact this
        have HO := hide ho
        clear ho hp HA
        go_wp2
        go_ret2
        exact ⟨_, by rw [HN.out]; rfl, by rw [HN.out]; exact unhide HO, hb⟩
end Go.Proofs.YtehdchpolgihlaaDoor

/- spec.Steps. -/
namespace Go.Proofs.YtehdchpolgihlaaDoor
open Go.RowKit
set_option linter.unusedSectionVars false
variable [∀ (a b c d : Int), Decidable (Ok4 a b c d)]
variable [∀ (a b c d : Nat), Decidable (okN a b c d)]
variable [∀ (last : Int) (s : St), Decidable (GoodSt last s)]

/-- Two rows of different types lie in two blocks. -/
theorem own_types {w : World} {B B' n n' s s' : Nat} {e e' : TypeId} {v u : Value} {xs ys : List Value} (h : w.ownsRow B e s v n xs) (h' : w.ownsRow B' e' s' u n' ys) (he : e ≠ e') : v.ownBlock = none ∨ v.ownBlock ≠ u.ownBlock := by
  rcases h.2 with ⟨rfl, _⟩ | ⟨g, cap, cur, rfl, _, hg, _⟩
  · exact .inl rfl
  · rcases h'.2 with ⟨rfl, _⟩ | ⟨g', cap', cur', rfl, _, hg', _⟩
    · exact .inr (by simp [Value.ownBlock])
    · refine .inr fun e2 => ?_
      simp [Value.ownBlock] at e2
      rw [e2, hg'] at hg
      simp at hg
      exact he hg.2.symm
/-- A row from behind block B does not lie in block B. -/
theorem none_apart {w : World} {B n s : Nat} {e : TypeId} {v : Value} {xs : List Value} {c : Nat} (h : w.ownsRow (B + 1) e s v n xs) : (Value.slice (some ⟨B, 0, none⟩) 0 c).ownBlock = none ∨ (Value.slice (some ⟨B, 0, none⟩) 0 c).ownBlock ≠ v.ownBlock := .inr fun e => by
  have := (World.ownsRow.lt h B (by rw [← e]; rfl)).1
  omega
theorem row_lower {w : World} {B B' n s : Nat} {e : TypeId} {v : Value} {xs : List Value} (h : w.ownsRow B e s v n xs) (hb : B' ≤ B) : w.ownsRow B' e s v n xs := by
  refine ⟨h.1, ?_⟩
  rcases h.2 with h | ⟨g, cap, cur, h1, h2, h3⟩
  · exact .inl h
  · exact .inr ⟨g, cap, cur, h1, by omega, h3⟩
theorem two_plain (n : Int) (a : Option Addr) (l c : Nat) : ∀ u ∈ scell (n, .slice a l c), u.oneCell' = true := by
  intro u hu
  simp [scell] at hu
  rcases hu with rfl | rfl <;> rfl
theorem two_cell (w : World) (p : Int × Value) (t : TypeId) (j : Nat) (u : Value) (h : (scell p)[j]? = some u) : (w.alloc (.cells #[.int .i64 p.1, p.2] t)).cell? ((⟨w.heap.size, 0, none⟩ : Addr).add j) = some u := by
  match j, h with
  | 0, h => simp [scell] at h; subst h; simp [Addr.add]
  | 1, h => simp [scell] at h; subst h; simp [Addr.add]
  | j + 2, h => simp [scell] at h
/-- A step's text: what l2Cut, Number and TxsOf tell of it. -/
theorem stepOf_cut (p : ByteArray) : stepOf p = if (cutS 124 p.data.toList).2.2 = true ∧ (numOf (cutS 124 p.data.toList).1).isSome = true ∧ (txsAns (toB (cutS 124 p.data.toList).2.1)).isSome = true then some (nans (numOf (cutS 124 p.data.toList).1), (txsAns (toB (cutS 124 p.data.toList).2.1)).getD []) else none := by
  unfold stepOf cutS
  by_cases hm : (124 : UInt8) ∈ p.data.toList
  · rw [if_pos hm, if_pos hm]
    cases hn : numOf (hd 124 p.data.toList) with
    | none => simp
    | some n =>
      cases ht : txsAns (toB (tl 124 p.data.toList)) with
      | none => simp
      | some ts => simp [nans]
  · rw [if_neg hm, if_neg hm]; simp
theorem tail_get (ps : List ByteArray) (k : Nat) (h : k + 1 < ps.length) : ps.tail.take (k + 1) = ps.tail.take k ++ [ps.getD (k + 1) ByteArray.empty] := by
  cases ps with
  | nil => simp at h
  | cons p ps =>
    simp only [List.tail_cons]
    simp at h
    rw [List.take_succ_eq_append_getElem h]
    simp [List.getD_eq_getElem?_getD, List.getElem?_eq_getElem h]

set_option maxHeartbeats 8000000 in
set_option maxRecDepth 100000 in
theorem specSteps (s : ByteArray) (w : World) (hs : s.size ≤ 33554432) :
    Calls Tryd.prog 32 #[.string s] w fun e w' => ∃ v, e = .returned (.tuple #[v, .bool (stepsAns s).isSome]) ∧ OSt w' w.heap.size v ((stepsAns s).getD []) ∧ Below w.heap.size w w' := by
  obtain ⟨i0, hi, hz0, hz1, hz2⟩ := info_parts Tryd.infoSt
  obtain ⟨w0, hw0⟩ : ∃ w0, (w.alloc (.cells #[] 59)).alloc (.cells #[] 59) = w0 := ⟨_, rfl⟩
  have z0 : w0.heap.size = w.heap.size + 1 + 1 := by rw [← hw0]; simp
  have B0 : Below w.heap.size w w0 := hw0 ▸ ((Below.refl _ _).alloc (Nat.le_refl _) _).alloc (by simp) _
  have R1 : (w.alloc (.cells #[] 59)).ownsRow w.heap.size 59 2 (.slice (some ⟨w.heap.size, 0, none⟩) 0 0) 0 [] := World.ownsRow_lit w #[] 0 (Nat.le_refl _) (by unfold maxLen; omega) rfl
  have N0 : w0.ownsRow w.heap.size 59 2 (.slice (some ⟨w.heap.size, 0, none⟩) 0 0) 0 [] := hw0 ▸ R1.alloc _
  have O0 : w0.ownsRow (w.heap.size + 1) 59 2 (.slice (some ⟨w.heap.size + 1, 0, none⟩) 0 0) 0 [] := by
    have := World.ownsRow_lit (base := w.heap.size + 1) (e := 59) (size := 2) (w.alloc (.cells #[] 59)) #[] 0 (by simp) (by unfold maxLen; omega) rfl
    rw [hw0] at this
    have e : (w.alloc (.cells #[] 59)).heap.size = w.heap.size + 1 := by simp
    rw [e] at this
    exact this
  clear R1
  unfold stepsAns
  by_cases hz : s = ⟨#[]⟩
  · rw [if_pos hz]
    subst hz
    go_enter Tryd.func32, Tryd.ntmps32
    go_wp2
    go_ret2
    refine ⟨_, rfl, ⟨[], rfl, ?_, fun k hk => by simp at hk, fun i j _ hj => by simp at hj⟩, B0⟩
    refine ⟨O0.1, ?_⟩
    rcases O0.2 with h | ⟨g, cap, cur, h1, h2, h3⟩
    · exact .inl h
    · exact .inr ⟨g, cap, cur, h1, by omega, h3⟩
  · rw [if_neg hz]
    have hne := str_ne hz
    have hne2 : (s.toList == []) = false := by
      rw [beq_eq_false_iff_ne]; intro e; apply hz; apply ByteArray.ext; apply Array.toList_inj.1; rw [ByteArray.toList_eq] at e; exact e
    have SP := hide fun w => specSplit_any s 47 w hs
    have hpn : 0 < (splitAns s 47).length := by simp [splitAns]
    have hpz : Hid (∀ p ∈ splitAns s 47, p.size ≤ 33554432) := fun p hp => Nat.le_trans (split_size s 47 p hp) hs
    have hpl := splitAns_len s 47
    have NONE : Hid (∀ w', Below w.heap.size w w' → w'.ownsRow w.heap.size 59 2 (.slice (some ⟨w.heap.size, 0, none⟩) 0 0) 0 [] → OSt w' w.heap.size (.slice (some ⟨w.heap.size, 0, none⟩) 0 0) []) := hide fun w' _ h => ⟨[], rfl, h, fun k hk => by simp at hk, fun i j _ hj => by simp at hj⟩
    generalize splitAns s 47 = ps at *
    generalize hA : (if ps.getD 0 ByteArray.empty = ⟨#[]⟩ ∧ ps.length ≤ 31 then (stepsRun ps.tail).map (·.2) else none) = A
    have HA := hide hA
    clear hz hA
    go_enter Tryd.func32, Tryd.ntmps32
    go_wp2_with fail
    clear hw0
    refine (unhide SP _).mono ?_
    rintro e w1 ⟨vp, rfl, op, b1⟩
    have s1 := b1.size
    have B1 := B0.trans (b1.mono B0.size)
    have k1 : w0.grownBy w1 none := ⟨b1.os, b1.tape, b1.output, b1.size, fun k hk _ => b1.block k hk⟩
    have N1 := N0.kept k1 (by simp [Value.ownBlock])
    have O1 := O0.kept k1 (by simp [Value.ownBlock])
    rcases op.2 with ⟨_, h0⟩ | ⟨gp, pc, pcur, rfl, _⟩
    · omega
    have c0 := os_cell op rfl 0 hpn
    have OP := hide op
    have N1 := hide N1
    clear op SP k1 b1 N0 O0 B0
    by_cases h0 : ps.getD 0 ByteArray.empty = ⟨#[]⟩
    · rw [h0] at c0
      by_cases h31 : ps.length ≤ 31
      · have E : Hid (A = (stepsRun ps.tail).map (·.2)) := hide ((unhide HA).symm.trans (if_pos ⟨h0, h31⟩))
        have h31' : decide ((31 : Int) < (ps.length : Int)) = false := by simp; omega
        go_wp2
        clear c0
        go_loopw [5, 7, 8] (fun out last i wr => ∃ (k : Nat) (l : Int) (ss : List St) (vs : List Value), k + 1 ≤ ps.length ∧ i = .int .i64 ((k + 1 : Nat) : Int) ∧ last = .int .i64 l ∧ Hid (stepsRun (ps.tail.take k) = some (l, ss)) ∧ ss.length = k ∧ OStV wr (w.heap.size + 1) out ss vs ∧ OS wr w0.heap.size (.slice (some ⟨gp, 0, none⟩) ps.length pc) ps ∧ wr.ownsRow w.heap.size 59 2 (.slice (some ⟨w.heap.size, 0, none⟩) 0 0) 0 [] ∧ Below w.heap.size w wr ∧ w.heap.size + 1 ≤ wr.heap.size) (fun _ _ i _ => ps.length - (intOf i).toNat)
        case atStart => exact ⟨0, 0, [], [], by omega, by go_num, rfl, hide (by rw [List.take_zero]; rfl), rfl, ⟨rfl, O1, fun k hk => by simp at hk, fun i j _ hj => by simp at hj⟩, unhide OP, unhide N1, B1, by omega⟩
        case round =>
          clear O1 N1 OP B1
          obtain ⟨k, l, ss, vs, hk, rfl, rfl, HR, hsl, ost, hp, nr, br, sz⟩ := hrel
          subst hsl
          obtain ⟨oa, oc, rfl⟩ := OSt.form ⟨vs, ost⟩
          have RO1 := (stepsRun_ok _ _ (unhide HR)).2.1
          by_cases hlt : ss.length + 1 < ps.length
          · have hc := os_cell hp rfl (ss.length + 1) hlt
            have hm := unhide hpz _ (getD_mem hlt)
            have HT := hide (tail_get ps ss.length hlt)
            have HC := hide (stepOf_cut (ps.getD (ss.length + 1) ByteArray.empty))
            have CUT := hide fun w => l2Cut_any 124 124 rfl (ps.getD (ss.length + 1) ByteArray.empty) w hm
            generalize ps.getD (ss.length + 1) ByteArray.empty = p at *
            have hc1 : (cutS 124 p.data.toList).1.length ≤ 33554432 ∧ (cutS 124 p.data.toList).2.1.length ≤ 33554432 := by
              have h1 := cutS_len 124 p.data.toList
              have h2 : p.data.toList.length = p.size := by simp
              omega
            obtain ⟨c, hcc⟩ : ∃ c, cutS 124 p.data.toList = c := ⟨_, rfl⟩
            rw [hcc] at CUT HC hc1
            clear hcc
            have NU := hide fun w => specNumber_any (toB c.1) w (by rw [toB_size]; unfold maxLen; omega)
            have TX := hide fun w => specTxsOf (toB c.2.1) w (by rw [toB_size]; omega)
            rw [toB_list] at NU
            obtain ⟨cn, hcn⟩ : ∃ x, numOf c.1 = x := ⟨_, rfl⟩
            obtain ⟨ct, hct⟩ : ∃ x, txsAns (toB c.2.1) = x := ⟨_, rfl⟩
            rw [hcn] at NU HC
            rw [hct] at TX HC
            have hn0 : 0 ≤ nans cn ∧ nans cn ≤ 999999 := by
              cases cn with
              | none => simp [nans]
              | some m => have := numOf_some hcn; simp [nans]; omega
            clear hcn hct
            obtain ⟨n, hn⟩ : ∃ n, nans cn = n := ⟨_, rfl⟩
            obtain ⟨bn, hbn⟩ : ∃ b, cn.isSome = b := ⟨_, rfl⟩
            obtain ⟨bt, hbt⟩ : ∃ b, ct.isSome = b := ⟨_, rfl⟩
            obtain ⟨ts, hts⟩ : ∃ b, ct.getD [] = b := ⟨_, rfl⟩
            rw [hn] at NU HC hn0
            rw [hbn] at NU HC
            rw [hbt] at TX HC
            rw [hts] at TX HC
            clear hn hbn hbt hts
            have OST := hide ost
            have NR := hide nr
            have HP := hide hp
            clear ost nr hp
            go_wp2_with fail
            refine (unhide CUT _).mono ?_
            rintro _ w2 ⟨rfl, b2⟩
            go_wp2_with fail
            refine (unhide NU _).mono ?_
            rintro _ w3 ⟨rfl, b3⟩
            have b23 : Below wr.heap.size wr w3 := b2.trans (b3.mono b2.size)
            go_wp2_with fail
            refine (unhide TX _).mono ?_
            rintro _ w4 ⟨vt, rfl, ot, b4⟩
            have b24 : Below wr.heap.size wr w4 := b23.trans (b4.mono b23.size)
            have B4 := br.trans (b24.mono br.size)
            have s24 := b24.size
            have s23 := b23.size
            have ost4 := (unhide OST).below b24
            have k24 : wr.grownBy w4 none := ⟨b24.os, b24.tape, b24.output, b24.size, fun k hk _ => b24.block k hk⟩
            have nr4 := World.ownsRow.kept (unhide NR) k24 (by simp [Value.ownBlock])
            have hp4 := (unhide HP).below b24
            obtain ⟨ta, tc, rfl⟩ : ∃ ta tc, vt = .slice ta ts.length tc := by
              rcases ot.2 with ⟨rfl, h0⟩ | ⟨g, cap, cur, rfl, _⟩
              · exact ⟨none, 0, by rw [h0]⟩
              · exact ⟨_, _, rfl⟩
            clear CUT NU TX b2 b3 b4
            have RN : Hid (stepOf p = none → stepsRun ps.tail = none) := hide fun h => stepsRun_none (ss.length + 1) (by rw [unhide HT, stepsRun_more, unhide HR]; unfold stepAcc; rw [h]; rfl)
            obtain ⟨c1, c2, cb⟩ := c
            cases cb with
            | false =>
              have F := hide ((unhide RN) (by rw [unhide HC, if_neg (by simp)]))
              go_wp2
              go_ret2
              rw [unhide E, unhide F]
              exact ⟨_, rfl, unhide NONE _ B4 nr4, B4⟩
            | true =>
            cases bn with
            | false =>
              have F := hide ((unhide RN) (by rw [unhide HC, if_neg (by simp)]))
              go_wp2
              go_ret2
              rw [unhide E, unhide F]
              exact ⟨_, rfl, unhide NONE _ B4 nr4, B4⟩
            | true =>
            cases bt with
            | false =>
              have F := hide ((unhide RN) (by rw [unhide HC, if_neg (by simp)]))
              go_wp2
              go_ret2
              rw [unhide E, unhide F]
              exact ⟨_, rfl, unhide NONE _ B4 nr4, B4⟩
            | true =>
            have HS : Hid (stepOf p = some (n, ts)) := hide (by rw [unhide HC, if_pos (by simp)])
            have RG : Hid (¬ GoodSt l (n, ts) → stepsRun ps.tail = none) := hide fun h => stepsRun_none (ss.length + 1) (by rw [unhide HT, stepsRun_more, unhide HR]; unfold stepAcc; rw [unhide HS]; exact if_neg h)
            clear RN HC
            by_cases g1 : n ≤ l
            · have F := hide ((unhide RG) fun h => by have := h.1; simp only at this; omega)
              have g1' : decide (n ≤ l) = true := by simp; omega
              go_wp2
              go_ret2
              rw [unhide E, unhide F]
              exact ⟨_, rfl, unhide NONE _ B4 nr4, B4⟩
            have g1' : decide (n ≤ l) = false := by simp; omega
            by_cases g2 : 60 < n
            · have F := hide ((unhide RG) fun h => by have := h.2.1; simp only at this; omega)
              have g2' : decide (60 < n) = true := by simp; omega
              go_wp2
              go_ret2
              rw [unhide E, unhide F]
              exact ⟨_, rfl, unhide NONE _ B4 nr4, B4⟩
            have g2' : decide (60 < n) = false := by simp; omega
            by_cases g3 : 2 < ts.length
            · have F := hide ((unhide RG) fun h => by have := h.2.2; simp only at this; omega)
              have g3' : decide ((2 : Int) < (ts.length : Int)) = true := by simp; omega
              go_wp2
              go_ret2
              rw [unhide E, unhide F]
              exact ⟨_, rfl, unhide NONE _ B4 nr4, B4⟩
            have g3' : decide ((2 : Int) < (ts.length : Int)) = false := by simp; omega
            have HN : Hid (stepsRun (ps.tail.take (ss.length + 1)) = some (n, ss ++ [(n, ts)])) := hide (by
              rw [unhide HT, stepsRun_more, unhide HR]; unfold stepAcc; rw [unhide HS]
              exact if_pos ⟨by omega, by omega, by show ts.length ≤ 2; omega⟩)
            have bX : Below w4.heap.size w4 (w4.alloc (.cells #[.int .i64 n, .slice ta ts.length tc] 59)) := (Below.refl _ _).alloc (Nat.le_refl _) _
            have ostX := ost4.below bX
            have otX := ot.below bX
            have hpX := hp4.below bX
            have nrX := World.ownsRow.alloc nr4 (.cells #[.int .i64 n, .slice ta ts.length tc] 59)
            have BX := B4.trans (bX.mono B4.size)
            have hN : ∀ k, k < ss.length → ∀ b, (vs.getD k (.slice none 0 0)).ownBlock = some b → b < w3.heap.size := fun k hk b hb => by
              have := (World.ownsRow.lt ((unhide OST).each k hk) b hb).2; omega
            have hl31 : ss.length ≤ 31 := by omega
            clear RG ost4 ot hp4 nr4 B4
            go_wp2_with (first
              | (at_builtin; refine wpList_append_own _ rfl _ _ 54 rfl (w.heap.size + 1) 59 i0 (.agg #[.int .i64 0, .slice none 0 0]) 2 32 Tryd.underlying54 hi hz0 hz1 hz2 rfl (by decide) _ _ _ rfl ostX.row ⟨w4.heap.size, 0, none⟩ 1 1 (scell (n, .slice ta ts.length tc)) rfl rfl (two_cell w4 (n, .slice ta ts.length tc) 59) (two_plain _ _ _ _) (by unfold maxLen; omega) (by omega) (by simp; omega) ?_; intro v' w5 ho' hg' _; have R := ost_more ostX otX hN (by omega) ho' hg'; have RP := World.ownsRow.kept hpX hg' (own_types hpX ostX.row (by decide)); have RN := World.ownsRow.kept nrX hg' (none_apart ostX.row); have RB := BX.grown hg' BX.size (fun k hk => by have := (World.ownsRow.lt ostX.row k hk).1; omega); have SZ : w4.heap.size ≤ w5.heap.size := (by have := hg'.size; simp at this; omega); clear ho' hg' ostX otX hpX nrX BX bX))
            go_roundw
            case rel => exact ⟨ss.length + 1, n, _, _, by omega, by go_num, rfl, HN, by simp, R, RP, RN, RB, by omega⟩
            case measure => simp [intOf]; omega
          · have hk2 : ps.tail.take ss.length = ps.tail := List.take_of_length_le (by simp; omega)
            rw [hk2] at HR
            have hlt' : decide (((ss.length + 1 : Nat) : Int) < (ps.length : Int)) = false := by simp; omega
            go_wp2
            go_ret2
            rw [unhide E, unhide HR]
            refine ⟨_, rfl, ⟨vs, ost.len, ?_, fun k hk => ?_, ost.apart⟩, br⟩
            · exact row_lower ost.row (by omega)
            · exact row_lower (ost.each k hk) (by omega)
      · have E : A = none := (unhide HA).symm.trans (if_neg fun h => h31 h.2)
        have h31' : decide ((31 : Int) < (ps.length : Int)) = true := by simp; omega
        go_wp2
        go_ret2
        rw [E]
        exact ⟨_, rfl, unhide NONE _ B1 (unhide N1), B1⟩
    · have E : A = none := (unhide HA).symm.trans (if_neg fun h => h0 h.1)
      have hn0 := str_ne h0
      have hn1 : ((ps.getD 0 ByteArray.empty).toList = []) = False := eq_false fun e => h0 (by apply ByteArray.ext; apply Array.toList_inj.1; rw [ByteArray.toList_eq] at e; exact e)
      generalize ps.getD 0 ByteArray.empty = p0 at *
      go_wp2
      go_ret2
      rw [E]
      exact ⟨_, rfl, unhide NONE _ B1 (unhide N1), B1⟩
end Go.Proofs.YtehdchpolgihlaaDoor
