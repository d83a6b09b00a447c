/- Texts that belong together: Clone, SplitPlain, Split, SpecSplit, TxsOf, StepsPlain, GetPlain, Read, GetNum, TextRead, Draw, DrawNum, Plain, Put. -/
import Derived.Test.YtehdchpolgihlaaGreatDoorPzAA
import Derived.Test.YtehdchpolgihlaaGreatDoorShelfClone
import Derived.WalkKit
import Derived.Test.YtehdchpolgihlaaGreatDoorPzAI
import Derived.Test.YtehdchpolgihlaaGreatDoorPzAH
import Derived.Laws.BitsAllLaws
import Derived.Test.YtehdchpolgihlaaGreatDoorPzAG
import Derived.Laws.BytesArg
import Derived.Laws.Bits128
/- strings.Clone and lists of texts of the call's own. -/
namespace Go.Proofs.YtehdchpolgihlaaGreatDoor
open Go.RowKit

/-- v is a list of the call's own, from block 'base' on, of the texts xs. -/
def OS (w : World) (base : Nat) (v : Value) (xs : List ByteArray) : Prop := w.ownsRow base 9 1 v xs.length (xs.map Value.string)
theorem OS.below {w w' : World} {base : Nat} {v : Value} {xs : List ByteArray} (h : OS w base v xs) (hb : Below w.heap.size w w') : OS w' base v xs :=
  World.ownsRow.kept (row := none) h ⟨hb.os, hb.tape, hb.output, hb.size, fun k hk _ => hb.block k hk⟩ (by cases v.ownBlock <;> simp)

theorem clone_any (s : ByteArray) (w : World) (hs : s.size ≤ 281474976710656) :
    Calls Tryz.prog 106 #[.string s] w fun e w' => e = .returned (.string s) ∧ Below w.heap.size w w' := by
  go_enter Tryz.func106, Tryz.ntmps106
  go_wp2_with fail
  refine (Tryz.stringslite_Clone s _ hs).mono ?_
  rintro e w' ⟨rfl, b⟩
  go_wp2
  go_ret
  exact ⟨rfl, b⟩
end Go.Proofs.YtehdchpolgihlaaGreatDoor

/- The plain mathematics of Split. Nothing of the program. -/
namespace Go.Proofs.YtehdchpolgihlaaGreatDoor

/-- Behind the first k bytes: the pieces that are cut, and where the next one begins. -/
def pcs (s : ByteArray) (b : Int) : Nat → List ByteArray × Nat
  | 0 => ([], 0)
  | k + 1 => if ((s.data.toList.getD k 0).toNat : Int) = b then ((pcs s b k).1 ++ [s.extract (pcs s b k).2 k], k + 1) else pcs s b k
theorem pcs_le (s : ByteArray) (b : Int) (k : Nat) : (pcs s b k).2 ≤ k ∧ (pcs s b k).1.length ≤ k := by
  induction k with
  | zero => simp [pcs]
  | succ k ih =>
    rw [pcs]; split
    · simp; omega
    · omega
/-- What Split answers. -/
def splitAns (s : ByteArray) (b : Int) : List ByteArray := (pcs s b s.size).1 ++ [s.extract (pcs s b s.size).2 s.size]
theorem splitAns_len (s : ByteArray) (b : Int) : (splitAns s b).length ≤ s.size + 1 := by
  have := (pcs_le s b s.size).2
  simp [splitAns]; omega
theorem pcs_hit (s : ByteArray) (b : Int) (k : Nat) (h : k < s.size) (hb : (s[k].toNat : Int) = b) : pcs s b (k + 1) = ((pcs s b k).1 ++ [s.extract (pcs s b k).2 k], k + 1) := by
  rw [pcs, if_pos]
  rw [← hb]
  have : s.data.toList.getD k 0 = s[k] := by rw [List.getD_eq_getElem?_getD, List.getElem?_eq_getElem (by simpa using h)]; rfl
  rw [this]
theorem pcs_miss (s : ByteArray) (b : Int) (k : Nat) (h : k < s.size) (hb : (s[k].toNat : Int) ≠ b) : pcs s b (k + 1) = pcs s b k := by
  rw [pcs, if_neg]
  have : s.data.toList.getD k 0 = s[k] := by rw [List.getD_eq_getElem?_getD, List.getElem?_eq_getElem (by simpa using h)]; rfl
  rw [this]; exact hb
end Go.Proofs.YtehdchpolgihlaaGreatDoor

/- impl.Split: what it answers. -/
namespace Go.Proofs.YtehdchpolgihlaaGreatDoor
open Go.RowKit

/-- One text more behind what is owned. -/
theorem os_more {B : Nat} {w wr w1 : World} {v v' : Value} {o : Obj} {xs : List ByteArray} {c : ByteArray} (hB : B ≤ wr.heap.size) (ho : OS wr B v xs) (hb : Below B w wr)
    (ho' : w1.ownsRow B 9 1 v' (xs.length + 1) (xs.map Value.string ++ [.string c])) (hg : (wr.alloc o).grownBy w1 v.ownBlock) :
    OS w1 B v' (xs ++ [c]) ∧ Below B w w1 :=
  ⟨by unfold OS; simpa using ho', (hb.alloc hB o).grown hg (by simp; omega) (fun j hj => (ho.lt j hj).1)⟩

theorem ext_size (s : ByteArray) (n k : Nat) : (s.extract n k).size ≤ s.size := by rw [ByteArray.size_extract]; omega

set_option maxHeartbeats 1600000 in
set_option maxRecDepth 100000 in
theorem split_any (s : ByteArray) (b : Int) (w : World) (hs : s.size ≤ 33554432) :
    Calls Tryz.prog 173 #[.string s, .int .u8 b] w fun e w' => ∃ v, e = .returned v ∧ OS w' w.heap.size v (splitAns s b) ∧ Below w.heap.size w w' := by
  obtain ⟨i0, hi, hz0, hz1, hz2⟩ := info_parts Tryz.info9
  go_enter Tryz.func173, Tryz.ntmps173
  go_wp2
  go_loopw [5, 6, 7] (fun v f i wr => ∃ k n : Nat, k ≤ s.size ∧ n ≤ k ∧ i = .int .i64 k ∧ f = .int .i64 n ∧ Hid (n = (pcs s b k).2) ∧ OS wr w.heap.size v (pcs s b k).1 ∧ Below w.heap.size w wr) (fun _ _ i _ => s.size - (intOf i).toNat)
  case atStart => exact ⟨0, 0, by omega, by omega, rfl, rfl, rfl, World.ownsRow_nil _ _ _ _, Below.refl _ _⟩
  case round =>
    obtain ⟨k, n, hk, hnk, rfl, rfl, HN, ho, hb⟩ := hrel
    have hsz := hb.size
    have hpl := (pcs_le s b k).2
    by_cases hlt : k < s.size
    · by_cases hbk : (s[k].toNat : Int) = b
      · have hbk' : ((s[k].toNat : Int) == b) = true := by simp [hbk]
        have HP := hide (pcs_hit s b k hlt hbk)
        clear hbk
        go_wp2_with fail
        refine (clone_any _ _ (by have := ext_size s n k; omega)).mono ?_
        rintro e w1 ⟨rfl, b1⟩
        have s1 := b1.size
        have ho1 := ho.below b1
        have hb1 := hb.trans (b1.mono hsz)
        clear ho hb
        go_wp2_with (first
          | (at_builtin; refine wpList_append_own _ rfl _ _ 164 rfl w.heap.size 9 i0 (.string ⟨#[]⟩) 1 16 Tryz.underlying164 hi hz0 hz1 hz2 rfl (by decide) _ _ _ rfl (World.ownsRow.alloc ho1 _) ⟨w1.heap.size, 0, none⟩ 1 1 [.string (s.extract n k)] rfl rfl (one_cell _ _ _) (one_text _) (by unfold maxLen; omega) (by omega) (by simp; omega) ?_; intro v' w2 ho' hg' _; have R := os_more (by omega) ho1 hb1 ho' hg'; clear ho1 ho' hg' hb1))
        go_roundw
        case rel => exact ⟨k + 1, k + 1, by omega, by omega, by go_num, by go_num, by rw [unhide HP]; rfl, by rw [unhide HP, ← HN.out]; exact R.1, R.2⟩
        case measure => simp [intOf]; omega
      · have hbk' : ((s[k].toNat : Int) == b) = false := by simp [hbk]
        have HP := hide (pcs_miss s b k hlt hbk)
        clear hbk
        have HO := hide ho
        clear ho
        go_wp2
        go_roundw
        case rel => exact ⟨k + 1, n, by omega, by omega, by go_num, rfl, by rw [unhide HP]; exact HN, by rw [unhide HP]; exact unhide HO, hb⟩
        case measure => simp [intOf]; omega
    · have hks : k = s.size := by omega
      have HA : Hid (splitAns s b = (pcs s b k).1 ++ [s.extract n s.size]) := by unfold splitAns; rw [HN.out, hks]; rfl
      clear hks
      go_wp2_with fail
      refine (clone_any _ _ (by have := ext_size s n s.size; omega)).mono ?_
      rintro e w1 ⟨rfl, b1⟩
      have s1 := b1.size
      have ho1 := ho.below b1
      have hb1 := hb.trans (b1.mono hsz)
      clear ho hb
      go_wp2_with (first
        | (at_builtin; refine wpList_append_own _ rfl _ _ 164 rfl w.heap.size 9 i0 (.string ⟨#[]⟩) 1 16 Tryz.underlying164 hi hz0 hz1 hz2 rfl (by decide) _ _ _ rfl (World.ownsRow.alloc ho1 _) ⟨w1.heap.size, 0, none⟩ 1 1 [.string (s.extract n s.size)] rfl rfl (one_cell _ _ _) (one_text _) (by unfold maxLen; omega) (by omega) (by simp; omega) ?_; intro v' w2 ho' hg' _; have R := os_more (by omega) ho1 hb1 ho' hg'; clear ho1 ho' hg' hb1))
      go_ret
      exact ⟨_, rfl, by rw [HA.out]; exact R.1, R.2⟩
end Go.Proofs.YtehdchpolgihlaaGreatDoor

/- spec.Split: what it answers. -/
namespace Go.Proofs.YtehdchpolgihlaaGreatDoor
open Go.RowKit

set_option maxHeartbeats 1600000 in
set_option maxRecDepth 100000 in
theorem specSplit_any (s : ByteArray) (b : Int) (w : World) (hs : s.size ≤ 33554432) :
    Calls Tryz.prog 132 #[.string s, .int .u8 b] w fun e w' => ∃ v, e = .returned v ∧ OS w' w.heap.size v (splitAns s b) ∧ Below w.heap.size w w' := by
  obtain ⟨i0, hi, hz0, hz1, hz2⟩ := info_parts Tryz.info9
  go_enter Tryz.func132, Tryz.ntmps132
  go_wp2
  go_loopw [5, 6, 7] (fun v f i wr => ∃ k : Nat, k ≤ s.size + 1 ∧ i = .int .i64 k ∧ Below w.heap.size w wr ∧ ((k ≤ s.size ∧ ∃ n : Nat, n ≤ k ∧ f = .int .i64 n ∧ Hid (n = (pcs s b k).2) ∧ OS wr w.heap.size v (pcs s b k).1) ∨ (k = s.size + 1 ∧ OS wr w.heap.size v (splitAns s b)))) (fun _ _ i _ => s.size + 1 - (intOf i).toNat)
  case atStart => exact ⟨0, by omega, rfl, (Below.refl _ _).alloc (Nat.le_refl _) _, .inl ⟨by omega, 0, by omega, rfl, rfl, World.ownsRow_lit w #[] 0 (Nat.le_refl _) (by unfold maxLen; omega) rfl⟩⟩
  case round =>
    obtain ⟨k, hk, rfl, hb, hcase⟩ := hrel
    have hsz := hb.size
    rcases hcase with ⟨hks, n, hnk, rfl, HN, ho⟩ | ⟨rfl, ho⟩
    · have hpl := (pcs_le s b k).2
      by_cases hlt : k < s.size
      · have hke : ((k : Int) == (s.size : Int)) = false := by simp; omega
        by_cases hbk : (s[k].toNat : Int) = b
        · have hbk' : ((s[k].toNat : Int) == b) = true := by simp [hbk]
          have HP := hide (pcs_hit s b k hlt hbk)
          clear hbk
          go_wp2_with (first
            | (at_builtin; refine wpList_append_own _ rfl _ _ 164 rfl w.heap.size 9 i0 (.string ⟨#[]⟩) 1 16 Tryz.underlying164 hi hz0 hz1 hz2 rfl (by decide) _ _ _ rfl (World.ownsRow.alloc ho _) ⟨wr.heap.size, 0, none⟩ 1 1 [.string (s.extract n k)] rfl rfl (one_cell _ _ _) (one_text _) (by unfold maxLen; omega) (by omega) (by simp; omega) ?_; intro v' w2 ho' hg' _; have R := os_more hsz ho hb ho' hg'; clear ho ho' hg' hb))
          go_roundw
          case rel => exact ⟨k + 1, by omega, by go_num, R.2, .inl ⟨by omega, k + 1, by omega, by go_num, by rw [unhide HP]; rfl, by rw [unhide HP, ← HN.out]; exact R.1⟩⟩
          case measure => simp [intOf]; omega
        · have hbk' : ((s[k].toNat : Int) == b) = false := by simp [hbk]
          have HP := hide (pcs_miss s b k hlt hbk)
          clear hbk
          have HO := hide ho
          clear ho
          go_wp2
          go_roundw
          case rel => exact ⟨k + 1, by omega, by go_num, hb, .inl ⟨by omega, n, by omega, rfl, by rw [unhide HP]; exact HN, by rw [unhide HP]; exact unhide HO⟩⟩
          case measure => simp [intOf]; omega
      · have hks' : k = s.size := by omega
        have hke : ((k : Int) == (s.size : Int)) = true := by simp; omega
        have HA : Hid (splitAns s b = (pcs s b k).1 ++ [s.extract n k]) := by unfold splitAns; rw [HN.out, hks']; rfl
        have HK := hide hks'
        clear hks'
        go_wp2_with (first
          | (at_builtin; refine wpList_append_own _ rfl _ _ 164 rfl w.heap.size 9 i0 (.string ⟨#[]⟩) 1 16 Tryz.underlying164 hi hz0 hz1 hz2 rfl (by decide) _ _ _ rfl (World.ownsRow.alloc ho _) ⟨wr.heap.size, 0, none⟩ 1 1 [.string (s.extract n k)] rfl rfl (one_cell _ _ _) (one_text _) (by unfold maxLen; omega) (by omega) (by simp; omega) ?_; intro v' w2 ho' hg' _; have R := os_more hsz ho hb ho' hg'; clear ho ho' hg' hb))
        go_roundw
        case rel => exact ⟨k + 1, by omega, by go_num, R.2, .inr ⟨by rw [unhide HK], by rw [HA.out]; exact R.1⟩⟩
        case measure => simp [intOf]; omega
    · have HO := hide ho
      clear ho
      go_wp2
      go_ret
      exact ⟨_, rfl, unhide HO, hb⟩
end Go.Proofs.YtehdchpolgihlaaGreatDoor

/- TxsOf of the program and of the specification. -/
namespace Go.Proofs.YtehdchpolgihlaaGreatDoor
open Go.RowKit
set_option linter.unusedSectionVars false
variable [∀ (a b c d : Int), Decidable (Ok4 a b c d)]
variable [∀ (a b c d : Nat), Decidable (okN a b c d)]

def toT (q : Nat × Nat × Nat × Nat) : T4 := (q.1, q.2.1, q.2.2.1, q.2.2.2)
/-- The payments of which these are the texts. -/
def allTx : List ByteArray → Option (List T4)
  | [] => some []
  | p :: ps => match txAns p.data.toList with
    | some q => (allTx ps).map (toT q :: ·)
    | none => none
theorem allTx_more (ps : List ByteArray) (p : ByteArray) : allTx (ps ++ [p]) = (allTx ps).bind fun ys => (txAns p.data.toList).map fun q => ys ++ [toT q] := by
  induction ps with
  | nil => rw [List.nil_append, allTx, allTx]; cases txAns p.data.toList <;> simp [allTx]
  | cons r ps ih =>
    rw [List.cons_append, allTx, allTx]
    cases txAns r.data.toList with
    | none => rfl
    | some q => simp only [ih]; cases allTx ps <;> cases txAns p.data.toList <;> simp
theorem allTx_none {ps : List ByteArray} (k : Nat) (h : allTx (ps.take k) = none) : allTx ps = none := by
  rw [← List.take_append_drop k ps]
  generalize ps.drop k = r
  generalize ps.take k = l at h
  induction l with
  | nil => simp [allTx] at h
  | cons x l ih =>
    rw [List.cons_append, allTx]
    rw [allTx] at h
    cases hx : txAns x.data.toList with
    | none => rfl
    | some q => rw [hx] at h; simp at h; simp [ih h]
theorem take_more (ps : List ByteArray) (k : Nat) (hk : k < ps.length) : ps.take (k + 1) = ps.take k ++ [ps.getD k ByteArray.empty] := by
  rw [List.take_succ_eq_append_getElem hk, List.getD_eq_getElem?_getD, List.getElem?_eq_getElem hk]; rfl
/-- What TxsOf answers. -/
def txsAns (s : ByteArray) : Option (List T4) := if s = ⟨#[]⟩ then some [] else allTx (splitAns s 44)
theorem pcs_size (s : ByteArray) (b : Int) (k : Nat) : ∀ p ∈ (pcs s b k).1, p.size ≤ s.size := by
  induction k with
  | zero => simp [pcs]
  | succ k ih =>
    rw [pcs]; split
    · intro p hp
      rw [List.mem_append] at hp
      rcases hp with hp | hp
      · exact ih p hp
      · simp at hp; rw [hp]; exact ext_size s _ _
    · exact ih
theorem split_size (s : ByteArray) (b : Int) : ∀ p ∈ splitAns s b, p.size ≤ s.size := by
  intro p hp
  unfold splitAns at hp
  rw [List.mem_append] at hp
  rcases hp with hp | hp
  · exact pcs_size s b _ p hp
  · simp at hp; rw [hp]; exact ext_size s _ _
theorem getD_mem {ps : List ByteArray} {k : Nat} (hk : k < ps.length) : ps.getD k ByteArray.empty ∈ ps := by
  rw [List.getD_eq_getElem?_getD, List.getElem?_eq_getElem hk]; exact List.getElem_mem hk

theorem Tryz.infoTx : (Tryz.prog.info? 135).map (fun i => (i.zero, i.size, i.bytes)) = some (some (txv 0 0 0 0), 4, 32) := by kernel_rfl
theorem four_cell (w : World) (x : T4) (t : TypeId) (j : Nat) (u : Value) (h : (tcell x)[j]? = some u) : (w.alloc (.cells #[.int .i64 x.1, .int .i64 x.2.1, .int .i64 x.2.2.1, .int .i64 x.2.2.2] t)).cell? ((⟨w.heap.size, 0, none⟩ : Addr).add j) = some u := by
  match j, h with
  | 0, h => simp [tcell] at h; subst h; simp [Addr.add]
  | 1, h => simp [tcell] at h; subst h; simp [Addr.add]
  | 2, h => simp [tcell] at h; subst h; simp [Addr.add]
  | 3, h => simp [tcell] at h; subst h; simp [Addr.add]
  | j + 4, h => simp [tcell] at h
theorem four_plain (x : T4) (u : Value) (h : u ∈ tcell x) : u.oneCell' = true := by
  simp [tcell] at h; rcases h with rfl | rfl | rfl | rfl <;> rfl
/-- A list of texts and a list of payments lie in two blocks. -/
theorem os_ot {w : World} {B B' : Nat} {v u : Value} {ps : List ByteArray} {ys : List T4} (h : OS w B v ps) (h' : OT w B' u ys) : v.ownBlock = none ∨ v.ownBlock ≠ u.ownBlock := by
  rcases h.2 with ⟨rfl, _⟩ | ⟨g, cap, cur, rfl, _, hg, _⟩
  · exact .inl rfl
  · rcases h'.2 with ⟨rfl, _⟩ | ⟨g', cap', cur', rfl, _, hg', _⟩
    · exact .inr (by simp [Value.ownBlock])
    · refine .inr fun e => ?_
      simp [Value.ownBlock] at e
      rw [e, hg'] at hg
      simp at hg
/-- One payment more behind what is owned. -/
theorem ot_more {B : Nat} {w wr w1 : World} {v v' : Value} {xs : List T4} {x : T4} (hB : B ≤ wr.heap.size) (ho : OT wr B v xs) (hb : Below B w wr)
    (ho' : w1.ownsRow B 135 4 v' (xs.length + 1) (tcells xs ++ tcell x)) (hg : wr.grownBy w1 v.ownBlock) :
    OT w1 B v' (xs ++ [x]) ∧ Below B w w1 :=
  ⟨by unfold OT; rw [tcells_append, List.length_append]; simpa [tcells] using ho', hb.grown hg hB (fun j hj => (ho.lt j hj).1)⟩
theorem os_alloc {w : World} {B : Nat} {v : Value} {xs : List ByteArray} (h : OS w B v xs) (o : Obj) : OS (w.alloc o) B v xs := World.ownsRow.alloc h o
theorem ot_alloc {w : World} {B : Nat} {v : Value} {xs : List T4} (h : OT w B v xs) (o : Obj) : OT (w.alloc o) B v xs := World.ownsRow.alloc h o
theorem os_cell {w : World} {B g n cap : Nat} {ps : List ByteArray} (h : OS w B (.slice (some ⟨g, 0, none⟩) n cap) ps) (hn : n = ps.length) (k : Nat) (hk : k < ps.length) : w.cell? ⟨g, k, none⟩ = some (.string (ps.getD k ByteArray.empty)) := by
  subst hn
  rw [World.ownsRow.cellAt h k (by omega)]; simp [List.getElem?_eq_getElem hk]

set_option maxHeartbeats 4000000 in
set_option maxRecDepth 100000 in
theorem implTxsOf (s : ByteArray) (w : World) (hs : s.size ≤ 33554432) (hE : Env w) :
    Calls Tryz.prog 161 #[.string s] w fun e w' => ∃ v, e = .returned (.tuple #[v, .bool (txsAns s).isSome]) ∧ OT w' w.heap.size v ((txsAns s).getD []) ∧ Below w.heap.size w w' := by
  obtain ⟨i0, hi, hz0, hz1, hz2⟩ := info_parts Tryz.infoTx
  unfold txsAns
  by_cases hz : s = ⟨#[]⟩
  · rw [if_pos hz]
    subst hz
    go_enter Tryz.func161, Tryz.ntmps161
    go_wp2
    go_ret2
    exact ⟨_, rfl, World.ownsRow_nil _ _ _ _, Below.refl _ _⟩
  · rw [if_neg hz]
    have hne := str_ne hz
    have hne2 : (s.toList == []) = false := by
      rw [beq_eq_false_iff_ne]; intro e; apply hz; apply ByteArray.ext; apply Array.toList_inj.1; rw [ByteArray.toList_eq] at e; exact e
    have SP := hide fun w => split_any s 44 w hs
    have hpn : 0 < (splitAns s 44).length := by simp [splitAns]
    have hpl := splitAns_len s 44
    have hpz : Hid (∀ p ∈ splitAns s 44, p.size ≤ 33554432) := fun p hp => Nat.le_trans (split_size s 44 p hp) hs
    generalize splitAns s 44 = ps at *
    have HE := hide hE
    clear hE hz
    go_enter Tryz.func161, Tryz.ntmps161
    go_wp2_with fail
    refine (unhide SP _).mono ?_
    rintro e w1 ⟨vp, rfl, op, b1⟩
    rcases op.2 with ⟨_, h0⟩ | ⟨gp, pc, pcur, rfl, _⟩
    · omega
    have OP := hide op
    clear op SP
    go_wp2
    go_loopw [4, 14] (fun v i wr => ∃ (k : Nat) (ys : List T4), k ≤ ps.length ∧ i = .int .i64 k ∧ ys.length = k ∧ Hid (allTx (ps.take k) = some ys) ∧ OT wr w.heap.size v ys ∧ OS wr w.heap.size (.slice (some ⟨gp, 0, none⟩) ps.length pc) ps ∧ Below w.heap.size w wr) (fun _ i _ => ps.length - (intOf i).toNat)
    case atStart => exact ⟨0, [], by omega, rfl, rfl, rfl, World.ownsRow_nil _ _ _ _, unhide OP, b1⟩
    case round =>
      obtain ⟨k, ys, hk, rfl, hyl, HA, ho, hp, hb⟩ := hrel
      have hsz := hb.size
      by_cases hlt : k < ps.length
      · have hc := os_cell hp rfl k hlt
        have hm := hpz.out _ (getD_mem hlt)
        have HT := hide (take_more ps k hlt)
        have CT := hide fun w hE => implTxOf (ps.getD k ByteArray.empty) w hm hE
        have HB := hide (And.intro ho (And.intro hp hb))
        clear ho hp hb hm
        generalize ps.getD k ByteArray.empty = p at *
        cases ht : txAns p.data.toList with
        | none =>
          have HN : Hid (allTx ps = none) := allTx_none (k + 1) (by rw [unhide HT, allTx_more, ht]; cases allTx (ps.take k) <;> rfl)
          rw [ht] at CT
          clear ht HT HA
          go_wp2_with fail
          refine (unhide CT _ ((unhide HE).below (unhide HB).2.2)).mono ?_
          rintro e w2 ⟨rfl, b2⟩
          have hw : Below w.heap.size w (w2.alloc (.cells #[.int .i64 0, .int .i64 0, .int .i64 0, .int .i64 0] 135)) := ((unhide HB).2.2.trans (b2.mono hsz)).alloc (by have := b2.size; omega) _
          unfold txval
          go_wp2
          go_ret2
          exact ⟨_, by rw [HN.out]; rfl, by rw [HN.out]; exact World.ownsRow_nil _ _ _ _, hw⟩
        | some q =>
          obtain ⟨a, b, c, d⟩ := q
          have HN : Hid (allTx (ps.take (k + 1)) = some (ys ++ [((a : Int), (b : Int), (c : Int), (d : Int))])) := by
            show allTx _ = _
            rw [unhide HT, allTx_more, HA.out, ht]; rfl
          rw [ht] at CT
          clear ht HT HA
          go_wp2_with fail
          refine (unhide CT _ ((unhide HE).below (unhide HB).2.2)).mono ?_
          rintro e w2 ⟨rfl, b2⟩
          obtain ⟨ho, hp, hb⟩ := unhide HB
          have s2 := b2.size
          have ho2 := ot_alloc (ot_alloc (ho.below b2) (.cells #[.int .i64 a, .int .i64 b, .int .i64 c, .int .i64 d] 135)) (.cells #[.int .i64 a, .int .i64 b, .int .i64 c, .int .i64 d] 135)
          have hp2 := os_alloc (os_alloc (hp.below b2) (.cells #[.int .i64 a, .int .i64 b, .int .i64 c, .int .i64 d] 135)) (.cells #[.int .i64 a, .int .i64 b, .int .i64 c, .int .i64 d] 135)
          have hb2 : Below w.heap.size w ((w2.alloc (.cells #[.int .i64 a, .int .i64 b, .int .i64 c, .int .i64 d] 135)).alloc (.cells #[.int .i64 a, .int .i64 b, .int .i64 c, .int .i64 d] 135)) := ((hb.trans (b2.mono hsz)).alloc (by omega) _).alloc (by simp; omega) _
          have hdis := os_ot hp2 ho2
          clear ho hp hb HB b2 hc
          unfold txval
          go_wp2_with (first
            | (at_builtin; refine wpList_append_own _ rfl _ _ 133 rfl w.heap.size 135 i0 (txv 0 0 0 0) 4 32 Tryz.underlying133 hi hz0 hz1 hz2 rfl (by decide) _ _ _ rfl ho2 ⟨w2.heap.size + 1, 0, none⟩ 1 1 (tcell ((a : Int), (b : Int), (c : Int), (d : Int))) rfl rfl (by have := four_cell (w2.alloc (.cells #[.int .i64 a, .int .i64 b, .int .i64 c, .int .i64 d] 135)) ((a : Int), (b : Int), (c : Int), (d : Int)) 135; simpa using this) (four_plain _) (by unfold maxLen; omega) (by omega) (by simp; omega) ?_; intro v' w3 ho' hg' _; have R := ot_more (by simp; omega) ho2 hb2 ho' hg'; have RP : OS w3 w.heap.size (.slice (some ⟨gp, 0, none⟩) ps.length pc) ps := World.ownsRow.kept hp2 hg' hdis; clear ho2 ho' hg' hb2 hp2 hdis))
          go_roundw
          case rel => exact ⟨k + 1, _, by omega, by go_num, by simp [hyl], HN, R.1, RP, R.2⟩
          case measure => simp [intOf]; omega
      · have hkn : k = ps.length := by omega
        have HN : Hid (allTx ps = some ys) := by
          have := HA.out
          rw [hkn, List.take_of_length_le (Nat.le_refl _)] at this
          exact this
        have HO := hide ho
        clear ho hp HA
        go_wp2
        go_ret2
        exact ⟨_, by rw [HN.out]; rfl, by rw [HN.out]; exact unhide HO, hb⟩
end Go.Proofs.YtehdchpolgihlaaGreatDoor

/- Steps of a name: plain mathematics. -/
namespace Go.Proofs.YtehdchpolgihlaaGreatDoor
open Go.RowKit
set_option linter.unusedSectionVars false
variable [∀ (a b c d : Int), Decidable (Ok4 a b c d)]
variable [∀ (a b c d : Nat), Decidable (okN a b c d)]

/-- A step: its view, its payments. -/
abbrev St := Int × List T4
abbrev zst : St := (0, [])
/-- The step of which p is the text. -/
def stepOf (p : ByteArray) : Option St :=
  if (124 : UInt8) ∈ p.data.toList then (numOf (hd 124 p.data.toList)).bind fun n => (txsAns (toB (tl 124 p.data.toList))).map fun ts => ((n : Int), ts) else none
def GoodSt (last : Int) (s : St) : Prop := last < s.1 ∧ s.1 ≤ 60 ∧ s.2.length ≤ 2
variable [∀ (last : Int) (s : St), Decidable (GoodSt last s)]
/-- One part more. -/
def stepAcc (o : Option (Int × List St)) (p : ByteArray) : Option (Int × List St) := o.bind fun q => (stepOf p).bind fun s => if GoodSt q.1 s then some (s.1, q.2 ++ [s]) else none
def stepsRun (ps : List ByteArray) : Option (Int × List St) := ps.foldl stepAcc (some (0, []))
/-- What Steps answers. -/
def stepsAns (s : ByteArray) : Option (List St) :=
  if s = ⟨#[]⟩ then some []
  else if (splitAns s 47).getD 0 ByteArray.empty = ⟨#[]⟩ ∧ (splitAns s 47).length ≤ 31 then (stepsRun (splitAns s 47).tail).map (·.2) else none
theorem stepsRun_more (ps : List ByteArray) (p : ByteArray) : stepsRun (ps ++ [p]) = stepAcc (stepsRun ps) p := by
  unfold stepsRun; rw [List.foldl_append]; rfl
theorem acc_none (ps : List ByteArray) : ps.foldl stepAcc none = none := by
  induction ps with
  | nil => rfl
  | cons p ps ih => rw [List.foldl_cons]; exact ih
theorem stepsRun_none {ps : List ByteArray} (k : Nat) (h : stepsRun (ps.take k) = none) : stepsRun ps = none := by
  have e : stepsRun ps = (ps.drop k).foldl stepAcc (stepsRun (ps.take k)) := by
    unfold stepsRun
    rw [← List.foldl_append, List.take_append_drop]
  rw [e, h]
  exact acc_none _
/-- What has been read: views ascend, are within bounds; two payments a step at most. -/
theorem stepsRun_ok (ps : List ByteArray) (q : Int × List St) (h : stepsRun ps = some q) : q.2.length = ps.length ∧ (0 ≤ q.1 ∧ q.1 ≤ 60) ∧ (ps.length : Int) ≤ q.1 ∧ ∀ s ∈ q.2, (1 ≤ s.1 ∧ s.1 ≤ q.1) ∧ s.2.length ≤ 2 := by
  generalize hn : ps.length = n
  induction n generalizing ps q with
  | zero =>
    have : ps = [] := List.length_eq_zero_iff.1 hn
    subst this
    cases h
    exact ⟨rfl, by simp, by simp, fun s hs => by simp at hs⟩
  | succ n ih =>
    obtain ⟨ps', p, rfl⟩ : ∃ ps' p, ps = ps' ++ [p] := ⟨ps.dropLast, ps.getLast (fun e => by rw [e] at hn; simp at hn), (List.dropLast_concat_getLast _).symm⟩
    rw [stepsRun_more] at h
    unfold stepAcc at h
    cases hr : stepsRun ps' with
    | none => rw [hr] at h; cases h
    | some q' =>
      rw [hr] at h
      cases hs : stepOf p with
      | none => rw [hs] at h; simp at h
      | some s =>
        rw [hs] at h
        simp only [Option.bind_some] at h
        split at h
        · rename_i hg
          cases h
          obtain ⟨h1, h2, h3, h4⟩ := ih ps' q' hr (by simpa using hn)
          obtain ⟨g1, g2, g3⟩ := hg
          refine ⟨by simp [h1], ⟨by show 0 ≤ s.1; omega, g2⟩, by show (((n + 1 : Nat)) : Int) ≤ s.1; omega, fun y hy => ?_⟩
          rcases List.mem_append.1 hy with hy | hy
          · obtain ⟨⟨a1, a2⟩, a3⟩ := h4 y hy
            exact ⟨⟨a1, by show y.1 ≤ s.1; omega⟩, a3⟩
          · simp at hy
            subst hy
            exact ⟨⟨by omega, Int.le_refl _⟩, g3⟩
        · cases h
end Go.Proofs.YtehdchpolgihlaaGreatDoor

/- The plain mathematics of GetNum. Nothing of the program. -/
namespace Go.Proofs.YtehdchpolgihlaaGreatDoor

/-- The number that begins at 'at', of which i bytes, worth n, are read already; at most f bytes more. -/
def getF (xs : List Int) : Nat → Nat → Nat → Int → Option (Int × Int)
  | 0, _, _, _ => none
  | f + 1, i, p, n =>
    if p < xs.length then
      (if 128 ≤ xs.getD p 0 then getF xs f (i + 1) (p + 1) (n + xs.getD p 0 % 128 * 128 ^ i)
       else if 2147483647 < n + xs.getD p 0 % 128 * 128 ^ i ∨ (xs.getD p 0 = 0 ∧ 0 < i) then none
       else some (n + xs.getD p 0 % 128 * 128 ^ i, (p : Int) + 1))
    else none
/-- What GetNum reads at 'p': the number and the place behind it. -/
def getNum (xs : List Int) (p : Int) : Option (Int × Int) := if p < 0 then none else getF xs 5 0 p.toNat 0

theorem getF_out (xs : List Int) (f i p : Nat) (n : Int) (h : ¬ p < xs.length) : getF xs f i p n = none := by cases f <;> simp [getF, h]
theorem getF_more (xs : List Int) (f i p : Nat) (n : Int) (h : p < xs.length) (hd : 128 ≤ xs.getD p 0) : getF xs (f + 1) i p n = getF xs f (i + 1) (p + 1) (n + xs.getD p 0 % 128 * 128 ^ i) := by
  rw [getF, if_pos h, if_pos hd]
theorem getF_bad (xs : List Int) (f i p : Nat) (n : Int) (h : p < xs.length) (hd : ¬ 128 ≤ xs.getD p 0) (hb : 2147483647 < n + xs.getD p 0 % 128 * 128 ^ i ∨ (xs.getD p 0 = 0 ∧ 0 < i)) : getF xs (f + 1) i p n = none := by
  rw [getF, if_pos h, if_neg hd, if_pos hb]
theorem getF_end (xs : List Int) (f i p : Nat) (n : Int) (h : p < xs.length) (hd : ¬ 128 ≤ xs.getD p 0) (hb : ¬ (2147483647 < n + xs.getD p 0 % 128 * 128 ^ i ∨ (xs.getD p 0 = 0 ∧ 0 < i))) : getF xs (f + 1) i p n = some (n + xs.getD p 0 % 128 * 128 ^ i, (p : Int) + 1) := by
  rw [getF, if_pos h, if_neg hd, if_neg hb]
theorem getF_step {xs : List Int} {f i q : Nat} {n d c : Int} {r : Option (Int × Int)} (hc : (128 : Int) ^ i = c) (hr : r = getF xs (f + 1) i q n) (hq : q < xs.length) (hd : xs.getD q 0 = d) (h1 : 128 ≤ d) : r = getF xs f (i + 1) (q + 1) (n + d % 128 * c) := by
  subst hc; subst hd; rw [hr]; exact getF_more xs f i q n hq h1
theorem getF_no {xs : List Int} {f i q : Nat} {n d c : Int} {r : Option (Int × Int)} (hc : (128 : Int) ^ i = c) (hr : r = getF xs (f + 1) i q n) (hq : q < xs.length) (hd : xs.getD q 0 = d) (h1 : ¬ 128 ≤ d) (hb : 2147483647 < n + d % 128 * c ∨ (d = 0 ∧ 0 < i)) : r = none := by
  subst hc; subst hd; rw [hr]; exact getF_bad xs f i q n hq h1 hb
theorem getF_yes {xs : List Int} {f i q : Nat} {n d c : Int} {r : Option (Int × Int)} (hc : (128 : Int) ^ i = c) (hr : r = getF xs (f + 1) i q n) (hq : q < xs.length) (hd : xs.getD q 0 = d) (h1 : ¬ 128 ≤ d) (hb : ¬ (2147483647 < n + d % 128 * c ∨ (d = 0 ∧ 0 < i))) : r = some (n + d % 128 * c, (q : Int) + 1) := by
  subst hc; subst hd; rw [hr]; exact getF_end xs f i q n hq h1 hb
theorem getNum_neg (xs : List Int) (p : Int) (h : p < 0) : getNum xs p = none := by simp [getNum, h]
theorem getNum_nat (xs : List Int) (p : Nat) : getNum xs p = getF xs 5 0 p 0 := by rw [getNum, if_neg (by omega), Int.toNat_natCast]
theorem or_mul (a b i m : Nat) (hm : m = 2 ^ i) (h : a < m) : a ||| (b * m) = b * m + a := by
  subst hm
  rw [Nat.or_comm, ← Nat.shiftLeft_eq, Nat.shiftLeft_add_eq_or_of_lt h]
theorem i64_or_nat (a b : Nat) (ha : a < 9223372036854775808) (hb : b < 9223372036854775808) : bits .or .i64 (a : Int) (b : Int) = ((a ||| b : Nat) : Int) := by
  have hx : a ||| b < 2 ^ 63 := Nat.or_lt_two_pow (by omega) (by omega)
  show IntKind.i64.wrap ((BitVec.ofInt 64 (a : Int) ||| BitVec.ofInt 64 (b : Int)).toNat : Int) = _
  rw [BitVec.toNat_or, ofInt_u64 a (by omega), ofInt_u64 b (by omega), IntKind.wrap_i64]
  omega
theorem or_sum (n d : Int) (m i : Nat) (hm : m = 2 ^ i) (hs : m ≤ 268435456) (a0 : 0 ≤ n) (b0 : n < m) (a1 : 0 ≤ d) (b1 : d < 128) : bits BinOp.or IntKind.i64 n (d * (m : Int)) = n + d * (m : Int) := by
  obtain ⟨a, rfl⟩ := Int.eq_ofNat_of_zero_le a0
  obtain ⟨b, rfl⟩ := Int.eq_ofNat_of_zero_le a1
  have hbm : b * m ≤ 127 * 268435456 := Nat.mul_le_mul (by omega) hs
  rw [← Int.natCast_mul, i64_or_nat a (b * m) (by omega) (by omega), or_mul a b i m hm (by omega)]
  rw [Int.natCast_add, Int.add_comm]
end Go.Proofs.YtehdchpolgihlaaGreatDoor

/- impl.readByte and impl.readNum: they answer, or panic with errNoNumber. -/
namespace Go.Proofs.YtehdchpolgihlaaGreatDoor
open Go.RowKit

/-- What is read of bytes: each from 0 to 255. -/
def Bytes (xs : List Int) : Prop := ∀ k, k < xs.length → 0 ≤ xs.getD k 0 ∧ xs.getD k 0 ≤ 255

/-- What readNum ends in. -/
def ReadEnd (r : Option (Int × Int)) (pn : List PanicEntry) (e : Ending) : Prop :=
  (∃ n q, r = some (n, q) ∧ e = .returned (.tuple #[.int .i64 n, .int .i64 q])) ∨ (r = none ∧ e = .panicked pn)

end Go.Proofs.YtehdchpolgihlaaGreatDoor

/- impl.GetNum: what it answers. -/
namespace Go.Proofs.YtehdchpolgihlaaGreatDoor
open Go.RowKit

theorem alloc_new (w : World) (x : Value) (t : TypeId) : (w.alloc (.cells #[x] t)).cell? ⟨w.heap.size, 0, none⟩ = some x := by simp
theorem alloc_free (w : World) (x : Value) (t : TypeId) : (w.alloc (.cells #[x] t)).frozen? ⟨w.heap.size, 0, none⟩ = false := by simp [go_sem]
/-- The four variables that GetNum's closure captures, laid. -/
abbrev boxes (w : World) (v : Value) (p : Int) : World := (((w.alloc (.cells #[v] 22)).alloc (.cells #[.int .i64 p] 3)).alloc (.cells #[.int .i64 0] 3)).alloc (.cells #[.int .i64 0] 3)
theorem boxes_below (w : World) (v : Value) (p : Int) : Below w.heap.size w (boxes w v p) :=
  ((((Below.refl _ _).alloc (Nat.le_refl _) _).alloc (by simp) _).alloc (by simp; omega) _).alloc (by simp; omega) _
theorem boxes_size (w : World) (v : Value) (p : Int) : (boxes w v p).heap.size = w.heap.size + 4 := by simp
theorem boxes_ok (w : World) (v : Value) (p : Int) (o : Obj) :
    ((boxes w v p).alloc o).cell? ⟨w.heap.size, 0, none⟩ = some v ∧ ((boxes w v p).alloc o).cell? ⟨w.heap.size + 1, 0, none⟩ = some (.int .i64 p) ∧ ((boxes w v p).alloc o).cell? ⟨w.heap.size + 2, 0, none⟩ = some (.int .i64 0) ∧ ((boxes w v p).alloc o).cell? ⟨w.heap.size + 3, 0, none⟩ = some (.int .i64 0) ∧
    ((boxes w v p).alloc o).frozen? ⟨w.heap.size + 2, 0, none⟩ = false ∧ ((boxes w v p).alloc o).frozen? ⟨w.heap.size + 3, 0, none⟩ = false := by
  simp [boxes, go_sem]

/-- What GetNum answers, in three words. -/
def ans1 (r : Option (Int × Int)) : Int := match r with | some x => x.1 | none => 0
def ans2 (r : Option (Int × Int)) : Int := match r with | some x => x.2 | none => 0
end Go.Proofs.YtehdchpolgihlaaGreatDoor

/- impl.readText and spec.GetText. -/
namespace Go.Proofs.YtehdchpolgihlaaGreatDoor
open Go.RowKit

theorem getF_bd (xs : List Int) (hb : Bytes xs) (f i p : Nat) (n : Int) (h0 : 0 ≤ n) (m q : Int) (h : getF xs f i p n = some (m, q)) : 0 ≤ m ∧ m ≤ 2147483647 ∧ (p : Int) < q ∧ q ≤ xs.length := by
  induction f generalizing i p n with
  | zero => simp [getF] at h
  | succ f ih =>
    by_cases hp : p < xs.length
    · have hx := hb p hp
      have h128 : (0 : Int) ≤ 128 ^ i := Int.pow_nonneg (by omega)
      have hmul : 0 ≤ xs.getD p 0 % 128 * 128 ^ i := Int.mul_nonneg (by omega) h128
      by_cases hd : 128 ≤ xs.getD p 0
      · rw [getF_more xs f i p n hp hd] at h
        have := ih (i + 1) (p + 1) _ (by omega) h
        omega
      · by_cases hbad : 2147483647 < n + xs.getD p 0 % 128 * 128 ^ i ∨ (xs.getD p 0 = 0 ∧ 0 < i)
        · rw [getF_bad xs f i p n hp hd hbad] at h; cases h
        · rw [getF_end xs f i p n hp hd hbad] at h
          simp only [Option.some.injEq, Prod.mk.injEq] at h
          omega
    · rw [getF_out xs _ i p n hp] at h; cases h
theorem getNum_bd (xs : List Int) (hb : Bytes xs) (p m q : Int) (h : getNum xs p = some (m, q)) : 0 ≤ m ∧ m ≤ 2147483647 ∧ 0 < q ∧ q ≤ xs.length := by
  by_cases hp : p < 0
  · rw [getNum_neg xs p hp] at h; cases h
  · rw [getNum, if_neg hp] at h
    have := getF_bd xs hb 5 0 p.toNat 0 (by omega) m q h
    omega

/-- The text that stands at q, n bytes long. -/
def textAt (xs : List Int) (q n : Nat) : ByteArray := strOfNums ((xs.drop q).take n)
theorem win_cells {w : World} {b off q n : Nat} {xs : List Int} (h : ∀ k, k < xs.length → w.cell? ⟨b, off + k, none⟩ = some (.int .u8 (xs.getD k 0))) (hq : q + n ≤ xs.length) :
    ∀ i, i < n → w.cell? ⟨b, off + q + i, none⟩ = some (.int .u8 (((xs.drop q).take n).getD i 0)) := by
  intro i hi
  rw [Nat.add_assoc, h (q + i) (by omega)]
  simp [List.getD_eq_getElem?_getD, List.getElem?_drop, hi]
theorem win_len (xs : List Int) (q n : Nat) (hq : q + n ≤ xs.length) : ((xs.drop q).take n).length = n := by simp; omega

/-- What GetText reads: the text and the place behind it. -/
def getText (xs : List Int) (p : Int) : Option (ByteArray × Int) :=
  match getNum xs p with
  | some (n, q) => if n ≤ (xs.length : Int) - q then some (textAt xs q.toNat n.toNat, q + n) else none
  | none => none

end Go.Proofs.YtehdchpolgihlaaGreatDoor

/- The cursor of the draws: spec.l1New, l1Byte, l1Below, l1Once, l1Pick, l1PickInt. -/
namespace Go.Proofs.YtehdchpolgihlaaGreatDoor
open Go.RowKit

/-- Block g is a cursor over the bytes xs, which lie below block 'base'. -/
structure Cur (w : World) (base g : Nat) (ao : Option Addr) (ca : Nat) (xs : List Int) : Prop where
  low : base ≤ g
  len : xs.length ≤ 140737488355328
  cells : ∃ i h : Int, w.heap[g]? = some (.cells #[.slice ao xs.length ca, .int .i64 i, .int .i64 h] 120 (0, 0)) ∧ 0 ≤ i ∧ i ≤ xs.length
  code : xs = [] ∨ ∃ b off, b < base ∧ ao = some ⟨b, off, none⟩ ∧ ∀ k, k < xs.length → w.cell? ⟨b, off + k, none⟩ = some (.int .u8 (xs.getD k 0)) ∧ 0 ≤ xs.getD k 0 ∧ xs.getD k 0 ≤ 255

theorem i64_and255 (n : Int) : bits .and .i64 n 255 = n % 256 := by
  have h255 : (BitVec.ofInt 64 255).toNat = 2 ^ 8 - 1 := by decide
  have key : (BitVec.ofInt 64 n &&& BitVec.ofInt 64 255).toNat = (n % ((2 ^ 64 : Nat) : Int)).toNat % 2 ^ 8 := by
    rw [BitVec.toNat_and, BitVec.toNat_ofInt, h255, Nat.and_two_pow_sub_one_eq_mod]
  show IntKind.i64.wrap ((BitVec.ofInt 64 n &&& BitVec.ofInt 64 255).toNat : Nat) = n % 256
  rw [key, IntKind.wrap_i64]
  omega
theorem and255 (n : Int) : 0 ≤ bits .and .i64 n 255 ∧ bits .and .i64 n 255 ≤ 255 := by rw [i64_and255]; omega

theorem three_cells {w : World} {g : Nat} {x y z : Value} {t : TypeId} (h : w.heap[g]? = some (.cells #[x, y, z] t (0, 0))) :
    w.cell? ⟨g, 0, none⟩ = some x ∧ w.cell? ⟨g, 1, none⟩ = some y ∧ w.cell? ⟨g, 2, none⟩ = some z ∧ w.frozen? ⟨g, 0, none⟩ = false ∧ w.frozen? ⟨g, 1, none⟩ = false ∧ w.frozen? ⟨g, 2, none⟩ = false := by
  refine ⟨?_, ?_, ?_, frozen_of_row w g 0 _ t h, frozen_of_row w g 1 _ t h, frozen_of_row w g 2 _ t h⟩
  · rw [cell_of_row w g 0 _ t (0, 0) h]; rfl
  · rw [cell_of_row w g 1 _ t (0, 0) h]; rfl
  · rw [cell_of_row w g 2 _ t (0, 0) h]; rfl

theorem set_two {w : World} {g : Nat} {x y z : Value} {t : TypeId} (h : w.heap[g]? = some (.cells #[x, y, z] t (0, 0))) (u : Value) : (w.setCell ⟨g, 2, none⟩ u).heap[g]? = some (.cells #[x, y, u] t (0, 0)) := by
  rw [heap_setCell_same w g 2 _ t u h]; rfl
theorem set_one {w : World} {g : Nat} {x y z : Value} {t : TypeId} (h : w.heap[g]? = some (.cells #[x, y, z] t (0, 0))) (u : Value) : (w.setCell ⟨g, 1, none⟩ u).heap[g]? = some (.cells #[x, u, z] t (0, 0)) := by
  rw [heap_setCell_same w g 1 _ t u h]; rfl
theorem set_grown (w : World) (g j : Nat) (u : Value) : w.grownBy (w.setCell ⟨g, j, none⟩ u) (some g) :=
  ⟨rfl, rfl, rfl, by simp, fun k _ hk => heap_setCell_other w ⟨g, j, none⟩ k u (fun e => hk (by simp [e]))⟩

theorem grown_drewN {a b : World} {row : Option Nat} (h : a.grownBy b row) (n : Nat) : a.grownBy (b.drewN n) row := ⟨h.os, h.tape, h.output, h.size, h.block⟩

/-- What a byte that is drawn leaves. -/
def ByteEnd (w : World) (g ca : Nat) (ao : Option Addr) (xs : List Int) (e : Ending) (w' : World) : Prop :=
  ∃ x : Int, e = .returned (.int .i64 x) ∧ 0 ≤ x ∧ x ≤ 255 ∧ (∃ i h : Int, w'.heap[g]? = some (.cells #[.slice ao xs.length ca, .int .i64 i, .int .i64 h] 120 (0, 0)) ∧ 0 ≤ i ∧ i ≤ xs.length) ∧ w.grownBy w' (some g)

set_option maxHeartbeats 1600000 in
set_option maxRecDepth 100000 in
theorem byte_end (g ca : Nat) (ao : Option Addr) (xs : List Int) (h : Int) (w : World) (hl : xs.length ≤ 140737488355328)
    (hc : w.heap[g]? = some (.cells #[.slice ao xs.length ca, .int .i64 xs.length, .int .i64 h] 120 (0, 0))) :
    Calls Tryz.prog 111 #[.pointer (some ⟨g, 0, none⟩)] w (ByteEnd w g ca ao xs) := by
  obtain ⟨c0, c1, c2, f0, f1, f2⟩ := three_cells hc
  have HC := hide hc
  clear hc
  go_enter Tryz.func111, Tryz.ntmps111
  go_wp2_with fail
  go_quiet (fail)
  go_wp2_with fail
  go_quiet (fail)
  go_wp2
  go_ret
  exact ⟨_, rfl, (and255 _).1, (and255 _).2, ⟨_, _, set_two (unhide HC) _, by omega, by omega⟩, grown_drewN (grown_drewN (set_grown _ _ _ _) _) _⟩

set_option maxHeartbeats 1600000 in
set_option maxRecDepth 100000 in
theorem byte_mid (g ca b off : Nat) (xs : List Int) (i : Nat) (h : Int) (w : World) (hl : xs.length ≤ 140737488355328) (hbg : b ≠ g)
    (hc : w.heap[g]? = some (.cells #[.slice (some ⟨b, off, none⟩) xs.length ca, .int .i64 i, .int .i64 h] 120 (0, 0))) (hi : i < xs.length)
    (hb : w.cell? ⟨b, off + i, none⟩ = some (.int .u8 (xs.getD i 0))) (hx : 0 ≤ xs.getD i 0 ∧ xs.getD i 0 ≤ 255) :
    Calls Tryz.prog 111 #[.pointer (some ⟨g, 0, none⟩)] w (ByteEnd w g ca (some ⟨b, off, none⟩) xs) := by
  obtain ⟨c0, c1, c2, f0, f1, f2⟩ := three_cells hc
  have HC := hide hc
  clear hc
  generalize xs.getD i 0 = d at *
  go_enter Tryz.func111, Tryz.ntmps111
  go_wp2_with fail
  go_quiet (fail)
  go_wp2_with fail
  go_quiet (fail)
  go_wp2_with fail
  go_quiet (fail)
  go_wp2
  go_ret
  exact ⟨_, rfl, (and255 _).1, (and255 _).2, ⟨_, _, set_one (set_two (unhide HC) _) _, by omega, by omega⟩, grown_trans (grown_drewN (set_grown _ _ _ _) _) (set_grown _ _ _ _)⟩

theorem Cur.grown {w w' : World} {base g ca : Nat} {ao : Option Addr} {xs : List Int} (h : Cur w base g ao ca xs) (hg : w.grownBy w' (some g)) (hB : base ≤ w.heap.size)
    (hc : ∃ i h : Int, w'.heap[g]? = some (.cells #[.slice ao xs.length ca, .int .i64 i, .int .i64 h] 120 (0, 0)) ∧ 0 ≤ i ∧ i ≤ xs.length) : Cur w' base g ao ca xs := by
  refine ⟨h.low, h.len, hc, ?_⟩
  rcases h.code with h' | ⟨b, off, hb, ha, hx⟩
  · exact .inl h'
  · refine .inr ⟨b, off, hb, ha, fun k hk => ⟨?_, (hx k hk).2⟩⟩
    have hlow := h.low
    rw [World.cell?_of_block (w := w) (hg.block b (by omega) (by simp; omega))]
    exact (hx k hk).1
/-- A byte is drawn: from 0 to 255; the cursor stays one; nothing else turns. -/
theorem byte_any (base g ca : Nat) (ao : Option Addr) (xs : List Int) (w : World) (hB : base ≤ w.heap.size) (h : Cur w base g ao ca xs) :
    Calls Tryz.prog 111 #[.pointer (some ⟨g, 0, none⟩)] w fun e w' => ∃ x : Int, e = .returned (.int .i64 x) ∧ 0 ≤ x ∧ x ≤ 255 ∧ Cur w' base g ao ca xs ∧ w.grownBy w' (some g) := by
  have key : Calls Tryz.prog 111 #[.pointer (some ⟨g, 0, none⟩)] w (ByteEnd w g ca ao xs) := by
    obtain ⟨i, hh, hc, h0, h1⟩ := h.cells
    by_cases hi : i = xs.length
    · subst hi; exact byte_end g ca ao xs hh w h.len hc
    · obtain ⟨k, rfl⟩ := Int.eq_ofNat_of_zero_le h0
      rcases h.code with h' | ⟨b, off, hb, rfl, hx⟩
      · subst h'; simp at h1; simp at hi; omega
      · have hlow := h.low
        exact byte_mid g ca b off xs k hh w h.len (by omega) hc (by omega) (hx k (by omega)).1 (hx k (by omega)).2
  refine key.mono ?_
  rintro e w' ⟨x, rfl, h0, h1, hc, hg⟩
  exact ⟨x, rfl, h0, h1, h.grown hg hB hc, hg⟩

set_option maxHeartbeats 400000 in
set_option maxRecDepth 100000 in
/-- A number below n is drawn, n from 1 to 256. -/
theorem below_any (base g ca : Nat) (ao : Option Addr) (xs : List Int) (n : Int) (w : World) (hB : base ≤ w.heap.size) (hn : 1 ≤ n) (hm : n ≤ 256) (h : Cur w base g ao ca xs) :
    Calls Tryz.prog 60 #[.pointer (some ⟨g, 0, none⟩), .int .i64 n] w fun e w' => ∃ x : Int, e = .returned (.int .i64 x) ∧ 0 ≤ x ∧ x < n ∧ Cur w' base g ao ca xs ∧ w.grownBy w' (some g) := by
  have HC := hide (byte_any base g ca ao xs w hB h)
  clear h
  go_enter Tryz.func60, Tryz.ntmps60
  go_wp2_with fail
  refine (unhide HC).mono ?_
  rintro e w' ⟨x, rfl, h0, h1, hc, hg⟩
  go_wp2
  go_ret
  exact ⟨_, rfl, Int.emod_nonneg _ (by omega), Int.emod_lt_of_pos _ (by omega), hc, hg⟩

set_option maxHeartbeats 400000 in
set_option maxRecDepth 100000 in
theorem once_any (base g ca : Nat) (ao : Option Addr) (xs : List Int) (n : Int) (w : World) (hB : base ≤ w.heap.size) (hn : 1 ≤ n) (hm : n ≤ 256) (h : Cur w base g ao ca xs) :
    Calls Tryz.prog 54 #[.pointer (some ⟨g, 0, none⟩), .int .i64 n] w fun e w' => ∃ b : Bool, e = .returned (.bool b) ∧ Cur w' base g ao ca xs ∧ w.grownBy w' (some g) := by
  have HC := hide (below_any base g ca ao xs n w hB hn hm h)
  clear h
  go_enter Tryz.func54, Tryz.ntmps54
  go_wp2_with fail
  refine (unhide HC).mono ?_
  rintro e w' ⟨x, rfl, h0, h1, hc, hg⟩
  go_wp2
  go_ret
  exact ⟨_, rfl, hc, hg⟩

set_option maxHeartbeats 400000 in
set_option maxRecDepth 100000 in
/-- One of a list of numbers is drawn; the list lies in block p. -/
theorem pickInt_any (base g ca p : Nat) (ao : Option Addr) (xs zs : List Int) (w : World) (hB : base ≤ w.heap.size) (hp : p ≠ g) (hz : 1 ≤ zs.length) (hz2 : zs.length ≤ 256) (hc : ∀ k, k < zs.length → w.cell? ⟨p, k, none⟩ = some (.int .i64 (zs.getD k 0))) (h : Cur w base g ao ca xs) :
    Calls Tryz.prog 103 #[.pointer (some ⟨g, 0, none⟩), .slice (some ⟨p, 0, none⟩) zs.length zs.length] w fun e w' => ∃ k : Nat, k < zs.length ∧ e = .returned (.int .i64 (zs.getD k 0)) ∧ Cur w' base g ao ca xs ∧ w.grownBy w' (some g) := by
  have HC := hide (below_any base g ca ao xs zs.length w hB (by omega) (by omega) h)
  have HD := hide hc
  clear h hc
  go_enter Tryz.func103, Tryz.ntmps103
  go_wp2_with fail
  refine (unhide HC).mono ?_
  rintro e w' ⟨x, rfl, h0, h1, hcur, hg⟩
  obtain ⟨k, rfl⟩ := Int.eq_ofNat_of_zero_le h0
  have hk : k < zs.length := by omega
  have hcell : w'.cell? ⟨p, k, none⟩ = some (.int .i64 (zs.getD k 0)) := by
    have h1 := unhide HD k hk
    exact hg.cell h1 (by simp [hp])
  obtain ⟨z, hz'⟩ : ∃ z, zs.getD k 0 = z := ⟨_, rfl⟩
  rw [hz'] at hcell
  have HZ := hide hz'
  clear hz'
  go_wp2
  go_ret
  have hz'' := unhide HZ
  subst hz''
  exact ⟨k, hk, rfl, hcur, hg⟩

set_option maxHeartbeats 400000 in
set_option maxRecDepth 100000 in
/-- One of a list of texts is drawn; the list lies in block p. -/
theorem pick_any (base g ca p : Nat) (ao : Option Addr) (xs : List Int) (zs : List ByteArray) (w : World) (hB : base ≤ w.heap.size) (hp : p ≠ g) (hz : 1 ≤ zs.length) (hz2 : zs.length ≤ 256) (hc : ∀ k, k < zs.length → w.cell? ⟨p, k, none⟩ = some (.string (zs.getD k ByteArray.empty))) (h : Cur w base g ao ca xs) :
    Calls Tryz.prog 136 #[.pointer (some ⟨g, 0, none⟩), .slice (some ⟨p, 0, none⟩) zs.length zs.length] w fun e w' => ∃ k : Nat, k < zs.length ∧ e = .returned (.string (zs.getD k ByteArray.empty)) ∧ Cur w' base g ao ca xs ∧ w.grownBy w' (some g) := by
  have HC := hide (below_any base g ca ao xs zs.length w hB (by omega) (by omega) h)
  have HD := hide hc
  clear h hc
  go_enter Tryz.func136, Tryz.ntmps136
  go_wp2_with fail
  refine (unhide HC).mono ?_
  rintro e w' ⟨x, rfl, h0, h1, hcur, hg⟩
  obtain ⟨k, rfl⟩ := Int.eq_ofNat_of_zero_le h0
  have hk : k < zs.length := by omega
  have hcell : w'.cell? ⟨p, k, none⟩ = some (.string (zs.getD k ByteArray.empty)) := by
    have h1 := unhide HD k hk
    exact hg.cell h1 (by simp [hp])
  obtain ⟨z, hz'⟩ : ∃ z, zs.getD k ByteArray.empty = z := ⟨_, rfl⟩
  rw [hz'] at hcell
  have HZ := hide hz'
  clear hz'
  go_wp2
  go_ret
  have hz'' := unhide HZ
  subst hz''
  exact ⟨k, hk, rfl, hcur, hg⟩

theorem new_cur (ao : Option Addr) (ca : Nat) (xs : List Int) (z : Int) (w : World) (hl : xs.length ≤ 1048576)
    (h : xs = [] ∨ ∃ b off, ao = some ⟨b, off, none⟩ ∧ ∀ k, k < xs.length → w.cell? ⟨b, off + k, none⟩ = some (.int .u8 (xs.getD k 0))) (hb : ∀ k, k < xs.length → 0 ≤ xs.getD k 0 ∧ xs.getD k 0 ≤ 255) :
    Cur (w.alloc (.cells #[.slice ao xs.length ca, .int .i64 0, .int .i64 z] 120)) w.heap.size w.heap.size ao ca xs := by
  refine ⟨Nat.le_refl _, by omega, ⟨0, z, heap_alloc_new w _, by omega, by omega⟩, ?_⟩
  rcases h with h | ⟨b, off, rfl, hx⟩
  · exact .inl h
  · by_cases h0 : xs = []
    · exact .inl h0
    · have hpos : 0 < xs.length := List.length_pos_iff.2 h0
      have hlt : b < w.heap.size := cell_lt (hx 0 hpos)
      refine .inr ⟨b, off, hlt, rfl, fun k hk => ⟨?_, hb k hk⟩⟩
      rw [((Below.refl w.heap.size w).alloc (Nat.le_refl _) _).cell (p := ⟨b, off + k, none⟩) hlt]
      exact hx k hk

set_option maxHeartbeats 800000 in
set_option maxRecDepth 100000 in
/-- A new cursor. -/
theorem new_any (ao : Option Addr) (ca : Nat) (xs : List Int) (w : World) (hl : xs.length ≤ 1048576)
    (h : xs = [] ∨ ∃ b off, ao = some ⟨b, off, none⟩ ∧ ∀ k, k < xs.length → w.cell? ⟨b, off + k, none⟩ = some (.int .u8 (xs.getD k 0))) (hb : ∀ k, k < xs.length → 0 ≤ xs.getD k 0 ∧ xs.getD k 0 ≤ 255) :
    Calls Tryz.prog 51 #[.slice ao xs.length ca] w fun e w' => e = .returned (.pointer (some ⟨w.heap.size, 0, none⟩)) ∧ Cur w' w.heap.size w.heap.size ao ca xs ∧ Below w.heap.size w w' := by
  obtain ⟨n, hn⟩ : ∃ n, xs.length = n := ⟨_, rfl⟩
  have Hn := hide hn
  rw [hn] at hl h hb ⊢
  clear hn
  go_enter Tryz.func51, Tryz.ntmps51
  go_wp2
  go_loop [3, 4] (fun y i => ∃ (k : Nat) (z : Int), k ≤ n ∧ y = .int .i64 z ∧ i = .int .i64 k) (fun _ i => n - (intOf i).toNat)
  case atStart => exact ⟨0, _, by omega, rfl, rfl⟩
  case round =>
    obtain ⟨k, z, hk, rfl, rfl⟩ := hrel
    by_cases hlt : k < n
    · by_cases h4 : k < 4000
      · rcases h with rfl | ⟨b, off, rfl, hx⟩
        · have := unhide Hn; simp at this; omega
        have hc := hx k hlt
        have hbd := hb k hlt
        clear hx hb
        generalize xs.getD k 0 = d at *
        go_wp2
        go_round
        case rel => exact ⟨k + 1, _, by omega, rfl, by go_num⟩
        case measure => simp [intOf]; omega
      · have hd4 : decide ((k : Int) < 4000) = false := by simp; omega
        have HX := hide h
        have HB := hide hb
        clear h hb
        have HN := fun z => hide (new_cur ao ca xs z w (by rw [unhide Hn]; exact hl) (by rw [unhide Hn]; exact unhide HX) (by rw [unhide Hn]; exact unhide HB))
        rw [unhide Hn] at HN
        go_wp2
        go_ret
        exact ⟨rfl, unhide (HN z), (Below.refl _ _).alloc (Nat.le_refl _) _⟩
    · have hd : decide ((k : Int) < (n : Int)) = false := by simp; omega
      have HN := fun z => hide (new_cur ao ca xs z w (by rw [unhide Hn]; exact hl) (by rw [unhide Hn]; exact h) (by rw [unhide Hn]; exact hb))
      rw [unhide Hn] at HN
      clear h hb
      go_wp2
      go_ret
      exact ⟨rfl, unhide (HN z), (Below.refl _ _).alloc (Nat.le_refl _) _⟩
end Go.Proofs.YtehdchpolgihlaaGreatDoor

/- The draws of chapter 1 that answer one number or one text. -/
namespace Go.Proofs.YtehdchpolgihlaaGreatDoor
open Go.RowKit

theorem lit_ints (w : World) (t : TypeId) (zs : List Int) (k : Nat) (hk : k < zs.length) : (w.alloc (.cells (zs.map (Value.int .i64)).toArray t)).cell? ⟨w.heap.size, k, none⟩ = some (.int .i64 (zs.getD k 0)) := by
  rw [cell_of_row _ w.heap.size k _ t (0, 0) (heap_alloc_new w _)]
  simp [List.getElem?_eq_getElem hk]
theorem lit_texts (w : World) (t : TypeId) (zs : List ByteArray) (k : Nat) (hk : k < zs.length) : (w.alloc (.cells (zs.map Value.string).toArray t)).cell? ⟨w.heap.size, k, none⟩ = some (.string (zs.getD k ByteArray.empty)) := by
  rw [cell_of_row _ w.heap.size k _ t (0, 0) (heap_alloc_new w _)]
  simp [List.getElem?_eq_getElem hk]
theorem Cur.alloc {w : World} {base g ca : Nat} {ao : Option Addr} {xs : List Int} (h : Cur w base g ao ca xs) (hB : base ≤ w.heap.size) (o : Obj) : Cur (w.alloc o) base g ao ca xs := by
  have hg : g < w.heap.size := by
    obtain ⟨i, hh, hc, _⟩ := h.cells
    exact (Array.getElem?_eq_some_iff.1 hc).1
  have hb : Below w.heap.size w (w.alloc o) := (Below.refl _ _).alloc (Nat.le_refl _) o
  refine ⟨h.low, h.len, ?_, ?_⟩
  · obtain ⟨i, hh, hc, h0, h1⟩ := h.cells
    exact ⟨i, hh, (hb.block g hg).trans hc, h0, h1⟩
  · rcases h.code with h' | ⟨b, off, hbb, ha, hx⟩
    · exact .inl h'
    · exact .inr ⟨b, off, hbb, ha, fun k hk => ⟨(hb.cell (p := ⟨b, off + k, none⟩) (by show b < _; omega)).trans (hx k hk).1, (hx k hk).2⟩⟩

/-- The code that is drawn from. -/
structure DCode (w : World) (ao : Option Addr) (xs : List Int) : Prop where
  len : xs.length ≤ 1048576
  code : xs = [] ∨ ∃ b off, ao = some ⟨b, off, none⟩ ∧ ∀ k, k < xs.length → w.cell? ⟨b, off + k, none⟩ = some (.int .u8 (xs.getD k 0))
  fit : ∀ k, k < xs.length → 0 ≤ xs.getD k 0 ∧ xs.getD k 0 ≤ 255
theorem DCode.below {w w' : World} {B : Nat} {ao : Option Addr} {xs : List Int} (h : DCode w ao xs) (hb : Below B w w') (hB : w.heap.size ≤ B) : DCode w' ao xs := by
  refine ⟨h.len, ?_, h.fit⟩
  rcases h.code with h' | ⟨b, off, ha, hx⟩
  · exact .inl h'
  · exact .inr ⟨b, off, ha, fun k hk => (hb.cell (Nat.lt_of_lt_of_le (cell_lt (hx k hk)) hB)).trans (hx k hk)⟩

theorem pickInt_lit (base g ca : Nat) (ao : Option Addr) (xs zs : List Int) (w : World) (hB : base ≤ w.heap.size) (hz : 1 ≤ zs.length) (hz2 : zs.length ≤ 256) (h : Cur w base g ao ca xs) :
    Calls Tryz.prog 103 #[.pointer (some ⟨g, 0, none⟩), .slice (some ⟨w.heap.size, 0, none⟩) zs.length zs.length] (w.alloc (.cells (zs.map (Value.int .i64)).toArray 3)) fun e w' =>
      ∃ x : Int, e = .returned (.int .i64 x) ∧ x ∈ zs ∧ Cur w' base g ao ca xs ∧ w.grownBy w' (some g) := by
  have hg : g < w.heap.size := by
    obtain ⟨i, hh, hc, _⟩ := h.cells
    exact (Array.getElem?_eq_some_iff.1 hc).1
  refine (pickInt_any base g ca w.heap.size ao xs zs _ (by simp; omega) (by omega) hz hz2 (fun k hk => lit_ints w _ zs k hk) (h.alloc hB _)).mono ?_
  rintro e w' ⟨k, hk, rfl, hc, hgr⟩
  refine ⟨_, rfl, ?_, hc, grown_trans (World.grownBy_alloc w _ _) hgr⟩
  rw [List.getD_eq_getElem?_getD, List.getElem?_eq_getElem hk]
  exact List.getElem_mem hk
theorem pick_lit (base g ca : Nat) (ao : Option Addr) (xs : List Int) (zs : List ByteArray) (w : World) (hB : base ≤ w.heap.size) (hz : 1 ≤ zs.length) (hz2 : zs.length ≤ 256) (h : Cur w base g ao ca xs) :
    Calls Tryz.prog 136 #[.pointer (some ⟨g, 0, none⟩), .slice (some ⟨w.heap.size, 0, none⟩) zs.length zs.length] (w.alloc (.cells (zs.map Value.string).toArray 9)) fun e w' =>
      ∃ x : ByteArray, e = .returned (.string x) ∧ x ∈ zs ∧ Cur w' base g ao ca xs ∧ w.grownBy w' (some g) := by
  have hg : g < w.heap.size := by
    obtain ⟨i, hh, hc, _⟩ := h.cells
    exact (Array.getElem?_eq_some_iff.1 hc).1
  refine (pick_any base g ca w.heap.size ao xs zs _ (by simp; omega) (by omega) hz hz2 (fun k hk => lit_texts w _ zs k hk) (h.alloc hB _)).mono ?_
  rintro e w' ⟨k, hk, rfl, hc, hgr⟩
  refine ⟨_, rfl, ?_, hc, grown_trans (World.grownBy_alloc w _ _) hgr⟩
  rw [List.getD_eq_getElem?_getD, List.getElem?_eq_getElem hk]
  exact List.getElem_mem hk
theorem cur_below {w w' : World} {g : Nat} (hg : w.grownBy w' (some g)) {a : World} {B : Nat} (hb : Below B a w) (hB : B ≤ w.heap.size) (hlow : B ≤ g) : Below B a w' :=
  hb.grown hg hB (fun k hk => by simp at hk; omega)

def putNums : List Int := [0, 1, 127, 128, 300, 16384, 2147483647, 2147483648, -1, 9223372036854775807]
def digNums : List Int := [0, 7, -12, 100000, 9223372036854775807, -9223372036854775808]
def putTexts : List ByteArray := [⟨#[]⟩, ⟨#[97]⟩, ⟨#[116, 119, 111, 32, 119, 111, 114, 100, 115]⟩, ⟨#[0, 255]⟩]
def numTexts : List ByteArray := [⟨#[48]⟩, ⟨#[55]⟩, ⟨#[57, 57, 57, 57, 57, 57]⟩, ⟨#[49, 48, 48, 48, 48, 48, 48]⟩, ⟨#[48, 49]⟩, ⟨#[]⟩, ⟨#[45, 49]⟩, ⟨#[120]⟩, ⟨#[49, 50, 97]⟩]

def splitTexts : List ByteArray := [⟨#[]⟩, ⟨#[97]⟩, ⟨#[97, 44, 98]⟩, ⟨#[44]⟩, ⟨#[97, 44, 44, 98, 44]⟩, ⟨#[97, 47, 98, 44, 99, 47]⟩]
end Go.Proofs.YtehdchpolgihlaaGreatDoor

/- The plain mathematics of PutNum: seven bits a byte, the low ones first. Nothing of the program. -/
namespace Go.Proofs.YtehdchpolgihlaaGreatDoor

/-- The bytes of n, at most f + 1 of them. -/
def put : Nat → Nat → List Int
  | 0, n => [(n : Int)]
  | f + 1, n => if n ≤ 127 then [(n : Int)] else ((n : Int) % 128 + 128) :: put f (n / 128)
theorem put_small (f n : Nat) (h : n ≤ 127) : put f n = [(n : Int)] := by cases f <;> simp [put, h]
theorem put_great (f n : Nat) (h : 127 < n) : put (f + 1) n = ((n : Int) % 128 + 128) :: put f (n / 128) := by simp [put]; omega
theorem put_len (f n : Nat) : (put f n).length ≤ f + 1 ∧ 0 < (put f n).length := by
  induction f generalizing n with
  | zero => simp [put]
  | succ f ih => by_cases h : n ≤ 127
                 · simp [put, h]
                 · simp [put, h]; have := (ih (n / 128)).1; omega

/-- What PutNum answers. -/
def putAns (n : Int) : List Int := if 0 ≤ n ∧ n ≤ 2147483647 then put 4 n.toNat else []
theorem putAns_yes (n : Nat) (h : n ≤ 2147483647) : putAns n = put 4 n := by unfold putAns; rw [if_pos (by omega), Int.toNat_natCast]
theorem putAns_no (n : Int) (h : n < 0 ∨ 2147483647 < n) : putAns n = [] := by unfold putAns; rw [if_neg (by omega)]
theorem putAns_len (n : Int) : (putAns n).length ≤ 5 := by
  unfold putAns; split
  · exact (put_len 4 _).1
  · simp

/-- Where a loop over n stands: behind the bytes 'done', with m left. -/
def At (n : Nat) (f m : Nat) (done : List Int) : Prop := done ++ put f m = put 4 n ∧ m < 128 ^ (f + 1) ∧ done.length + f = 4
theorem at_start (n : Nat) (h : n ≤ 2147483647) : At n 4 n [] := ⟨by simp, by omega, rfl⟩
theorem at_step {n f m : Nat} {done : List Int} (h : At n f m done) (hm : 127 < m) : ∃ f', f = f' + 1 ∧ At n f' (m / 128) (done ++ [(m : Int) % 128 + 128]) := by
  obtain ⟨h1, h2, h3⟩ := h
  cases f with
  | zero => simp at h2; omega
  | succ f =>
    refine ⟨f, rfl, ?_, ?_, ?_⟩
    · rw [put_great f m hm] at h1; simpa using h1
    · rw [Nat.pow_succ] at h2; exact Nat.div_lt_of_lt_mul (by rw [Nat.mul_comm]; exact h2)
    · simp; omega
theorem at_end {n f m : Nat} {done : List Int} (h : At n f m done) (hm : m ≤ 127) : done ++ [(m : Int)] = put 4 n := by
  have := h.1; rwa [put_small f m hm] at this
end Go.Proofs.YtehdchpolgihlaaGreatDoor

/- What spec.PutNum and impl.PutNum answer: one and the same list of bytes, in memory of its own. -/
namespace Go.Proofs.YtehdchpolgihlaaGreatDoor
open Go.RowKit

/-- One byte more behind what is owned. -/
theorem own_more {B : Nat} {w wr w1 : World} {v v' : Value} {o : Obj} {xs : List Int} {c : Int} (hB : B ≤ wr.heap.size) (ho : wr.ownsRow B 5 1 v xs.length (xs.map (Value.int .u8))) (hb : Below B w wr)
    (ho' : w1.ownsRow B 5 1 v' (xs.length + 1) (xs.map (Value.int .u8) ++ [.int .u8 c])) (hg : (wr.alloc o).grownBy w1 v.ownBlock) :
    w1.ownsRow B 5 1 v' (xs ++ [c]).length ((xs ++ [c]).map (Value.int .u8)) ∧ Below B w w1 :=
  ⟨by simpa using ho', (hb.alloc hB o).grown hg (by simp; omega) (fun j hj => (ho.lt j hj).1)⟩

end Go.Proofs.YtehdchpolgihlaaGreatDoor
