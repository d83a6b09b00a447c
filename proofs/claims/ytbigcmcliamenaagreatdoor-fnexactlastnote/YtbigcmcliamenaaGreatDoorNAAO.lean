/- Texts that belong together: ShelfClone, Clone, Split, SpecSplit, TxsOf, StepsPlain, TxsText. -/
import Derived.Shelf.Small.Wraps
import Derived.Shelf.Strconv.Atoi
import Derived.Shelf.Strconv.Itoa0
import Derived.Shelf.Strconv.Itoa1
import Derived.Shelf.LaysM
import Derived.Shelf.Strconv.Itoa2
import Derived.Shelf.Strconv.Itoa3
import Derived.Shelf.Strconv.AtoiErrFast
import Derived.Shelf.Strconv.ParseIntEmpty
import Derived.Shelf.Strconv.AtoiFail
import Derived.Shelf.Strconv.Clone
import Derived.Shelf.Strconv.SyntaxError
import Derived.Shelf.LaysC
import Derived.Shelf.Strconv.ToError
import Derived.Shelf.Strconv.Lower
import Derived.Shelf.Strconv.ParseUint10
import Derived.Shelf.Strconv.ParseUint10Empty
import Derived.Shelf.Strconv.ParseUint10Any
import Derived.Shelf.Strconv.ParseInt10
import Derived.Shelf.Strconv.AtoiLong
import Derived.Shelf.Strconv.AtoiInnerAll
import Derived.Shelf.Strconv.RangeError
import Derived.Shelf.Strconv.ToErrorRange
import Derived.Shelf.Strconv.AtoiAll
import Derived.Shelf.Strconv.ErrVarAll
import Derived.Shelf.Strings.Search1
import Derived.Shelf.Strings.Search2
import Derived.Shelf.Strings.Search3
import Derived.Shelf.Strings.Cut
import Derived.Shelf.Strings.Shaped
import Derived.Shelf.Strings.Prefix
import Derived.Test.YtbigcmcliamenaaGreatDoorProg
import Derived.Test.YtbigcmcliamenaaGreatDoorNAAA
import Derived.Test.YtbigcmcliamenaaGreatDoorNAAI
import Derived.Test.YtbigcmcliamenaaGreatDoorNAAN
namespace Go.Proofs
open Go.Shelf
def Tryz.laysM316_ren : Go.Shelf.Ren := ⟨fun | 316 => 195 | n => n, fun | 9 => 9 | 3 => 3 | 4 => 4 | 37 => 22 | 0 => 0 | 127 => 242 | 5 => 5 | n => n, fun | n => n⟩
theorem Tryz.laysM316 : Go.Proofs.LaysM.n316 Tryz.prog Tryz.laysM316_ren := {
 mixed := by kernel_rfl
 f316 := Tryz.func195.trans (congrArg some (by kernel_rfl))
 t0 := Tryz.underlying0
 a0 := Tryz.isAgg0
 z0 := Tryz.sizeOf0
 v0 := Tryz.zeroValue0
 t3 := Tryz.underlying3
 a3 := Tryz.isAgg3
 z3 := Tryz.sizeOf3
 v3 := Tryz.zeroValue3
 t4 := Tryz.underlying4
 a4 := Tryz.isAgg4
 z4 := Tryz.sizeOf4
 v4 := Tryz.zeroValue4
 t9 := Tryz.underlying9
 a9 := Tryz.isAgg9
 z9 := Tryz.sizeOf9
 v9 := Tryz.zeroValue9
 t37 := Tryz.underlying22
 a37 := Tryz.isAgg22
 z37 := Tryz.sizeOf22
 v37 := Tryz.zeroValue22
 t127 := Tryz.underlying242
 a127 := Tryz.isAgg242
 z127 := Tryz.sizeOf242
 v127 := Tryz.zeroValue242
 t5 := Tryz.underlying5
 a5 := Tryz.isAgg5
 z5 := Tryz.sizeOf5
 v5 := Tryz.zeroValue5
 i0 := by kernel_rfl
 i3 := by kernel_rfl
 i4 := by kernel_rfl
 i5 := by kernel_rfl
 i9 := by kernel_rfl
 i37 := by kernel_rfl
 i127 := by kernel_rfl }
open Go.RowKit in
theorem Tryz.stringslite_Clone (s : ByteArray) (w : World) (hlim : s.size ≤ 281474976710656) :
 Calls Tryz.prog 195 #[.string s] w fun e w' => e = .returned (.string s) ∧ Below w.heap.size w w' := Any.stringslite_Clone Tryz.laysM316 s w hlim
end Go.Proofs
namespace Go.Proofs.YtbigcmcliamenaaGreatDoor
open Go.RowKit

def OS (w : World) (base : Nat) (v : Value) (xs : List ByteArray) : Prop := w.ownsRow base 9 1 v xs.length (xs.map Value.string)
theorem OS.below {w w' : World} {base : Nat} {v : Value} {xs : List ByteArray} (h : OS w base v xs) (hb : Below w.heap.size w w') : OS w' base v xs :=
 World.ownsRow.kept (row := none) h ⟨hb.os, hb.tape, hb.output, hb.size, fun k hk _ => hb.block k hk⟩ (by cases v.ownBlock <;> simp)

theorem clone_any (s : ByteArray) (w : World) (hs : s.size ≤ 281474976710656) :
 Calls Tryz.prog 187 #[.string s] w fun e w' => e = .returned (.string s) ∧ Below w.heap.size w w' := by
 go_enter Tryz.func187, Tryz.ntmps187
 go_wp2_with fail
 refine (Tryz.stringslite_Clone s _ hs).mono ?_
 rintro e w' ⟨rfl, b⟩
 go_wp2
 go_ret
 exact ⟨rfl, b⟩

theorem os_more {B : Nat} {w wr w1 : World} {v v' : Value} {o : Obj} {xs : List ByteArray} {c : ByteArray} (hB : B ≤ wr.heap.size) (ho : OS wr B v xs) (hb : Below B w wr)
 (ho' : w1.ownsRow B 9 1 v' (xs.length + 1) (xs.map Value.string ++ [.string c])) (hg : (wr.alloc o).grownBy w1 v.ownBlock) :
 OS w1 B v' (xs ++ [c]) ∧ Below B w w1 :=
 ⟨by unfold OS; simpa using ho', (hb.alloc hB o).grown hg (by simp; omega) (fun j hj => (ho.lt j hj).1)⟩

theorem ext_size (s : ByteArray) (n k : Nat) : (s.extract n k).size ≤ s.size := by rw [ByteArray.size_extract]; omega

set_option maxHeartbeats 1600000 in
set_option maxRecDepth 100000 in
theorem split_any (s : ByteArray) (b : Int) (w : World) (hs : s.size ≤ 33554432) :
 Calls Tryz.prog 178 #[.string s, .int .u8 b] w fun e w' => ∃ v, e = .returned v ∧ OS w' w.heap.size v (splitAns s b) ∧ Below w.heap.size w w' := by
 obtain ⟨i0, hi, hz0, hz1, hz2⟩ := info_parts Tryz.info9
 go_enter Tryz.func178, Tryz.ntmps178
 go_wp2
 go_loopw [5, 6, 7] (fun v f i wr => ∃ k n : Nat, k ≤ s.size ∧ n ≤ k ∧ i = .int .i64 k ∧ f = .int .i64 n ∧ Hid (n = (pcs s b k).2) ∧ OS wr w.heap.size v (pcs s b k).1 ∧ Below w.heap.size w wr) (fun _ _ i _ => s.size - (intOf i).toNat)
 case atStart => exact ⟨0, 0, by omega, by omega, rfl, rfl, rfl, World.ownsRow_nil _ _ _ _, Below.refl _ _⟩
 case round =>
  obtain ⟨k, n, hk, hnk, rfl, rfl, HN, ho, hb⟩ := hrel
  have hsz := hb.size
  have hpl := (pcs_le s b k).2
  by_cases hlt : k < s.size
  ·by_cases hbk : (s[k].toNat : Int) = b
   ·have hbk' : ((s[k].toNat : Int) == b) = true := by simp [hbk]
    have HP := hide (pcs_hit s b k hlt hbk)
    clear hbk
    go_wp2_with fail
    refine (clone_any _ _ (by have := ext_size s n k; omega)).mono ?_
    rintro e w1 ⟨rfl, b1⟩
    have s1 := b1.size
    have ho1 := ho.below b1
    have hb1 := hb.trans (b1.mono hsz)
    clear ho hb
    go_wp2_with (first
     | (at_builtin; refine wpList_append_own _ rfl _ _ 199 rfl w.heap.size 9 i0 (.string ⟨#[]⟩) 1 16 Tryz.underlying199 hi hz0 hz1 hz2 rfl (by decide) _ _ _ rfl (World.ownsRow.alloc ho1 _) ⟨w1.heap.size, 0, none⟩ 1 1 [.string (s.extract n k)] rfl rfl (one_cell _ _ _) (one_text _) (by unfold maxLen; omega) (by omega) (by simp; omega) ?_; intro v' w2 ho' hg' _; have R := os_more (by omega) ho1 hb1 ho' hg'; clear ho1 ho' hg' hb1))
    go_roundw
    case rel => exact ⟨k + 1, k + 1, by omega, by omega, by go_num, by go_num, by rw [unhide HP]; rfl, by rw [unhide HP, ← HN.out]; exact R.1, R.2⟩
    case measure => simp [intOf]; omega
   ·have hbk' : ((s[k].toNat : Int) == b) = false := by simp [hbk]
    have HP := hide (pcs_miss s b k hlt hbk)
    clear hbk
    have HO := hide ho
    clear ho
    go_wp2
    go_roundw
    case rel => exact ⟨k + 1, n, by omega, by omega, by go_num, rfl, by rw [unhide HP]; exact HN, by rw [unhide HP]; exact unhide HO, hb⟩
    case measure => simp [intOf]; omega
  ·have hks : k = s.size := by omega
   have HA : Hid (splitAns s b = (pcs s b k).1 ++ [s.extract n s.size]) := by unfold splitAns; rw [HN.out, hks]; rfl
   clear hks
   go_wp2_with fail
   refine (clone_any _ _ (by have := ext_size s n s.size; omega)).mono ?_
   rintro e w1 ⟨rfl, b1⟩
   have s1 := b1.size
   have ho1 := ho.below b1
   have hb1 := hb.trans (b1.mono hsz)
   clear ho hb
   go_wp2_with (first
    | (at_builtin; refine wpList_append_own _ rfl _ _ 199 rfl w.heap.size 9 i0 (.string ⟨#[]⟩) 1 16 Tryz.underlying199 hi hz0 hz1 hz2 rfl (by decide) _ _ _ rfl (World.ownsRow.alloc ho1 _) ⟨w1.heap.size, 0, none⟩ 1 1 [.string (s.extract n s.size)] rfl rfl (one_cell _ _ _) (one_text _) (by unfold maxLen; omega) (by omega) (by simp; omega) ?_; intro v' w2 ho' hg' _; have R := os_more (by omega) ho1 hb1 ho' hg'; clear ho1 ho' hg' hb1))
   go_ret
   exact ⟨_, rfl, by rw [HA.out]; exact R.1, R.2⟩

set_option maxHeartbeats 1600000 in
set_option maxRecDepth 100000 in
theorem specSplit_any (s : ByteArray) (b : Int) (w : World) (hs : s.size ≤ 33554432) :
 Calls Tryz.prog 149 #[.string s, .int .u8 b] w fun e w' => ∃ v, e = .returned v ∧ OS w' w.heap.size v (splitAns s b) ∧ Below w.heap.size w w' := by
 obtain ⟨i0, hi, hz0, hz1, hz2⟩ := info_parts Tryz.info9
 go_enter Tryz.func149, Tryz.ntmps149
 go_wp2
 go_loopw [5, 6, 7] (fun v f i wr => ∃ k : Nat, k ≤ s.size + 1 ∧ i = .int .i64 k ∧ Below w.heap.size w wr ∧ ((k ≤ s.size ∧ ∃ n : Nat, n ≤ k ∧ f = .int .i64 n ∧ Hid (n = (pcs s b k).2) ∧ OS wr w.heap.size v (pcs s b k).1) ∨ (k = s.size + 1 ∧ OS wr w.heap.size v (splitAns s b)))) (fun _ _ i _ => s.size + 1 - (intOf i).toNat)
 case atStart => exact ⟨0, by omega, rfl, (Below.refl _ _).alloc (Nat.le_refl _) _, .inl ⟨by omega, 0, by omega, rfl, rfl, World.ownsRow_lit w #[] 0 (Nat.le_refl _) (by unfold maxLen; omega) rfl⟩⟩
 case round =>
  obtain ⟨k, hk, rfl, hb, hcase⟩ := hrel
  have hsz := hb.size
  rcases hcase with ⟨hks, n, hnk, rfl, HN, ho⟩ | ⟨rfl, ho⟩
  ·have hpl := (pcs_le s b k).2
   by_cases hlt : k < s.size
   ·have hke : ((k : Int) == (s.size : Int)) = false := by simp; omega
    by_cases hbk : (s[k].toNat : Int) = b
    ·have hbk' : ((s[k].toNat : Int) == b) = true := by simp [hbk]
     have HP := hide (pcs_hit s b k hlt hbk)
     clear hbk
     go_wp2_with (first
      | (at_builtin; refine wpList_append_own _ rfl _ _ 199 rfl w.heap.size 9 i0 (.string ⟨#[]⟩) 1 16 Tryz.underlying199 hi hz0 hz1 hz2 rfl (by decide) _ _ _ rfl (World.ownsRow.alloc ho _) ⟨wr.heap.size, 0, none⟩ 1 1 [.string (s.extract n k)] rfl rfl (one_cell _ _ _) (one_text _) (by unfold maxLen; omega) (by omega) (by simp; omega) ?_; intro v' w2 ho' hg' _; have R := os_more hsz ho hb ho' hg'; clear ho ho' hg' hb))
     go_roundw
     case rel => exact ⟨k + 1, by omega, by go_num, R.2, .inl ⟨by omega, k + 1, by omega, by go_num, by rw [unhide HP]; rfl, by rw [unhide HP, ← HN.out]; exact R.1⟩⟩
     case measure => simp [intOf]; omega
    ·have hbk' : ((s[k].toNat : Int) == b) = false := by simp [hbk]
     have HP := hide (pcs_miss s b k hlt hbk)
     clear hbk
     have HO := hide ho
     clear ho
     go_wp2
     go_roundw
     case rel => exact ⟨k + 1, by omega, by go_num, hb, .inl ⟨by omega, n, by omega, rfl, by rw [unhide HP]; exact HN, by rw [unhide HP]; exact unhide HO⟩⟩
     case measure => simp [intOf]; omega
   ·have hks' : k = s.size := by omega
    have hke : ((k : Int) == (s.size : Int)) = true := by simp; omega
    have HA : Hid (splitAns s b = (pcs s b k).1 ++ [s.extract n k]) := by unfold splitAns; rw [HN.out, hks']; rfl
    have HK := hide hks'
    clear hks'
    go_wp2_with (first
     | (at_builtin; refine wpList_append_own _ rfl _ _ 199 rfl w.heap.size 9 i0 (.string ⟨#[]⟩) 1 16 Tryz.underlying199 hi hz0 hz1 hz2 rfl (by decide) _ _ _ rfl (World.ownsRow.alloc ho _) ⟨wr.heap.size, 0, none⟩ 1 1 [.string (s.extract n k)] rfl rfl (one_cell _ _ _) (one_text _) (by unfold maxLen; omega) (by omega) (by simp; omega) ?_; intro v' w2 ho' hg' _; have R := os_more hsz ho hb ho' hg'; clear ho ho' hg' hb))
    go_roundw
    case rel => exact ⟨k + 1, by omega, by go_num, R.2, .inr ⟨by rw [unhide HK], by rw [HA.out]; exact R.1⟩⟩
    case measure => simp [intOf]; omega
  ·have HO := hide ho
   clear ho
   go_wp2
   go_ret
   exact ⟨_, rfl, unhide HO, hb⟩
end Go.Proofs.YtbigcmcliamenaaGreatDoor
namespace Go.Proofs.YtbigcmcliamenaaGreatDoor
open Go.RowKit
set_option linter.unusedSectionVars false
variable [∀ (a b c d : Int), Decidable (Ok4 a b c d)]
variable [∀ (a b c d : Nat), Decidable (okN a b c d)]

def toT (q : Nat × Nat × Nat × Nat) : T4 := (q.1, q.2.1, q.2.2.1, q.2.2.2)
def allTx : List ByteArray → Option (List T4)
 | [] => some []
 | p :: ps => match txAns p.data.toList with
  | some q => (allTx ps).map (toT q :: ·)
  | none => none
theorem allTx_more (ps : List ByteArray) (p : ByteArray) : allTx (ps ++ [p]) = (allTx ps).bind fun ys => (txAns p.data.toList).map fun q => ys ++ [toT q] := by
 induction ps with
 | nil => rw [List.nil_append, allTx, allTx]; cases txAns p.data.toList <;> simp [allTx]
 | cons r ps ih =>
  rw [List.cons_append, allTx, allTx]
  cases txAns r.data.toList with
  | none => rfl
  | some q => simp only [ih]; cases allTx ps <;> cases txAns p.data.toList <;> simp
theorem allTx_none {ps : List ByteArray} (k : Nat) (h : allTx (ps.take k) = none) : allTx ps = none := by
 rw [← List.take_append_drop k ps]
 generalize ps.drop k = r
 generalize ps.take k = l at h
 induction l with
 | nil => simp [allTx] at h
 | cons x l ih =>
  rw [List.cons_append, allTx]
  rw [allTx] at h
  cases hx : txAns x.data.toList with
  | none => rfl
  | some q => rw [hx] at h; simp at h; simp [ih h]
theorem take_more (ps : List ByteArray) (k : Nat) (hk : k < ps.length) : ps.take (k + 1) = ps.take k ++ [ps.getD k ByteArray.empty] := by
 rw [List.take_succ_eq_append_getElem hk, List.getD_eq_getElem?_getD, List.getElem?_eq_getElem hk]; rfl
def txsAns (s : ByteArray) : Option (List T4) := if s = ⟨#[]⟩ then some [] else allTx (splitAns s 44)
theorem pcs_size (s : ByteArray) (b : Int) (k : Nat) : ∀ p ∈ (pcs s b k).1, p.size ≤ s.size := by
 induction k with
 | zero => simp [pcs]
 | succ k ih =>
  rw [pcs]; split
  ·intro p hp
   rw [List.mem_append] at hp
   rcases hp with hp | hp
   ·exact ih p hp
   ·simp at hp; rw [hp]; exact ext_size s _ _
  ·exact ih
theorem split_size (s : ByteArray) (b : Int) : ∀ p ∈ splitAns s b, p.size ≤ s.size := by
 intro p hp
 unfold splitAns at hp
 rw [List.mem_append] at hp
 rcases hp with hp | hp
 ·exact pcs_size s b _ p hp
 ·simp at hp; rw [hp]; exact ext_size s _ _
theorem getD_mem {ps : List ByteArray} {k : Nat} (hk : k < ps.length) : ps.getD k ByteArray.empty ∈ ps := by
 rw [List.getD_eq_getElem?_getD, List.getElem?_eq_getElem hk]; exact List.getElem_mem hk

theorem Tryz.infoTx : (Tryz.prog.info? 143).map (fun i => (i.zero, i.size, i.bytes)) = some (some (txv 0 0 0 0), 4, 32) := by kernel_rfl
theorem four_cell (w : World) (x : T4) (t : TypeId) (j : Nat) (u : Value) (h : (tcell x)[j]? = some u) : (w.alloc (.cells #[.int .i64 x.1, .int .i64 x.2.1, .int .i64 x.2.2.1, .int .i64 x.2.2.2] t)).cell? ((⟨w.heap.size, 0, none⟩ : Addr).add j) = some u := by
 match j, h with
 | 0, h => simp [tcell] at h; subst h; simp [Addr.add]
 | 1, h => simp [tcell] at h; subst h; simp [Addr.add]
 | 2, h => simp [tcell] at h; subst h; simp [Addr.add]
 | 3, h => simp [tcell] at h; subst h; simp [Addr.add]
 | j + 4, h => simp [tcell] at h
theorem four_plain (x : T4) (u : Value) (h : u ∈ tcell x) : u.oneCell' = true := by
 simp [tcell] at h; rcases h with rfl | rfl | rfl | rfl <;> rfl
theorem os_ot {w : World} {B B' : Nat} {v u : Value} {ps : List ByteArray} {ys : List T4} (h : OS w B v ps) (h' : OT w B' u ys) : v.ownBlock = none ∨ v.ownBlock ≠ u.ownBlock := by
 rcases h.2 with ⟨rfl, _⟩ | ⟨g, cap, cur, rfl, _, hg, _⟩
 ·exact .inl rfl
 ·rcases h'.2 with ⟨rfl, _⟩ | ⟨g', cap', cur', rfl, _, hg', _⟩
  ·exact .inr (by simp [Value.ownBlock])
  ·refine .inr fun e => ?_
   simp [Value.ownBlock] at e
   rw [e, hg'] at hg
   simp at hg
theorem ot_more {B : Nat} {w wr w1 : World} {v v' : Value} {xs : List T4} {x : T4} (hB : B ≤ wr.heap.size) (ho : OT wr B v xs) (hb : Below B w wr)
 (ho' : w1.ownsRow B 143 4 v' (xs.length + 1) (tcells xs ++ tcell x)) (hg : wr.grownBy w1 v.ownBlock) :
 OT w1 B v' (xs ++ [x]) ∧ Below B w w1 :=
 ⟨by unfold OT; rw [tcells_append, List.length_append]; simpa [tcells] using ho', hb.grown hg hB (fun j hj => (ho.lt j hj).1)⟩
theorem os_alloc {w : World} {B : Nat} {v : Value} {xs : List ByteArray} (h : OS w B v xs) (o : Obj) : OS (w.alloc o) B v xs := World.ownsRow.alloc h o
theorem ot_alloc {w : World} {B : Nat} {v : Value} {xs : List T4} (h : OT w B v xs) (o : Obj) : OT (w.alloc o) B v xs := World.ownsRow.alloc h o
theorem os_cell {w : World} {B g n cap : Nat} {ps : List ByteArray} (h : OS w B (.slice (some ⟨g, 0, none⟩) n cap) ps) (hn : n = ps.length) (k : Nat) (hk : k < ps.length) : w.cell? ⟨g, k, none⟩ = some (.string (ps.getD k ByteArray.empty)) := by
 subst hn
 rw [World.ownsRow.cellAt h k (by omega)]; simp [List.getElem?_eq_getElem hk]

set_option maxHeartbeats 4000000 in
set_option maxRecDepth 100000 in
theorem implTxsOf (s : ByteArray) (w : World) (hs : s.size ≤ 33554432) (hE : Env w) :
 Calls Tryz.prog 172 #[.string s] w fun e w' => ∃ v, e = .returned (.tuple #[v, .bool (txsAns s).isSome]) ∧ OT w' w.heap.size v ((txsAns s).getD []) ∧ Below w.heap.size w w' := by
 obtain ⟨i0, hi, hz0, hz1, hz2⟩ := info_parts Tryz.infoTx
 unfold txsAns
 by_cases hz : s = ⟨#[]⟩
 ·rw [if_pos hz]
  subst hz
  go_enter Tryz.func172, Tryz.ntmps172
  go_wp2
  go_ret2
  exact ⟨_, rfl, World.ownsRow_nil _ _ _ _, Below.refl _ _⟩
 ·rw [if_neg hz]
  have hne := str_ne hz
  have hne2 : (s.toList == []) = false := by
   rw [beq_eq_false_iff_ne]; intro e; apply hz; apply ByteArray.ext; apply Array.toList_inj.1; rw [ByteArray.toList_eq] at e; exact e
  have SP := hide fun w => split_any s 44 w hs
  have hpn : 0 < (splitAns s 44).length := by simp [splitAns]
  have hpl := splitAns_len s 44
  have hpz : Hid (∀ p ∈ splitAns s 44, p.size ≤ 33554432) := fun p hp => Nat.le_trans (split_size s 44 p hp) hs
  generalize splitAns s 44 = ps at *
  have HE := hide hE
  clear hE hz
  go_enter Tryz.func172, Tryz.ntmps172
  go_wp2_with fail
  refine (unhide SP _).mono ?_
  rintro e w1 ⟨vp, rfl, op, b1⟩
  rcases op.2 with ⟨_, h0⟩ | ⟨gp, pc, pcur, rfl, _⟩
  ·omega
  have OP := hide op
  clear op SP
  go_wp2
  go_loopw [4, 14] (fun v i wr => ∃ (k : Nat) (ys : List T4), k ≤ ps.length ∧ i = .int .i64 k ∧ ys.length = k ∧ Hid (allTx (ps.take k) = some ys) ∧ OT wr w.heap.size v ys ∧ OS wr w.heap.size (.slice (some ⟨gp, 0, none⟩) ps.length pc) ps ∧ Below w.heap.size w wr) (fun _ i _ => ps.length - (intOf i).toNat)
  case atStart => exact ⟨0, [], by omega, rfl, rfl, rfl, World.ownsRow_nil _ _ _ _, unhide OP, b1⟩
  case round =>
   obtain ⟨k, ys, hk, rfl, hyl, HA, ho, hp, hb⟩ := hrel
   have hsz := hb.size
   by_cases hlt : k < ps.length
   ·have hc := os_cell hp rfl k hlt
    have hm := hpz.out _ (getD_mem hlt)
    have HT := hide (take_more ps k hlt)
    have CT := hide fun w hE => implTxOf (ps.getD k ByteArray.empty) w hm hE
    have HB := hide (And.intro ho (And.intro hp hb))
    clear ho hp hb hm
    generalize ps.getD k ByteArray.empty = p at *
    cases ht : txAns p.data.toList with
    | none =>
     have HN : Hid (allTx ps = none) := allTx_none (k + 1) (by rw [unhide HT, allTx_more, ht]; cases allTx (ps.take k) <;> rfl)
     rw [ht] at CT
     clear ht HT HA
     go_wp2_with fail
     refine (unhide CT _ ((unhide HE).below (unhide HB).2.2)).mono ?_
     rintro e w2 ⟨rfl, b2⟩
     have hw : Below w.heap.size w (w2.alloc (.cells #[.int .i64 0, .int .i64 0, .int .i64 0, .int .i64 0] 143)) := ((unhide HB).2.2.trans (b2.mono hsz)).alloc (by have := b2.size; omega) _
     unfold txval
     go_wp2
     go_ret2
     exact ⟨_, by rw [HN.out]; rfl, by rw [HN.out]; exact World.ownsRow_nil _ _ _ _, hw⟩
    | some q =>
     obtain ⟨a, b, c, d⟩ := q
     have HN : Hid (allTx (ps.take (k + 1)) = some (ys ++ [((a : Int), (b : Int), (c : Int), (d : Int))])) := by
      show allTx _ = _
      rw [unhide HT, allTx_more, HA.out, ht]; rfl
     rw [ht] at CT
     clear ht HT HA
     go_wp2_with fail
     refine (unhide CT _ ((unhide HE).below (unhide HB).2.2)).mono ?_
     rintro e w2 ⟨rfl, b2⟩
     obtain ⟨ho, hp, hb⟩ := unhide HB
     have s2 := b2.size
     have ho2 := ot_alloc (ot_alloc (ho.below b2) (.cells #[.int .i64 a, .int .i64 b, .int .i64 c, .int .i64 d] 143)) (.cells #[.int .i64 a, .int .i64 b, .int .i64 c, .int .i64 d] 143)
     have hp2 := os_alloc (os_alloc (hp.below b2) (.cells #[.int .i64 a, .int .i64 b, .int .i64 c, .int .i64 d] 143)) (.cells #[.int .i64 a, .int .i64 b, .int .i64 c, .int .i64 d] 143)
     have hb2 : Below w.heap.size w ((w2.alloc (.cells #[.int .i64 a, .int .i64 b, .int .i64 c, .int .i64 d] 143)).alloc (.cells #[.int .i64 a, .int .i64 b, .int .i64 c, .int .i64 d] 143)) := ((hb.trans (b2.mono hsz)).alloc (by omega) _).alloc (by simp; omega) _
     have hdis := os_ot hp2 ho2
     clear ho hp hb HB b2 hc
     unfold txval
     go_wp2_with (first
      | (at_builtin; refine wpList_append_own _ rfl _ _ 141 rfl w.heap.size 143 i0 (txv 0 0 0 0) 4 32 Tryz.underlying141 hi hz0 hz1 hz2 rfl (by decide) _ _ _ rfl ho2 ⟨w2.heap.size + 1, 0, none⟩ 1 1 (tcell ((a : Int), (b : Int), (c : Int), (d : Int))) rfl rfl (by have := four_cell (w2.alloc (.cells #[.int .i64 a, .int .i64 b, .int .i64 c, .int .i64 d] 143)) ((a : Int), (b : Int), (c : Int), (d : Int)) 143; simpa using this) (four_plain _) (by unfold maxLen; omega) (by omega) (by simp; omega) ?_; intro v' w3 ho' hg' _; have R := ot_more (by simp; omega) ho2 hb2 ho' hg'; have RP : OS w3 w.heap.size (.slice (some ⟨gp, 0, none⟩) ps.length pc) ps := World.ownsRow.kept hp2 hg' hdis; clear ho2 ho' hg' hb2 hp2 hdis))
     go_roundw
     case rel => exact ⟨k + 1, _, by omega, by go_num, by simp [hyl], HN, R.1, RP, R.2⟩
     case measure => simp [intOf]; omega
   ·have hkn : k = ps.length := by omega
    have HN : Hid (allTx ps = some ys) := by
     have := HA.out
     rw [hkn, List.take_of_length_le (Nat.le_refl _)] at this
     exact this
    have HO := hide ho
    clear ho hp HA
    go_wp2
    go_ret2
    exact ⟨_, by rw [HN.out]; rfl, by rw [HN.out]; exact unhide HO, hb⟩
end Go.Proofs.YtbigcmcliamenaaGreatDoor
namespace Go.Proofs.YtbigcmcliamenaaGreatDoor
open Go.RowKit
set_option linter.unusedSectionVars false
variable [∀ (a b c d : Int), Decidable (Ok4 a b c d)]
variable [∀ (a b c d : Nat), Decidable (okN a b c d)]

abbrev St := Int × List T4
abbrev zst : St := (0, [])
def stepOf (p : ByteArray) : Option St :=
 if (124 : UInt8) ∈ p.data.toList then (numOf (hd 124 p.data.toList)).bind fun n => (txsAns (toB (tl 124 p.data.toList))).map fun ts => ((n : Int), ts) else none
def GoodSt (last : Int) (s : St) : Prop := last < s.1 ∧ s.1 ≤ 60 ∧ s.2.length ≤ 2
variable [∀ (last : Int) (s : St), Decidable (GoodSt last s)]
def stepAcc (o : Option (Int × List St)) (p : ByteArray) : Option (Int × List St) := o.bind fun q => (stepOf p).bind fun s => if GoodSt q.1 s then some (s.1, q.2 ++ [s]) else none
def stepsRun (ps : List ByteArray) : Option (Int × List St) := ps.foldl stepAcc (some (0, []))
def stepsAns (s : ByteArray) : Option (List St) :=
 if s = ⟨#[]⟩ then some []
 else if (splitAns s 47).getD 0 ByteArray.empty = ⟨#[]⟩ ∧ (splitAns s 47).length ≤ 31 then (stepsRun (splitAns s 47).tail).map (·.2) else none
theorem stepsRun_more (ps : List ByteArray) (p : ByteArray) : stepsRun (ps ++ [p]) = stepAcc (stepsRun ps) p := by
 unfold stepsRun; rw [List.foldl_append]; rfl
theorem acc_none (ps : List ByteArray) : ps.foldl stepAcc none = none := by
 induction ps with
 | nil => rfl
 | cons p ps ih => rw [List.foldl_cons]; exact ih
theorem stepsRun_none {ps : List ByteArray} (k : Nat) (h : stepsRun (ps.take k) = none) : stepsRun ps = none := by
 have e : stepsRun ps = (ps.drop k).foldl stepAcc (stepsRun (ps.take k)) := by
  unfold stepsRun
  rw [← List.foldl_append, List.take_append_drop]
 rw [e, h]
 exact acc_none _
theorem stepsRun_ok (ps : List ByteArray) (q : Int × List St) (h : stepsRun ps = some q) : q.2.length = ps.length ∧ (0 ≤ q.1 ∧ q.1 ≤ 60) ∧ (ps.length : Int) ≤ q.1 ∧ ∀ s ∈ q.2, (1 ≤ s.1 ∧ s.1 ≤ q.1) ∧ s.2.length ≤ 2 := by
 generalize hn : ps.length = n
 induction n generalizing ps q with
 | zero =>
  have : ps = [] := List.length_eq_zero_iff.1 hn
  subst this
  cases h
  exact ⟨rfl, by simp, by simp, fun s hs => by simp at hs⟩
 | succ n ih =>
  obtain ⟨ps', p, rfl⟩ : ∃ ps' p, ps = ps' ++ [p] := ⟨ps.dropLast, ps.getLast (fun e => by rw [e] at hn; simp at hn), (List.dropLast_concat_getLast _).symm⟩
  rw [stepsRun_more] at h
  unfold stepAcc at h
  cases hr : stepsRun ps' with
  | none => rw [hr] at h; cases h
  | some q' =>
   rw [hr] at h
   cases hs : stepOf p with
   | none => rw [hs] at h; simp at h
   | some s =>
    rw [hs] at h
    simp only [Option.bind_some] at h
    split at h
    ·rename_i hg
     cases h
     obtain ⟨h1, h2, h3, h4⟩ := ih ps' q' hr (by simpa using hn)
     obtain ⟨g1, g2, g3⟩ := hg
     refine ⟨by simp [h1], ⟨by show 0 ≤ s.1; omega, g2⟩, by show (((n + 1 : Nat)) : Int) ≤ s.1; omega, fun y hy => ?_⟩
     rcases List.mem_append.1 hy with hy | hy
     ·obtain ⟨⟨a1, a2⟩, a3⟩ := h4 y hy
      exact ⟨⟨a1, by show y.1 ≤ s.1; omega⟩, a3⟩
     ·simp at hy
      subst hy
      exact ⟨⟨by omega, Int.le_refl _⟩, g3⟩
    ·cases h
end Go.Proofs.YtbigcmcliamenaaGreatDoor
namespace Go.Proofs.YtbigcmcliamenaaGreatDoor
open Go.RowKit
set_option linter.unusedSectionVars false
variable [∀ (a b c d : Int), Decidable (Ok4 a b c d)]
variable [∀ (a b c d : Nat), Decidable (okN a b c d)]

def OkT (x : T4) : Prop := Ok4 x.1 x.2.1 x.2.2.1 x.2.2.2
variable [∀ (x : T4), Decidable (OkT x)]
def txT (x : T4) : ByteArray := txt x.1 x.2.1 x.2.2.1 x.2.2.2
def accT (xs : List T4) : Nat → List UInt8
 | 0 => []
 | k + 1 => (if 0 < k then accT xs k ++ [44] else accT xs k) ++ (txT (xs.getD k (0, 0, 0, 0))).data.toList
def txsT (xs : List T4) : ByteArray := if ∀ x ∈ xs, OkT x then toB (accT xs xs.length) else ⟨#[]⟩
theorem ok_nat {a b c d : Int} (h : Ok4 a b c d) : ∃ a' b' c' d' : Nat, a = a' ∧ b = b' ∧ c = c' ∧ d = d' := by
 obtain ⟨⟨a1, _⟩, ⟨b1, _⟩, ⟨c1, _⟩, ⟨d1, _⟩⟩ := h
 exact ⟨a.toNat, b.toNat, c.toNat, d.toNat, by omega, by omega, by omega, by omega⟩
theorem txT_size (x : T4) : (txT x).size ≤ 27 := by
 unfold txT txt
 split
 ·rename_i h
  obtain ⟨a, b, c, d⟩ := x
  obtain ⟨⟨a1, a2⟩, ⟨b1, b2⟩, ⟨c1, c2⟩, ⟨d1, d2⟩⟩ := h
  simp only at *
  have za := dg_size a (by omega) (by omega)
  have zb := dg_size b (by omega) (by omega)
  have zc := dg_size c (by omega) (by omega)
  have zd := dg_size d (by omega) (by omega)
  have o : ∀ c : UInt8, (⟨#[c]⟩ : ByteArray).size = 1 := fun _ => rfl
  unfold txs dg
  rw [ByteArray.size_append, ByteArray.size_append, ByteArray.size_append, ByteArray.size_append, ByteArray.size_append, ByteArray.size_append, o, o, o]
  omega
 ·exact Nat.zero_le _
theorem txT_ne {x : T4} (h : OkT x) : txT x ≠ ⟨#[]⟩ := by
 unfold txT txt
 obtain ⟨a, b, c, d⟩ := x
 show (if Ok4 a b c d then txs a b c d else (⟨#[]⟩ : ByteArray)) ≠ _
 rw [if_pos (show Ok4 a b c d from h)]
 obtain ⟨a', b', c', d', rfl, rfl, rfl, rfl⟩ := ok_nat h
 rw [txs_toB]
 intro e
 have := congrArg (fun s : ByteArray => s.data.toList) e
 exact txl_ne a' b' c' d' this
theorem size_len (s : ByteArray) : s.data.toList.length = s.size := by simp
theorem accT_len (xs : List T4) (k : Nat) : (accT xs k).length ≤ k * 28 := by
 induction k with
 | zero => simp [accT]
 | succ k ih =>
  have := txT_size (xs.getD k (0, 0, 0, 0))
  have e := size_len (txT (xs.getD k (0, 0, 0, 0)))
  rw [accT]
  split <;> simp only [List.length_append, List.length_cons, List.length_nil, e] <;> omega
theorem ne2 {s : ByteArray} (hz : s ≠ ⟨#[]⟩) : (s.toList == []) = false := by
 rw [beq_eq_false_iff_ne]; intro e; apply hz; apply ByteArray.ext; apply Array.toList_inj.1; rw [ByteArray.toList_eq] at e; exact e

end Go.Proofs.YtbigcmcliamenaaGreatDoor
