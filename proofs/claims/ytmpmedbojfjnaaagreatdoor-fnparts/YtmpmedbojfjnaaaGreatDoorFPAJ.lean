/- Texts that belong together: Split, SpecSplit, TxsOf, TxsText, DrawTx. -/
import Derived.Test.YtmpmedbojfjnaaaGreatDoorFPAI
import Derived.Test.YtmpmedbojfjnaaaGreatDoorFPAE
import Derived.Test.YtmpmedbojfjnaaaGreatDoorFPAD
namespace Go.Proofs.YtmpmedbojfjnaaaGreatDoor
open Go.RowKit

theorem os_more {B : Nat} {w wr w1 : World} {v v' : Value} {o : Obj} {xs : List ByteArray} {c : ByteArray} (hB : B ≤ wr.heap.size) (ho : OS wr B v xs) (hb : Below B w wr)
 (ho' : w1.ownsRow B 9 1 v' (xs.length + 1) (xs.map Value.string ++ [.string c])) (hg : (wr.alloc o).grownBy w1 v.ownBlock) :
 OS w1 B v' (xs ++ [c]) ∧ Below B w w1 :=
 ⟨by unfold OS; simpa using ho', (hb.alloc hB o).grown hg (by simp; omega) (fun j hj => (ho.lt j hj).1)⟩

theorem ext_size (s : ByteArray) (n k : Nat) : (s.extract n k).size ≤ s.size := by rw [ByteArray.size_extract]; omega

set_option maxHeartbeats 1600000 in
set_option maxRecDepth 100000 in
theorem split_any (s : ByteArray) (b : Int) (w : World) (hs : s.size ≤ 33554432) :
 Calls Tryz.prog 183 #[.string s, .int .u8 b] w fun e w' => ∃ v, e = .returned v ∧ OS w' w.heap.size v (splitAns s b) ∧ Below w.heap.size w w' := by
 obtain ⟨i0, hi, hz0, hz1, hz2⟩ := info_parts Tryz.info9
 go_enter Tryz.func183, Tryz.ntmps183
 go_wp2
 go_loopw [5, 6, 7] (fun v f i wr => ∃ k n : Nat, k ≤ s.size ∧ n ≤ k ∧ i = .int .i64 k ∧ f = .int .i64 n ∧ Hid (n = (pcs s b k).2) ∧ OS wr w.heap.size v (pcs s b k).1 ∧ Below w.heap.size w wr) (fun _ _ i _ => s.size - (intOf i).toNat)
 case atStart => exact ⟨0, 0, by omega, by omega, rfl, rfl, rfl, World.ownsRow_nil _ _ _ _, Below.refl _ _⟩
 case round =>
  obtain ⟨k, n, hk, hnk, rfl, rfl, HN, ho, hb⟩ := hrel
  have hsz := hb.size
  have hpl := (pcs_le s b k).2
  by_cases hlt : k < s.size
  ·by_cases hbk : (s[k].toNat : Int) = b
   ·have hbk' : ((s[k].toNat : Int) == b) = true := by simp [hbk]
    have HP := hide (pcs_hit s b k hlt hbk)
    clear hbk
    go_wp2_with fail
    refine (clone_any _ _ (by have := ext_size s n k; omega)).mono ?_
    rintro e w1 ⟨rfl, b1⟩
    have s1 := b1.size
    have ho1 := ho.below b1
    have hb1 := hb.trans (b1.mono hsz)
    clear ho hb
    go_wp2_with (first
     | (at_builtin; refine wpList_append_own _ rfl _ _ 148 rfl w.heap.size 9 i0 (.string ⟨#[]⟩) 1 16 Tryz.underlying148 hi hz0 hz1 hz2 rfl (by decide) _ _ _ rfl (World.ownsRow.alloc ho1 _) ⟨w1.heap.size, 0, none⟩ 1 1 [.string (s.extract n k)] rfl rfl (one_cell _ _ _) (one_text _) (by unfold maxLen; omega) (by omega) (by simp; omega) ?_; intro v' w2 ho' hg' _; have R := os_more (by omega) ho1 hb1 ho' hg'; clear ho1 ho' hg' hb1))
    go_roundw
    case rel => exact ⟨k + 1, k + 1, by omega, by omega, by go_num, by go_num, by rw [unhide HP]; rfl, by rw [unhide HP, ← HN.out]; exact R.1, R.2⟩
    case measure => simp [intOf]; omega
   ·have hbk' : ((s[k].toNat : Int) == b) = false := by simp [hbk]
    have HP := hide (pcs_miss s b k hlt hbk)
    clear hbk
    have HO := hide ho
    clear ho
    go_wp2
    go_roundw
    case rel => exact ⟨k + 1, n, by omega, by omega, by go_num, rfl, by rw [unhide HP]; exact HN, by rw [unhide HP]; exact unhide HO, hb⟩
    case measure => simp [intOf]; omega
  ·have hks : k = s.size := by omega
   have HA : Hid (splitAns s b = (pcs s b k).1 ++ [s.extract n s.size]) := by unfold splitAns; rw [HN.out, hks]; rfl
   clear hks
   go_wp2_with fail
   refine (clone_any _ _ (by have := ext_size s n s.size; omega)).mono ?_
   rintro e w1 ⟨rfl, b1⟩
   have s1 := b1.size
   have ho1 := ho.below b1
   have hb1 := hb.trans (b1.mono hsz)
   clear ho hb
   go_wp2_with (first
    | (at_builtin; refine wpList_append_own _ rfl _ _ 148 rfl w.heap.size 9 i0 (.string ⟨#[]⟩) 1 16 Tryz.underlying148 hi hz0 hz1 hz2 rfl (by decide) _ _ _ rfl (World.ownsRow.alloc ho1 _) ⟨w1.heap.size, 0, none⟩ 1 1 [.string (s.extract n s.size)] rfl rfl (one_cell _ _ _) (one_text _) (by unfold maxLen; omega) (by omega) (by simp; omega) ?_; intro v' w2 ho' hg' _; have R := os_more (by omega) ho1 hb1 ho' hg'; clear ho1 ho' hg' hb1))
   go_ret
   exact ⟨_, rfl, by rw [HA.out]; exact R.1, R.2⟩

set_option maxHeartbeats 1600000 in
set_option maxRecDepth 100000 in
theorem specSplit_any (s : ByteArray) (b : Int) (w : World) (hs : s.size ≤ 33554432) :
 Calls Tryz.prog 130 #[.string s, .int .u8 b] w fun e w' => ∃ v, e = .returned v ∧ OS w' w.heap.size v (splitAns s b) ∧ Below w.heap.size w w' := by
 obtain ⟨i0, hi, hz0, hz1, hz2⟩ := info_parts Tryz.info9
 go_enter Tryz.func130, Tryz.ntmps130
 go_wp2
 go_loopw [5, 6, 7] (fun v f i wr => ∃ k : Nat, k ≤ s.size + 1 ∧ i = .int .i64 k ∧ Below w.heap.size w wr ∧ ((k ≤ s.size ∧ ∃ n : Nat, n ≤ k ∧ f = .int .i64 n ∧ Hid (n = (pcs s b k).2) ∧ OS wr w.heap.size v (pcs s b k).1) ∨ (k = s.size + 1 ∧ OS wr w.heap.size v (splitAns s b)))) (fun _ _ i _ => s.size + 1 - (intOf i).toNat)
 case atStart => exact ⟨0, by omega, rfl, (Below.refl _ _).alloc (Nat.le_refl _) _, .inl ⟨by omega, 0, by omega, rfl, rfl, World.ownsRow_lit w #[] 0 (Nat.le_refl _) (by unfold maxLen; omega) rfl⟩⟩
 case round =>
  obtain ⟨k, hk, rfl, hb, hcase⟩ := hrel
  have hsz := hb.size
  rcases hcase with ⟨hks, n, hnk, rfl, HN, ho⟩ | ⟨rfl, ho⟩
  ·have hpl := (pcs_le s b k).2
   by_cases hlt : k < s.size
   ·have hke : ((k : Int) == (s.size : Int)) = false := by simp; omega
    by_cases hbk : (s[k].toNat : Int) = b
    ·have hbk' : ((s[k].toNat : Int) == b) = true := by simp [hbk]
     have HP := hide (pcs_hit s b k hlt hbk)
     clear hbk
     go_wp2_with (first
      | (at_builtin; refine wpList_append_own _ rfl _ _ 148 rfl w.heap.size 9 i0 (.string ⟨#[]⟩) 1 16 Tryz.underlying148 hi hz0 hz1 hz2 rfl (by decide) _ _ _ rfl (World.ownsRow.alloc ho _) ⟨wr.heap.size, 0, none⟩ 1 1 [.string (s.extract n k)] rfl rfl (one_cell _ _ _) (one_text _) (by unfold maxLen; omega) (by omega) (by simp; omega) ?_; intro v' w2 ho' hg' _; have R := os_more hsz ho hb ho' hg'; clear ho ho' hg' hb))
     go_roundw
     case rel => exact ⟨k + 1, by omega, by go_num, R.2, .inl ⟨by omega, k + 1, by omega, by go_num, by rw [unhide HP]; rfl, by rw [unhide HP, ← HN.out]; exact R.1⟩⟩
     case measure => simp [intOf]; omega
    ·have hbk' : ((s[k].toNat : Int) == b) = false := by simp [hbk]
     have HP := hide (pcs_miss s b k hlt hbk)
     clear hbk
     have HO := hide ho
     clear ho
     go_wp2
     go_roundw
     case rel => exact ⟨k + 1, by omega, by go_num, hb, .inl ⟨by omega, n, by omega, rfl, by rw [unhide HP]; exact HN, by rw [unhide HP]; exact unhide HO⟩⟩
     case measure => simp [intOf]; omega
   ·have hks' : k = s.size := by omega
    have hke : ((k : Int) == (s.size : Int)) = true := by simp; omega
    have HA : Hid (splitAns s b = (pcs s b k).1 ++ [s.extract n k]) := by unfold splitAns; rw [HN.out, hks']; rfl
    have HK := hide hks'
    clear hks'
    go_wp2_with (first
     | (at_builtin; refine wpList_append_own _ rfl _ _ 148 rfl w.heap.size 9 i0 (.string ⟨#[]⟩) 1 16 Tryz.underlying148 hi hz0 hz1 hz2 rfl (by decide) _ _ _ rfl (World.ownsRow.alloc ho _) ⟨wr.heap.size, 0, none⟩ 1 1 [.string (s.extract n k)] rfl rfl (one_cell _ _ _) (one_text _) (by unfold maxLen; omega) (by omega) (by simp; omega) ?_; intro v' w2 ho' hg' _; have R := os_more hsz ho hb ho' hg'; clear ho ho' hg' hb))
    go_roundw
    case rel => exact ⟨k + 1, by omega, by go_num, R.2, .inr ⟨by rw [unhide HK], by rw [HA.out]; exact R.1⟩⟩
    case measure => simp [intOf]; omega
  ·have HO := hide ho
   clear ho
   go_wp2
   go_ret
   exact ⟨_, rfl, unhide HO, hb⟩
end Go.Proofs.YtmpmedbojfjnaaaGreatDoor
namespace Go.Proofs.YtmpmedbojfjnaaaGreatDoor
open Go.RowKit
set_option linter.unusedSectionVars false
variable [∀ (a b c d : Int), Decidable (Ok4 a b c d)]
variable [∀ (a b c d : Nat), Decidable (okN a b c d)]

def toT (q : Nat × Nat × Nat × Nat) : T4 := (q.1, q.2.1, q.2.2.1, q.2.2.2)
def allTx : List ByteArray → Option (List T4)
 | [] => some []
 | p :: ps => match txAns p.data.toList with
  | some q => (allTx ps).map (toT q :: ·)
  | none => none
theorem allTx_more (ps : List ByteArray) (p : ByteArray) : allTx (ps ++ [p]) = (allTx ps).bind fun ys => (txAns p.data.toList).map fun q => ys ++ [toT q] := by
 induction ps with
 | nil => rw [List.nil_append, allTx, allTx]; cases txAns p.data.toList <;> simp [allTx]
 | cons r ps ih =>
  rw [List.cons_append, allTx, allTx]
  cases txAns r.data.toList with
  | none => rfl
  | some q => simp only [ih]; cases allTx ps <;> cases txAns p.data.toList <;> simp
theorem allTx_none {ps : List ByteArray} (k : Nat) (h : allTx (ps.take k) = none) : allTx ps = none := by
 rw [← List.take_append_drop k ps]
 generalize ps.drop k = r
 generalize ps.take k = l at h
 induction l with
 | nil => simp [allTx] at h
 | cons x l ih =>
  rw [List.cons_append, allTx]
  rw [allTx] at h
  cases hx : txAns x.data.toList with
  | none => rfl
  | some q => rw [hx] at h; simp at h; simp [ih h]
theorem take_more (ps : List ByteArray) (k : Nat) (hk : k < ps.length) : ps.take (k + 1) = ps.take k ++ [ps.getD k ByteArray.empty] := by
 rw [List.take_succ_eq_append_getElem hk, List.getD_eq_getElem?_getD, List.getElem?_eq_getElem hk]; rfl
def txsAns (s : ByteArray) : Option (List T4) := if s = ⟨#[]⟩ then some [] else allTx (splitAns s 44)
theorem pcs_size (s : ByteArray) (b : Int) (k : Nat) : ∀ p ∈ (pcs s b k).1, p.size ≤ s.size := by
 induction k with
 | zero => simp [pcs]
 | succ k ih =>
  rw [pcs]; split
  ·intro p hp
   rw [List.mem_append] at hp
   rcases hp with hp | hp
   ·exact ih p hp
   ·simp at hp; rw [hp]; exact ext_size s _ _
  ·exact ih
theorem split_size (s : ByteArray) (b : Int) : ∀ p ∈ splitAns s b, p.size ≤ s.size := by
 intro p hp
 unfold splitAns at hp
 rw [List.mem_append] at hp
 rcases hp with hp | hp
 ·exact pcs_size s b _ p hp
 ·simp at hp; rw [hp]; exact ext_size s _ _
theorem getD_mem {ps : List ByteArray} {k : Nat} (hk : k < ps.length) : ps.getD k ByteArray.empty ∈ ps := by
 rw [List.getD_eq_getElem?_getD, List.getElem?_eq_getElem hk]; exact List.getElem_mem hk

theorem Tryz.infoTx : (Tryz.prog.info? 168).map (fun i => (i.zero, i.size, i.bytes)) = some (some (txv 0 0 0 0), 4, 32) := by kernel_rfl
theorem four_cell (w : World) (x : T4) (t : TypeId) (j : Nat) (u : Value) (h : (tcell x)[j]? = some u) : (w.alloc (.cells #[.int .i64 x.1, .int .i64 x.2.1, .int .i64 x.2.2.1, .int .i64 x.2.2.2] t)).cell? ((⟨w.heap.size, 0, none⟩ : Addr).add j) = some u := by
 match j, h with
 | 0, h => simp [tcell] at h; subst h; simp [Addr.add]
 | 1, h => simp [tcell] at h; subst h; simp [Addr.add]
 | 2, h => simp [tcell] at h; subst h; simp [Addr.add]
 | 3, h => simp [tcell] at h; subst h; simp [Addr.add]
 | j + 4, h => simp [tcell] at h
theorem four_plain (x : T4) (u : Value) (h : u ∈ tcell x) : u.oneCell' = true := by
 simp [tcell] at h; rcases h with rfl | rfl | rfl | rfl <;> rfl
theorem os_ot {w : World} {B B' : Nat} {v u : Value} {ps : List ByteArray} {ys : List T4} (h : OS w B v ps) (h' : OT w B' u ys) : v.ownBlock = none ∨ v.ownBlock ≠ u.ownBlock := by
 rcases h.2 with ⟨rfl, _⟩ | ⟨g, cap, cur, rfl, _, hg, _⟩
 ·exact .inl rfl
 ·rcases h'.2 with ⟨rfl, _⟩ | ⟨g', cap', cur', rfl, _, hg', _⟩
  ·exact .inr (by simp [Value.ownBlock])
  ·refine .inr fun e => ?_
   simp [Value.ownBlock] at e
   rw [e, hg'] at hg
   simp at hg
theorem ot_more {B : Nat} {w wr w1 : World} {v v' : Value} {xs : List T4} {x : T4} (hB : B ≤ wr.heap.size) (ho : OT wr B v xs) (hb : Below B w wr)
 (ho' : w1.ownsRow B 168 4 v' (xs.length + 1) (tcells xs ++ tcell x)) (hg : wr.grownBy w1 v.ownBlock) :
 OT w1 B v' (xs ++ [x]) ∧ Below B w w1 :=
 ⟨by unfold OT; rw [tcells_append, List.length_append]; simpa [tcells] using ho', hb.grown hg hB (fun j hj => (ho.lt j hj).1)⟩
theorem os_alloc {w : World} {B : Nat} {v : Value} {xs : List ByteArray} (h : OS w B v xs) (o : Obj) : OS (w.alloc o) B v xs := World.ownsRow.alloc h o
theorem ot_alloc {w : World} {B : Nat} {v : Value} {xs : List T4} (h : OT w B v xs) (o : Obj) : OT (w.alloc o) B v xs := World.ownsRow.alloc h o
theorem os_cell {w : World} {B g n cap : Nat} {ps : List ByteArray} (h : OS w B (.slice (some ⟨g, 0, none⟩) n cap) ps) (hn : n = ps.length) (k : Nat) (hk : k < ps.length) : w.cell? ⟨g, k, none⟩ = some (.string (ps.getD k ByteArray.empty)) := by
 subst hn
 rw [World.ownsRow.cellAt h k (by omega)]; simp [List.getElem?_eq_getElem hk]

set_option maxHeartbeats 4000000 in
set_option maxRecDepth 100000 in
theorem implTxsOf (s : ByteArray) (w : World) (hs : s.size ≤ 33554432) (hE : Env w) :
 Calls Tryz.prog 174 #[.string s] w fun e w' => ∃ v, e = .returned (.tuple #[v, .bool (txsAns s).isSome]) ∧ OT w' w.heap.size v ((txsAns s).getD []) ∧ Below w.heap.size w w' := by
 obtain ⟨i0, hi, hz0, hz1, hz2⟩ := info_parts Tryz.infoTx
 unfold txsAns
 by_cases hz : s = ⟨#[]⟩
 ·rw [if_pos hz]
  subst hz
  go_enter Tryz.func174, Tryz.ntmps174
  go_wp2
  go_ret2
  exact ⟨_, rfl, World.ownsRow_nil _ _ _ _, Below.refl _ _⟩
 ·rw [if_neg hz]
  have hne := str_ne hz
  have hne2 : (s.toList == []) = false := by
   rw [beq_eq_false_iff_ne]; intro e; apply hz; apply ByteArray.ext; apply Array.toList_inj.1; rw [ByteArray.toList_eq] at e; exact e
  have SP := hide fun w => split_any s 44 w hs
  have hpn : 0 < (splitAns s 44).length := by simp [splitAns]
  have hpl := splitAns_len s 44
  have hpz : Hid (∀ p ∈ splitAns s 44, p.size ≤ 33554432) := fun p hp => Nat.le_trans (split_size s 44 p hp) hs
  generalize splitAns s 44 = ps at *
  have HE := hide hE
  clear hE hz
  go_enter Tryz.func174, Tryz.ntmps174
  go_wp2_with fail
  refine (unhide SP _).mono ?_
  rintro e w1 ⟨vp, rfl, op, b1⟩
  rcases op.2 with ⟨_, h0⟩ | ⟨gp, pc, pcur, rfl, _⟩
  ·omega
  have OP := hide op
  clear op SP
  go_wp2
  go_loopw [4, 14] (fun v i wr => ∃ (k : Nat) (ys : List T4), k ≤ ps.length ∧ i = .int .i64 k ∧ ys.length = k ∧ Hid (allTx (ps.take k) = some ys) ∧ OT wr w.heap.size v ys ∧ OS wr w.heap.size (.slice (some ⟨gp, 0, none⟩) ps.length pc) ps ∧ Below w.heap.size w wr) (fun _ i _ => ps.length - (intOf i).toNat)
  case atStart => exact ⟨0, [], by omega, rfl, rfl, rfl, World.ownsRow_nil _ _ _ _, unhide OP, b1⟩
  case round =>
   obtain ⟨k, ys, hk, rfl, hyl, HA, ho, hp, hb⟩ := hrel
   have hsz := hb.size
   by_cases hlt : k < ps.length
   ·have hc := os_cell hp rfl k hlt
    have hm := hpz.out _ (getD_mem hlt)
    have HT := hide (take_more ps k hlt)
    have CT := hide fun w hE => implTxOf (ps.getD k ByteArray.empty) w hm hE
    have HB := hide (And.intro ho (And.intro hp hb))
    clear ho hp hb hm
    generalize ps.getD k ByteArray.empty = p at *
    cases ht : txAns p.data.toList with
    | none =>
     have HN : Hid (allTx ps = none) := allTx_none (k + 1) (by rw [unhide HT, allTx_more, ht]; cases allTx (ps.take k) <;> rfl)
     rw [ht] at CT
     clear ht HT HA
     go_wp2_with fail
     refine (unhide CT _ ((unhide HE).below (unhide HB).2.2)).mono ?_
     rintro e w2 ⟨rfl, b2⟩
     have hw : Below w.heap.size w (w2.alloc (.cells #[.int .i64 0, .int .i64 0, .int .i64 0, .int .i64 0] 168)) := ((unhide HB).2.2.trans (b2.mono hsz)).alloc (by have := b2.size; omega) _
     unfold txval
     go_wp2
     go_ret2
     exact ⟨_, by rw [HN.out]; rfl, by rw [HN.out]; exact World.ownsRow_nil _ _ _ _, hw⟩
    | some q =>
     obtain ⟨a, b, c, d⟩ := q
     have HN : Hid (allTx (ps.take (k + 1)) = some (ys ++ [((a : Int), (b : Int), (c : Int), (d : Int))])) := by
      show allTx _ = _
      rw [unhide HT, allTx_more, HA.out, ht]; rfl
     rw [ht] at CT
     clear ht HT HA
     go_wp2_with fail
     refine (unhide CT _ ((unhide HE).below (unhide HB).2.2)).mono ?_
     rintro e w2 ⟨rfl, b2⟩
     obtain ⟨ho, hp, hb⟩ := unhide HB
     have s2 := b2.size
     have ho2 := ot_alloc (ot_alloc (ho.below b2) (.cells #[.int .i64 a, .int .i64 b, .int .i64 c, .int .i64 d] 168)) (.cells #[.int .i64 a, .int .i64 b, .int .i64 c, .int .i64 d] 168)
     have hp2 := os_alloc (os_alloc (hp.below b2) (.cells #[.int .i64 a, .int .i64 b, .int .i64 c, .int .i64 d] 168)) (.cells #[.int .i64 a, .int .i64 b, .int .i64 c, .int .i64 d] 168)
     have hb2 : Below w.heap.size w ((w2.alloc (.cells #[.int .i64 a, .int .i64 b, .int .i64 c, .int .i64 d] 168)).alloc (.cells #[.int .i64 a, .int .i64 b, .int .i64 c, .int .i64 d] 168)) := ((hb.trans (b2.mono hsz)).alloc (by omega) _).alloc (by simp; omega) _
     have hdis := os_ot hp2 ho2
     clear ho hp hb HB b2 hc
     unfold txval
     go_wp2_with (first
      | (at_builtin; refine wpList_append_own _ rfl _ _ 96 rfl w.heap.size 168 i0 (txv 0 0 0 0) 4 32 Tryz.underlying96 hi hz0 hz1 hz2 rfl (by decide) _ _ _ rfl ho2 ⟨w2.heap.size + 1, 0, none⟩ 1 1 (tcell ((a : Int), (b : Int), (c : Int), (d : Int))) rfl rfl (by have := four_cell (w2.alloc (.cells #[.int .i64 a, .int .i64 b, .int .i64 c, .int .i64 d] 168)) ((a : Int), (b : Int), (c : Int), (d : Int)) 168; simpa using this) (four_plain _) (by unfold maxLen; omega) (by omega) (by simp; omega) ?_; intro v' w3 ho' hg' _; have R := ot_more (by simp; omega) ho2 hb2 ho' hg'; have RP : OS w3 w.heap.size (.slice (some ⟨gp, 0, none⟩) ps.length pc) ps := World.ownsRow.kept hp2 hg' hdis; clear ho2 ho' hg' hb2 hp2 hdis))
     go_roundw
     case rel => exact ⟨k + 1, _, by omega, by go_num, by simp [hyl], HN, R.1, RP, R.2⟩
     case measure => simp [intOf]; omega
   ·have hkn : k = ps.length := by omega
    have HN : Hid (allTx ps = some ys) := by
     have := HA.out
     rw [hkn, List.take_of_length_le (Nat.le_refl _)] at this
     exact this
    have HO := hide ho
    clear ho hp HA
    go_wp2
    go_ret2
    exact ⟨_, by rw [HN.out]; rfl, by rw [HN.out]; exact unhide HO, hb⟩
end Go.Proofs.YtmpmedbojfjnaaaGreatDoor
namespace Go.Proofs.YtmpmedbojfjnaaaGreatDoor
open Go.RowKit
set_option linter.unusedSectionVars false
variable [∀ (a b c d : Int), Decidable (Ok4 a b c d)]
variable [∀ (a b c d : Nat), Decidable (okN a b c d)]

def OkT (x : T4) : Prop := Ok4 x.1 x.2.1 x.2.2.1 x.2.2.2
variable [∀ (x : T4), Decidable (OkT x)]
def txT (x : T4) : ByteArray := txt x.1 x.2.1 x.2.2.1 x.2.2.2
def accT (xs : List T4) : Nat → List UInt8
 | 0 => []
 | k + 1 => (if 0 < k then accT xs k ++ [44] else accT xs k) ++ (txT (xs.getD k (0, 0, 0, 0))).data.toList
def txsT (xs : List T4) : ByteArray := if ∀ x ∈ xs, OkT x then toB (accT xs xs.length) else ⟨#[]⟩
theorem ok_nat {a b c d : Int} (h : Ok4 a b c d) : ∃ a' b' c' d' : Nat, a = a' ∧ b = b' ∧ c = c' ∧ d = d' := by
 obtain ⟨⟨a1, _⟩, ⟨b1, _⟩, ⟨c1, _⟩, ⟨d1, _⟩⟩ := h
 exact ⟨a.toNat, b.toNat, c.toNat, d.toNat, by omega, by omega, by omega, by omega⟩
theorem txT_size (x : T4) : (txT x).size ≤ 27 := by
 unfold txT txt
 split
 ·rename_i h
  obtain ⟨a, b, c, d⟩ := x
  obtain ⟨⟨a1, a2⟩, ⟨b1, b2⟩, ⟨c1, c2⟩, ⟨d1, d2⟩⟩ := h
  simp only at *
  have za := dg_size a (by omega) (by omega)
  have zb := dg_size b (by omega) (by omega)
  have zc := dg_size c (by omega) (by omega)
  have zd := dg_size d (by omega) (by omega)
  have o : ∀ c : UInt8, (⟨#[c]⟩ : ByteArray).size = 1 := fun _ => rfl
  unfold txs dg
  rw [ByteArray.size_append, ByteArray.size_append, ByteArray.size_append, ByteArray.size_append, ByteArray.size_append, ByteArray.size_append, o, o, o]
  omega
 ·exact Nat.zero_le _
theorem txT_ne {x : T4} (h : OkT x) : txT x ≠ ⟨#[]⟩ := by
 unfold txT txt
 obtain ⟨a, b, c, d⟩ := x
 show (if Ok4 a b c d then txs a b c d else (⟨#[]⟩ : ByteArray)) ≠ _
 rw [if_pos (show Ok4 a b c d from h)]
 obtain ⟨a', b', c', d', rfl, rfl, rfl, rfl⟩ := ok_nat h
 rw [txs_toB]
 intro e
 have := congrArg (fun s : ByteArray => s.data.toList) e
 exact txl_ne a' b' c' d' this
theorem size_len (s : ByteArray) : s.data.toList.length = s.size := by simp
theorem accT_len (xs : List T4) (k : Nat) : (accT xs k).length ≤ k * 28 := by
 induction k with
 | zero => simp [accT]
 | succ k ih =>
  have := txT_size (xs.getD k (0, 0, 0, 0))
  have e := size_len (txT (xs.getD k (0, 0, 0, 0)))
  rw [accT]
  split <;> simp only [List.length_append, List.length_cons, List.length_nil, e] <;> omega
theorem txsT_no {xs : List T4} {k : Nat} (hk : k < xs.length) (h : ¬ OkT (xs.getD k (0, 0, 0, 0))) : txsT xs = ⟨#[]⟩ := by
 unfold txsT
 rw [if_neg]
 intro ha
 exact h (ha _ (by rw [List.getD_eq_getElem?_getD, List.getElem?_eq_getElem hk]; exact List.getElem_mem hk))
theorem txsT_yes {xs : List T4} (h : ∀ k, k < xs.length → OkT (xs.getD k (0, 0, 0, 0))) : txsT xs = toB (accT xs xs.length) := by
 unfold txsT
 rw [if_pos]
 intro x hx
 obtain ⟨k, hk, rfl⟩ := List.mem_iff_getElem.1 hx
 have := h k hk
 rwa [List.getD_eq_getElem?_getD, List.getElem?_eq_getElem hk] at this
theorem toB_append (x y : List UInt8) : toB x ++ toB y = toB (x ++ y) := by
 apply ByteArray.ext; apply Array.toList_inj.1; simp [toB]
theorem ne2 {s : ByteArray} (hz : s ≠ ⟨#[]⟩) : (s.toList == []) = false := by
 rw [beq_eq_false_iff_ne]; intro e; apply hz; apply ByteArray.ext; apply Array.toList_inj.1; rw [ByteArray.toList_eq] at e; exact e

set_option maxHeartbeats 4000000 in
set_option maxRecDepth 100000 in
theorem specTxsText (v : Value) (xs : List T4) (w : World) (hx : xs.length ≤ 1048577) (h : RT w v xs) :
 Calls Tryz.prog 164 #[v] w fun e w' => e = .returned (.string (txsT xs)) ∧ Below w.heap.size w w' := by
 obtain ⟨hl, ao, ca, rfl, ha⟩ := h
 go_enter Tryz.func164, Tryz.ntmps164
 go_wp2
 go_loopw [3, 4] (fun o i wr => ∃ k : Nat, k ≤ xs.length ∧ i = .int .i64 k ∧ o = .string (toB (accT xs k)) ∧ Hid (∀ j, j < k → OkT (xs.getD j (0, 0, 0, 0))) ∧ Below w.heap.size w wr) (fun _ i _ => xs.length - (intOf i).toNat)
 case atStart => exact ⟨0, Nat.zero_le _, rfl, rfl, hide (fun j hj => by omega), Below.refl _ _⟩
 case round =>
  obtain ⟨k, hk, rfl, rfl, HK, br⟩ := hrel
  have hsr := br.size
  by_cases hlt : k < xs.length
  ·rcases ha with ha | ⟨g, rfl, ha⟩
   ·subst ha; simp at hlt
   obtain ⟨a0, a1, a2, a3⟩ := ha k hlt
   have hg : g < w.heap.size := cell_lt a0
   have c0 := (br.cell (p := ⟨g, k * 4, none⟩) hg).trans a0
   have c1 := (br.cell (p := ⟨g, k * 4 + 1, none⟩) hg).trans a1
   have c2 := (br.cell (p := ⟨g, k * 4 + 2, none⟩) hg).trans a2
   have c3 := (br.cell (p := ⟨g, k * 4 + 3, none⟩) hg).trans a3
   have hal := accT_len xs k
   have hts := txT_size (xs.getD k (0, 0, 0, 0))
   have HS : Hid (accT xs (k + 1) = (if 0 < k then accT xs k ++ [44] else accT xs k) ++ (txT (xs.getD k (0, 0, 0, 0))).data.toList) := rfl
   have HNO := hide (fun h => txsT_no hlt h)
   clear ha
   generalize hxk : xs.getD k (0, 0, 0, 0) = x at *
   obtain ⟨xa, xb, xc, xd⟩ := x
   simp only at c0 c1 c2 c3 a0 a1 a2 a3
   by_cases hok : OkT (xa, xb, xc, xd)
   ·have CK := hide fun w => specTxOk_yes xa xb xc xd w hok
    have CT := hide fun w => specTxText xa xb xc xd w
    have HK' : Hid (∀ j, j < k + 1 → OkT (xs.getD j (0, 0, 0, 0))) := fun j hj => by
     by_cases e : j = k
     ·subst e; rw [hxk]; exact hok
     ·exact HK.out j (by omega)
    have htx : txT (xa, xb, xc, xd) = txt xa xb xc xd := rfl
    rw [htx] at HS hts
    clear htx HK HNO hok hxk
    generalize txt xa xb xc xd = t at *
    go_wp2_with fail
    refine (unhide CK _).mono ?_
    rintro e w1 ⟨rfl, b1⟩
    have b1' := br.trans (b1.mono hsr)
    have s1 := b1.size
    have d0 := (b1'.cell (p := ⟨g, k * 4, none⟩) hg).trans a0
    have d1 := (b1'.cell (p := ⟨g, k * 4 + 1, none⟩) hg).trans a1
    have d2 := (b1'.cell (p := ⟨g, k * 4 + 2, none⟩) hg).trans a2
    have d3 := (b1'.cell (p := ⟨g, k * 4 + 3, none⟩) hg).trans a3
    clear a0 a1 a2 a3 c0 c1 c2 c3
    by_cases hk0 : 0 < k
    ·obtain ⟨u, hu⟩ : ∃ u, u = toB (accT xs k ++ [44]) := ⟨_, rfl⟩
     have us : u.size ≤ k * 28 + 1 := by rw [hu, toB_size]; simp; omega
     have q1 : ∀ w, (Op.stringOp .add (toB (accT xs k)) (⟨#[44]⟩ : ByteArray)).run Tryz.prog w = .ok (.string u) w := fun w => by
      rw [run_string_add_sum w _ _ (by rw [toB_size]; show _ + 1 ≤ _; omega), hu, ← toB_append]; rfl
     have q2 : ∀ w, (Op.stringOp .add u t).run Tryz.prog w = .ok (.string (toB (accT xs (k + 1)))) w := fun w => by
      rw [run_string_add_sum w _ _ (by omega), unhide HS, if_pos hk0, hu]
      rw [← toB_data t, toB_append, toB_data t]
     clear hu us HS
     generalize toB (accT xs k) = ok at *
     generalize hnx : toB (accT xs (k + 1)) = ok' at *
     go_wp2_with fail
     refine (unhide CT _).mono ?_
     rintro e w2 ⟨rfl, b2⟩
     have b2' := b1'.trans (b2.mono (by omega))
     go_wp2
     go_roundw
     case rel => exact ⟨k + 1, by omega, by go_num, by rw [hnx], HK', b2'⟩
     case measure => simp [intOf]; omega
    ·have q2 : ∀ w, (Op.stringOp .add (toB (accT xs k)) t).run Tryz.prog w = .ok (.string (toB (accT xs (k + 1)))) w := fun w => by
      rw [run_string_add_sum w _ _ (by rw [toB_size]; omega), unhide HS, if_neg hk0]
      rw [← toB_data t, toB_append, toB_data t]
     clear HS
     generalize toB (accT xs k) = ok at *
     generalize hnx : toB (accT xs (k + 1)) = ok' at *
     go_wp2_with fail
     refine (unhide CT _).mono ?_
     rintro e w2 ⟨rfl, b2⟩
     have b2' := b1'.trans (b2.mono (by omega))
     go_wp2
     go_roundw
     case rel => exact ⟨k + 1, by omega, by go_num, by rw [hnx], HK', b2'⟩
     case measure => simp [intOf]; omega
   ·have CK := hide fun w => specTxOk_no xa xb xc xd w hok
    have HN := hide ((unhide HNO) hok)
    clear HNO HK HS hok
    generalize toB (accT xs k) = ok at *
    go_wp2_with fail
    refine (unhide CK _).mono ?_
    rintro e w1 ⟨rfl, b1⟩
    go_wp2
    go_ret
    exact ⟨by rw [unhide HN]; rfl, br.trans (b1.mono hsr)⟩
  ·have hkn : k = xs.length := by omega
   have HY : Hid (txsT xs = toB (accT xs k)) := by rw [hkn]; rw [hkn] at HK; exact txsT_yes HK.out
   clear HK ha
   generalize toB (accT xs k) = ok at *
   go_wp2
   go_ret
   exact ⟨by rw [HY.out]; rfl, br⟩
end Go.Proofs.YtmpmedbojfjnaaaGreatDoor
namespace Go.Proofs.YtmpmedbojfjnaaaGreatDoor
open Go.RowKit
set_option linter.unusedSectionVars false
variable [∀ (a b c d : Int), Decidable (Ok4 a b c d)]
variable [∀ (a b c d : Nat), Decidable (okN a b c d)]
variable [∀ (x : T4), Decidable (OkT x)]

theorem c4_grown {w w' : World} {r g : Nat} {a b c d : Int} (h : Cells4 w r a b c d) (hg : w.grownBy w' (some g)) (hr : r ≠ g) : Cells4 w' r a b c d :=
 ⟨hg.cell h.1 (by simpa using hr), hg.cell h.2.1 (by simpa using hr), hg.cell h.2.2.1 (by simpa using hr), hg.cell h.2.2.2 (by simpa using hr)⟩
theorem fr_grown {w w' : World} {r g : Nat} (h : ∀ j, w.frozen? ⟨r, j, none⟩ = false) (hl : r < w.heap.size) (hg : w.grownBy w' (some g)) (hr : r ≠ g) : ∀ j, w'.frozen? ⟨r, j, none⟩ = false := fun j =>
 (World.frozen?_of_block (a := ⟨r, j, none⟩) (hg.block r hl (by simpa using hr))).trans (h j)
theorem grown_set {w w' : World} {row : Option Nat} (h : w.grownBy w' row) {r : Nat} (hr : w.heap.size ≤ r) (j : Nat) (v : Value) : w.grownBy (w'.setCell ⟨r, j, none⟩ v) row :=
 grown_new h (set_grown w' r j v) (fun k e => by simp at e; omega)
theorem Cur.set {w : World} {base g ca : Nat} {ao : Option Addr} {xs : List Int} (h : Cur w base g ao ca xs) {r : Nat} (hr : g < r) (j : Nat) (v : Value) : Cur (w.setCell ⟨r, j, none⟩ v) base g ao ca xs :=
 h.grownNew (set_grown w r j v) (fun k e => by simp at e; omega)

set_option maxHeartbeats 2000000 in
set_option maxRecDepth 100000 in
theorem drawRight (base g ca : Nat) (ao : Option Addr) (xs : List Int) (w : World) (hB : base ≤ w.heap.size) (h : Cur w base g ao ca xs) :
 Calls Tryz.prog 146 #[.pointer (some ⟨g, 0, none⟩)] w fun e w' => ∃ a b c d : Int, e = .returned (txv a b c d) ∧ Cur w' base g ao ca xs ∧ w.grownBy w' (some g) := by
 have hlt := h.lt
 have h0 := h.alloc hB (.cells #[.int .i64 0, .int .i64 0, .int .i64 0, .int .i64 0] 168)
 have g0 := World.grownBy_alloc w (.cells #[.int .i64 0, .int .i64 0, .int .i64 0, .int .i64 0] 168) (some g)
 have z0 := cells4_new w 0 0 0 0 168
 have f0 : ∀ j, (w.alloc (.cells #[.int .i64 0, .int .i64 0, .int .i64 0, .int .i64 0] 168)).frozen? ⟨w.heap.size, j, none⟩ = false := fun j => by simp [go_sem]
 clear h
 have P := hide (And.intro h0 (And.intro g0 (And.intro z0 f0)))
 clear h0 g0 z0 f0
 go_enter Tryz.func146, Tryz.ntmps146
 go_wp2_with fail
 refine (below_any base g ca ao xs 4 _ (by simp; omega) (by omega) (by omega) (unhide P).1).mono ?_
 rintro e w1 ⟨a, rfl, _, _, c1, e1⟩
 have P1 := hide (And.intro c1 (And.intro (grown_trans (unhide P).2.1 e1) (And.intro (c4_grown (unhide P).2.2.1 e1 (by omega)) (fr_grown (unhide P).2.2.2 (by simp) e1 (by omega)))))
 have s1 : w.heap.size + 1 ≤ w1.heap.size := by have := e1.size; simp at this; omega
 clear P c1 e1
 go_wp2_with fail
 refine (below_any base g ca ao xs 4 _ (by omega) (by omega) (by omega) (unhide P1).1).mono ?_
 rintro e w2 ⟨b, rfl, _, _, c2, e2⟩
 have P2 := hide (And.intro c2 (And.intro (grown_trans (unhide P1).2.1 e2) (And.intro (c4_grown (unhide P1).2.2.1 e2 (by omega)) (fr_grown (unhide P1).2.2.2 (by omega) e2 (by omega)))))
 have s2 : w.heap.size + 1 ≤ w2.heap.size := by have := e2.size; omega
 clear P1 c2 e2
 go_wp2_with fail
 refine (pickInt_lit base g ca ao xs [0, 5, 60, 100, 1000] w2 (by omega) (by decide) (by decide) (unhide P2).1).mono ?_
 rintro e w3 ⟨c, rfl, _, c3, e3⟩
 have P3 := hide (And.intro c3 (And.intro (grown_trans (unhide P2).2.1 e3) (And.intro (c4_grown (unhide P2).2.2.1 e3 (by omega)) (fr_grown (unhide P2).2.2.2 (by omega) e3 (by omega)))))
 have s3 : w.heap.size + 1 ≤ w3.heap.size := by have := e3.size; omega
 clear P2 c3 e3
 go_wp2_with fail
 refine (below_any base g ca ao xs 3 _ (by omega) (by omega) (by omega) (unhide P3).1).mono ?_
 rintro e w4 ⟨d, rfl, _, _, c4, e4⟩
 have gg := grown_trans (unhide P3).2.1 e4
 obtain ⟨z0, z1, z2, z3⟩ := c4_grown (unhide P3).2.2.1 e4 (by omega)
 have zf := fr_grown (unhide P3).2.2.2 (by omega) e4 (by omega)
 have HC := hide c4
 clear P3 e4 c4
 go_wp2
 refine bodyPost_ret (v := txv a b c d) (by simp [results, Tryz.results146, go_sem, z0, z1, z2, z3]) rfl ?_
 exact ⟨a, b, c, d, rfl, ((((unhide HC).set (by omega) _ _).set (by omega) _ _).set (by omega) _ _).set (by omega) _ _, grown_set (grown_set (grown_set (grown_set gg (Nat.le_refl _) _ _) (Nat.le_refl _) _ _) (Nat.le_refl _) _ _) (Nat.le_refl _) _ _⟩

theorem OT.grown {w w' : World} {base g : Nat} {v : Value} {xs : List T4} (h : OT w base v xs) (hg : w.grownBy w' (some g)) (hlt : g < base) : OT w' base v xs :=
 World.ownsRow.kept h hg (by
  cases hv : v.ownBlock with
  | none => exact .inl rfl
  | some k => exact .inr fun e => by have := (World.ownsRow.lt h k hv).1; simp at e; omega)
end Go.Proofs.YtmpmedbojfjnaaaGreatDoor
