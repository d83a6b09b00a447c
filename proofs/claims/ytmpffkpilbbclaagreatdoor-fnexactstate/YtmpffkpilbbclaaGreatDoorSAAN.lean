/- Lemmas; their conditions stand in each statement. -/
import Derived.Test.YtmpffkpilbbclaaGreatDoorSAAM
set_option maxRecDepth 100000
set_option maxHeartbeats 8000000
set_option linter.unusedSectionVars false
namespace Go.Proofs.YtmpffkpilbbclaaGreatDoor
section
open Go.RowKit
theorem os_more {B : Nat} {w wr w1 : World} {v v' : Value} {o : Obj} {xs : List ByteArray} {c : ByteArray} (hB : B ≤ wr.heap.size) (ho : OS wr B v xs) (hb : Below B w wr)
 (ho' : w1.ownsRow B 9 1 v' (xs.length + 1) (xs.map Value.string ++ [.string c])) (hg : (wr.alloc o).grownBy w1 v.ownBlock) :
 OS w1 B v' (xs ++ [c]) ∧ Below B w w1 :=
 ⟨by unfold OS; simpa using ho', (hb.alloc hB o).grown hg (by simp; omega) (fun j hj => (ho.lt j hj).1)⟩

theorem ext_size (s : ByteArray) (n k : Nat) : (s.extract n k).size ≤ s.size := by rw [ByteArray.size_extract]; omega

theorem split_any (s : ByteArray) (b : Int) (w : World) (hs : s.size ≤ 33554432) :
 Calls Tryz.prog 222 #[.string s,.int .u8 b] w fun e w' => ∃ v, e = .returned v ∧ OS w' w.heap.size v (splitAns s b) ∧ Below w.heap.size w w' := by
 obtain ⟨i0, hi, hz0, hz1, hz2⟩:=info_parts Tryz.info9
 go_enter Tryz.func222, Tryz.ntmps222
 go_wp2
 go_loopw [5, 6, 7] (fun v f i wr => ∃ k n : Nat, k ≤ s.size ∧ n ≤ k ∧ i = .int .i64 k ∧ f = .int .i64 n ∧ Hid (n = (pcs s b k).2) ∧ OS wr w.heap.size v (pcs s b k).1 ∧ Below w.heap.size w wr) (fun _ _ i _ => s.size - (intOf i).toNat)
 case atStart => exact ⟨0, 0, by omega, by omega, rfl, rfl, rfl, World.ownsRow_nil _ _ _ _, Below.refl _ _⟩
 case round =>
  obtain ⟨k, n, hk, hnk, rfl, rfl, HN, ho, hb⟩:=hrel
  have hsz:=hb.size
  have hpl:=(pcs_le s b k).2
  by_cases hlt : k < s.size
  ·by_cases hbk : (s[k].toNat : Int) = b
   ·have hbk' : ((s[k].toNat : Int) == b) = true:=by simp [hbk]
    have HP:=hide (pcs_hit s b k hlt hbk)
    clear hbk
    go_wp2_with fail
    refine (clone_any _ _ (by have := ext_size s n k; omega)).mono ?_
    rintro e w1 ⟨rfl, b1⟩
    have s1:=b1.size
    have ho1:=ho.below b1
    have hb1:=hb.trans (b1.mono hsz)
    clear ho hb
    go_wp2_with (first
     | (at_builtin; refine wpList_append_own _ rfl _ _ 168 rfl w.heap.size 9 i0 (.string ⟨#[]⟩) 1 16 Tryz.underlying168 hi hz0 hz1 hz2 rfl (by decide) _ _ _ rfl (World.ownsRow.alloc ho1 _) ⟨w1.heap.size, 0, none⟩ 1 1 [.string (s.extract n k)] rfl rfl (one_cell _ _ _) (one_text _) (by unfold maxLen; omega) (by omega) (by simp; omega) ?_; intro v' w2 ho' hg' _; have R := os_more (by omega) ho1 hb1 ho' hg'; clear ho1 ho' hg' hb1))
    go_roundw
    case rel => exact ⟨k + 1, k + 1, by omega, by omega, by go_num, by go_num, by rw [HP.out]; rfl, by rw [HP.out, ← HN.out]; exact R.1, R.2⟩
    case measure => simp [intOf]; omega
   have hbk' : ((s[k].toNat : Int) == b) = false:=by simp [hbk]
   have HP:=hide (pcs_miss s b k hlt hbk)
   clear hbk
   have HO:=hide ho
   clear ho
   go_wp2
   go_roundw
   case rel => exact ⟨k + 1, n, by omega, by omega, by go_num, rfl, by rw [HP.out]; exact HN, by rw [HP.out]; exact HO.out, hb⟩
   case measure => simp [intOf]; omega
  have hks : k = s.size:=by omega
  have HA : Hid (splitAns s b = (pcs s b k).1 ++ [s.extract n s.size]):=by unfold splitAns; rw [HN.out, hks]; rfl
  clear hks
  go_wp2_with fail
  refine (clone_any _ _ (by have := ext_size s n s.size; omega)).mono ?_
  rintro e w1 ⟨rfl, b1⟩
  have s1:=b1.size
  have ho1:=ho.below b1
  have hb1:=hb.trans (b1.mono hsz)
  clear ho hb
  go_wp2_with (first
   | (at_builtin; refine wpList_append_own _ rfl _ _ 168 rfl w.heap.size 9 i0 (.string ⟨#[]⟩) 1 16 Tryz.underlying168 hi hz0 hz1 hz2 rfl (by decide) _ _ _ rfl (World.ownsRow.alloc ho1 _) ⟨w1.heap.size, 0, none⟩ 1 1 [.string (s.extract n s.size)] rfl rfl (one_cell _ _ _) (one_text _) (by unfold maxLen; omega) (by omega) (by simp; omega) ?_; intro v' w2 ho' hg' _; have R := os_more (by omega) ho1 hb1 ho' hg'; clear ho1 ho' hg' hb1))
  go_ret
  exact ⟨_, rfl, by rw [HA.out]; exact R.1, R.2⟩
theorem specSplit_any (s : ByteArray) (b : Int) (w : World) (hs : s.size ≤ 33554432) :
 Calls Tryz.prog 123 #[.string s,.int .u8 b] w fun e w' => ∃ v, e = .returned v ∧ OS w' w.heap.size v (splitAns s b) ∧ Below w.heap.size w w' := by
 obtain ⟨i0, hi, hz0, hz1, hz2⟩:=info_parts Tryz.info9
 go_enter Tryz.func123, Tryz.ntmps123
 go_wp2
 go_loopw [5, 6, 7] (fun v f i wr => ∃ k : Nat, k ≤ s.size + 1 ∧ i = .int .i64 k ∧ Below w.heap.size w wr ∧ ((k ≤ s.size ∧ ∃ n : Nat, n ≤ k ∧ f = .int .i64 n ∧ Hid (n = (pcs s b k).2) ∧ OS wr w.heap.size v (pcs s b k).1) ∨ (k = s.size + 1 ∧ OS wr w.heap.size v (splitAns s b)))) (fun _ _ i _ => s.size + 1 - (intOf i).toNat)
 case atStart => exact ⟨0, by omega, rfl, (Below.refl _ _).alloc (Nat.le_refl _) _,.inl ⟨by omega, 0, by omega, rfl, rfl, World.ownsRow_lit w #[] 0 (Nat.le_refl _) (by unfold maxLen; omega) rfl⟩⟩
 case round =>
  obtain ⟨k, hk, rfl, hb, hcase⟩:=hrel
  have hsz:=hb.size
  rcases hcase with ⟨hks, n, hnk, rfl, HN, ho⟩ | ⟨rfl, ho⟩
  ·have hpl:=(pcs_le s b k).2
   by_cases hlt : k < s.size
   ·have hke : ((k : Int) == (s.size : Int)) = false:=by simp; omega
    by_cases hbk : (s[k].toNat : Int) = b
    ·have hbk' : ((s[k].toNat : Int) == b) = true:=by simp [hbk]
     have HP:=hide (pcs_hit s b k hlt hbk)
     clear hbk
     go_wp2_with (first
      | (at_builtin; refine wpList_append_own _ rfl _ _ 168 rfl w.heap.size 9 i0 (.string ⟨#[]⟩) 1 16 Tryz.underlying168 hi hz0 hz1 hz2 rfl (by decide) _ _ _ rfl (World.ownsRow.alloc ho _) ⟨wr.heap.size, 0, none⟩ 1 1 [.string (s.extract n k)] rfl rfl (one_cell _ _ _) (one_text _) (by unfold maxLen; omega) (by omega) (by simp; omega) ?_; intro v' w2 ho' hg' _; have R := os_more hsz ho hb ho' hg'; clear ho ho' hg' hb))
     go_roundw
     case rel => exact ⟨k + 1, by omega, by go_num, R.2, .inl ⟨by omega, k + 1, by omega, by go_num, by rw [HP.out]; rfl, by rw [HP.out, ← HN.out]; exact R.1⟩⟩
     case measure => simp [intOf]; omega
    have hbk' : ((s[k].toNat : Int) == b) = false:=by simp [hbk]
    have HP:=hide (pcs_miss s b k hlt hbk)
    clear hbk
    have HO:=hide ho
    clear ho
    go_wp2
    go_roundw
    case rel => exact ⟨k + 1, by omega, by go_num, hb, .inl ⟨by omega, n, by omega, rfl, by rw [HP.out]; exact HN, by rw [HP.out]; exact HO.out⟩⟩
    case measure => simp [intOf]; omega
   have hks' : k = s.size:=by omega
   have hke : ((k : Int) == (s.size : Int)) = true:=by simp; omega
   have HA : Hid (splitAns s b = (pcs s b k).1 ++ [s.extract n k]):=by unfold splitAns; rw [HN.out, hks']; rfl
   have HK:=hide hks'
   clear hks'
   go_wp2_with (first
    | (at_builtin; refine wpList_append_own _ rfl _ _ 168 rfl w.heap.size 9 i0 (.string ⟨#[]⟩) 1 16 Tryz.underlying168 hi hz0 hz1 hz2 rfl (by decide) _ _ _ rfl (World.ownsRow.alloc ho _) ⟨wr.heap.size, 0, none⟩ 1 1 [.string (s.extract n k)] rfl rfl (one_cell _ _ _) (one_text _) (by unfold maxLen; omega) (by omega) (by simp; omega) ?_; intro v' w2 ho' hg' _; have R := os_more hsz ho hb ho' hg'; clear ho ho' hg' hb))
   go_roundw
   case rel => exact ⟨k + 1, by omega, by go_num, R.2, .inr ⟨by rw [HK.out], by rw [HA.out]; exact R.1⟩⟩
   case measure => simp [intOf]; omega
  have HO:=hide ho
  clear ho
  go_wp2
  go_ret
  exact ⟨_, rfl, HO.out, hb⟩
end
section
open Go.RowKit
variable [∀ (a b c d : Int), Decidable (Ok4 a b c d)]
variable [∀ (a b c d : Nat), Decidable (okN a b c d)]
def toT (q : Nat × Nat × Nat × Nat) : T4 := (q.1, q.2.1, q.2.2.1, q.2.2.2)
def allTx : List ByteArray → Option (List T4)
 | [] => some []
 | p :: ps => match txAns p.data.toList with
  | some q => (allTx ps).map (toT q :: ·)
  | none => none
theorem allTx_more (ps : List ByteArray) (p : ByteArray) : allTx (ps ++ [p]) = (allTx ps).bind fun ys => (txAns p.data.toList).map fun q => ys ++ [toT q] := by
 induction ps with
 | nil => rw [List.nil_append, allTx, allTx]; cases txAns p.data.toList <;> simp [allTx]
 | cons r ps ih =>
  rw [List.cons_append, allTx, allTx]
  cases txAns r.data.toList with
  | none => rfl
  | some q => simp only [ih]; cases allTx ps <;> cases txAns p.data.toList <;> simp
theorem allTx_none {ps : List ByteArray} (k : Nat) (h : allTx (ps.take k) = none) : allTx ps = none := by
 rw [← List.take_append_drop k ps]
 generalize ps.drop k = r
 generalize ps.take k = l at h
 induction l with
 | nil => simp [allTx] at h
 | cons x l ih =>
  rw [List.cons_append, allTx]
  rw [allTx] at h
  cases hx : txAns x.data.toList with
  | none => rfl
  | some q => rw [hx] at h; simp at h; simp [ih h]
theorem take_more (ps : List ByteArray) (k : Nat) (hk : k < ps.length) : ps.take (k + 1) = ps.take k ++ [ps.getD k ByteArray.empty] := by
 rw [List.take_succ_eq_append_getElem hk, List.getD_eq_getElem?_getD, List.getElem?_eq_getElem hk]; rfl
def txsAns (s : ByteArray) : Option (List T4) := if s = ⟨#[]⟩ then some [] else allTx (splitAns s 44)
theorem pcs_size (s : ByteArray) (b : Int) (k : Nat) : ∀ p ∈ (pcs s b k).1, p.size ≤ s.size := by
 induction k with
 | zero => simp [pcs]
 | succ k ih =>
  rw [pcs]; split
  ·intro p hp
   rw [List.mem_append] at hp
   rcases hp with hp | hp
   ·exact ih p hp
   simp at hp; rw [hp]; exact ext_size s _ _
  exact ih
theorem split_size (s : ByteArray) (b : Int) : ∀ p ∈ splitAns s b, p.size ≤ s.size := by
 intro p hp
 unfold splitAns at hp
 rw [List.mem_append] at hp
 rcases hp with hp | hp
 ·exact pcs_size s b _ p hp
 simp at hp; rw [hp]; exact ext_size s _ _
theorem getD_mem {ps : List ByteArray} {k : Nat} (hk : k < ps.length) : ps.getD k ByteArray.empty ∈ ps := by
 rw [List.getD_eq_getElem?_getD, List.getElem?_eq_getElem hk]; exact List.getElem_mem hk

theorem Tryz.infoTx : (Tryz.prog.info? 119).map (fun i => (i.zero, i.size, i.bytes)) = some (some (txv 0 0 0 0), 4, 32) := by kernel_rfl
theorem four_cell (w : World) (x : T4) (t : TypeId) (j : Nat) (u : Value) (h : (tcell x)[j]? = some u) : (w.alloc (.cells #[.int .i64 x.1,.int .i64 x.2.1,.int .i64 x.2.2.1,.int .i64 x.2.2.2] t)).cell? ((⟨w.heap.size, 0, none⟩ : Addr).add j) = some u := by
 match j, h with
 | 0, h => simp [tcell] at h; subst h; simp [Addr.add]
 | 1, h => simp [tcell] at h; subst h; simp [Addr.add]
 | 2, h => simp [tcell] at h; subst h; simp [Addr.add]
 | 3, h => simp [tcell] at h; subst h; simp [Addr.add]
 | j + 4, h => simp [tcell] at h
theorem four_plain (x : T4) (u : Value) (h : u ∈ tcell x) : u.oneCell' = true := by
 simp [tcell] at h; rcases h with rfl | rfl | rfl | rfl <;> rfl
theorem os_ot {w : World} {B B' : Nat} {v u : Value} {ps : List ByteArray} {ys : List T4} (h : OS w B v ps) (h' : OT w B' u ys) : v.ownBlock = none ∨ v.ownBlock ≠ u.ownBlock := by
 rcases h.2 with ⟨rfl, _⟩ | ⟨g, cap, cur, rfl, _, hg, _⟩
 ·exact .inl rfl
 rcases h'.2 with ⟨rfl, _⟩ | ⟨g', cap', cur', rfl, _, hg', _⟩
 ·exact .inr (by simp [Value.ownBlock])
 refine .inr fun e => ?_
 simp [Value.ownBlock] at e
 rw [e, hg'] at hg
 simp at hg
theorem ot_more {B : Nat} {w wr w1 : World} {v v' : Value} {xs : List T4} {x : T4} (hB : B ≤ wr.heap.size) (ho : OT wr B v xs) (hb : Below B w wr)
 (ho' : w1.ownsRow B 119 4 v' (xs.length + 1) (tcells xs ++ tcell x)) (hg : wr.grownBy w1 v.ownBlock) :
 OT w1 B v' (xs ++ [x]) ∧ Below B w w1 :=
 ⟨by unfold OT; rw [tcells_append, List.length_append]; simpa [tcells] using ho', hb.grown hg hB (fun j hj => (ho.lt j hj).1)⟩
theorem os_alloc {w : World} {B : Nat} {v : Value} {xs : List ByteArray} (h : OS w B v xs) (o : Obj) : OS (w.alloc o) B v xs := World.ownsRow.alloc h o
theorem ot_alloc {w : World} {B : Nat} {v : Value} {xs : List T4} (h : OT w B v xs) (o : Obj) : OT (w.alloc o) B v xs := World.ownsRow.alloc h o
theorem os_cell {w : World} {B g n cap : Nat} {ps : List ByteArray} (h : OS w B (.slice (some ⟨g, 0, none⟩) n cap) ps) (hn : n = ps.length) (k : Nat) (hk : k < ps.length) : w.cell? ⟨g, k, none⟩ = some (.string (ps.getD k ByteArray.empty)) := by
 subst hn
 rw [World.ownsRow.cellAt h k (by omega)]; simp [List.getElem?_eq_getElem hk]

theorem implTxsOf (s : ByteArray) (w : World) (hs : s.size ≤ 33554432) (hE : Env w) :
 Calls Tryz.prog 208 #[.string s] w fun e w' => ∃ v, e = .returned (.tuple #[v,.bool (txsAns s).isSome]) ∧ OT w' w.heap.size v ((txsAns s).getD []) ∧ Below w.heap.size w w' := by
 obtain ⟨i0, hi, hz0, hz1, hz2⟩:=info_parts Tryz.infoTx
 unfold txsAns
 by_cases hz : s = ⟨#[]⟩
 ·rw [if_pos hz]
  subst hz
  go_enter Tryz.func208, Tryz.ntmps208
  go_wp2
  go_ret2
  exact ⟨_, rfl, World.ownsRow_nil _ _ _ _, Below.refl _ _⟩
 rw [if_neg hz]
 have hne:=str_ne hz
 have hne2 : (s.toList == []) = false:=by
  rw [beq_eq_false_iff_ne]; intro e; apply hz; apply ByteArray.ext; apply Array.toList_inj.1; rw [ByteArray.toList_eq] at e; exact e
 have SP:=hide fun w => split_any s 44 w hs
 have hpn : 0 < (splitAns s 44).length:=by simp [splitAns]
 have hpl:=splitAns_len s 44
 have hpz : Hid (∀ p ∈ splitAns s 44, p.size ≤ 33554432):=fun p hp => Nat.le_trans (split_size s 44 p hp) hs
 generalize splitAns s 44 = ps at *
 have HE:=hide hE
 clear hE hz
 go_enter Tryz.func208, Tryz.ntmps208
 go_wp2_with fail
 refine (SP.out _).mono ?_
 rintro e w1 ⟨vp, rfl, op, b1⟩
 rcases op.2 with ⟨_, h0⟩ | ⟨gp, pc, pcur, rfl, _⟩
 ·omega
 have OP:=hide op
 clear op SP
 go_wp2
 go_loopw [4, 14] (fun v i wr => ∃ (k : Nat) (ys : List T4), k ≤ ps.length ∧ i = .int .i64 k ∧ ys.length = k ∧ Hid (allTx (ps.take k) = some ys) ∧ OT wr w.heap.size v ys ∧ OS wr w.heap.size (.slice (some ⟨gp, 0, none⟩) ps.length pc) ps ∧ Below w.heap.size w wr) (fun _ i _ => ps.length - (intOf i).toNat)
 case atStart => exact ⟨0, [], by omega, rfl, rfl, rfl, World.ownsRow_nil _ _ _ _, OP.out, b1⟩
 case round =>
  obtain ⟨k, ys, hk, rfl, hyl, HA, ho, hp, hb⟩:=hrel
  have hsz:=hb.size
  by_cases hlt : k < ps.length
  ·have hc:=os_cell hp rfl k hlt
   have hm:=hpz.out _ (getD_mem hlt)
   have HT:=hide (take_more ps k hlt)
   have CT:=hide fun w hE => implTxOf (ps.getD k ByteArray.empty) w hm hE
   have HB:=hide (And.intro ho (And.intro hp hb))
   clear ho hp hb hm
   generalize ps.getD k ByteArray.empty = p at *
   cases ht : txAns p.data.toList with
   | none =>
    have HN : Hid (allTx ps = none):=allTx_none (k + 1) (by rw [HT.out, allTx_more, ht]; cases allTx (ps.take k) <;> rfl)
    rw [ht] at CT
    clear ht HT HA
    go_wp2_with fail
    refine (CT.out _ (HE.out.below HB.out.2.2)).mono ?_
    rintro e w2 ⟨rfl, b2⟩
    have hw : Below w.heap.size w (w2.alloc (.cells #[.int .i64 0,.int .i64 0,.int .i64 0,.int .i64 0] 119)):=(HB.out.2.2.trans (b2.mono hsz)).alloc (by have:=b2.size; omega) _
    unfold txval
    go_wp2
    go_ret2
    exact ⟨_, by rw [HN.out]; rfl, by rw [HN.out]; exact World.ownsRow_nil _ _ _ _, hw⟩
   | some q =>
    obtain ⟨a, b, c, d⟩:=q
    have HN : Hid (allTx (ps.take (k + 1)) = some (ys ++ [((a : Int), (b : Int), (c : Int), (d : Int))])):=by
     show allTx _ = _
     rw [HT.out, allTx_more, HA.out, ht]; rfl
    rw [ht] at CT
    clear ht HT HA
    go_wp2_with fail
    refine (CT.out _ (HE.out.below HB.out.2.2)).mono ?_
    rintro e w2 ⟨rfl, b2⟩
    obtain ⟨ho, hp, hb⟩:=HB.out
    have s2:=b2.size
    have ho2:=ot_alloc (ot_alloc (ho.below b2) (.cells #[.int .i64 a,.int .i64 b,.int .i64 c,.int .i64 d] 119)) (.cells #[.int .i64 a,.int .i64 b,.int .i64 c,.int .i64 d] 119)
    have hp2:=os_alloc (os_alloc (hp.below b2) (.cells #[.int .i64 a,.int .i64 b,.int .i64 c,.int .i64 d] 119)) (.cells #[.int .i64 a,.int .i64 b,.int .i64 c,.int .i64 d] 119)
    have hb2 : Below w.heap.size w ((w2.alloc (.cells #[.int .i64 a,.int .i64 b,.int .i64 c,.int .i64 d] 119)).alloc (.cells #[.int .i64 a,.int .i64 b,.int .i64 c,.int .i64 d] 119)):=((hb.trans (b2.mono hsz)).alloc (by omega) _).alloc (by simp; omega) _
    have hdis:=os_ot hp2 ho2
    clear ho hp hb HB b2 hc
    unfold txval
    go_wp2_with (first
     | (at_builtin; refine wpList_append_own _ rfl _ _ 47 rfl w.heap.size 119 i0 (txv 0 0 0 0) 4 32 Tryz.underlying47 hi hz0 hz1 hz2 rfl (by decide) _ _ _ rfl ho2 ⟨w2.heap.size + 1, 0, none⟩ 1 1 (tcell ((a : Int), (b : Int), (c : Int), (d : Int))) rfl rfl (by have := four_cell (w2.alloc (.cells #[.int .i64 a,.int .i64 b,.int .i64 c,.int .i64 d] 119)) ((a : Int), (b : Int), (c : Int), (d : Int)) 119; simpa using this) (four_plain _) (by unfold maxLen; omega) (by omega) (by simp; omega) ?_; intro v' w3 ho' hg' _; have R := ot_more (by simp; omega) ho2 hb2 ho' hg'; have RP : OS w3 w.heap.size (.slice (some ⟨gp, 0, none⟩) ps.length pc) ps := World.ownsRow.kept hp2 hg' hdis; clear ho2 ho' hg' hb2 hp2 hdis))
    go_roundw
    case rel => exact ⟨k + 1, _, by omega, by go_num, by simp [hyl], HN, R.1, RP, R.2⟩
    case measure => simp [intOf]; omega
  have hkn : k = ps.length:=by omega
  have HN : Hid (allTx ps = some ys):=by
   have:=HA.out
   rw [hkn, List.take_of_length_le (Nat.le_refl _)] at this
   exact this
  have HO:=hide ho
  clear ho hp HA
  go_wp2
  go_ret2
  exact ⟨_, by rw [HN.out]; rfl, by rw [HN.out]; exact HO.out, hb⟩
end
section
open Go.RowKit
variable [∀ (a b c d : Int), Decidable (Ok4 a b c d)]
variable [∀ (a b c d : Nat), Decidable (okN a b c d)]
variable [∀ (x : T4), Decidable (OkT x)]
def AR (w : World) (ao : Option Addr) (xs : List T4) : Prop :=
 xs = [] ∨ ∃ b off, ao = some ⟨b, off, none⟩ ∧ ∀ k, k < xs.length → w.cell? ⟨b, off + k * 4, none⟩ = some (.int .i64 (xs.getD k (0, 0, 0, 0)).1) ∧ w.cell? ⟨b, off + k * 4 + 1, none⟩ = some (.int .i64 (xs.getD k (0, 0, 0, 0)).2.1) ∧ w.cell? ⟨b, off + k * 4 + 2, none⟩ = some (.int .i64 (xs.getD k (0, 0, 0, 0)).2.2.1) ∧ w.cell? ⟨b, off + k * 4 + 3, none⟩ = some (.int .i64 (xs.getD k (0, 0, 0, 0)).2.2.2)
theorem AR.below {w w' : World} {ao : Option Addr} {xs : List T4} (h : AR w ao xs) (hb : Below w.heap.size w w') : AR w' ao xs := by
 rcases h with h | ⟨b, off, rfl, h⟩
 ·exact .inl h
 refine .inr ⟨b, off, rfl, fun k hk => ?_⟩
 obtain ⟨c0, c1, c2, c3⟩:=h k hk
 have hg : b < w.heap.size:=cell_lt c0
 exact ⟨(hb.cell (p := ⟨b, off + k * 4, none⟩) hg).trans c0, (hb.cell (p := ⟨b, off + k * 4 + 1, none⟩) hg).trans c1, (hb.cell (p := ⟨b, off + k * 4 + 2, none⟩) hg).trans c2, (hb.cell (p := ⟨b, off + k * 4 + 3, none⟩) hg).trans c3⟩
def part4 (xs : List T4) (cs : List Value) (k : Nat) : List Value := tcells (xs.take k) ++ cs.drop (k * 4)
theorem part4_set (xs : List T4) (cs : List Value) (k : Nat) (hk : k < xs.length) (hc : cs.length = xs.length * 4) (x : T4) (hx : xs.getD k (0, 0, 0, 0) = x) :
 ((((part4 xs cs k).set (k * 4) (.int .i64 x.1)).set (k * 4 + 1) (.int .i64 x.2.1)).set (k * 4 + 2) (.int .i64 x.2.2.1)).set (k * 4 + 3) (.int .i64 x.2.2.2) = part4 xs cs (k + 1) := by
 unfold part4
 have hp : (tcells (xs.take k)).length = k * 4:=by rw [tcells_len, List.length_take]; omega
 have ht : xs.take (k + 1) = xs.take k ++ [x]:=by
  rw [List.take_succ_eq_append_getElem hk, ← hx, List.getD_eq_getElem?_getD, List.getElem?_eq_getElem hk]; rfl
 rw [ht, tcells_append]
 generalize tcells (xs.take k) = P at *
 have hr : 4 ≤ (cs.drop (k * 4)).length:=by rw [List.length_drop]; omega
 have hd : cs.drop ((k + 1) * 4) = (cs.drop (k * 4)).drop 4:=by rw [List.drop_drop]; congr 1; omega
 rw [hd]
 match cs.drop (k * 4), hr with
 | r0 :: r1 :: r2 :: r3 :: R, _ =>
  rw [← hp]
  simp [List.set_append_right, tcells, tcell]
theorem part4_zero (xs : List T4) (cs : List Value) : part4 xs cs 0 = cs := by simp [part4, tcells]
theorem part4_all (xs : List T4) (cs : List Value) (hc : cs.length = xs.length * 4) : part4 xs cs xs.length = tcells xs := by
 unfold part4; rw [List.take_of_length_le (Nat.le_refl _), List.drop_of_length_le (by omega)]; simp

theorem toTxS_any (ao : Option Addr) (ca : Nat) (xs : List T4) (w : World) (hl : xs.length ≤ 1048577) (h : AR w ao xs) :
 Calls Tryz.prog 35 #[.slice ao xs.length ca] w fun e w' => ∃ v, e = .returned v ∧ OT w' w.heap.size v xs ∧ Below w.heap.size w w' := by
 obtain ⟨i0, hi, hz0, hz1, hz2⟩:=info_parts Tryz.infoTx
 go_enter Tryz.func35, Tryz.ntmps35
 go_wp2_with (first | (at_make; refine wpList_make_full _ rfl _ _ 47 rfl w.heap.size 119 i0 (txv 0 0 0 0) 4 Tryz.underlying47 hi hz0 hz1 .i64 .i64 _ _ xs.length rfl rfl rfl rfl (by rw [hz2]; omega) (by unfold maxLen; omega) (Nat.le_refl _) ?_; intro w0 ho0 hg0))
 have hcs : (madeCells (txv 0 0 0 0).cells (xs.length * 4)).toList.length = xs.length * 4:=by rw [Array.length_toList, size_madeCells]
 generalize (madeCells (txv 0 0 0 0).cells (xs.length * 4)).toList = cs at *
 go_loopw [4] (fun i wr => ∃ k : Nat, k ≤ xs.length ∧ i = .int .i64 k ∧ wr.ownsRow w.heap.size 119 4 (.slice (some ⟨w.heap.size, 0, none⟩) xs.length xs.length) xs.length (part4 xs cs k) ∧ Below w.heap.size w wr) (fun i _ => xs.length - (intOf i).toNat)
 case atStart => exact ⟨0, Nat.zero_le _, rfl, by rw [part4_zero]; exact ho0, (Below.refl _ _).grown hg0 (Nat.le_refl _) (by simp)⟩
 case round =>
  clear ho0 hg0
  obtain ⟨k, hk, rfl, ho, br⟩:=hrel
  by_cases hlt : k < xs.length
  ·rcases h with h | ⟨b, off, rfl, h⟩
   ·subst h; simp at hlt
   obtain ⟨a0, a1, a2, a3⟩:=h k hlt
   have hg : b < w.heap.size:=cell_lt a0
   have c0:=(br.cell (p:=⟨b, off + k * 4, none⟩) hg).trans a0
   have c1:=(br.cell (p:=⟨b, off + k * 4 + 1, none⟩) hg).trans a1
   have c2:=(br.cell (p:=⟨b, off + k * 4 + 2, none⟩) hg).trans a2
   have c3:=(br.cell (p:=⟨b, off + k * 4 + 3, none⟩) hg).trans a3
   clear a0 a1 a2 a3 h
   have hsr:=br.size
   obtain ⟨x, hxk⟩ : ∃ x, xs.getD k (0, 0, 0, 0) = x:=⟨_, rfl⟩
   rw [hxk] at c0 c1 c2 c3
   have HP:=hide (part4_set xs cs k hlt hcs x hxk)
   clear hxk
   obtain ⟨xa, xb, xc, xd⟩:=x
   simp only at c0 c1 c2 c3
   have hplen : (part4 xs cs k).length = xs.length * 4:=by
    unfold part4; rw [List.length_append, tcells_len, List.length_take, List.length_drop, hcs]; omega
   have HO:=hide ho
   clear ho
   go_wp2_with fail
   refine (toTx_any xa xb xc xd _).mono ?_
   rintro e w2 ⟨rfl, b2⟩
   have s2:=b2.size
   have ho2:=World.ownsRow.kept (row:=none) HO.out ⟨b2.os, b2.tape, b2.output, b2.size, fun k hk _ => b2.block k hk⟩ (by simp [Value.ownBlock])
   have bw2:=br.trans (b2.mono hsr)
   obtain ⟨y0, y1, y2, y3⟩ : (∃ u, w2.cell? ⟨w.heap.size, k * 4, none⟩ = some u) ∧ (∃ u, w2.cell? ⟨w.heap.size, k * 4 + 1, none⟩ = some u) ∧ (∃ u, w2.cell? ⟨w.heap.size, k * 4 + 2, none⟩ = some u) ∧ (∃ u, w2.cell? ⟨w.heap.size, k * 4 + 3, none⟩ = some u):=by
    have gt : ∀ j, j < xs.length * 4 → ∃ u, w2.cell? ⟨w.heap.size, j, none⟩ = some u:=fun j hj => ⟨_, (ho2.cellAt j hj).trans (List.getElem?_eq_getElem (by rw [hplen]; exact hj))⟩
    exact ⟨gt _ (by omega), gt _ (by omega), gt _ (by omega), gt _ (by omega)⟩
   obtain ⟨u0, y0⟩:=y0
   obtain ⟨u1, y1⟩:=y1
   obtain ⟨u2, y2⟩:=y2
   obtain ⟨u3, y3⟩:=y3
   have hfr:=ho2.frozenAt
   have t0:=ho2.stored (k * 4) (.int .i64 xa)
   have t1:=t0.1.stored (k * 4 + 1) (.int .i64 xb)
   have t2:=t1.1.stored (k * 4 + 2) (.int .i64 xc)
   have t3:=t2.1.stored (k * 4 + 3) (.int .i64 xd)
   have H3:=hide t3.1
   clear t0 t1 t2 t3 ho2 c0 c1 c2 c3
   go_wp2
   go_roundw
   case rel => exact ⟨k + 1, by omega, by go_num, by rw [← HP.out]; exact H3.out, (((bw2.setCell (Nat.le_refl _) _).setCell (Nat.le_refl _) _).setCell (Nat.le_refl _) _).setCell (Nat.le_refl _) _⟩
   case measure => simp [intOf]; omega
  have hkn : k = xs.length:=by omega
  have HO : Hid (OT wr w.heap.size (.slice (some ⟨w.heap.size, 0, none⟩) xs.length xs.length) xs):=by
   show OT _ _ _ _
   unfold OT
   rw [← part4_all xs cs hcs, ← hkn]; rw [← hkn] at ho; exact ho
  clear ho h
  go_wp2
  go_ret
  exact ⟨_, rfl, HO.out, br⟩
end
section
open Go.RowKit
variable [∀ (a b c d : Int), Decidable (Ok4 a b c d)]
def tmark (k0 i : Nat) : T4 := ((k0 : Int) + (i : Int) * 4, (k0 : Int) + (i : Int) * 4 + 1, (k0 : Int) + (i : Int) * 4 + 2, (k0 : Int) + (i : Int) * 4 + 3)
def tmarks (k0 n : Nat) : List T4 := (List.range n).map (tmark k0)
theorem tmarks_len (k0 n : Nat) : (tmarks k0 n).length = n := by simp [tmarks]
theorem tmarks_succ (k0 n : Nat) : tmarks k0 (n + 1) = tmarks k0 n ++ [tmark k0 n] := by simp [tmarks, List.range_succ]
def tmixed (k0 k : Nat) (vs : List T4) : List T4 := tmarks k0 k ++ vs.drop k
theorem tmixed_zero (k0 : Nat) (vs : List T4) : tmixed k0 0 vs = vs := by simp [tmixed, tmarks]
theorem tmixed_all (k0 : Nat) (vs : List T4) : tmixed k0 vs.length vs = tmarks k0 vs.length := by simp [tmixed]
theorem tmixed_len (k0 k : Nat) (vs : List T4) (h : k ≤ vs.length) : (tmixed k0 k vs).length = vs.length := by simp [tmixed, tmarks_len]; omega
theorem tcells_set (xs : List T4) (k : Nat) (x : T4) (hk : k < xs.length) : ((((tcells xs).set (k * 4) (.int .i64 x.1)).set (k * 4 + 1) (.int .i64 x.2.1)).set (k * 4 + 2) (.int .i64 x.2.2.1)).set (k * 4 + 3) (.int .i64 x.2.2.2) = tcells (xs.set k x) := by
 induction xs generalizing k with
 | nil => simp at hk
 | cons y ys ih =>
  have e : ∀ z : T4, ∀ zs, tcells (z :: zs) = .int .i64 z.1 :: .int .i64 z.2.1 :: .int .i64 z.2.2.1 :: .int .i64 z.2.2.2 :: tcells zs:=fun z zs => by simp [tcells, tcell]
  cases k with
  | zero => rw [e]; simp [e]
  | succ k =>
   rw [e, List.set_cons_succ, e, ← ih k (by simpa using hk)]
   rw [show (k + 1) * 4 = k * 4 + 1 + 1 + 1 + 1 from by omega]
   simp only [List.set_cons_succ]
theorem tmixed_set (k0 k : Nat) (vs : List T4) (h : k < vs.length) : (tmixed k0 k vs).set k (tmark k0 k) = tmixed k0 (k + 1) vs := by
 unfold tmixed
 rw [tmarks_succ, List.set_append_right _ _ (by simp [tmarks_len]), tmarks_len, Nat.sub_self, List.drop_eq_getElem_cons h, List.set_cons_zero]
 simp

theorem tmark_row (base g n cap k0 : Nat) (vs : List T4) (w : World) (hn : n ≤ 4194304) (hk1 : k0 ≤ 100000000) (hv : vs.length = n) (h : OT w base (.slice (some ⟨g, 0, none⟩) n cap) vs) :
 Calls Tryz.prog 53 #[.slice (some ⟨g, 0, none⟩) n cap,.int .i64 k0] w fun e w' => e = .returned (.int .i64 (k0 + n * 4)) ∧
  OT w' base (.slice (some ⟨g, 0, none⟩) n cap) (tmarks k0 n) ∧ w.grownBy w' (some g) := by
 have Hv:=hide hv
 clear hv
 go_enter Tryz.func53, Tryz.ntmps53
 go_wp2
 go_loopw [1, 5] (fun c i wr => ∃ k : Nat, k ≤ n ∧ i = .int .i64 k ∧ c = .int .i64 ((k0 : Int) + (k : Int) * 4) ∧ OT wr base (.slice (some ⟨g, 0, none⟩) n cap) (tmixed k0 k vs) ∧ w.grownBy wr (some g)) (fun _ i _ => n - (intOf i).toNat)
 case atStart => exact ⟨0, Nat.zero_le _, rfl, by go_num, by rw [tmixed_zero]; exact h, ⟨rfl, rfl, rfl, Nat.le_refl _, fun _ _ _ => rfl⟩⟩
 case round =>
  obtain ⟨k, hk, rfl, rfl, ho, hg⟩:=hrel
  by_cases hlt : k < n
  ·have hkv : k < vs.length:=by rw [Hv.out]; exact hlt
   have hlen : (tmixed k0 k vs).length = n:=by rw [tmixed_len k0 k vs (by omega), Hv.out]
   have ho0 : wr.ownsRow base 119 4 (.slice (some ⟨g, 0, none⟩) n cap) n (tcells (tmixed k0 k vs)):=by have:=ho; unfold OT at this; rw [hlen] at this; exact this
   obtain ⟨y0, y1, y2, y3⟩ : (∃ u, wr.cell? ⟨g, k * 4, none⟩ = some u) ∧ (∃ u, wr.cell? ⟨g, k * 4 + 1, none⟩ = some u) ∧ (∃ u, wr.cell? ⟨g, k * 4 + 2, none⟩ = some u) ∧ (∃ u, wr.cell? ⟨g, k * 4 + 3, none⟩ = some u):=by
    have gt : ∀ j, j < n * 4 → ∃ u, wr.cell? ⟨g, j, none⟩ = some u:=fun j hj => ⟨_, (ho0.cellAt j hj).trans (List.getElem?_eq_getElem (by rw [tcells_len, hlen]; exact hj))⟩
    exact ⟨gt _ (by omega), gt _ (by omega), gt _ (by omega), gt _ (by omega)⟩
   obtain ⟨u0, y0⟩:=y0
   obtain ⟨u1, y1⟩:=y1
   obtain ⟨u2, y2⟩:=y2
   obtain ⟨u3, y3⟩:=y3
   have hfr:=ho0.frozenAt
   have t0:=ho0.stored (k * 4) (.int .i64 ((k0 : Int) + (k : Int) * 4))
   have t1:=t0.1.stored (k * 4 + 1) (.int .i64 ((k0 : Int) + (k : Int) * 4 + 1))
   have t2:=t1.1.stored (k * 4 + 2) (.int .i64 ((k0 : Int) + (k : Int) * 4 + 2))
   have t3:=t2.1.stored (k * 4 + 3) (.int .i64 ((k0 : Int) + (k : Int) * 4 + 3))
   have HO:=hide t3.1
   have HG:=hide (grown_trans hg (grown_trans t0.2 (grown_trans t1.2 (grown_trans t2.2 t3.2))))
   have hlen' : (tmixed k0 (k + 1) vs).length = n:=by rw [tmixed_len k0 (k + 1) vs (by omega), Hv.out]
   clear t0 t1 t2 t3 ho ho0 hg
   go_wp2
   go_roundw
   case rel =>
    refine ⟨k + 1, by omega, by go_num, by go_num, ?_, ?_⟩
    ·unfold OT
     rw [hlen', ← tmixed_set k0 k vs hkv, ← tcells_set _ _ _ (by rw [hlen]; exact hlt)]
     exact HO.out
    exact HG.out
   case measure => simp [intOf]; omega
  have hkn : k = n:=by omega
  have HO : Hid (OT wr base (.slice (some ⟨g, 0, none⟩) n cap) (tmarks k0 n)):=by
   have:=tmixed_all k0 vs; rw [Hv.out] at this; rw [← this, ← hkn]; rw [← hkn] at ho; exact ho
  clear ho
  subst hkn
  go_wp2
  go_ret
  exact ⟨rfl, HO.out, hg⟩
end
section
open Go.RowKit
variable [∀ (a b c d : Int), Decidable (Ok4 a b c d)]
variable [∀ (a b c d : Nat), Decidable (okN a b c d)]
variable [∀ (x : T4), Decidable (OkT x)]
theorem OT.kp {w w' : World} {base : Nat} {X : Nat → Prop} {v : Value} {xs : List T4} (h : OT w base v xs) (k : Kp w w' X) (hv : ∀ k, v.ownBlock = some k → ¬ X k) : OT w' base v xs := by
 refine ⟨h.1, ?_⟩
 rcases h.2 with hn | ⟨g, cap, cur, rfl, hb, hgg, rest⟩
 ·exact .inl hn
 refine .inr ⟨g, cap, cur, rfl, hb, ?_, rest⟩
 rw [k.block g (Array.getElem?_eq_some_iff.1 hgg).1 (hv g rfl)]
 exact hgg
theorem szL_yes (ao : Option Addr) (n ca : Nat) (left : Int) (w : World) (hn : (n : Int) ≤ left) (hl : left ≤ 1048576) :
 Calls Tryz.prog 21 #[.slice ao n ca,.int .i64 left] w fun e w' => e = .returned (.int .i64 (left - n)) ∧ w' = w := by
 have hd : decide ((left : Int) - (n : Int) < 0) = false:=by simp; omega
 go_enter Tryz.func21, Tryz.ntmps21
 go_wp2
 go_ret
 exact ⟨rfl, rfl⟩
theorem szL_no (ao : Option Addr) (n ca : Nat) (left : Int) (w : World) (h0 : 0 ≤ left) (hn : left < (n : Int)) (hm : n ≤ 9223372036854775807) (hl : left ≤ 1048576) :
 Calls Tryz.prog 21 #[.slice ao n ca,.int .i64 left] w fun e w' => e = .returned (.int .i64 (-1)) ∧ w' = w := by
 have hd : decide ((left : Int) - (n : Int) < 0) = true:=by simp; omega
 go_enter Tryz.func21, Tryz.ntmps21
 go_wp2
 go_ret
 exact ⟨rfl, rfl⟩
theorem tmark_none (k0 : Int) (w : World) :
 Calls Tryz.prog 53 #[.slice none 0 0,.int .i64 k0] w fun e w' => e = .returned (.int .i64 k0) ∧ w' = w := by
 go_enter Tryz.func53, Tryz.ntmps53
 go_wp2
 refine wp_loop_rounds 1 ?_
 rw [rounds_succ]
 go_wp2
 go_ret
 exact ⟨rfl, rfl⟩
end
section
open Go.RowKit
variable [∀ (a b c d : Int), Decidable (Ok4 a b c d)]
variable [∀ (n f : Int), Decidable (COk n f)]
variable [∀ (a b c d : Nat), Decidable (okN a b c d)]
variable [∀ (x : T4), Decidable (OkT x)]
structure RpT where
 id : Int
 vw : Int
 ak : Int
 vo : Int
 lo : Int
 n : Int
 s : ByteArray
 qw : List Int
 d : ByteArray
 pool : List T4
 tab : List Pt
 dsk : List Int
 su : Int
 held : List PoT
abbrev rpv (t : RpT) (a b c d e : Value) : Value := .agg #[.int .i64 t.id,.int .i64 t.vw,.int .i64 t.ak,.int .i64 t.vo,.int .i64 t.lo,.int .i64 t.n,.string t.s, a,.string t.d, b, c, d,.int .i64 t.su, e]
structure RRep (w : World) (t : RpT) (a b c d e : Value) : Prop where
 q : RI w a t.qw
 p : RT w b t.pool
 tb : RPt w c t.tab
 d : RB w d t.dsk
 h : RPo w e t.held
structure IRep (w : World) (t : RpT) (a : Value) (bo : Option Addr) (c d e : Value) : Prop where
 q : RI w a t.qw
 p : AR w bo t.pool
 tb : RPt w c t.tab
 d : RB w d t.dsk
 h : RPo w e t.held
theorem IRep.below {w w' : World} {t : RpT} {a : Value} {bo : Option Addr} {c d e : Value} (h : IRep w t a bo c d e) (hb : Below w.heap.size w w') : IRep w' t a bo c d e :=
 ⟨h.q.below hb, h.p.below hb, h.tb.below hb, h.d.below hb, h.h.below hb⟩
def ORep (w : World) (lo : Nat) (t : RpT) (a b c d e : Value) : Prop := ∃ s1 s2 s3 s4 vs, (lo ≤ s1 ∧ s1 ≤ s2 ∧ s2 ≤ s3 ∧ s3 ≤ s4 ∧ s4 ≤ w.heap.size) ∧ (OI w lo a t.qw ∧ ∀ j, a.ownBlock = some j → j < s1) ∧ (OT w s1 b t.pool ∧ ∀ j, b.ownBlock = some j → j < s2) ∧ OPR w s2 s3 c t.tab vs ∧ (OB w s3 d t.dsk ∧ ∀ j, d.ownBlock = some j → j < s4) ∧ OPo w s4 e t.held
theorem ORep.below {w w' : World} {lo : Nat} {t : RpT} {a b c d e : Value} (h : ORep w lo t a b c d e) (hb : Below w.heap.size w w') : ORep w' lo t a b c d e := by
 obtain ⟨s1, s2, s3, s4, vs, hs, ⟨a1, a2⟩, ⟨b1, b2⟩, c1, ⟨d1, d2⟩, e1⟩:=h
 have:=hb.size
 exact ⟨s1, s2, s3, s4, vs, by omega, ⟨a1.below hb, a2⟩, ⟨b1.below hb, b2⟩, c1.below hb, ⟨d1.below hb, d2⟩, e1.below hb⟩
theorem ORep.mono {w : World} {lo lo' : Nat} {t : RpT} {a b c d e : Value} (h : ORep w lo t a b c d e) (hl : lo' ≤ lo) : ORep w lo' t a b c d e := by
 obtain ⟨s1, s2, s3, s4, vs, hs, ⟨a1, a2⟩, r⟩:=h
 exact ⟨s1, s2, s3, s4, vs, by omega, ⟨a1.mono hl, a2⟩, r⟩
theorem OT.form1 {w : World} {base : Nat} {v : Value} {xs : List T4} (h : OT w base v xs) : ∃ ao ca, v = .slice ao xs.length ca := by
 rcases h.2 with ⟨rfl, h0⟩ | ⟨g, cap, cur, rfl, _⟩
 ·exact ⟨none, 0, by rw [h0]⟩
 exact ⟨_, _, rfl⟩
theorem ORep.form {w : World} {lo : Nat} {t : RpT} {a b c d e : Value} (h : ORep w lo t a b c d e) : ∃ ao ca bo cb co cc od cd oe ce, a = .slice ao t.qw.length ca ∧ b = .slice bo t.pool.length cb ∧ c = .slice co t.tab.length cc ∧ d = .slice od t.dsk.length cd ∧ e = .slice oe t.held.length ce := by
 obtain ⟨s1, s2, s3, s4, vs, hs, ⟨a1, a2⟩, ⟨b1, b2⟩, c1, ⟨d1, d2⟩, e1⟩:=h
 obtain ⟨ao, ca, rfl⟩:=a1.form
 obtain ⟨bo, cb, rfl⟩:=OT.form1 b1
 obtain ⟨co, cc, rfl⟩:=OPt.form ⟨vs, c1.tab⟩
 obtain ⟨od, cd, rfl⟩:=d1.form
 obtain ⟨oe, ce, rfl⟩:=e1.form
 exact ⟨_, _, _, _, _, _, _, _, _, _, rfl, rfl, rfl, rfl, rfl⟩
structure RSm (t : RpT) : Prop where
 q : t.qw.length ≤ 1048577
 p : t.pool.length ≤ 1048577
 tb : t.tab.length ≤ 1048577
 d : t.dsk.length ≤ 1048577
 h : t.held.length ≤ 1048577
 tt : ∀ p ∈ t.tab, p.2.2.length ≤ 4194304
 hh : ∀ j, j < t.held.length → (t.held.getD j zpost).2.bw.length ≤ 4194304 ∧ (t.held.getD j zpost).2.pw.length ≤ 4194304 ∧ (t.held.getD j zpost).2.qw.length ≤ 4194304
theorem ORep.rrep {w : World} {lo : Nat} {t : RpT} {a b c d e : Value} (h : ORep w lo t a b c d e) (hs : RSm t) : RRep w t a b c d e := by
 obtain ⟨s1, s2, s3, s4, vs, _, ⟨a1, _⟩, ⟨b1, _⟩, c1, ⟨d1, _⟩, e1⟩:=h
 exact ⟨a1.ri (by have := hs.q; omega), b1.rt (by have := hs.p; omega), c1.rpt hs.tt, d1.rb (by have := hs.d; omega), e1.rpo hs.hh⟩
theorem RB.form1 {w : World} {v : Value} {xs : List Int} (h : RB w v xs) : ∃ ao ca, v = .slice ao xs.length ca := by obtain ⟨_, ao, ca, e, _⟩ := h; exact ⟨ao, ca, e⟩
end
section
open Go.RowKit
def markT (k : Nat) : ByteArray := ⟨(109 :: Lib.decDigits k).toArray⟩

theorem markText_any (n : Nat) (w : World) (hn : 0 < n) (hm : n ≤ 9223372036854775807) :
 Calls Tryz.prog 111 #[.int .i64 n] w fun e w' => e = .returned (.string (markT n)) ∧ Below w.heap.size w w' := by
 have hcv:=one_str
 have hsz:=one_size
 go_enter Tryz.func111, Tryz.ntmps111
 go_wp2
 go_loopw [0, 3] (fun x s wr => ∃ (m : Nat) (t : List UInt8), m ≤ 9223372036854775807 ∧ DAt n m t ∧ x = .int .i64 m ∧ s = .string ⟨t.toArray⟩ ∧ Below w.heap.size w wr) (fun x _ _ => (intOf x).toNat)
 case atStart => exact ⟨n, [], hm, dat_start n (by omega), rfl, rfl, Below.refl _ _⟩
 case round =>
  obtain ⟨m, t, hm', hd, rfl, rfl, hb⟩:=hrel
  have ht20:=hd.2.1
  by_cases h0 : m = 0
  ·subst h0
   have HE:=hide (dat_end hd (by omega))
   clear hd
   go_wp2
   go_ret
   have HE':=HE.out
   subst HE'
   exact ⟨by apply congrArg Ending.returned; apply congrArg Value.string; apply ByteArray.ext; apply Array.toList_inj.1; simp [markT], hb⟩
  have hpos : 0 < m:=by omega
  obtain ⟨hd', hl⟩:=dat_step hd h0
  have HD:=hide hd'
  clear hd hd'
  have hs0:=hb.size
  have hmo:=one_more (m % 10) t (by omega)
  have hbl : Below w.heap.size w (wr.alloc (.cells #[.int .u8 (48 + (m : Int) % 10)] 5)):=hb.alloc hs0 _
  go_wp2
  go_roundw
  case rel => exact ⟨m / 10, _, by omega, HD.out, by go_num, by rw [← hmo]; rfl, hbl⟩
  case measure => simp [intOf]; omega
end
section
open Go.RowKit
variable [∀ (a b c d : Int), Decidable (Ok4 a b c d)]
variable [∀ (n f : Int), Decidable (COk n f)]
def pmk : Nat → List Pt → List Pt
 | _, [] => []
 | k, p :: ps => ((k : Int), markT (k + 1), imarks (k + 2) p.2.2.length) :: pmk (k + 2 + p.2.2.length) ps
def pend : Nat → List Pt → Nat
 | k, [] => k
 | k, p :: ps => pend (k + 2 + p.2.2.length) ps
theorem pmk_len (k : Nat) (ps : List Pt) : (pmk k ps).length = ps.length := by
 induction ps generalizing k with
 | nil => rfl
 | cons p ps ih => simp [pmk, ih]
theorem pmk_snoc (k : Nat) (ps : List Pt) (p : Pt) : pmk k (ps ++ [p]) = pmk k ps ++ [((pend k ps : Int), markT (pend k ps + 1), imarks (pend k ps + 2) p.2.2.length)] ∧ pend k (ps ++ [p]) = pend k ps + 2 + p.2.2.length := by
 induction ps generalizing k with
 | nil => exact ⟨rfl, rfl⟩
 | cons x ps ih => simp only [List.cons_append, pmk, pend, (ih _).1, (ih _).2]; exact ⟨trivial, trivial⟩
theorem pend_take (k0 : Nat) (ps : List Pt) (k : Nat) (hk : k < ps.length) : pend k0 (ps.take (k + 1)) = pend k0 (ps.take k) + 2 + (ps.getD k zpt).2.2.length := by
 rw [List.take_succ_eq_append_getElem hk, (pmk_snoc _ _ _).2]
 simp [List.getElem?_eq_getElem hk]
theorem pend_ge (k0 : Nat) (ps : List Pt) : k0 ≤ pend k0 ps := by
 induction ps generalizing k0 with
 | nil => exact Nat.le_refl _
 | cons p ps ih => have := ih (k0 + 2 + p.2.2.length); simp only [pend]; omega
theorem pend_le (k0 : Nat) (ps : List Pt) (k : Nat) : pend k0 (ps.take k) ≤ pend k0 ps := by
 induction ps generalizing k0 k with
 | nil => simp [pend]
 | cons p ps ih =>
  cases k with
  | zero => simp only [List.take_zero, pend]; have := pend_ge (k0 + 2 + p.2.2.length) ps; omega
  | succ k => simp only [List.take_succ_cons, pend]; exact ih _ _
def pmix (k0 k : Nat) (ps : List Pt) : List Pt := pmk k0 (ps.take k) ++ ps.drop k
theorem pmix_len (k0 k : Nat) (ps : List Pt) (h : k ≤ ps.length) : (pmix k0 k ps).length = ps.length := by
 simp [pmix, pmk_len]; omega
theorem pmix_get (k0 k : Nat) (ps : List Pt) (h : k < ps.length) : (pmix k0 k ps).getD k zpt = ps.getD k zpt := by
 have hl : (pmk k0 (ps.take k)).length = k:=by rw [pmk_len]; simp; omega
 unfold pmix
 rw [List.getD_eq_getElem?_getD, List.getElem?_append_right (by omega), hl, Nat.sub_self, List.getElem?_drop, Nat.add_zero, ← List.getD_eq_getElem?_getD]
theorem pmix_set (k0 k : Nat) (ps : List Pt) (h : k < ps.length) : (pmix k0 k ps).set k ((pend k0 (ps.take k) : Int), markT (pend k0 (ps.take k) + 1), imarks (pend k0 (ps.take k) + 2) (ps.getD k zpt).2.2.length) = pmix k0 (k + 1) ps := by
 have hl : (pmk k0 (ps.take k)).length = k:=by rw [pmk_len]; simp; omega
 unfold pmix
 rw [List.set_append_right _ _ (by omega), hl, Nat.sub_self, List.drop_eq_getElem_cons h, List.set_cons_zero, List.take_succ_eq_append_getElem h, (pmk_snoc _ _ _).1, List.append_assoc]
 simp [List.getElem?_eq_getElem h]

theorem markPartS_any (lo hi : Nat) (v : Value) (ps : List Pt) (vs : List Value) (k0 : Nat) (w : World) (hn : ps.length ≤ 4194304) (hw : ∀ p ∈ ps, p.2.2.length ≤ 4194304) (hp : pend k0 ps ≤ 100000000) (h : OPR w lo hi v ps vs) :
 Calls Tryz.prog 54 #[v,.int .i64 k0] w fun e w' => e = .returned (.int .i64 (pend k0 ps)) ∧ OPR w' lo hi v (pmk k0 ps) vs ∧ Kp w w' (fun b => lo ≤ b ∧ b < hi) := by
 obtain ⟨va, vc, rfl⟩:=OPt.form ⟨vs, h.tab⟩
 obtain ⟨n, hn'⟩ : ∃ n, ps.length = n:=⟨_, rfl⟩
 have Hn:=hide hn'
 have HW:=hide hw
 rw [hn'] at hn h ⊢
 have HS:=hide h
 clear hw h hn'
 go_enter Tryz.func54, Tryz.ntmps54
 go_wp2
 go_loopw [1, 5] (fun c i wr => ∃ k : Nat, k ≤ n ∧ i = .int .i64 k ∧ c = .int .i64 ((pend k0 (ps.take k) : Nat) : Int) ∧ OPR wr lo hi (.slice va n vc) (pmix k0 k ps) vs ∧ Kp w wr (fun b => lo ≤ b ∧ b < hi)) (fun _ i _ => n - (intOf i).toNat)
 case atStart => exact ⟨0, Nat.zero_le _, rfl, by simp [pend], by simpa [pmix, pmk] using HS.out, Kp.refl _ _⟩
 case round =>
  clear HS
  obtain ⟨k, hk, rfl, rfl, os, kr⟩:=hrel
  have hpk:=pend_le k0 ps k
  by_cases hlt : k < n
  ·have hkx : k < ps.length:=by have:=Hn.out; omega
   have hlen : (pmix k0 k ps).length = n:=by rw [pmix_len k0 k ps (by omega)]; exact Hn.out
   have hge:=pmix_get k0 k ps hkx
   have hse:=pmix_set k0 k ps hkx
   have hpt:=pend_take k0 ps k hkx
   have hpk1:=pend_le k0 ps (k + 1)
   have hxl:=HW.out _ (pt_mem hkx)
   have hkl : k < (pmix k0 k ps).length:=by omega
   obtain ⟨g, rfl⟩ : ∃ g, va = some ⟨g, 0, none⟩:=by
    rcases os.tab.row.2 with ⟨e, h0⟩ | ⟨g, cap, cur, e, _⟩
    ·omega
    injection e with e1 e2 e3; exact ⟨g, e1⟩
   have hrow:=os.tab.row
   rw [hlen] at hrow
   have hglo:=(World.ownsRow.lt hrow g rfl).1
   have hghi:=os.rowHi g rfl
   have hplen : (pcells (((pmix k0 k ps).map phd).zip vs)).length = n * 3:=by rw [pcells_len]; simp [os.tab.len, hlen]
   have hou:=os.tab.each k hkl
   have huh:=os.eachHi k hkl
   have hne : (vs.getD k (.slice none 0 0)).ownBlock ≠ some g:=pt_oi os.tab.row hou g rfl
   have hzl : ((pmix k0 k ps).map phd).zip vs = ((pmix k0 k ps).map phd).zip vs:=rfl
   have c2 : wr.cell? ⟨g, k * 3 + 2, none⟩ = some (vs.getD k (.slice none 0 0)):=by
    have:=hrow.cellAt (k * 3 + 2) (by omega)
    rw [pcells_get _ k _ (by simp [os.tab.len]; omega) (by omega), pzip_get _ vs os.tab.len k hkl] at this
    exact this
   rw [hge] at hou
   generalize (ps.getD k zpt).2.2 = xs at *
   generalize hqe : pend k0 (ps.take k) = q at *
   obtain ⟨u, hu⟩ : ∃ u, vs.getD k (.slice none 0 0) = u:=⟨_, rfl⟩
   have HU:=hide hu
   rw [hu] at hou huh hne c2
   obtain ⟨y0, d0⟩ : ∃ y, wr.cell? ⟨g, k * 3, none⟩ = some y:=⟨_, (hrow.cellAt (k * 3) (by omega)).trans (List.getElem?_eq_getElem (by rw [hplen]; omega))⟩
   have f0:=hrow.frozenAt (k * 3)
   obtain ⟨w1, hw1⟩ : ∃ y, wr.setCell ⟨g, k * 3, none⟩ (.int .i64 (q : Int)) = y:=⟨_, rfl⟩
   have k1 : Kp wr w1 (fun b => b = g):=hw1 ▸ set_kp _ _ _ _
   have r1:=hw1 ▸ (hrow.stored (k * 3) (.int .i64 (q : Int))).1
   have MT:=hide fun w => markText_any (q + 1) w (by omega) (by omega)
   have HSE:=hide hse
   have HPT:=hide hpt
   have T:=hide os.tab
   have TOP:=os.top
   have RH:=hide os.rowHi
   have EH:=hide os.eachHi
   have MK:=hide fun w h => imark_any lo (q + 2) u xs w hxl (by omega) h
   clear hzl hge hu hse hpt os
   go_wp2_with fail
   refine (MT.out _).mono ?_
   rintro e w2 ⟨rfl, b2⟩
   have r2:=World.ownsRow.kept (row:=none) r1 ⟨b2.os, b2.tape, b2.output, b2.size, fun k hk _ => b2.block k hk⟩ (by simp [Value.ownBlock])
   obtain ⟨y1, d1⟩ : ∃ y, w2.cell? ⟨g, k * 3 + 1, none⟩ = some y:=⟨_, (r2.cellAt (k * 3 + 1) (by omega)).trans (List.getElem?_eq_getElem (by rw [List.length_set, hplen]; omega))⟩
   have f1:=r2.frozenAt (k * 3 + 1)
   have c2' : w2.cell? ⟨g, k * 3 + 2, none⟩ = some u:=by
    have h1 : w1.cell? ⟨g, k * 3 + 2, none⟩ = some u:=hw1 ▸ (World.cell?_setCell_other _ _ _ _ (by simp)).trans c2
    exact (b2.cell (p := ⟨g, k * 3 + 2, none⟩) (cell_lt h1)).trans h1
   obtain ⟨mt, hmt⟩ : ∃ t, markT (q + 1) = t:=⟨_, rfl⟩
   rw [hmt] at HSE ⊢
   clear hmt
   obtain ⟨w3, hw3⟩ : ∃ y, w2.setCell ⟨g, k * 3 + 1, none⟩ (.string mt) = y:=⟨_, rfl⟩
   have r3:=hw3 ▸ (r2.stored (k * 3 + 1) (.string mt)).1
   have k3 : Kp wr w3 (fun b => b = g):=(k1.trans (Below.kpOf b2 _)).trans (hw3 ▸ set_kp _ _ _ _)
   have c3 : w3.cell? ⟨g, k * 3 + 2, none⟩ = some u:=hw3 ▸ (World.cell?_setCell_other _ _ _ _ (by simp)).trans c2'
   have o3 : OI w3 lo u xs:=hou.kp k3 (fun b hb e => hne (by rw [← e]; exact hb))
   have lu:=World.ownsRow.lt hou
   obtain ⟨ua, uc, rfl⟩:=o3.form
   have O3:=hide o3
   have R3:=hide r3
   clear c2 c2' d0 f0 r1 r2 b2 k1 MT hou hrow r3 o3 hw1
   go_wp2_with fail
   refine (MK.out _ O3.out).mono ?_
   rintro e w4 ⟨rfl, o4, g4⟩
   have T4 : OPtV w4 lo (.slice (some ⟨g, 0, none⟩) n vc) (pmix k0 (k + 1) ps) vs:=by
    rw [← HSE.out]
    refine opt_mark T.out hkl (by rw [hlen]; exact R3.out) k3 (by rw [HU.out]; exact o4) (by rw [HU.out]; exact g4)
   have K4 : Kp w w4 (fun b => lo ≤ b ∧ b < hi):=(kr.trans (k3.mono fun b e => e ▸ ⟨hglo, hghi⟩)).trans ((kp_grown g4).mono fun b e => ⟨(lu b e).1, huh b e⟩)
   have OP : Hid (OPR w4 lo hi (.slice (some ⟨g, 0, none⟩) n vc) (pmix k0 (k + 1) ps) vs):=hide ⟨T4, by have:=k3.size; have:=g4.size; omega, RH.out, fun j hj => EH.out j (by rw [hlen]; rw [pmix_len k0 (k + 1) ps (by omega), Hn.out] at hj; exact hj)⟩
   clear T4 o4 g4 c3 d1 f1 k3 lu O3 R3 T RH EH huh hne kr hw3
   go_wp2
   go_roundw
   case rel => exact ⟨k + 1, by omega, by go_num, by rw [HPT.out]; simp, OP.out, K4⟩
   case measure => simp [intOf]; omega
  have hkn : ps.take k = ps:=List.take_of_length_le (by have:=Hn.out; omega)
  have hpm : pmix k0 k ps = pmk k0 ps:=by unfold pmix; rw [hkn, List.drop_of_length_le (by have:=Hn.out; omega), List.append_nil]
  rw [hpm] at os
  rw [hkn]
  have OS:=hide os
  clear os hpm hpk
  go_wp2
  go_ret
  exact ⟨rfl, OS.out, kr⟩
end
end Go.Proofs.YtmpffkpilbbclaaGreatDoor
