/- Texts that belong together: TxsOf, TxsText, DrawTx, Dent, Dent5, ShelfMarks, StepsPlain, GetPlain. -/
import Derived.Test.YtcclbejpgiogaaaGreatDoorNBAF
import Derived.Test.YtcclbejpgiogaaaGreatDoorNBAI
import Derived.Deep.RegionHeld3
import Derived.Deep.DeepCutAuto
import Derived.Shelf.Small.Wraps
import Derived.Shelf.Strconv.Atoi
import Derived.Shelf.Strconv.Itoa0
import Derived.Shelf.Strconv.Itoa1
import Derived.Shelf.LaysM
import Derived.Shelf.Strconv.Itoa2
import Derived.Shelf.Strconv.Itoa3
import Derived.Shelf.Strconv.AtoiErrFast
import Derived.Shelf.Strconv.ParseIntEmpty
import Derived.Shelf.Strconv.AtoiFail
import Derived.Shelf.Strconv.Clone
import Derived.Shelf.Strconv.SyntaxError
import Derived.Shelf.LaysC
import Derived.Shelf.Strconv.ToError
import Derived.Shelf.Strconv.Lower
import Derived.Shelf.Strconv.ParseUint10
import Derived.Shelf.Strconv.ParseUint10Empty
import Derived.Shelf.Strconv.ParseUint10Any
import Derived.Shelf.Strconv.ParseInt10
import Derived.Shelf.Strconv.AtoiLong
import Derived.Shelf.Strconv.AtoiInnerAll
import Derived.Shelf.Strconv.RangeError
import Derived.Shelf.Strconv.ToErrorRange
import Derived.Shelf.Strconv.AtoiAll
import Derived.Shelf.Strconv.ErrVarAll
import Derived.Shelf.Strings.Search1
import Derived.Shelf.Strings.Search2
import Derived.Shelf.Strings.Search3
import Derived.Shelf.Strings.Cut
import Derived.Shelf.Strings.Shaped
import Derived.Shelf.Strings.Prefix
import Derived.Test.YtcclbejpgiogaaaGreatDoorProg
import Derived.WalkKit
import Derived.Laws.BitsAllLaws
set_option maxRecDepth 100000
set_option maxHeartbeats 4000000
namespace Go.Proofs.YtcclbejpgiogaaaGreatDoor
open Go.RowKit
set_option linter.unusedSectionVars false
variable [∀ (a b c d : Int), Decidable (Ok4 a b c d)]
variable [∀ (a b c d : Nat), Decidable (okN a b c d)]

def toT (q : Nat × Nat × Nat × Nat) : T4 := (q.1, q.2.1, q.2.2.1, q.2.2.2)
def allTx : List ByteArray → Option (List T4)
 | [] => some []
 | p :: ps => match txAns p.data.toList with
  | some q => (allTx ps).map (toT q :: ·)
  | none => none
theorem allTx_more (ps : List ByteArray) (p : ByteArray) : allTx (ps ++ [p]) = (allTx ps).bind fun ys => (txAns p.data.toList).map fun q => ys ++ [toT q] := by
 induction ps with
 | nil => rw [List.nil_append, allTx, allTx]; cases txAns p.data.toList <;> simp [allTx]
 | cons r ps ih =>
  rw [List.cons_append, allTx, allTx]
  cases txAns r.data.toList with
  | none => rfl
  | some q => simp only [ih]; cases allTx ps <;> cases txAns p.data.toList <;> simp
theorem allTx_none {ps : List ByteArray} (k : Nat) (h : allTx (ps.take k) = none) : allTx ps = none := by
 rw [← List.take_append_drop k ps]
 generalize ps.drop k = r
 generalize ps.take k = l at h
 induction l with
 | nil => simp [allTx] at h
 | cons x l ih =>
  rw [List.cons_append, allTx]
  rw [allTx] at h
  cases hx : txAns x.data.toList with
  | none => rfl
  | some q => rw [hx] at h; simp at h; simp [ih h]
theorem take_more (ps : List ByteArray) (k : Nat) (hk : k < ps.length) : ps.take (k + 1) = ps.take k ++ [ps.getD k ByteArray.empty] := by
 rw [List.take_succ_eq_append_getElem hk, List.getD_eq_getElem?_getD, List.getElem?_eq_getElem hk]; rfl
def txsAns (s : ByteArray) : Option (List T4) := if s = ⟨#[]⟩ then some [] else allTx (splitAns s 44)
theorem pcs_size (s : ByteArray) (b : Int) (k : Nat) : ∀ p ∈ (pcs s b k).1, p.size ≤ s.size := by
 induction k with
 | zero => simp [pcs]
 | succ k ih =>
  rw [pcs]; split
  ·intro p hp
   rw [List.mem_append] at hp
   rcases hp with hp | hp
   ·exact ih p hp
   ·simp at hp; rw [hp]; exact ext_size s _ _
  ·exact ih
theorem split_size (s : ByteArray) (b : Int) : ∀ p ∈ splitAns s b, p.size ≤ s.size := by
 intro p hp
 unfold splitAns at hp
 rw [List.mem_append] at hp
 rcases hp with hp | hp
 ·exact pcs_size s b _ p hp
 ·simp at hp; rw [hp]; exact ext_size s _ _
theorem getD_mem {ps : List ByteArray} {k : Nat} (hk : k < ps.length) : ps.getD k ByteArray.empty ∈ ps := by
 rw [List.getD_eq_getElem?_getD, List.getElem?_eq_getElem hk]; exact List.getElem_mem hk

theorem Tryz.infoTx : (Tryz.prog.info? 123).map (fun i => (i.zero, i.size, i.bytes)) = some (some (txv 0 0 0 0), 4, 32) := by kernel_rfl
theorem four_cell (w : World) (x : T4) (t : TypeId) (j : Nat) (u : Value) (h : (tcell x)[j]? = some u) : (w.alloc (.cells #[.int .i64 x.1, .int .i64 x.2.1, .int .i64 x.2.2.1, .int .i64 x.2.2.2] t)).cell? ((⟨w.heap.size, 0, none⟩ : Addr).add j) = some u := by
 match j, h with
 | 0, h => simp [tcell] at h; subst h; simp [Addr.add]
 | 1, h => simp [tcell] at h; subst h; simp [Addr.add]
 | 2, h => simp [tcell] at h; subst h; simp [Addr.add]
 | 3, h => simp [tcell] at h; subst h; simp [Addr.add]
 | j + 4, h => simp [tcell] at h
theorem four_plain (x : T4) (u : Value) (h : u ∈ tcell x) : u.oneCell' = true := by
 simp [tcell] at h; rcases h with rfl | rfl | rfl | rfl <;> rfl
theorem os_ot {w : World} {B B' : Nat} {v u : Value} {ps : List ByteArray} {ys : List T4} (h : OS w B v ps) (h' : OT w B' u ys) : v.ownBlock = none ∨ v.ownBlock ≠ u.ownBlock := by
 rcases h.2 with ⟨rfl, _⟩ | ⟨g, cap, cur, rfl, _, hg, _⟩
 ·exact .inl rfl
 ·rcases h'.2 with ⟨rfl, _⟩ | ⟨g', cap', cur', rfl, _, hg', _⟩
  ·exact .inr (by simp [Value.ownBlock])
  ·refine .inr fun e => ?_
   simp [Value.ownBlock] at e
   rw [e, hg'] at hg
   simp at hg
theorem ot_more {B : Nat} {w wr w1 : World} {v v' : Value} {xs : List T4} {x : T4} (hB : B ≤ wr.heap.size) (ho : OT wr B v xs) (hb : Below B w wr)
 (ho' : w1.ownsRow B 123 4 v' (xs.length + 1) (tcells xs ++ tcell x)) (hg : wr.grownBy w1 v.ownBlock) :
 OT w1 B v' (xs ++ [x]) ∧ Below B w w1 :=
 ⟨by unfold OT; rw [tcells_append, List.length_append]; simpa [tcells] using ho', hb.grown hg hB (fun j hj => (ho.lt j hj).1)⟩
theorem os_alloc {w : World} {B : Nat} {v : Value} {xs : List ByteArray} (h : OS w B v xs) (o : Obj) : OS (w.alloc o) B v xs := World.ownsRow.alloc h o
theorem ot_alloc {w : World} {B : Nat} {v : Value} {xs : List T4} (h : OT w B v xs) (o : Obj) : OT (w.alloc o) B v xs := World.ownsRow.alloc h o
theorem os_cell {w : World} {B g n cap : Nat} {ps : List ByteArray} (h : OS w B (.slice (some ⟨g, 0, none⟩) n cap) ps) (hn : n = ps.length) (k : Nat) (hk : k < ps.length) : w.cell? ⟨g, k, none⟩ = some (.string (ps.getD k ByteArray.empty)) := by
 subst hn
 rw [World.ownsRow.cellAt h k (by omega)]; simp [List.getElem?_eq_getElem hk]

theorem implTxsOf (s : ByteArray) (w : World) (hs : s.size ≤ 33554432) (hE : Env w) :
 Calls Tryz.prog 146 #[.string s] w fun e w' => ∃ v, e = .returned (.tuple #[v, .bool (txsAns s).isSome]) ∧ OT w' w.heap.size v ((txsAns s).getD []) ∧ Below w.heap.size w w' := by
 obtain ⟨i0, hi, hz0, hz1, hz2⟩ := info_parts Tryz.infoTx
 unfold txsAns
 by_cases hz : s = ⟨#[]⟩
 ·rw [if_pos hz]
  subst hz
  go_enter Tryz.func146, Tryz.ntmps146
  go_wp2
  go_ret2
  exact ⟨_, rfl, World.ownsRow_nil _ _ _ _, Below.refl _ _⟩
 ·rw [if_neg hz]
  have hne := str_ne hz
  have hne2 : (s.toList == []) = false := by
   rw [beq_eq_false_iff_ne]; intro e; apply hz; apply ByteArray.ext; apply Array.toList_inj.1; rw [ByteArray.toList_eq] at e; exact e
  have SP := hide fun w => split_any s 44 w hs
  have hpn : 0 < (splitAns s 44).length := by simp [splitAns]
  have hpl := splitAns_len s 44
  have hpz : Hid (∀ p ∈ splitAns s 44, p.size ≤ 33554432) := fun p hp => Nat.le_trans (split_size s 44 p hp) hs
  generalize splitAns s 44 = ps at *
  have HE := hide hE
  clear hE hz
  go_enter Tryz.func146, Tryz.ntmps146
  go_wp2_with fail
  refine (SP.out _).mono ?_
  rintro e w1 ⟨vp, rfl, op, b1⟩
  rcases op.2 with ⟨_, h0⟩ | ⟨gp, pc, pcur, rfl, _⟩
  ·omega
  have OP := hide op
  clear op SP
  go_wp2
  go_loopw [4, 14] (fun v i wr => ∃ (k : Nat) (ys : List T4), k ≤ ps.length ∧ i = .int .i64 k ∧ ys.length = k ∧ Hid (allTx (ps.take k) = some ys) ∧ OT wr w.heap.size v ys ∧ OS wr w.heap.size (.slice (some ⟨gp, 0, none⟩) ps.length pc) ps ∧ Below w.heap.size w wr) (fun _ i _ => ps.length - (intOf i).toNat)
  case atStart => exact ⟨0, [], by omega, rfl, rfl, rfl, World.ownsRow_nil _ _ _ _, OP.out, b1⟩
  case round =>
   obtain ⟨k, ys, hk, rfl, hyl, HA, ho, hp, hb⟩ := hrel
   have hsz := hb.size
   by_cases hlt : k < ps.length
   ·have hc := os_cell hp rfl k hlt
    have hm := hpz.out _ (getD_mem hlt)
    have HT := hide (take_more ps k hlt)
    have CT := hide fun w hE => implTxOf (ps.getD k ByteArray.empty) w hm hE
    have HB := hide (And.intro ho (And.intro hp hb))
    clear ho hp hb hm
    generalize ps.getD k ByteArray.empty = p at *
    cases ht : txAns p.data.toList with
    | none =>
     have HN : Hid (allTx ps = none) := allTx_none (k + 1) (by rw [HT.out, allTx_more, ht]; cases allTx (ps.take k) <;> rfl)
     rw [ht] at CT
     clear ht HT HA
     go_wp2_with fail
     refine (CT.out _ (HE.out.below HB.out.2.2)).mono ?_
     rintro e w2 ⟨rfl, b2⟩
     have hw : Below w.heap.size w (w2.alloc (.cells #[.int .i64 0, .int .i64 0, .int .i64 0, .int .i64 0] 123)) := (HB.out.2.2.trans (b2.mono hsz)).alloc (by have := b2.size; omega) _
     unfold txval
     go_wp2
     go_ret2
     exact ⟨_, by rw [HN.out]; rfl, by rw [HN.out]; exact World.ownsRow_nil _ _ _ _, hw⟩
    | some q =>
     obtain ⟨a, b, c, d⟩ := q
     have HN : Hid (allTx (ps.take (k + 1)) = some (ys ++ [((a : Int), (b : Int), (c : Int), (d : Int))])) := by
      show allTx _ = _
      rw [HT.out, allTx_more, HA.out, ht]; rfl
     rw [ht] at CT
     clear ht HT HA
     go_wp2_with fail
     refine (CT.out _ (HE.out.below HB.out.2.2)).mono ?_
     rintro e w2 ⟨rfl, b2⟩
     obtain ⟨ho, hp, hb⟩ := HB.out
     have s2 := b2.size
     have ho2 := ot_alloc (ot_alloc (ho.below b2) (.cells #[.int .i64 a, .int .i64 b, .int .i64 c, .int .i64 d] 123)) (.cells #[.int .i64 a, .int .i64 b, .int .i64 c, .int .i64 d] 123)
     have hp2 := os_alloc (os_alloc (hp.below b2) (.cells #[.int .i64 a, .int .i64 b, .int .i64 c, .int .i64 d] 123)) (.cells #[.int .i64 a, .int .i64 b, .int .i64 c, .int .i64 d] 123)
     have hb2 : Below w.heap.size w ((w2.alloc (.cells #[.int .i64 a, .int .i64 b, .int .i64 c, .int .i64 d] 123)).alloc (.cells #[.int .i64 a, .int .i64 b, .int .i64 c, .int .i64 d] 123)) := ((hb.trans (b2.mono hsz)).alloc (by omega) _).alloc (by simp; omega) _
     have hdis := os_ot hp2 ho2
     clear ho hp hb HB b2 hc
     unfold txval
     go_wp2_with (first
      | (at_builtin; refine wpList_append_own _ rfl _ _ 121 rfl w.heap.size 123 i0 (txv 0 0 0 0) 4 32 Tryz.underlying121 hi hz0 hz1 hz2 rfl (by decide) _ _ _ rfl ho2 ⟨w2.heap.size + 1, 0, none⟩ 1 1 (tcell ((a : Int), (b : Int), (c : Int), (d : Int))) rfl rfl (by have := four_cell (w2.alloc (.cells #[.int .i64 a, .int .i64 b, .int .i64 c, .int .i64 d] 123)) ((a : Int), (b : Int), (c : Int), (d : Int)) 123; simpa using this) (four_plain _) (by unfold maxLen; omega) (by omega) (by simp; omega) ?_; intro v' w3 ho' hg' _; have R := ot_more (by simp; omega) ho2 hb2 ho' hg'; have RP : OS w3 w.heap.size (.slice (some ⟨gp, 0, none⟩) ps.length pc) ps := World.ownsRow.kept hp2 hg' hdis; clear ho2 ho' hg' hb2 hp2 hdis))
     go_roundw
     case rel => exact ⟨k + 1, _, by omega, by go_num, by simp [hyl], HN, R.1, RP, R.2⟩
     case measure => simp [intOf]; omega
   ·have hkn : k = ps.length := by omega
    have HN : Hid (allTx ps = some ys) := by
     have := HA.out
     rw [hkn, List.take_of_length_le (Nat.le_refl _)] at this
     exact this
    have HO := hide ho
    clear ho hp HA
    go_wp2
    go_ret2
    exact ⟨_, by rw [HN.out]; rfl, by rw [HN.out]; exact HO.out, hb⟩
end Go.Proofs.YtcclbejpgiogaaaGreatDoor
namespace Go.Proofs.YtcclbejpgiogaaaGreatDoor
open Go.RowKit
set_option linter.unusedSectionVars false
variable [∀ (a b c d : Int), Decidable (Ok4 a b c d)]
variable [∀ (a b c d : Nat), Decidable (okN a b c d)]

def OkT (x : T4) : Prop := Ok4 x.1 x.2.1 x.2.2.1 x.2.2.2
variable [∀ (x : T4), Decidable (OkT x)]
def txT (x : T4) : ByteArray := txt x.1 x.2.1 x.2.2.1 x.2.2.2
def accT (xs : List T4) : Nat → List UInt8
 | 0 => []
 | k + 1 => (if 0 < k then accT xs k ++ [44] else accT xs k) ++ (txT (xs.getD k (0, 0, 0, 0))).data.toList
def txsT (xs : List T4) : ByteArray := if ∀ x ∈ xs, OkT x then toB (accT xs xs.length) else ⟨#[]⟩
theorem ok_nat {a b c d : Int} (h : Ok4 a b c d) : ∃ a' b' c' d' : Nat, a = a' ∧ b = b' ∧ c = c' ∧ d = d' := by
 obtain ⟨⟨a1, _⟩, ⟨b1, _⟩, ⟨c1, _⟩, ⟨d1, _⟩⟩ := h
 exact ⟨a.toNat, b.toNat, c.toNat, d.toNat, by omega, by omega, by omega, by omega⟩
theorem txT_size (x : T4) : (txT x).size ≤ 27 := by
 unfold txT txt
 split
 ·rename_i h
  obtain ⟨a, b, c, d⟩ := x
  obtain ⟨⟨a1, a2⟩, ⟨b1, b2⟩, ⟨c1, c2⟩, ⟨d1, d2⟩⟩ := h
  simp only at *
  have za := dg_size a (by omega) (by omega)
  have zb := dg_size b (by omega) (by omega)
  have zc := dg_size c (by omega) (by omega)
  have zd := dg_size d (by omega) (by omega)
  have o : ∀ c : UInt8, (⟨#[c]⟩ : ByteArray).size = 1 := fun _ => rfl
  unfold txs dg
  rw [ByteArray.size_append, ByteArray.size_append, ByteArray.size_append, ByteArray.size_append, ByteArray.size_append, ByteArray.size_append, o, o, o]
  omega
 ·exact Nat.zero_le _
theorem txT_ne {x : T4} (h : OkT x) : txT x ≠ ⟨#[]⟩ := by
 unfold txT txt
 obtain ⟨a, b, c, d⟩ := x
 show (if Ok4 a b c d then txs a b c d else (⟨#[]⟩ : ByteArray)) ≠ _
 rw [if_pos (show Ok4 a b c d from h)]
 obtain ⟨a', b', c', d', rfl, rfl, rfl, rfl⟩ := ok_nat h
 rw [txs_toB]
 intro e
 have := congrArg (fun s : ByteArray => s.data.toList) e
 exact txl_ne a' b' c' d' this
theorem size_len (s : ByteArray) : s.data.toList.length = s.size := by simp
theorem accT_len (xs : List T4) (k : Nat) : (accT xs k).length ≤ k * 28 := by
 induction k with
 | zero => simp [accT]
 | succ k ih =>
  have := txT_size (xs.getD k (0, 0, 0, 0))
  have e := size_len (txT (xs.getD k (0, 0, 0, 0)))
  rw [accT]
  split <;> simp only [List.length_append, List.length_cons, List.length_nil, e] <;> omega
theorem txsT_no {xs : List T4} {k : Nat} (hk : k < xs.length) (h : ¬ OkT (xs.getD k (0, 0, 0, 0))) : txsT xs = ⟨#[]⟩ := by
 unfold txsT
 rw [if_neg]
 intro ha
 exact h (ha _ (by rw [List.getD_eq_getElem?_getD, List.getElem?_eq_getElem hk]; exact List.getElem_mem hk))
theorem txsT_yes {xs : List T4} (h : ∀ k, k < xs.length → OkT (xs.getD k (0, 0, 0, 0))) : txsT xs = toB (accT xs xs.length) := by
 unfold txsT
 rw [if_pos]
 intro x hx
 obtain ⟨k, hk, rfl⟩ := List.mem_iff_getElem.1 hx
 have := h k hk
 rwa [List.getD_eq_getElem?_getD, List.getElem?_eq_getElem hk] at this
theorem toB_append (x y : List UInt8) : toB x ++ toB y = toB (x ++ y) := by
 apply ByteArray.ext; apply Array.toList_inj.1; simp [toB]
theorem ne2 {s : ByteArray} (hz : s ≠ ⟨#[]⟩) : (s.toList == []) = false := by
 rw [beq_eq_false_iff_ne]; intro e; apply hz; apply ByteArray.ext; apply Array.toList_inj.1; rw [ByteArray.toList_eq] at e; exact e

theorem specTxsText (v : Value) (xs : List T4) (w : World) (hx : xs.length ≤ 1048577) (h : RT w v xs) :
 Calls Tryz.prog 128 #[v] w fun e w' => e = .returned (.string (txsT xs)) ∧ Below w.heap.size w w' := by
 obtain ⟨hl, ao, ca, rfl, ha⟩ := h
 go_enter Tryz.func128, Tryz.ntmps128
 go_wp2
 go_loopw [3, 4] (fun o i wr => ∃ k : Nat, k ≤ xs.length ∧ i = .int .i64 k ∧ o = .string (toB (accT xs k)) ∧ Hid (∀ j, j < k → OkT (xs.getD j (0, 0, 0, 0))) ∧ Below w.heap.size w wr) (fun _ i _ => xs.length - (intOf i).toNat)
 case atStart => exact ⟨0, Nat.zero_le _, rfl, rfl, hide (fun j hj => by omega), Below.refl _ _⟩
 case round =>
  obtain ⟨k, hk, rfl, rfl, HK, br⟩ := hrel
  have hsr := br.size
  by_cases hlt : k < xs.length
  ·rcases ha with ha | ⟨g, rfl, ha⟩
   ·subst ha; simp at hlt
   obtain ⟨a0, a1, a2, a3⟩ := ha k hlt
   have hg : g < w.heap.size := cell_lt a0
   have c0 := (br.cell (p := ⟨g, k * 4, none⟩) hg).trans a0
   have c1 := (br.cell (p := ⟨g, k * 4 + 1, none⟩) hg).trans a1
   have c2 := (br.cell (p := ⟨g, k * 4 + 2, none⟩) hg).trans a2
   have c3 := (br.cell (p := ⟨g, k * 4 + 3, none⟩) hg).trans a3
   have hal := accT_len xs k
   have hts := txT_size (xs.getD k (0, 0, 0, 0))
   have HS : Hid (accT xs (k + 1) = (if 0 < k then accT xs k ++ [44] else accT xs k) ++ (txT (xs.getD k (0, 0, 0, 0))).data.toList) := rfl
   have HNO := hide (fun h => txsT_no hlt h)
   clear ha
   generalize hxk : xs.getD k (0, 0, 0, 0) = x at *
   obtain ⟨xa, xb, xc, xd⟩ := x
   simp only at c0 c1 c2 c3 a0 a1 a2 a3
   by_cases hok : OkT (xa, xb, xc, xd)
   ·have CK := hide fun w => specTxOk_yes xa xb xc xd w hok
    have CT := hide fun w => specTxText xa xb xc xd w
    have HK' : Hid (∀ j, j < k + 1 → OkT (xs.getD j (0, 0, 0, 0))) := fun j hj => by
     by_cases e : j = k
     ·subst e; rw [hxk]; exact hok
     ·exact HK.out j (by omega)
    have htx : txT (xa, xb, xc, xd) = txt xa xb xc xd := rfl
    rw [htx] at HS hts
    clear htx HK HNO hok hxk
    generalize txt xa xb xc xd = t at *
    go_wp2_with fail
    refine (CK.out _).mono ?_
    rintro e w1 ⟨rfl, b1⟩
    have b1' := br.trans (b1.mono hsr)
    have s1 := b1.size
    have d0 := (b1'.cell (p := ⟨g, k * 4, none⟩) hg).trans a0
    have d1 := (b1'.cell (p := ⟨g, k * 4 + 1, none⟩) hg).trans a1
    have d2 := (b1'.cell (p := ⟨g, k * 4 + 2, none⟩) hg).trans a2
    have d3 := (b1'.cell (p := ⟨g, k * 4 + 3, none⟩) hg).trans a3
    clear a0 a1 a2 a3 c0 c1 c2 c3
    by_cases hk0 : 0 < k
    ·obtain ⟨u, hu⟩ : ∃ u, u = toB (accT xs k ++ [44]) := ⟨_, rfl⟩
     have us : u.size ≤ k * 28 + 1 := by rw [hu, toB_size]; simp; omega
     have q1 : ∀ w, (Op.stringOp .add (toB (accT xs k)) (⟨#[44]⟩ : ByteArray)).run Tryz.prog w = .ok (.string u) w := fun w => by
      rw [run_string_add_sum w _ _ (by rw [toB_size]; show _ + 1 ≤ _; omega), hu, ← toB_append]; rfl
     have q2 : ∀ w, (Op.stringOp .add u t).run Tryz.prog w = .ok (.string (toB (accT xs (k + 1)))) w := fun w => by
      rw [run_string_add_sum w _ _ (by omega), HS.out, if_pos hk0, hu]
      rw [← toB_data t, toB_append, toB_data t]
     clear hu us HS
     generalize toB (accT xs k) = ok at *
     generalize hnx : toB (accT xs (k + 1)) = ok' at *
     go_wp2_with fail
     refine (CT.out _).mono ?_
     rintro e w2 ⟨rfl, b2⟩
     have b2' := b1'.trans (b2.mono (by omega))
     go_wp2
     go_roundw
     case rel => exact ⟨k + 1, by omega, by go_num, by rw [hnx], HK', b2'⟩
     case measure => simp [intOf]; omega
    ·have q2 : ∀ w, (Op.stringOp .add (toB (accT xs k)) t).run Tryz.prog w = .ok (.string (toB (accT xs (k + 1)))) w := fun w => by
      rw [run_string_add_sum w _ _ (by rw [toB_size]; omega), HS.out, if_neg hk0]
      rw [← toB_data t, toB_append, toB_data t]
     clear HS
     generalize toB (accT xs k) = ok at *
     generalize hnx : toB (accT xs (k + 1)) = ok' at *
     go_wp2_with fail
     refine (CT.out _).mono ?_
     rintro e w2 ⟨rfl, b2⟩
     have b2' := b1'.trans (b2.mono (by omega))
     go_wp2
     go_roundw
     case rel => exact ⟨k + 1, by omega, by go_num, by rw [hnx], HK', b2'⟩
     case measure => simp [intOf]; omega
   ·have CK := hide fun w => specTxOk_no xa xb xc xd w hok
    have HN := hide (HNO.out hok)
    clear HNO HK HS hok
    generalize toB (accT xs k) = ok at *
    go_wp2_with fail
    refine (CK.out _).mono ?_
    rintro e w1 ⟨rfl, b1⟩
    go_wp2
    go_ret
    exact ⟨by rw [HN.out]; rfl, br.trans (b1.mono hsr)⟩
  ·have hkn : k = xs.length := by omega
   have HY : Hid (txsT xs = toB (accT xs k)) := by rw [hkn]; rw [hkn] at HK; exact txsT_yes HK.out
   clear HK ha
   generalize toB (accT xs k) = ok at *
   go_wp2
   go_ret
   exact ⟨by rw [HY.out]; rfl, br⟩
end Go.Proofs.YtcclbejpgiogaaaGreatDoor
namespace Go.Proofs.YtcclbejpgiogaaaGreatDoor
open Go.RowKit
set_option linter.unusedSectionVars false
variable [∀ (a b c d : Int), Decidable (Ok4 a b c d)]
variable [∀ (a b c d : Nat), Decidable (okN a b c d)]
variable [∀ (x : T4), Decidable (OkT x)]

theorem c4_grown {w w' : World} {r g : Nat} {a b c d : Int} (h : Cells4 w r a b c d) (hg : w.grownBy w' (some g)) (hr : r ≠ g) : Cells4 w' r a b c d :=
 ⟨hg.cell h.1 (by simpa using hr), hg.cell h.2.1 (by simpa using hr), hg.cell h.2.2.1 (by simpa using hr), hg.cell h.2.2.2 (by simpa using hr)⟩
theorem fr_grown {w w' : World} {r g : Nat} (h : ∀ j, w.frozen? ⟨r, j, none⟩ = false) (hl : r < w.heap.size) (hg : w.grownBy w' (some g)) (hr : r ≠ g) : ∀ j, w'.frozen? ⟨r, j, none⟩ = false := fun j =>
 (World.frozen?_of_block (a := ⟨r, j, none⟩) (hg.block r hl (by simpa using hr))).trans (h j)
theorem grown_set {w w' : World} {row : Option Nat} (h : w.grownBy w' row) {r : Nat} (hr : w.heap.size ≤ r) (j : Nat) (v : Value) : w.grownBy (w'.setCell ⟨r, j, none⟩ v) row :=
 grown_new h (set_grown w' r j v) (fun k e => by simp at e; omega)
theorem Cur.set {w : World} {base g ca : Nat} {ao : Option Addr} {xs : List Int} (h : Cur w base g ao ca xs) {r : Nat} (hr : g < r) (j : Nat) (v : Value) : Cur (w.setCell ⟨r, j, none⟩ v) base g ao ca xs :=
 h.grownNew (set_grown w r j v) (fun k e => by simp at e; omega)

theorem drawRight (base g ca : Nat) (ao : Option Addr) (xs : List Int) (w : World) (hB : base ≤ w.heap.size) (h : Cur w base g ao ca xs) :
 Calls Tryz.prog 89 #[.pointer (some ⟨g, 0, none⟩)] w fun e w' => ∃ a b c d : Int, e = .returned (txv a b c d) ∧ Cur w' base g ao ca xs ∧ w.grownBy w' (some g) := by
 have hlt := h.lt
 have h0 := h.alloc hB (.cells #[.int .i64 0, .int .i64 0, .int .i64 0, .int .i64 0] 123)
 have g0 := World.grownBy_alloc w (.cells #[.int .i64 0, .int .i64 0, .int .i64 0, .int .i64 0] 123) (some g)
 have z0 := cells4_new w 0 0 0 0 123
 have f0 : ∀ j, (w.alloc (.cells #[.int .i64 0, .int .i64 0, .int .i64 0, .int .i64 0] 123)).frozen? ⟨w.heap.size, j, none⟩ = false := fun j => by simp [go_sem]
 clear h
 have P := hide (And.intro h0 (And.intro g0 (And.intro z0 f0)))
 clear h0 g0 z0 f0
 go_enter Tryz.func89, Tryz.ntmps89
 go_wp2_with fail
 refine (below_any base g ca ao xs 4 _ (by simp; omega) (by omega) (by omega) P.out.1).mono ?_
 rintro e w1 ⟨a, rfl, _, _, c1, e1⟩
 have P1 := hide (And.intro c1 (And.intro (grown_trans P.out.2.1 e1) (And.intro (c4_grown P.out.2.2.1 e1 (by omega)) (fr_grown P.out.2.2.2 (by simp) e1 (by omega)))))
 have s1 : w.heap.size + 1 ≤ w1.heap.size := by have := e1.size; simp at this; omega
 clear P c1 e1
 go_wp2_with fail
 refine (below_any base g ca ao xs 4 _ (by omega) (by omega) (by omega) P1.out.1).mono ?_
 rintro e w2 ⟨b, rfl, _, _, c2, e2⟩
 have P2 := hide (And.intro c2 (And.intro (grown_trans P1.out.2.1 e2) (And.intro (c4_grown P1.out.2.2.1 e2 (by omega)) (fr_grown P1.out.2.2.2 (by omega) e2 (by omega)))))
 have s2 : w.heap.size + 1 ≤ w2.heap.size := by have := e2.size; omega
 clear P1 c2 e2
 go_wp2_with fail
 refine (pickInt_lit base g ca ao xs [0, 5, 60, 100, 1000] w2 (by omega) (by decide) (by decide) P2.out.1).mono ?_
 rintro e w3 ⟨c, rfl, _, c3, e3⟩
 have P3 := hide (And.intro c3 (And.intro (grown_trans P2.out.2.1 e3) (And.intro (c4_grown P2.out.2.2.1 e3 (by omega)) (fr_grown P2.out.2.2.2 (by omega) e3 (by omega)))))
 have s3 : w.heap.size + 1 ≤ w3.heap.size := by have := e3.size; omega
 clear P2 c3 e3
 go_wp2_with fail
 refine (below_any base g ca ao xs 3 _ (by omega) (by omega) (by omega) P3.out.1).mono ?_
 rintro e w4 ⟨d, rfl, _, _, c4, e4⟩
 have gg := grown_trans P3.out.2.1 e4
 obtain ⟨z0, z1, z2, z3⟩ := c4_grown P3.out.2.2.1 e4 (by omega)
 have zf := fr_grown P3.out.2.2.2 (by omega) e4 (by omega)
 have HC := hide c4
 clear P3 e4 c4
 go_wp2
 refine bodyPost_ret (v := txv a b c d) (by simp [results, Tryz.results89, go_sem, z0, z1, z2, z3]) rfl ?_
 exact ⟨a, b, c, d, rfl, (((HC.out.set (by omega) _ _).set (by omega) _ _).set (by omega) _ _).set (by omega) _ _, grown_set (grown_set (grown_set (grown_set gg (Nat.le_refl _) _ _) (Nat.le_refl _) _ _) (Nat.le_refl _) _ _) (Nat.le_refl _) _ _⟩

theorem OT.grown {w w' : World} {base g : Nat} {v : Value} {xs : List T4} (h : OT w base v xs) (hg : w.grownBy w' (some g)) (hlt : g < base) : OT w' base v xs :=
 World.ownsRow.kept h hg (by
  cases hv : v.ownBlock with
  | none => exact .inl rfl
  | some k => exact .inr fun e => by have := (World.ownsRow.lt h k hv).1; simp at e; omega)

def dents : List ByteArray := [⟨#[48]⟩, ⟨#[44]⟩, ⟨#[62]⟩, ⟨#[47]⟩, ⟨#[124]⟩, ⟨#[120]⟩, ⟨#[49]⟩]
theorem dents_size {q : ByteArray} (h : q ∈ dents) : q.size = 1 := by
 simp only [dents, List.mem_cons, List.not_mem_nil, or_false] at h
 rcases h with rfl | rfl | rfl | rfl | rfl | rfl | rfl <;> rfl

theorem cur_drew {w : World} {base g ca : Nat} {ao : Option Addr} {xs : List Int} (h : Cur w base g ao ca xs) : Cur w.drew base g ao ca xs := ⟨h.low, h.len, h.cells, h.code⟩
theorem grown_undrew {w w' : World} {row : Option Nat} (h : w.drew.grownBy w' row) : w.grownBy w' row := ⟨h.os, h.tape, h.output, h.size, h.block⟩

theorem below_far (base g ca : Nat) (ao : Option Addr) (xs : List Int) (n : Int) (w : World) (hB : base ≤ w.heap.size) (hn : 257 ≤ n) (hm : n ≤ 1000000) (h : Cur w base g ao ca xs) :
 Calls Tryz.prog 41 #[.pointer (some ⟨g, 0, none⟩), .int .i64 n] w fun e w' => ∃ x : Int, e = .returned (.int .i64 x) ∧ 0 ≤ x ∧ x < n ∧ Cur w' base g ao ca xs ∧ w.grownBy w' (some g) := by
 have H0 := hide h
 clear h
 go_enter Tryz.func41, Tryz.ntmps41
 go_wp2_with fail
 refine (byte_any base g ca ao xs _ (by omega) H0.out).mono ?_
 rintro e w1 ⟨x1, rfl, a0, a1, c1, g1⟩
 have s1 := g1.size
 have H1 := hide (And.intro c1 g1)
 clear H0 c1 g1
 go_wp2_with fail
 refine (byte_any base g ca ao xs _ (by omega) H1.out.1).mono ?_
 rintro e w2 ⟨x2, rfl, b0, b1, c2, g2⟩
 have s2 := g2.size
 have H2 := hide (And.intro c2 (grown_trans H1.out.2 g2))
 clear H1 c2 g2
 go_wp2_with fail
 refine (byte_any base g ca ao xs _ (by omega) H2.out.1).mono ?_
 rintro e w3 ⟨x3, rfl, d0, d1, c3, g3⟩
 have s3 := g3.size
 have H3 := hide (And.intro c3 (grown_trans H2.out.2 g3))
 clear H2 c3 g3
 go_wp2_with fail
 refine (byte_any base g ca ao xs _ (by omega) H3.out.1).mono ?_
 rintro e w4 ⟨x4, rfl, f0, f1, c4, g4⟩
 have H4 := hide (And.intro c4 (grown_trans H3.out.2 g4))
 clear H3 c4 g4
 go_wp2
 go_ret
 exact ⟨_, rfl, Int.emod_nonneg _ (by omega), Int.emod_lt_of_pos _ (by omega), H4.out.1, H4.out.2⟩
theorem below_all (base g ca : Nat) (ao : Option Addr) (xs : List Int) (n : Int) (w : World) (hB : base ≤ w.heap.size) (hn : 1 ≤ n) (hm : n ≤ 1000000) (h : Cur w base g ao ca xs) :
 Calls Tryz.prog 41 #[.pointer (some ⟨g, 0, none⟩), .int .i64 n] w fun e w' => ∃ x : Int, e = .returned (.int .i64 x) ∧ 0 ≤ x ∧ x < n ∧ Cur w' base g ao ca xs ∧ w.grownBy w' (some g) := by
 by_cases h1 : n ≤ 256
 ·exact below_any base g ca ao xs n w hB hn h1 h
 ·exact below_far base g ca ao xs n w hB (by omega) hm h

theorem dent_cur (base g ca : Nat) (ao : Option Addr) (xs : List Int) (s : ByteArray) (w : World) (hB : base ≤ w.heap.size) (hs : s.size ≤ 4000) (h : Cur w base g ao ca xs) :
 Calls Tryz.prog 108 #[.pointer (some ⟨g, 0, none⟩), .string s] w fun e w' => ∃ t : ByteArray, e = .returned (.string t) ∧ t.size ≤ 8001 ∧ Cur w' base g ao ca xs ∧ w.grownBy w' (some g) := by
 have P := hide h
 clear h
 go_enter Tryz.func108, Tryz.ntmps108
 go_wp2_with fail
 refine (below_all base g ca ao xs ((s.size : Int) + 1) _ hB (by omega) (by omega) P.out).mono ?_
 rintro e w1 ⟨a, rfl, a0, a1, c1, e1⟩
 have P1 := hide (And.intro c1 e1)
 have s1 := e1.size
 clear P c1 e1
 obtain ⟨at', rfl⟩ := Int.eq_ofNat_of_zero_le a0
 have hat : at' ≤ s.size := by omega
 clear a0 a1
 go_wp2_with fail
 refine (below_any base g ca ao xs 5 _ (by omega) (by omega) (by omega) P1.out.1).mono ?_
 rintro e w2 ⟨k, rfl, k0, k1, c2, e2⟩
 have s2 := e2.size
 have gg := grown_trans P1.out.2 e2
 have HC := hide c2
 clear P1 c2 e2
 have z1 : (s.extract 0 at').size ≤ s.size := ext_size s 0 at'
 have z2 : (s.extract at' s.size).size ≤ s.size := ext_size s at' s.size
 by_cases h0 : k = 0
 ·subst h0
  go_wp2
  go_ret
  exact ⟨_, rfl, by omega, HC.out, gg⟩
 ·have n0 : (k == 0) = false := by simp [h0]
  by_cases h1 : k = 1
  ·subst h1
   clear h0
   obtain ⟨u, hu⟩ : ∃ u, s.extract 0 at' = u := ⟨_, rfl⟩
   obtain ⟨v, hv⟩ : ∃ v, s.extract at' s.size = v := ⟨_, rfl⟩
   have t1 : ∀ w', (Instr.slice 9 (.string s) none (some (.int .i64 (at' : Int))) none).run Tryz.prog w' = .ok (.string u) w' := fun w' => by
    rw [← hu]; simp [Instr.slice, go_sem, run_underlying Tryz.underlying9, hat]
   have t2 : ∀ w', (Instr.slice 9 (.string s) (some (.int .i64 (at' : Int))) none none).run Tryz.prog w' = .ok (.string v) w' := fun w' => by
    rw [← hv]; simp [Instr.slice, go_sem, run_underlying Tryz.underlying9, hat]
   have zu : u.size ≤ 4000 := by rw [← hu]; omega
   have zv : v.size ≤ 4000 := by rw [← hv]; omega
   clear hu hv z1 z2 hat
   go_wp2_with fail
   go_region_held3 (fun _ => True) (trivial) (first
    | (go_at_call 130; refine (pick_lit base g ca ao xs dents w2.drew (by simp; omega) (by decide) (by decide) (cur_drew HC.out)).mono ?_; rintro e w3 ⟨q, rfl, hq, c3, e3⟩
       have zq := dents_size hq
       have HC3 := hide c3
       clear c3
       have gg3 := grown_trans gg (grown_undrew e3)
       obtain ⟨y1, hy1⟩ : ∃ y, y = u ++ q := ⟨_, rfl⟩
       obtain ⟨y2, hy2⟩ : ∃ y, y = y1 ++ v := ⟨_, rfl⟩
       have zy1 : y1.size ≤ 4001 := (by rw [hy1, ByteArray.size_append]; omega)
       have zy2 : y2.size ≤ 8001 := (by rw [hy2, ByteArray.size_append]; omega)
       have q1 : ∀ w', (Op.stringOp .add u q).run Tryz.prog w' = .ok (.string y1) w' := (fun w' => by rw [hy1]; exact run_string_add_sum w' _ _ (by omega))
       have q2 : ∀ w', (Op.stringOp .add y1 v).run Tryz.prog w' = .ok (.string y2) w' := (fun w' => by rw [hy2]; exact run_string_add_sum w' _ _ (by omega))
       clear hy1 hy2))
   all_goals
    go_wp2
    go_ret
    exact ⟨_, rfl, zy2, HC3.out, gg3⟩
  ·have n1 : (k == 1) = false := by simp [h1]
   clear h0 h1
   go_wp2
   go_ret
   exact ⟨_, rfl, by omega, HC.out, gg⟩
end Go.Proofs.YtcclbejpgiogaaaGreatDoor
namespace Go.Proofs
open Go.Shelf
def Tryz.lays217_ren : Go.Shelf.Ren := ⟨fun | 217 => 154 | 266 => 164 | n => n, fun | 9 => 9 | 5 => 5 | 3 => 3 | n => n, fun | n => n⟩
theorem Tryz.lays217 : Go.Proofs.Lays.n217 Tryz.prog Tryz.lays217_ren := {
 mixed := by kernel_rfl
 f217 := Tryz.func154.trans (congrArg some (by kernel_rfl))
 f266 := Tryz.func164.trans (congrArg some (by kernel_rfl))
 t3 := Tryz.underlying3
 a3 := Tryz.isAgg3
 z3 := Tryz.sizeOf3
 v3 := Tryz.zeroValue3
 t5 := Tryz.underlying5
 a5 := Tryz.isAgg5
 z5 := Tryz.sizeOf5
 v5 := Tryz.zeroValue5
 t9 := Tryz.underlying9
 a9 := Tryz.isAgg9
 z9 := Tryz.sizeOf9
 v9 := Tryz.zeroValue9 }
open Go.RowKit Go.Lib in
theorem Tryz.stringslite_IndexByte (s : ByteArray) (c : Int) (w : World) :
 Calls Tryz.prog 154 #[.string s, .int .u8 c] w fun e w' => e = .returned (.int .i64 (Lib.indexByte s.data.toList c.toNat.toUInt8)) ∧ w' = w := Any.stringslite_IndexByte Tryz.lays217 s c w
def Tryz.lays103_ren : Go.Shelf.Ren := ⟨fun | 103 => 143 | 210 => 148 | 206 => 158 | n => n, fun | 9 => 9 | 4 => 4 | 24 => 131 | 3 => 3 | n => n, fun | n => n⟩
theorem Tryz.lays103 : Go.Proofs.Lays.n103 Tryz.prog Tryz.lays103_ren := {
 mixed := by kernel_rfl
 f103 := Tryz.func143.trans (congrArg some (by kernel_rfl))
 f206 := Tryz.func158.trans (congrArg some (by kernel_rfl))
 f210 := Tryz.func148.trans (congrArg some (by kernel_rfl))
 t3 := Tryz.underlying3
 a3 := Tryz.isAgg3
 z3 := Tryz.sizeOf3
 v3 := Tryz.zeroValue3
 t4 := Tryz.underlying4
 a4 := Tryz.isAgg4
 z4 := Tryz.sizeOf4
 v4 := Tryz.zeroValue4
 t9 := Tryz.underlying9
 a9 := Tryz.isAgg9
 z9 := Tryz.sizeOf9
 v9 := Tryz.zeroValue9
 t24 := Tryz.underlying131
 a24 := Tryz.isAgg131
 z24 := Tryz.sizeOf131
 v24 := Tryz.zeroValue131 }
open Go.RowKit in
theorem Tryz.strings_CutPrefix (s p : ByteArray) (w : World) :
 Calls Tryz.prog 143 #[.string s, .string p] w fun e w' => e = .returned (.tuple #[.string ⟨(Lib.trimPrefix s.data.toList p.data.toList).toArray⟩, .bool (Lib.hasPrefix s.data.toList p.data.toList)]) ∧ w' = w := Any.strings_CutPrefix Tryz.lays103 s p w
end Go.Proofs
namespace Go.Proofs.YtcclbejpgiogaaaGreatDoor
open Go.RowKit
set_option linter.unusedSectionVars false
variable [∀ (a b c d : Int), Decidable (Ok4 a b c d)]
variable [∀ (a b c d : Nat), Decidable (okN a b c d)]

abbrev St := Int × List T4
abbrev zst : St := (0, [])
def stepOf (p : ByteArray) : Option St :=
 if (124 : UInt8) ∈ p.data.toList then (numOf (hd 124 p.data.toList)).bind fun n => (txsAns (toB (tl 124 p.data.toList))).map fun ts => ((n : Int), ts) else none
def GoodSt (last : Int) (s : St) : Prop := last < s.1 ∧ s.1 ≤ 60 ∧ s.2.length ≤ 2
variable [∀ (last : Int) (s : St), Decidable (GoodSt last s)]
def stepAcc (o : Option (Int × List St)) (p : ByteArray) : Option (Int × List St) := o.bind fun q => (stepOf p).bind fun s => if GoodSt q.1 s then some (s.1, q.2 ++ [s]) else none
def stepsRun (ps : List ByteArray) : Option (Int × List St) := ps.foldl stepAcc (some (0, []))
def stepsAns (s : ByteArray) : Option (List St) :=
 if s = ⟨#[]⟩ then some []
 else if (splitAns s 47).getD 0 ByteArray.empty = ⟨#[]⟩ ∧ (splitAns s 47).length ≤ 31 then (stepsRun (splitAns s 47).tail).map (·.2) else none
theorem stepsRun_more (ps : List ByteArray) (p : ByteArray) : stepsRun (ps ++ [p]) = stepAcc (stepsRun ps) p := by
 unfold stepsRun; rw [List.foldl_append]; rfl
theorem acc_none (ps : List ByteArray) : ps.foldl stepAcc none = none := by
 induction ps with
 | nil => rfl
 | cons p ps ih => rw [List.foldl_cons]; exact ih
theorem stepsRun_none {ps : List ByteArray} (k : Nat) (h : stepsRun (ps.take k) = none) : stepsRun ps = none := by
 have e : stepsRun ps = (ps.drop k).foldl stepAcc (stepsRun (ps.take k)) := by
  unfold stepsRun
  rw [← List.foldl_append, List.take_append_drop]
 rw [e, h]
 exact acc_none _
theorem stepsRun_ok (ps : List ByteArray) (q : Int × List St) (h : stepsRun ps = some q) : q.2.length = ps.length ∧ (0 ≤ q.1 ∧ q.1 ≤ 60) ∧ (ps.length : Int) ≤ q.1 ∧ ∀ s ∈ q.2, (1 ≤ s.1 ∧ s.1 ≤ q.1) ∧ s.2.length ≤ 2 := by
 generalize hn : ps.length = n
 induction n generalizing ps q with
 | zero =>
  have : ps = [] := List.length_eq_zero_iff.1 hn
  subst this
  cases h
  exact ⟨rfl, by simp, by simp, fun s hs => by simp at hs⟩
 | succ n ih =>
  obtain ⟨ps', p, rfl⟩ : ∃ ps' p, ps = ps' ++ [p] := ⟨ps.dropLast, ps.getLast (fun e => by rw [e] at hn; simp at hn), (List.dropLast_concat_getLast _).symm⟩
  rw [stepsRun_more] at h
  unfold stepAcc at h
  cases hr : stepsRun ps' with
  | none => rw [hr] at h; cases h
  | some q' =>
   rw [hr] at h
   cases hs : stepOf p with
   | none => rw [hs] at h; simp at h
   | some s =>
    rw [hs] at h
    simp only [Option.bind_some] at h
    split at h
    ·rename_i hg
     cases h
     obtain ⟨h1, h2, h3, h4⟩ := ih ps' q' hr (by simpa using hn)
     obtain ⟨g1, g2, g3⟩ := hg
     refine ⟨by simp [h1], ⟨by show 0 ≤ s.1; omega, g2⟩, by show (((n + 1 : Nat)) : Int) ≤ s.1; omega, fun y hy => ?_⟩
     rcases List.mem_append.1 hy with hy | hy
     ·obtain ⟨⟨a1, a2⟩, a3⟩ := h4 y hy
      exact ⟨⟨a1, by show y.1 ≤ s.1; omega⟩, a3⟩
     ·simp at hy
      subst hy
      exact ⟨⟨by omega, Int.le_refl _⟩, g3⟩
    ·cases h
end Go.Proofs.YtcclbejpgiogaaaGreatDoor
namespace Go.Proofs.YtcclbejpgiogaaaGreatDoor

def getF (xs : List Int) : Nat → Nat → Nat → Int → Option (Int × Int)
 | 0, _, _, _ => none
 | f + 1, i, p, n =>
  if p < xs.length then
   (if 128 ≤ xs.getD p 0 then getF xs f (i + 1) (p + 1) (n + xs.getD p 0 % 128 * 128 ^ i)
    else if 2147483647 < n + xs.getD p 0 % 128 * 128 ^ i ∨ (xs.getD p 0 = 0 ∧ 0 < i) then none
    else some (n + xs.getD p 0 % 128 * 128 ^ i, (p : Int) + 1))
  else none
def getNum (xs : List Int) (p : Int) : Option (Int × Int) := if p < 0 then none else getF xs 5 0 p.toNat 0

theorem getF_out (xs : List Int) (f i p : Nat) (n : Int) (h : ¬ p < xs.length) : getF xs f i p n = none := by cases f <;> simp [getF, h]
theorem getF_more (xs : List Int) (f i p : Nat) (n : Int) (h : p < xs.length) (hd : 128 ≤ xs.getD p 0) : getF xs (f + 1) i p n = getF xs f (i + 1) (p + 1) (n + xs.getD p 0 % 128 * 128 ^ i) := by
 rw [getF, if_pos h, if_pos hd]
theorem getF_bad (xs : List Int) (f i p : Nat) (n : Int) (h : p < xs.length) (hd : ¬ 128 ≤ xs.getD p 0) (hb : 2147483647 < n + xs.getD p 0 % 128 * 128 ^ i ∨ (xs.getD p 0 = 0 ∧ 0 < i)) : getF xs (f + 1) i p n = none := by
 rw [getF, if_pos h, if_neg hd, if_pos hb]
theorem getF_end (xs : List Int) (f i p : Nat) (n : Int) (h : p < xs.length) (hd : ¬ 128 ≤ xs.getD p 0) (hb : ¬ (2147483647 < n + xs.getD p 0 % 128 * 128 ^ i ∨ (xs.getD p 0 = 0 ∧ 0 < i))) : getF xs (f + 1) i p n = some (n + xs.getD p 0 % 128 * 128 ^ i, (p : Int) + 1) := by
 rw [getF, if_pos h, if_neg hd, if_neg hb]
theorem getF_step {xs : List Int} {f i q : Nat} {n d c : Int} {r : Option (Int × Int)} (hc : (128 : Int) ^ i = c) (hr : r = getF xs (f + 1) i q n) (hq : q < xs.length) (hd : xs.getD q 0 = d) (h1 : 128 ≤ d) : r = getF xs f (i + 1) (q + 1) (n + d % 128 * c) := by
 subst hc; subst hd; rw [hr]; exact getF_more xs f i q n hq h1
theorem getF_no {xs : List Int} {f i q : Nat} {n d c : Int} {r : Option (Int × Int)} (hc : (128 : Int) ^ i = c) (hr : r = getF xs (f + 1) i q n) (hq : q < xs.length) (hd : xs.getD q 0 = d) (h1 : ¬ 128 ≤ d) (hb : 2147483647 < n + d % 128 * c ∨ (d = 0 ∧ 0 < i)) : r = none := by
 subst hc; subst hd; rw [hr]; exact getF_bad xs f i q n hq h1 hb
theorem getF_yes {xs : List Int} {f i q : Nat} {n d c : Int} {r : Option (Int × Int)} (hc : (128 : Int) ^ i = c) (hr : r = getF xs (f + 1) i q n) (hq : q < xs.length) (hd : xs.getD q 0 = d) (h1 : ¬ 128 ≤ d) (hb : ¬ (2147483647 < n + d % 128 * c ∨ (d = 0 ∧ 0 < i))) : r = some (n + d % 128 * c, (q : Int) + 1) := by
 subst hc; subst hd; rw [hr]; exact getF_end xs f i q n hq h1 hb
theorem getNum_neg (xs : List Int) (p : Int) (h : p < 0) : getNum xs p = none := by simp [getNum, h]
theorem getNum_nat (xs : List Int) (p : Nat) : getNum xs p = getF xs 5 0 p 0 := by rw [getNum, if_neg (by omega), Int.toNat_natCast]
theorem or_mul (a b i m : Nat) (hm : m = 2 ^ i) (h : a < m) : a ||| (b * m) = b * m + a := by
 subst hm
 rw [Nat.or_comm, ← Nat.shiftLeft_eq, Nat.shiftLeft_add_eq_or_of_lt h]
theorem i64_or_nat (a b : Nat) (ha : a < 9223372036854775808) (hb : b < 9223372036854775808) : bits .or .i64 (a : Int) (b : Int) = ((a ||| b : Nat) : Int) := by
 have hx : a ||| b < 2 ^ 63 := Nat.or_lt_two_pow (by omega) (by omega)
 show IntKind.i64.wrap ((BitVec.ofInt 64 (a : Int) ||| BitVec.ofInt 64 (b : Int)).toNat : Int) = _
 rw [BitVec.toNat_or, ofInt_u64 a (by omega), ofInt_u64 b (by omega), IntKind.wrap_i64]
 omega
theorem or_sum (n d : Int) (m i : Nat) (hm : m = 2 ^ i) (hs : m ≤ 268435456) (a0 : 0 ≤ n) (b0 : n < m) (a1 : 0 ≤ d) (b1 : d < 128) : bits BinOp.or IntKind.i64 n (d * (m : Int)) = n + d * (m : Int) := by
 obtain ⟨a, rfl⟩ := Int.eq_ofNat_of_zero_le a0
 obtain ⟨b, rfl⟩ := Int.eq_ofNat_of_zero_le a1
 have hbm : b * m ≤ 127 * 268435456 := Nat.mul_le_mul (by omega) hs
 rw [← Int.natCast_mul, i64_or_nat a (b * m) (by omega) (by omega), or_mul a b i m hm (by omega)]
 rw [Int.natCast_add, Int.add_comm]
end Go.Proofs.YtcclbejpgiogaaaGreatDoor
