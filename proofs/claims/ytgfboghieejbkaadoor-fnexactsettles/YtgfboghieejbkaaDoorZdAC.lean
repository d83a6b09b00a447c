/- A range over a function whose rounds are handed what memory holds: the law by which Steps is walked. -/
import Derived.Test.YtgfboghieejbkaaDoorZdAB
import Derived.Test.YtgfboghieejbkaaDoorZdAA
import Derived.Laws.Bits128
import Derived.WalkKit
import Derived.Lib.AppendStr
import Derived.Laws.IdiomStrings
import Derived.Laws.BitsAllLaws
import Derived.Laws.BytesArg
import Derived.Shelf.RegionOpenPlain
import Derived.OwnWalk
import Derived.Maps.AppendAt
import Derived.RangeFuncNested
import Derived.RangeFuncBound
/- TxsOf of the program and of the specification. -/
namespace Go.Proofs.YtgfboghieejbkaaDoor
open Go.RowKit
set_option linter.unusedSectionVars false
variable [∀ (a b c d : Int), Decidable (Ok4 a b c d)]
variable [∀ (a b c d : Nat), Decidable (okN a b c d)]

def toT (q : Nat × Nat × Nat × Nat) : T4 := (q.1, q.2.1, q.2.2.1, q.2.2.2)
/-- The payments of which these are the texts. -/
def allTx : List ByteArray → Option (List T4)
  | [] => some []
  | p :: ps => match txAns p.data.toList with
    | some q => (allTx ps).map (toT q :: ·)
    | none => none
theorem allTx_more (ps : List ByteArray) (p : ByteArray) : allTx (ps ++ [p]) = (allTx ps).bind fun ys => (txAns p.data.toList).map fun q => ys ++ [toT q] := by
  induction ps with
  | nil => rw [List.nil_append, allTx, allTx]; cases txAns p.data.toList <;> simp [allTx]
  | cons r ps ih =>
    rw [List.cons_append, allTx, allTx]
    cases txAns r.data.toList with
    | none => rfl
    | some q => simp only [ih]; cases allTx ps <;> cases txAns p.data.toList <;> simp
theorem allTx_none {ps : List ByteArray} (k : Nat) (h : allTx (ps.take k) = none) : allTx ps = none := by
  rw [← List.take_append_drop k ps]
  generalize ps.drop k = r
  generalize ps.take k = l at h
  induction l with
  | nil => simp [allTx] at h
  | cons x l ih =>
    rw [List.cons_append, allTx]
    rw [allTx] at h
    cases hx : txAns x.data.toList with
    | none => rfl
    | some q => rw [hx] at h; simp at h; simp [ih h]
theorem take_more (ps : List ByteArray) (k : Nat) (hk : k < ps.length) : ps.take (k + 1) = ps.take k ++ [ps.getD k ByteArray.empty] := by
  rw [List.take_succ_eq_append_getElem hk, List.getD_eq_getElem?_getD, List.getElem?_eq_getElem hk]; rfl
/-- What TxsOf answers. -/
def txsAns (s : ByteArray) : Option (List T4) := if s = ⟨#[]⟩ then some [] else allTx (splitAns s 44)
theorem pcs_size (s : ByteArray) (b : Int) (k : Nat) : ∀ p ∈ (pcs s b k).1, p.size ≤ s.size := by
  induction k with
  | zero => simp [pcs]
  | succ k ih =>
    rw [pcs]; split
    · intro p hp
      rw [List.mem_append] at hp
      rcases hp with hp | hp
      · exact ih p hp
      · simp at hp; rw [hp]; exact ext_size s _ _
    · exact ih
theorem split_size (s : ByteArray) (b : Int) : ∀ p ∈ splitAns s b, p.size ≤ s.size := by
  intro p hp
  unfold splitAns at hp
  rw [List.mem_append] at hp
  rcases hp with hp | hp
  · exact pcs_size s b _ p hp
  · simp at hp; rw [hp]; exact ext_size s _ _
theorem getD_mem {ps : List ByteArray} {k : Nat} (hk : k < ps.length) : ps.getD k ByteArray.empty ∈ ps := by
  rw [List.getD_eq_getElem?_getD, List.getElem?_eq_getElem hk]; exact List.getElem_mem hk

theorem Tryd.infoTx : (Tryd.prog.info? 45).map (fun i => (i.zero, i.size, i.bytes)) = some (some (txv 0 0 0 0), 4, 32) := by kernel_rfl
theorem four_cell (w : World) (x : T4) (t : TypeId) (j : Nat) (u : Value) (h : (tcell x)[j]? = some u) : (w.alloc (.cells #[.int .i64 x.1, .int .i64 x.2.1, .int .i64 x.2.2.1, .int .i64 x.2.2.2] t)).cell? ((⟨w.heap.size, 0, none⟩ : Addr).add j) = some u := by
  match j, h with
  | 0, h => simp [tcell] at h; subst h; simp [Addr.add]
  | 1, h => simp [tcell] at h; subst h; simp [Addr.add]
  | 2, h => simp [tcell] at h; subst h; simp [Addr.add]
  | 3, h => simp [tcell] at h; subst h; simp [Addr.add]
  | j + 4, h => simp [tcell] at h
theorem four_plain (x : T4) (u : Value) (h : u ∈ tcell x) : u.oneCell' = true := by
  simp [tcell] at h; rcases h with rfl | rfl | rfl | rfl <;> rfl
/-- A list of texts and a list of payments lie in two blocks. -/
theorem os_ot {w : World} {B B' : Nat} {v u : Value} {ps : List ByteArray} {ys : List T4} (h : OS w B v ps) (h' : OT w B' u ys) : v.ownBlock = none ∨ v.ownBlock ≠ u.ownBlock := by
  rcases h.2 with ⟨rfl, _⟩ | ⟨g, cap, cur, rfl, _, hg, _⟩
  · exact .inl rfl
  · rcases h'.2 with ⟨rfl, _⟩ | ⟨g', cap', cur', rfl, _, hg', _⟩
    · exact .inr (by simp [Value.ownBlock])
    · refine .inr fun e => ?_
      simp [Value.ownBlock] at e
      rw [e, hg'] at hg
      simp at hg
/-- One payment more behind what is owned. -/
theorem ot_more {B : Nat} {w wr w1 : World} {v v' : Value} {xs : List T4} {x : T4} (hB : B ≤ wr.heap.size) (ho : OT wr B v xs) (hb : Below B w wr)
    (ho' : w1.ownsRow B 45 4 v' (xs.length + 1) (tcells xs ++ tcell x)) (hg : wr.grownBy w1 v.ownBlock) :
    OT w1 B v' (xs ++ [x]) ∧ Below B w w1 :=
  ⟨by unfold OT; rw [tcells_append, List.length_append]; simpa [tcells] using ho', hb.grown hg hB (fun j hj => (ho.lt j hj).1)⟩
theorem os_alloc {w : World} {B : Nat} {v : Value} {xs : List ByteArray} (h : OS w B v xs) (o : Obj) : OS (w.alloc o) B v xs := World.ownsRow.alloc h o
theorem ot_alloc {w : World} {B : Nat} {v : Value} {xs : List T4} (h : OT w B v xs) (o : Obj) : OT (w.alloc o) B v xs := World.ownsRow.alloc h o
theorem os_cell {w : World} {B g n cap : Nat} {ps : List ByteArray} (h : OS w B (.slice (some ⟨g, 0, none⟩) n cap) ps) (hn : n = ps.length) (k : Nat) (hk : k < ps.length) : w.cell? ⟨g, k, none⟩ = some (.string (ps.getD k ByteArray.empty)) := by
  subst hn
  rw [World.ownsRow.cellAt h k (by omega)]; simp [List.getElem?_eq_getElem hk]

set_option maxHeartbeats 4000000 in
set_option maxRecDepth 100000 in
theorem implTxsOf (s : ByteArray) (w : World) (hs : s.size ≤ 33554432) (hE : Env w) :
    Calls Tryd.prog 38 #[.string s] w fun e w' => ∃ v, e = .returned (.tuple #[v, .bool (txsAns s).isSome]) ∧ OT w' w.heap.size v ((txsAns s).getD []) ∧ Below w.heap.size w w' := by
  obtain ⟨i0, hi, hz0, hz1, hz2⟩ := info_parts Tryd.infoTx
  unfold txsAns
  by_cases hz : s = ⟨#[]⟩
  · rw [if_pos hz]
    subst hz
    go_enter Tryd.func38, Tryd.ntmps38
    go_wp2
    go_ret2
    exact ⟨_, rfl, World.ownsRow_nil _ _ _ _, Below.refl _ _⟩
  · rw [if_neg hz]
    have hne := str_ne hz
    have hne2 : (s.toList == []) = false := by
      rw [beq_eq_false_iff_ne]; intro e; apply hz; apply ByteArray.ext; apply Array.toList_inj.1; rw [ByteArray.toList_eq] at e; exact e
    have SP := hide fun w => split_any s 44 w hs
    have hpn : 0 < (splitAns s 44).length := by simp [splitAns]
    have hpl := splitAns_len s 44
    have hpz : Hid (∀ p ∈ splitAns s 44, p.size ≤ 33554432) := fun p hp => Nat.le_trans (split_size s 44 p hp) hs
    generalize splitAns s 44 = ps at *
    have HE := hide hE
    clear hE hz
    go_enter Tryd.func38, Tryd.ntmps38
    go_wp2_with fail
    refine (unhide SP _).mono ?_
    rintro e w1 ⟨vp, rfl, op, b1⟩
    rcases op.2 with ⟨_, h0⟩ | ⟨gp, pc, pcur, rfl, _⟩
    · omega
    have OP := hide op
    clear op SP
    go_wp2
    go_loopw [4, 14] (fun v i wr => ∃ (k : Nat) (ys : List T4), k ≤ ps.length ∧ i = .int .i64 k ∧ ys.length = k ∧ Hid (allTx (ps.take k) = some ys) ∧ OT wr w.heap.size v ys ∧ OS wr w.heap.size (.slice (some ⟨gp, 0, none⟩) ps.length pc) ps ∧ Below w.heap.size w wr) (fun _ i _ => ps.length - (intOf i).toNat)
    case atStart => exact ⟨0, [], by omega, rfl, rfl, rfl, World.ownsRow_nil _ _ _ _, unhide OP, b1⟩
    case round =>
      obtain ⟨k, ys, hk, rfl, hyl, HA, ho, hp, hb⟩ := hrel
      have hsz := hb.size
      by_cases hlt : k < ps.length
      · have hc := os_cell hp rfl k hlt
        have hm := hpz.out _ (getD_mem hlt)
        have HT := hide (take_more ps k hlt)
        have CT := hide fun w hE => implTxOf (ps.getD k ByteArray.empty) w hm hE
        have HB := hide (And.intro ho (And.intro hp hb))
        clear ho hp hb hm
        generalize ps.getD k ByteArray.empty = p at *
        cases ht : txAns p.data.toList with
        | none =>
          have HN : Hid (allTx ps = none) := allTx_none (k + 1) (by rw [unhide HT, allTx_more, ht]; cases allTx (ps.take k) <;> rfl)
          rw [ht] at CT
          clear ht HT HA
          go_wp2_with fail
          refine (unhide CT _ ((unhide HE).below (unhide HB).2.2)).mono ?_
          rintro e w2 ⟨rfl, b2⟩
          have hw : Below w.heap.size w (w2.alloc (.cells #[.int .i64 0, .int .i64 0, .int .i64 0, .int .i64 0] 45)) := ((unhide HB).2.2.trans (b2.mono hsz)).alloc (by have := b2.size; omega) _
          unfold txval
          go_wp2
          go_ret2
          exact ⟨_, by rw [HN.out]; rfl, by rw [HN.out]; exact World.ownsRow_nil _ _ _ _, hw⟩
        | some q =>
          obtain ⟨a, b, c, d⟩ := q
          have HN : Hid (allTx (ps.take (k + 1)) = some (ys ++ [((a : Int), (b : Int), (c : Int), (d : Int))])) := by
            show allTx _ = _
            rw [unhide HT, allTx_more, HA.out, ht]; rfl
          rw [ht] at CT
          clear ht HT HA
          go_wp2_with fail
          refine (unhide CT _ ((unhide HE).below (unhide HB).2.2)).mono ?_
          rintro e w2 ⟨rfl, b2⟩
          obtain ⟨ho, hp, hb⟩ := unhide HB
          have s2 := b2.size
          have ho2 := ot_alloc (ot_alloc (ho.below b2) (.cells #[.int .i64 a, .int .i64 b, .int .i64 c, .int .i64 d] 45)) (.cells #[.int .i64 a, .int .i64 b, .int .i64 c, .int .i64 d] 45)
          have hp2 := os_alloc (os_alloc (hp.below b2) (.cells #[.int .i64 a, .int .i64 b, .int .i64 c, .int .i64 d] 45)) (.cells #[.int .i64 a, .int .i64 b, .int .i64 c, .int .i64 d] 45)
          have hb2 : Below w.heap.size w ((w2.alloc (.cells #[.int .i64 a, .int .i64 b, .int .i64 c, .int .i64 d] 45)).alloc (.cells #[.int .i64 a, .int .i64 b, .int .i64 c, .int .i64 d] 45)) := ((hb.trans (b2.mono hsz)).alloc (by omega) _).alloc (by simp; omega) _
          have hdis := os_ot hp2 ho2
          clear ho hp hb HB b2 hc
          unfold txval
          go_wp2_with (first
            | (at_builtin; refine wpList_append_own _ rfl _ _ 28 rfl w.heap.size 45 i0 (txv 0 0 0 0) 4 32 Tryd.underlying28 hi hz0 hz1 hz2 rfl (by decide) _ _ _ rfl ho2 ⟨w2.heap.size + 1, 0, none⟩ 1 1 (tcell ((a : Int), (b : Int), (c : Int), (d : Int))) rfl rfl (by have := four_cell (w2.alloc (.cells #[.int .i64 a, .int .i64 b, .int .i64 c, .int .i64 d] 45)) ((a : Int), (b : Int), (c : Int), (d : Int)) 45; simpa using this) (four_plain _) (by unfold maxLen; omega) (by omega) (by simp; omega) ?_; intro v' w3 ho' hg' _; have R := ot_more (by simp; omega) ho2 hb2 ho' hg'; have RP : OS w3 w.heap.size (.slice (some ⟨gp, 0, none⟩) ps.length pc) ps := World.ownsRow.kept hp2 hg' hdis; clear ho2 ho' hg' hb2 hp2 hdis))
          go_roundw
          case rel => exact ⟨k + 1, _, by omega, by go_num, by simp [hyl], HN, R.1, RP, R.2⟩
          case measure => simp [intOf]; omega
      · have hkn : k = ps.length := by omega
        have HN : Hid (allTx ps = some ys) := by
          have := HA.out
          rw [hkn, List.take_of_length_le (Nat.le_refl _)] at this
          exact this
        have HO := hide ho
        clear ho hp HA
        go_wp2
        go_ret2
        exact ⟨_, by rw [HN.out]; rfl, by rw [HN.out]; exact unhide HO, hb⟩
end Go.Proofs.YtgfboghieejbkaaDoor

/- Steps of a name: plain mathematics. -/
namespace Go.Proofs.YtgfboghieejbkaaDoor
open Go.RowKit
set_option linter.unusedSectionVars false
variable [∀ (a b c d : Int), Decidable (Ok4 a b c d)]
variable [∀ (a b c d : Nat), Decidable (okN a b c d)]

/-- A step: its view, its payments. -/
abbrev St := Int × List T4
abbrev zst : St := (0, [])
/-- The step of which p is the text. -/
def stepOf (p : ByteArray) : Option St :=
  if (124 : UInt8) ∈ p.data.toList then (numOf (hd 124 p.data.toList)).bind fun n => (txsAns (toB (tl 124 p.data.toList))).map fun ts => ((n : Int), ts) else none
def GoodSt (last : Int) (s : St) : Prop := last < s.1 ∧ s.1 ≤ 60 ∧ s.2.length ≤ 2
variable [∀ (last : Int) (s : St), Decidable (GoodSt last s)]
/-- One part more. -/
def stepAcc (o : Option (Int × List St)) (p : ByteArray) : Option (Int × List St) := o.bind fun q => (stepOf p).bind fun s => if GoodSt q.1 s then some (s.1, q.2 ++ [s]) else none
def stepsRun (ps : List ByteArray) : Option (Int × List St) := ps.foldl stepAcc (some (0, []))
/-- What Steps answers. -/
def stepsAns (s : ByteArray) : Option (List St) :=
  if s = ⟨#[]⟩ then some []
  else if (splitAns s 47).getD 0 ByteArray.empty = ⟨#[]⟩ ∧ (splitAns s 47).length ≤ 31 then (stepsRun (splitAns s 47).tail).map (·.2) else none
theorem stepsRun_more (ps : List ByteArray) (p : ByteArray) : stepsRun (ps ++ [p]) = stepAcc (stepsRun ps) p := by
  unfold stepsRun; rw [List.foldl_append]; rfl
theorem acc_none (ps : List ByteArray) : ps.foldl stepAcc none = none := by
  induction ps with
  | nil => rfl
  | cons p ps ih => rw [List.foldl_cons]; exact ih
theorem stepsRun_none {ps : List ByteArray} (k : Nat) (h : stepsRun (ps.take k) = none) : stepsRun ps = none := by
  have e : stepsRun ps = (ps.drop k).foldl stepAcc (stepsRun (ps.take k)) := by
    unfold stepsRun
    rw [← List.foldl_append, List.take_append_drop]
  rw [e, h]
  exact acc_none _
/-- What has been read: views ascend, are within bounds; two payments a step at most. -/
theorem stepsRun_ok (ps : List ByteArray) (q : Int × List St) (h : stepsRun ps = some q) : q.2.length = ps.length ∧ (0 ≤ q.1 ∧ q.1 ≤ 60) ∧ (ps.length : Int) ≤ q.1 ∧ ∀ s ∈ q.2, (1 ≤ s.1 ∧ s.1 ≤ q.1) ∧ s.2.length ≤ 2 := by
  generalize hn : ps.length = n
  induction n generalizing ps q with
  | zero =>
    have : ps = [] := List.length_eq_zero_iff.1 hn
    subst this
    cases h
    exact ⟨rfl, by simp, by simp, fun s hs => by simp at hs⟩
  | succ n ih =>
    obtain ⟨ps', p, rfl⟩ : ∃ ps' p, ps = ps' ++ [p] := ⟨ps.dropLast, ps.getLast (fun e => by rw [e] at hn; simp at hn), (List.dropLast_concat_getLast _).symm⟩
    rw [stepsRun_more] at h
    unfold stepAcc at h
    cases hr : stepsRun ps' with
    | none => rw [hr] at h; cases h
    | some q' =>
      rw [hr] at h
      cases hs : stepOf p with
      | none => rw [hs] at h; simp at h
      | some s =>
        rw [hs] at h
        simp only [Option.bind_some] at h
        split at h
        · rename_i hg
          cases h
          obtain ⟨h1, h2, h3, h4⟩ := ih ps' q' hr (by simpa using hn)
          obtain ⟨g1, g2, g3⟩ := hg
          refine ⟨by simp [h1], ⟨by show 0 ≤ s.1; omega, g2⟩, by show (((n + 1 : Nat)) : Int) ≤ s.1; omega, fun y hy => ?_⟩
          rcases List.mem_append.1 hy with hy | hy
          · obtain ⟨⟨a1, a2⟩, a3⟩ := h4 y hy
            exact ⟨⟨a1, by show y.1 ≤ s.1; omega⟩, a3⟩
          · simp at hy
            subst hy
            exact ⟨⟨by omega, Int.le_refl _⟩, g3⟩
        · cases h
end Go.Proofs.YtgfboghieejbkaaDoor

/- The draws of chapter 1 that answer one number or one text. -/
namespace Go.Proofs.YtgfboghieejbkaaDoor
open Go.RowKit

/-- The code that is drawn from. -/
structure DCode (w : World) (ao : Option Addr) (xs : List Int) : Prop where
  len : xs.length ≤ 1048576
  code : xs = [] ∨ ∃ b off, ao = some ⟨b, off, none⟩ ∧ ∀ k, k < xs.length → w.cell? ⟨b, off + k, none⟩ = some (.int .u8 (xs.getD k 0))
  fit : ∀ k, k < xs.length → 0 ≤ xs.getD k 0 ∧ xs.getD k 0 ≤ 255
theorem DCode.below {w w' : World} {B : Nat} {ao : Option Addr} {xs : List Int} (h : DCode w ao xs) (hb : Below B w w') (hB : w.heap.size ≤ B) : DCode w' ao xs := by
  refine ⟨h.len, ?_, h.fit⟩
  rcases h.code with h' | ⟨b, off, ha, hx⟩
  · exact .inl h'
  · exact .inr ⟨b, off, ha, fun k hk => (hb.cell (Nat.lt_of_lt_of_le (cell_lt (hx k hk)) hB)).trans (hx k hk)⟩

end Go.Proofs.YtgfboghieejbkaaDoor

/- The plain mathematics of PutNum: seven bits a byte, the low ones first. Nothing of the program. -/
namespace Go.Proofs.YtgfboghieejbkaaDoor

/-- The bytes of n, at most f + 1 of them. -/
def put : Nat → Nat → List Int
  | 0, n => [(n : Int)]
  | f + 1, n => if n ≤ 127 then [(n : Int)] else ((n : Int) % 128 + 128) :: put f (n / 128)
/-- Where a loop over n stands: behind the bytes 'done', with m left. -/
def At (n : Nat) (f m : Nat) (done : List Int) : Prop := done ++ put f m = put 4 n ∧ m < 128 ^ (f + 1) ∧ done.length + f = 4
end Go.Proofs.YtgfboghieejbkaaDoor

/- spec.l1DrawNums, DrawGetNum and DrawGetText. -/
namespace Go.Proofs.YtgfboghieejbkaaDoor
open Go.RowKit

/-- Each of a list is a byte. -/
def BytesL (ys : List Int) : Prop := ∀ y ∈ ys, 0 ≤ y ∧ y ≤ 255
theorem BytesL.append {a b : List Int} (ha : BytesL a) (hb : BytesL b) : BytesL (a ++ b) := fun y hy => by
  rcases List.mem_append.1 hy with h | h
  · exact ha y h
  · exact hb y h
theorem OB.grown {w w' : World} {base g : Nat} {v : Value} {xs : List Int} (h : OB w base v xs) (hg : w.grownBy w' (some g)) (hlt : g < base) : OB w' base v xs :=
  World.ownsRow.kept h hg (by
    cases hv : v.ownBlock with
    | none => exact .inl rfl
    | some k => exact .inr fun e => by have := (World.ownsRow.lt h k hv).1; simp at e; omega)
end Go.Proofs.YtgfboghieejbkaaDoor

/- What is put is got, what is got was put: plain mathematics of numbers and texts as bytes. -/
namespace Go.Proofs.YtgfboghieejbkaaDoor

/-- Parts with a byte between, of the first j. -/
def joinTo (b : UInt8) (ps : List ByteArray) : Nat → List UInt8
  | 0 => []
  | j + 1 => (if 0 < j then joinTo b ps j ++ [b] else joinTo b ps j) ++ (ps.getD j ByteArray.empty).data.toList
theorem joinTo_pre (b : UInt8) (ps qs : List ByteArray) (j : Nat) (h : j ≤ ps.length) : joinTo b (ps ++ qs) j = joinTo b ps j := by
  induction j with
  | zero => rfl
  | succ j ih =>
    have e : (ps ++ qs).getD j ByteArray.empty = ps.getD j ByteArray.empty := by
      rw [List.getD_eq_getElem?_getD, List.getD_eq_getElem?_getD, List.getElem?_append_left (by omega)]
    rw [joinTo, joinTo, ih (by omega), e]
theorem joinTo_snoc (b : UInt8) (ps : List ByteArray) (x : ByteArray) : joinTo b (ps ++ [x]) (ps.length + 1) = (if 0 < ps.length then joinTo b ps ps.length ++ [b] else joinTo b ps ps.length) ++ x.data.toList := by
  have e : (ps ++ [x]).getD ps.length ByteArray.empty = x := by simp
  rw [joinTo, joinTo_pre b ps [x] ps.length (Nat.le_refl _), e]
theorem ext_cut (s : ByteArray) (i j : Nat) : (s.extract i j).data.toList = (s.data.toList.drop i).take (j - i) := by
  rw [ByteArray.data_extract, Array.toList_extract]
theorem split_inv (s : ByteArray) (b : UInt8) (k : Nat) (hk : k ≤ s.size) :
    ((pcs s b.toNat k).1 = [] ∧ (pcs s b.toNat k).2 = 0) ∨ (0 < (pcs s b.toNat k).1.length ∧ joinTo b (pcs s b.toNat k).1 (pcs s b.toNat k).1.length ++ [b] = s.data.toList.take (pcs s b.toNat k).2) := by
  induction k with
  | zero => left; simp [pcs]
  | succ k ih =>
    have ih := ih (by omega)
    have hks : k < s.size := by omega
    by_cases hb : (s[k].toNat : Int) = b.toNat
    · rw [pcs_hit s _ k hks hb]
      right
      have hle := (pcs_le s b.toNat k).1
      have hbb : s[k] = b := by
        apply UInt8.toNat_inj.1; omega
      have htk : s.data.toList.take (k + 1) = s.data.toList.take k ++ [b] := by
        rw [List.take_succ_eq_append_getElem (by simpa using hks)]
        congr 1
        rw [← hbb]; rfl
      refine ⟨by simp, ?_⟩
      simp only [List.length_append, List.length_cons, List.length_nil, Nat.zero_add]
      rw [joinTo_snoc, ext_cut, htk]
      congr 1
      rcases ih with ⟨h1, h2⟩ | ⟨h1, h2⟩
      · rw [h1, h2]; simp [joinTo]
      · rw [if_pos h1, h2]
        rw [← List.take_add]
        congr 1; omega
    · rw [pcs_miss s _ k hks hb]; exact ih
theorem split_join (s : ByteArray) (b : UInt8) : joinTo b (splitAns s b.toNat) (splitAns s b.toNat).length = s.data.toList := by
  have hle := (pcs_le s b.toNat s.size).1
  have hinv := split_inv s b s.size (Nat.le_refl _)
  have hlen : s.data.toList.length = s.size := by simp
  unfold splitAns
  simp only [List.length_append, List.length_cons, List.length_nil, Nat.zero_add]
  rw [joinTo_snoc, ext_cut]
  rcases hinv with ⟨h1, h2⟩ | ⟨h1, h2⟩
  · rw [h1, h2]
    simp only [List.length_nil, joinTo, List.drop_zero, Nat.sub_zero]
    rw [List.take_of_length_le (by omega)]; simp
  · rw [if_pos h1, h2, ← List.take_add, List.take_of_length_le (by omega)]
end Go.Proofs.YtgfboghieejbkaaDoor

/- TxsText of the program and of the specification. -/
namespace Go.Proofs.YtgfboghieejbkaaDoor
open Go.RowKit
set_option linter.unusedSectionVars false
variable [∀ (a b c d : Int), Decidable (Ok4 a b c d)]
variable [∀ (a b c d : Nat), Decidable (okN a b c d)]

def OkT (x : T4) : Prop := Ok4 x.1 x.2.1 x.2.2.1 x.2.2.2
variable [∀ (x : T4), Decidable (OkT x)]
def txT (x : T4) : ByteArray := txt x.1 x.2.1 x.2.2.1 x.2.2.2
/-- The text of the first k payments. -/
def accT (xs : List T4) : Nat → List UInt8
  | 0 => []
  | k + 1 => (if 0 < k then accT xs k ++ [44] else accT xs k) ++ (txT (xs.getD k (0, 0, 0, 0))).data.toList
/-- What TxsText answers. -/
def txsT (xs : List T4) : ByteArray := if ∀ x ∈ xs, OkT x then toB (accT xs xs.length) else ⟨#[]⟩
theorem ok_nat {a b c d : Int} (h : Ok4 a b c d) : ∃ a' b' c' d' : Nat, a = a' ∧ b = b' ∧ c = c' ∧ d = d' := by
  obtain ⟨⟨a1, _⟩, ⟨b1, _⟩, ⟨c1, _⟩, ⟨d1, _⟩⟩ := h
  exact ⟨a.toNat, b.toNat, c.toNat, d.toNat, by omega, by omega, by omega, by omega⟩
theorem txT_size (x : T4) : (txT x).size ≤ 27 := by
  unfold txT txt
  split
  · rename_i h
    obtain ⟨a, b, c, d⟩ := x
    obtain ⟨⟨a1, a2⟩, ⟨b1, b2⟩, ⟨c1, c2⟩, ⟨d1, d2⟩⟩ := h
    simp only at *
    have za := dg_size a (by omega) (by omega)
    have zb := dg_size b (by omega) (by omega)
    have zc := dg_size c (by omega) (by omega)
    have zd := dg_size d (by omega) (by omega)
    have o : ∀ c : UInt8, (⟨#[c]⟩ : ByteArray).size = 1 := fun _ => rfl
    unfold txs dg
    rw [ByteArray.size_append, ByteArray.size_append, ByteArray.size_append, ByteArray.size_append, ByteArray.size_append, ByteArray.size_append, o, o, o]
    omega
  · exact Nat.zero_le _
theorem txT_ne {x : T4} (h : OkT x) : txT x ≠ ⟨#[]⟩ := by
  unfold txT txt
  obtain ⟨a, b, c, d⟩ := x
  show (if Ok4 a b c d then txs a b c d else (⟨#[]⟩ : ByteArray)) ≠ _
  rw [if_pos (show Ok4 a b c d from h)]
  obtain ⟨a', b', c', d', rfl, rfl, rfl, rfl⟩ := ok_nat h
  rw [txs_toB]
  intro e
  have := congrArg (fun s : ByteArray => s.data.toList) e
  exact txl_ne a' b' c' d' this
theorem size_len (s : ByteArray) : s.data.toList.length = s.size := by simp
theorem accT_len (xs : List T4) (k : Nat) : (accT xs k).length ≤ k * 28 := by
  induction k with
  | zero => simp [accT]
  | succ k ih =>
    have := txT_size (xs.getD k (0, 0, 0, 0))
    have e := size_len (txT (xs.getD k (0, 0, 0, 0)))
    rw [accT]
    split <;> simp only [List.length_append, List.length_cons, List.length_nil, e] <;> omega
theorem ne2 {s : ByteArray} (hz : s ≠ ⟨#[]⟩) : (s.toList == []) = false := by
  rw [beq_eq_false_iff_ne]; intro e; apply hz; apply ByteArray.ext; apply Array.toList_inj.1; rw [ByteArray.toList_eq] at e; exact e

end Go.Proofs.YtgfboghieejbkaaDoor

/- Texts joined and parted. Nothing of the program. -/
namespace Go.Proofs.YtgfboghieejbkaaDoor
set_option linter.unusedSectionVars false
variable [∀ (a b c d : Int), Decidable (Ok4 a b c d)]
variable [∀ (a b c d : Nat), Decidable (okN a b c d)]
variable [∀ (x : T4), Decidable (OkT x)]

/-- Texts with a comma between. -/
def jn : List (List UInt8) → List UInt8
  | [] => []
  | [p] => p
  | p :: q :: r => p ++ 44 :: jn (q :: r)
theorem jn_snoc (ps : List (List UInt8)) (p : List UInt8) : jn (ps ++ [p]) = (if 0 < ps.length then jn ps ++ [44] else jn ps) ++ p := by
  induction ps with
  | nil => simp [jn]
  | cons x ps ih =>
    cases ps with
    | nil => simp [jn]
    | cons y ps =>
      rw [List.cons_append] at ih
      rw [List.cons_append, List.cons_append, jn, jn, ih]
      simp
theorem jn_unique (ps qs : List (List UInt8)) (hp : ∀ p ∈ ps, 44 ∉ p) (hq : ∀ q ∈ qs, 44 ∉ q) (hn : ps ≠ []) (hm : qs ≠ []) (h : jn ps = jn qs) : ps = qs := by
  induction ps generalizing qs with
  | nil => exact absurd rfl hn
  | cons p ps ih =>
    cases qs with
    | nil => exact absurd rfl hm
    | cons q qs =>
      have hp0 := hp p (by simp)
      have hq0 := hq q (by simp)
      cases ps with
      | nil =>
        cases qs with
        | nil => simp [jn] at h; rw [h]
        | cons q' qs => simp only [jn] at h; rw [h] at hp0; simp at hp0
      | cons p' ps =>
        cases qs with
        | nil => simp only [jn] at h; rw [← h] at hq0; simp at hq0
        | cons q' qs =>
          simp only [jn] at h
          have e1 : p = q := by rw [← hd_some (y := jn (p' :: ps)) hp0, h, hd_some hq0]
          have e2 : jn (p' :: ps) = jn (q' :: qs) := by rw [← tl_some (x := p) (y := jn (p' :: ps)) hp0, h, tl_some hq0]
          rw [e1, ih (q' :: qs) (fun x hx => hp x (by simp at hx ⊢; exact .inr hx)) (fun x hx => hq x (by simp at hx ⊢; exact .inr hx)) (by simp) (by simp) e2]
theorem joinTo_jn (ps : List ByteArray) (k : Nat) (hk : k ≤ ps.length) : joinTo 44 ps k = jn ((ps.take k).map fun s => s.data.toList) := by
  induction k with
  | zero => simp [joinTo, jn]
  | succ k ih =>
    rw [joinTo, ih (by omega), take_more ps k (by omega), List.map_append, List.map_singleton, jn_snoc]
    simp only [List.length_map, List.length_take]
    rw [show min k ps.length = k from by omega]
theorem accT_jn (xs : List T4) (k : Nat) (hk : k ≤ xs.length) : accT xs k = jn ((xs.take k).map fun x => (txT x).data.toList) := by
  induction k with
  | zero => simp [accT, jn]
  | succ k ih =>
    have e : xs.take (k + 1) = xs.take k ++ [xs.getD k (0, 0, 0, 0)] := by
      rw [List.take_succ_eq_append_getElem (by omega), List.getD_eq_getElem?_getD, List.getElem?_eq_getElem (by omega)]; rfl
    rw [accT, ih (by omega), e, List.map_append, List.map_singleton, jn_snoc]
    simp only [List.length_map, List.length_take]
    rw [show min k xs.length = k from by omega]
theorem pcs_clean (s : ByteArray) (k : Nat) (hk : k ≤ s.size) : (∀ p ∈ (pcs s 44 k).1, (44 : UInt8) ∉ p.data.toList) ∧ (44 : UInt8) ∉ (s.data.toList.drop (pcs s 44 k).2).take (k - (pcs s 44 k).2) := by
  induction k with
  | zero => simp [pcs]
  | succ k ih =>
    obtain ⟨h1, h2⟩ := ih (by omega)
    have hle := (pcs_le s 44 k).1
    by_cases hb : (s[k].toNat : Int) = 44
    · rw [pcs_hit s 44 k (by omega) hb]
      refine ⟨fun p hp => ?_, by simp⟩
      rw [List.mem_append] at hp
      rcases hp with hp | hp
      · exact h1 p hp
      · simp at hp; rw [hp, ext_list]; exact h2
    · rw [pcs_miss s 44 k (by omega) hb]
      refine ⟨h1, ?_⟩
      have e := not_mem_more (m := 44) (l := s.data.toList) (n := (pcs s 44 k).2) (pos := k) (v := 1) hle h2 (fun j hj => by
        obtain rfl : j = 0 := by omega
        rw [Nat.add_zero, List.getElem?_eq_getElem (by simp; omega)]
        intro e
        have e' : s[k] = 44 := Option.some.inj e
        rw [e'] at hb; exact hb rfl)
      exact e
theorem split_clean (s : ByteArray) : ∀ p ∈ splitAns s 44, (44 : UInt8) ∉ p.data.toList := by
  intro p hp
  obtain ⟨h1, h2⟩ := pcs_clean s s.size (Nat.le_refl _)
  unfold splitAns at hp
  rw [List.mem_append] at hp
  rcases hp with hp | hp
  · exact h1 p hp
  · simp at hp; rw [hp, ext_list]; exact h2
theorem split_ne (s : ByteArray) : splitAns s 44 ≠ [] := by unfold splitAns; simp
theorem txT_clean (x : T4) : (44 : UInt8) ∉ (txT x).data.toList := by
  unfold txT txt
  obtain ⟨a, b, c, d⟩ := x
  by_cases h : Ok4 a b c d
  · show (44 : UInt8) ∉ (if Ok4 a b c d then txs a b c d else (⟨#[]⟩ : ByteArray)).data.toList
    rw [if_pos h]
    obtain ⟨a', b', c', d', rfl, rfl, rfl, rfl⟩ := ok_nat h
    rw [txs_toB, toB_list]
    unfold txl
    have n := fun n => no_mark n 44 (by decide)
    simp [n]
  · show (44 : UInt8) ∉ (if Ok4 a b c d then txs a b c d else (⟨#[]⟩ : ByteArray)).data.toList
    rw [if_neg h]; simp
theorem isTx_T {s : ByteArray} {q : Nat × Nat × Nat × Nat} (h : txAns s.data.toList = some q) : txT (toT q) = s ∧ OkT (toT q) := by
  obtain ⟨a, b, c, d⟩ := q
  have hi := txAns_is h
  exact ⟨isTx_txt hi, ok_cast.2 hi.1⟩
theorem ok_T {x : T4} (h : OkT x) : ∃ q, toT q = x ∧ txAns (txT x).data.toList = some q := by
  obtain ⟨a, b, c, d⟩ := x
  obtain ⟨a', b', c', d', rfl, rfl, rfl, rfl⟩ := ok_nat h
  refine ⟨(a', b', c', d'), rfl, txAns_some ⟨ok_cast.1 h, ?_⟩⟩
  show _ = (if Ok4 (a' : Int) b' c' d' then txs a' b' c' d' else (⟨#[]⟩ : ByteArray)).data.toList
  rw [if_pos (show Ok4 (a' : Int) b' c' d' from h), txs_toB, toB_list]
theorem allTx_texts {ps : List ByteArray} {ys : List T4} (h : allTx ps = some ys) : ys.map txT = ps ∧ ∀ y ∈ ys, OkT y := by
  induction ps generalizing ys with
  | nil => simp [allTx] at h; subst h; simp
  | cons p ps ih =>
    rw [allTx] at h
    cases hp : txAns p.data.toList with
    | none => rw [hp] at h; cases h
    | some q =>
      rw [hp] at h
      cases hq : allTx ps with
      | none => rw [hq] at h; cases h
      | some zs =>
        rw [hq] at h; simp at h; subst h
        obtain ⟨i1, i2⟩ := ih hq
        obtain ⟨j1, j2⟩ := isTx_T hp
        refine ⟨by simp [i1, j1], fun y hy => ?_⟩
        simp at hy
        rcases hy with rfl | hy
        · exact j2
        · exact i2 y hy
theorem allTx_of (ys : List T4) (h : ∀ y ∈ ys, OkT y) : allTx (ys.map txT) = some ys := by
  induction ys with
  | nil => rfl
  | cons y ys ih =>
    obtain ⟨q, e, hq⟩ := ok_T (h y (by simp))
    rw [List.map_cons, allTx, hq, ih (fun z hz => h z (by simp [hz]))]
    simp [e]
/-- What is read of a text is told as that text. -/
theorem txsAns_text {s : ByteArray} {ys : List T4} (h : txsAns s = some ys) : txsT ys = s := by
  unfold txsAns at h
  split at h
  · rename_i hz
    simp at h; subst h
    unfold txsT; simp [accT, toB, hz]
  · obtain ⟨h1, h2⟩ := allTx_texts h
    unfold txsT
    rw [if_pos h2, accT_jn ys ys.length (Nat.le_refl _), List.take_of_length_le (Nat.le_refl _)]
    have hj := split_join s 44
    have e44 : (((44 : UInt8).toNat : Nat) : Int) = 44 := rfl
    rw [e44, joinTo_jn _ _ (Nat.le_refl _), List.take_of_length_le (Nat.le_refl _), ← h1, List.map_map] at hj
    have hj' : jn (ys.map fun x => (txT x).data.toList) = s.data.toList := hj
    rw [hj', toB_data]
/-- What is told of payments is read as they were. -/
theorem txsAns_of (ys : List T4) (h : ∀ y ∈ ys, OkT y) : txsAns (txsT ys) = some ys := by
  have e : txsT ys = toB (jn (ys.map fun x => (txT x).data.toList)) := by
    unfold txsT
    rw [if_pos h, accT_jn ys ys.length (Nat.le_refl _), List.take_of_length_le (Nat.le_refl _)]
  cases ys with
  | nil => rw [e]; unfold txsAns; simp [jn, toB]
  | cons y ys =>
    have hne : txsT (y :: ys) ≠ ⟨#[]⟩ := by
      rw [e]
      intro hz
      have hz' := congrArg (fun s : ByteArray => s.data.toList) hz
      have hy := txT_ne (h y (by simp))
      cases ys with
      | nil => simp [jn, toB] at hz'; exact hy (ByteArray.ext hz')
      | cons y' ys => simp [jn, toB] at hz'
    unfold txsAns
    rw [if_neg hne]
    have hj := split_join (txsT (y :: ys)) 44
    have e44 : (((44 : UInt8).toNat : Nat) : Int) = 44 := rfl
    rw [e44, joinTo_jn _ _ (Nat.le_refl _), List.take_of_length_le (Nat.le_refl _)] at hj
    have hl : (txsT (y :: ys)).data.toList = jn ((y :: ys).map fun x => (txT x).data.toList) := by rw [e]; rfl
    rw [hl] at hj
    have hu := jn_unique _ _ (fun p hp => by
      obtain ⟨z, hz, rfl⟩ := List.mem_map.1 hp
      exact split_clean _ z hz) (fun q hq => by
      obtain ⟨z, _, rfl⟩ := List.mem_map.1 hq
      exact txT_clean z) (by simp [split_ne]) (by simp) hj
    have hs : splitAns (txsT (y :: ys)) 44 = (y :: ys).map txT := by
      have inj : ∀ (a b : List ByteArray), a.map (fun s => s.data.toList) = b.map (fun s => s.data.toList) → a = b := by
        intro a
        induction a with
        | nil => intro b hb; cases b with
          | nil => rfl
          | cons => simp at hb
        | cons x a ih =>
          intro b hb
          cases b with
          | nil => simp at hb
          | cons z b =>
            simp at hb
            rw [ih b hb.2, ByteArray.ext hb.1]
      apply inj
      rw [hu, List.map_map]; rfl
    rw [hs]
    exact allTx_of _ h
end Go.Proofs.YtgfboghieejbkaaDoor

/- Names and their steps: a name is the texts of its steps, one behind the other. Nothing of the program. -/
namespace Go.Proofs.YtgfboghieejbkaaDoor
open Go.RowKit
set_option linter.unusedSectionVars false
variable [∀ (a b c d : Int), Decidable (Ok4 a b c d)]
variable [∀ (a b c d : Nat), Decidable (okN a b c d)]
variable [∀ (last : Int) (s : St), Decidable (GoodSt last s)]
variable [∀ (x : T4), Decidable (OkT x)]

/-- Texts with a byte between. -/
def jb (b : UInt8) : List (List UInt8) → List UInt8
  | [] => []
  | [p] => p
  | p :: q :: r => p ++ b :: jb b (q :: r)
theorem jb_flat (b : UInt8) (p : List UInt8) (ps : List (List UInt8)) : jb b (p :: ps) = p ++ ps.flatMap (fun t => b :: t) := by
  induction ps generalizing p with
  | nil => simp [jb]
  | cons q ps ih => rw [jb, ih]; simp
theorem jb_snoc (b : UInt8) (ps : List (List UInt8)) (p : List UInt8) : jb b (ps ++ [p]) = (if 0 < ps.length then jb b ps ++ [b] else jb b ps) ++ p := by
  cases ps with
  | nil => simp [jb]
  | cons x ps => rw [List.cons_append, jb_flat, jb_flat]; simp
theorem jb_unique (b : UInt8) (ps qs : List (List UInt8)) (hp : ∀ p ∈ ps, b ∉ p) (hq : ∀ q ∈ qs, b ∉ q) (hn : ps ≠ []) (hm : qs ≠ []) (h : jb b ps = jb b qs) : ps = qs := by
  induction ps generalizing qs with
  | nil => exact absurd rfl hn
  | cons p ps ih =>
    cases qs with
    | nil => exact absurd rfl hm
    | cons q qs =>
      have hp0 := hp p (by simp)
      have hq0 := hq q (by simp)
      cases ps with
      | nil =>
        cases qs with
        | nil => simp [jb] at h; rw [h]
        | cons q' qs => simp only [jb] at h; rw [h] at hp0; simp at hp0
      | cons p' ps =>
        cases qs with
        | nil => simp only [jb] at h; rw [← h] at hq0; simp at hq0
        | cons q' qs =>
          simp only [jb] at h
          have e1 : p = q := by rw [← hd_some (y := jb b (p' :: ps)) hp0, h, hd_some hq0]
          have e2 : jb b (p' :: ps) = jb b (q' :: qs) := by rw [← tl_some (x := p) (y := jb b (p' :: ps)) hp0, h, tl_some hq0]
          rw [e1, ih (q' :: qs) (fun x hx => hp x (by simp at hx ⊢; exact .inr hx)) (fun x hx => hq x (by simp at hx ⊢; exact .inr hx)) (by simp) (by simp) e2]
theorem joinTo_jb (b : UInt8) (ps : List ByteArray) (k : Nat) (hk : k ≤ ps.length) : joinTo b ps k = jb b ((ps.take k).map fun s => s.data.toList) := by
  induction k with
  | zero => simp [joinTo, jb]
  | succ k ih =>
    rw [joinTo, ih (by omega), take_more ps k (by omega), List.map_append, List.map_singleton, jb_snoc]
    simp only [List.length_map, List.length_take]
    rw [show min k ps.length = k from by omega]
theorem pcs_cleanB (s : ByteArray) (b : UInt8) (k : Nat) (hk : k ≤ s.size) : (∀ p ∈ (pcs s b.toNat k).1, b ∉ p.data.toList) ∧ b ∉ (s.data.toList.drop (pcs s b.toNat k).2).take (k - (pcs s b.toNat k).2) := by
  induction k with
  | zero => simp [pcs]
  | succ k ih =>
    obtain ⟨h1, h2⟩ := ih (by omega)
    have hle := (pcs_le s b.toNat k).1
    by_cases hb : (s[k].toNat : Int) = b.toNat
    · rw [pcs_hit s b.toNat k (by omega) hb]
      refine ⟨fun p hp => ?_, by simp⟩
      rw [List.mem_append] at hp
      rcases hp with hp | hp
      · exact h1 p hp
      · simp at hp; rw [hp, ext_list]; exact h2
    · rw [pcs_miss s b.toNat k (by omega) hb]
      refine ⟨h1, ?_⟩
      exact not_mem_more (m := b) (l := s.data.toList) (n := (pcs s b.toNat k).2) (pos := k) (v := 1) hle h2 (fun j hj => by
        obtain rfl : j = 0 := by omega
        rw [Nat.add_zero, List.getElem?_eq_getElem (by simp; omega)]
        intro e
        have e' : s[k] = b := Option.some.inj e
        rw [e'] at hb; exact hb rfl)
theorem split_cleanB (s : ByteArray) (b : UInt8) : ∀ p ∈ splitAns s b.toNat, b ∉ p.data.toList := by
  intro p hp
  obtain ⟨h1, h2⟩ := pcs_cleanB s b s.size (Nat.le_refl _)
  unfold splitAns at hp
  rw [List.mem_append] at hp
  rcases hp with hp | hp
  · exact h1 p hp
  · simp at hp; rw [hp, ext_list]; exact h2
theorem split_jb (s : ByteArray) (b : UInt8) : jb b ((splitAns s b.toNat).map fun s => s.data.toList) = s.data.toList := by
  have := split_join s b
  rw [joinTo_jb b _ _ (Nat.le_refl _), List.take_of_length_le (Nat.le_refl _)] at this
  exact this
theorem split_neB (s : ByteArray) (b : Int) : splitAns s b ≠ [] := by unfold splitAns; simp
/-- What a text is split into, told from its parts. -/
theorem split_of (s : ByteArray) (b : UInt8) (ps : List (List UInt8)) (hn : ps ≠ []) (hp : ∀ p ∈ ps, b ∉ p) (h : s.data.toList = jb b ps) : (splitAns s b.toNat).map (fun s => s.data.toList) = ps := by
  refine jb_unique b _ _ (fun p hp' => ?_) hp (by simp [split_neB]) hn ((split_jb s b).trans h)
  obtain ⟨q, hq, rfl⟩ := List.mem_map.1 hp'
  exact split_cleanB s b q hq

/-- A step's text, and a name's. -/
def stText (s : St) : List UInt8 := Lib.decDigits s.1.toNat ++ 124 :: (txsT s.2).data.toList
def nm (ss : List St) : List UInt8 := ss.flatMap fun s => 47 :: stText s
/-- A step that may stand in a name. -/
def OkSt (s : St) : Prop := (1 ≤ s.1 ∧ s.1 ≤ 60) ∧ s.2.length ≤ 2 ∧ ∀ x ∈ s.2, OkT x
/-- Steps that make a name. -/
def OkSts (ss : List St) : Prop := ss.length ≤ 30 ∧ (∀ s ∈ ss, OkSt s) ∧ ss.Pairwise (fun a b => a.1 < b.1)
theorem txT_clean2 (x : T4) (m : UInt8) (h : m.toNat < 48 ∨ 57 < m.toNat) (h1 : m ≠ 62) (h2 : m ≠ 58) (h3 : m ≠ 35) : m ∉ (txT x).data.toList := by
  unfold txT txt
  obtain ⟨a, b, c, d⟩ := x
  by_cases ho : Ok4 a b c d
  · show m ∉ (if Ok4 a b c d then txs a b c d else (⟨#[]⟩ : ByteArray)).data.toList
    rw [if_pos ho]
    obtain ⟨a', b', c', d', rfl, rfl, rfl, rfl⟩ := ok_nat ho
    rw [txs_toB, toB_list]
    unfold txl
    have n := fun n => no_mark n m h
    simp [n, h1, h2, h3]
  · show m ∉ (if Ok4 a b c d then txs a b c d else (⟨#[]⟩ : ByteArray)).data.toList
    rw [if_neg ho]; simp
theorem txsT_clean (ts : List T4) (m : UInt8) (h : m.toNat < 48 ∨ 57 < m.toNat) (h1 : m ≠ 62) (h2 : m ≠ 58) (h3 : m ≠ 35) (h4 : m ≠ 44) : m ∉ (txsT ts).data.toList := by
  unfold txsT
  split
  · rw [toB_list]
    have : ∀ k, k ≤ ts.length → m ∉ accT ts k := by
      intro k
      induction k with
      | zero => intro _; simp [accT]
      | succ k ih =>
        intro hk
        have := ih (by omega)
        have c := txT_clean2 (ts.getD k (0, 0, 0, 0)) m h h1 h2 h3
        rw [accT]
        split <;> simp [this, h4] <;> simpa using c
    exact this ts.length (Nat.le_refl _)
  · simp
theorem stText_clean (s : St) : (47 : UInt8) ∉ stText s := by
  unfold stText
  have h1 := no_mark s.1.toNat 47 (by decide)
  have h2 := txsT_clean s.2 47 (by decide) (by decide) (by decide) (by decide) (by decide)
  simp [h1, h2]
theorem stepOf_some {p : ByteArray} {s : St} (h : stepOf p = some s) : p.data.toList = stText s ∧ (0 ≤ s.1) ∧ ∀ x ∈ s.2, OkT x := by
  unfold stepOf at h
  split at h
  · rename_i hm
    cases hn : numOf (hd 124 p.data.toList) with
    | none => rw [hn] at h; cases h
    | some n =>
      rw [hn] at h
      cases ht : txsAns (toB (tl 124 p.data.toList)) with
      | none => rw [ht] at h; cases h
      | some ts =>
        rw [ht] at h
        cases h
        obtain ⟨_, h2⟩ := numOf_some hn
        have h3 := txsAns_text ht
        have e : p.data.toList = hd 124 p.data.toList ++ 124 :: tl 124 p.data.toList := by
          unfold hd tl
          generalize p.data.toList = l at hm
          induction l with
          | nil => simp at hm
          | cons y l ih =>
            by_cases hy : y = 124
            · subst hy; simp
            · have hm' : (124 : UInt8) ∈ l := by rcases List.mem_cons.1 hm with e | e; exact absurd e.symm hy; exact e
              have := ih hm'
              simp only [List.takeWhile_cons, List.dropWhile_cons, bne_iff_ne, ne_eq, hy, not_false_eq_true, if_true]
              rw [List.cons_append, ← this]
        refine ⟨?_, by simp, ?_⟩
        · rw [e, ← h2]
          unfold stText
          rw [h3]
          simp [toB_list]
        · unfold txsAns at ht
          split at ht
          · cases ht; simp
          · exact (allTx_texts ht).2
  · cases h
theorem stepOf_text {p : ByteArray} {s : St} (h : OkSt s) (hp : p.data.toList = stText s) : stepOf p = some s := by
  obtain ⟨⟨h1, h2⟩, _, h3⟩ := h
  have c := no_mark s.1.toNat 124 (by decide)
  unfold stepOf
  rw [hp]
  have hm : (124 : UInt8) ∈ stText s := by unfold stText; simp
  rw [if_pos hm]
  have e1 : hd 124 (stText s) = Lib.decDigits s.1.toNat := by unfold stText; exact hd_some c
  have e2 : tl 124 (stText s) = (txsT s.2).data.toList := by unfold stText; exact tl_some c
  rw [e1, e2, numOf_of (by omega), toB_data, txsAns_of s.2 h3]
  obtain ⟨v, ts⟩ := s
  simp at h1 ⊢
  omega
/-- What the parts of a name say. -/
theorem run_texts (ps : List ByteArray) (q : Int × List St) (h : stepsRun ps = some q) : ps.map (fun p => p.data.toList) = q.2.map stText ∧ (∀ s ∈ q.2, OkSt s ∧ s.1 ≤ q.1) ∧ q.2.Pairwise (fun a b => a.1 < b.1) := by
  generalize hn : ps.length = n
  induction n generalizing ps q with
  | zero =>
    have : ps = [] := List.length_eq_zero_iff.1 hn
    subst this
    cases h
    simp
  | succ n ih =>
    obtain ⟨ps', p, rfl⟩ : ∃ ps' p, ps = ps' ++ [p] := ⟨ps.dropLast, ps.getLast (fun e => by rw [e] at hn; simp at hn), (List.dropLast_concat_getLast _).symm⟩
    rw [stepsRun_more] at h
    unfold stepAcc at h
    cases hr : stepsRun ps' with
    | none => rw [hr] at h; cases h
    | some q' =>
      rw [hr] at h
      cases hs : stepOf p with
      | none => rw [hs] at h; simp at h
      | some s =>
        rw [hs] at h
        simp only [Option.bind_some] at h
        split at h
        · rename_i hg
          cases h
          obtain ⟨i1, i2, i3⟩ := ih ps' q' hr (by simpa using hn)
          obtain ⟨_, o2, _, _⟩ := stepsRun_ok ps' q' hr
          obtain ⟨g1, g2, g3⟩ := hg
          obtain ⟨t1, t2, t3⟩ := stepOf_some hs
          refine ⟨by simp [i1, t1], fun y hy => ?_, ?_⟩
          · rcases List.mem_append.1 hy with hy | hy
            · exact ⟨(i2 y hy).1, by have := (i2 y hy).2; show y.1 ≤ s.1; omega⟩
            · simp at hy; subst hy
              exact ⟨⟨⟨by omega, g2⟩, g3, t3⟩, Int.le_refl _⟩
          · rw [List.pairwise_append]
            refine ⟨i3, by simp, fun a ha b hb => ?_⟩
            simp at hb; subst hb
            have := (i2 a ha).2
            omega
        · cases h
theorem run_of (ss : List St) (hok : ∀ s ∈ ss, OkSt s) (hpw : ss.Pairwise (fun a b => a.1 < b.1)) (ps : List ByteArray) (hp : ps.map (fun p => p.data.toList) = ss.map stText) : ∃ l, stepsRun ps = some (l, ss) ∧ ∀ x, (∀ s ∈ ss, s.1 < x) → 0 < x → l < x := by
  generalize hn : ss.length = n
  induction n generalizing ss ps with
  | zero =>
    have : ss = [] := List.length_eq_zero_iff.1 hn
    subst this
    have : ps = [] := by simpa using hp
    subst this
    exact ⟨0, rfl, fun x _ h => h⟩
  | succ n ih =>
    obtain ⟨ss', s, rfl⟩ : ∃ ss' s, ss = ss' ++ [s] := ⟨ss.dropLast, ss.getLast (fun e => by rw [e] at hn; simp at hn), (List.dropLast_concat_getLast _).symm⟩
    have hpl : ps.length = (ss' ++ [s]).length := by have := congrArg List.length hp; simpa using this
    obtain ⟨ps', p, rfl⟩ : ∃ ps' p, ps = ps' ++ [p] := ⟨ps.dropLast, ps.getLast (fun e => by rw [e] at hpl; simp at hpl), (List.dropLast_concat_getLast _).symm⟩
    rw [List.map_append, List.map_append] at hp
    obtain ⟨hp1, hp2⟩ := List.append_inj hp (by simp at hpl ⊢; exact hpl)
    rw [List.pairwise_append] at hpw
    obtain ⟨l, hl, hx⟩ := ih ss' (fun y hy => hok y (by simp [hy])) hpw.1 ps' hp1 (by simpa using hn)
    have hs := hok s (by simp)
    have hst := stepOf_text hs (p := p) (by simpa using hp2)
    have hlt : l < s.1 := hx s.1 (fun y hy => hpw.2.2 y hy s (by simp)) (by have := hs.1; omega)
    refine ⟨s.1, ?_, fun x h1 _ => h1 s (by simp)⟩
    rw [stepsRun_more, hl]
    unfold stepAcc
    simp only [Option.bind_some, hst]
    rw [if_pos (show GoodSt l s from ⟨hlt, hs.1.2, hs.2.1⟩)]
theorem nm_jb (ss : List St) : nm ss = jb 47 ([] :: ss.map stText) := by
  rw [jb_flat]; unfold nm; simp [List.flatMap_map]
/-- A text is a name just where it is the texts of right steps, and then these are its steps. -/
theorem names_iff (s : ByteArray) (ss : List St) : stepsAns s = some ss ↔ s.data.toList = nm ss ∧ OkSts ss := by
  unfold stepsAns
  by_cases hz : s = ⟨#[]⟩
  · rw [if_pos hz]
    subst hz
    constructor
    · intro h; cases h; exact ⟨rfl, by simp, by simp, by simp⟩
    · rintro ⟨h, _⟩
      cases ss with
      | nil => rfl
      | cons x ss => simp [nm] at h
  · rw [if_neg hz]
    have hj := split_jb s 47
    have e47 : ((47 : UInt8).toNat : Int) = 47 := rfl
    rw [e47] at hj
    constructor
    · intro h
      split at h
      · rename_i hc
        cases hr : stepsRun (splitAns s 47).tail with
        | none => rw [hr] at h; cases h
        | some q =>
          rw [hr] at h
          cases h
          obtain ⟨h1, h2, h3⟩ := run_texts _ q hr
          have hlen := (stepsRun_ok _ q hr).1
          cases hp : splitAns s 47 with
          | nil => exact absurd hp (split_neB s 47)
          | cons p ps =>
            rw [hp] at hc h1 hj hlen
            simp at hc
            refine ⟨?_, ?_, fun y hy => (h2 y hy).1, h3⟩
            · rw [← hj, nm_jb, List.map_cons, hc.1]
              simp only [List.tail_cons] at h1
              rw [h1]
            · show q.2.length ≤ 30
              simp at hlen
              omega
      · cases h
    · rintro ⟨h1, h2, h3, h4⟩
      have hne : ss ≠ [] := by
        rintro rfl
        apply hz
        apply ByteArray.ext
        apply Array.toList_inj.1
        rw [h1]; rfl
      have hsp := split_of s 47 ([] :: ss.map stText) (by simp) (fun p hp => by
        rcases List.mem_cons.1 hp with rfl | hp
        · simp
        · obtain ⟨y, _, rfl⟩ := List.mem_map.1 hp; exact stText_clean y) (by rw [h1, nm_jb])
      rw [e47] at hsp
      cases hp : splitAns s 47 with
      | nil => exact absurd hp (split_neB s 47)
      | cons p ps =>
        rw [hp] at hsp
        simp only [List.map_cons, List.cons.injEq] at hsp
        obtain ⟨l, hl, _⟩ := run_of ss h3 h4 ps hsp.2
        have hpl : ps.length = ss.length := by have := congrArg List.length hsp.2; simpa using this
        have hp0 : p = ⟨#[]⟩ := ByteArray.ext (Array.toList_inj.1 hsp.1)
        rw [if_pos ⟨by simpa using hp0, by simp; omega⟩, List.tail_cons, hl]
        rfl
end Go.Proofs.YtgfboghieejbkaaDoor

/- What NameOf, UpOf, ViewOf, Height, Extends answer, told by steps. Nothing of the program. -/
namespace Go.Proofs.YtgfboghieejbkaaDoor
open Go.RowKit
set_option linter.unusedSectionVars false
variable [∀ (a b c d : Int), Decidable (Ok4 a b c d)]
variable [∀ (a b c d : Nat), Decidable (okN a b c d)]
variable [∀ (last : Int) (s : St), Decidable (GoodSt last s)]
variable [∀ (x : T4), Decidable (OkT x)]

theorem nm_append (ss tt : List St) : nm (ss ++ tt) = nm ss ++ nm tt := by simp [nm]
theorem nm_snoc (ss : List St) (x : St) : nm (ss ++ [x]) = nm ss ++ 47 :: stText x := by simp [nm]
theorem OkSts.pre {ss tt : List St} (h : OkSts (ss ++ tt)) : OkSts ss := by
  obtain ⟨h1, h2, h3⟩ := h
  refine ⟨by simp at h1; omega, fun s hs => h2 s (by simp [hs]), ?_⟩
  rw [List.pairwise_append] at h3; exact h3.1
theorem names_nm {ss : List St} (h : OkSts ss) : stepsAns (toB (nm ss)) = some ss := (names_iff _ _).2 ⟨toB_list _, h⟩
theorem ba_ext {s t : ByteArray} (h : s.data.toList = t.data.toList) : s = t := ByteArray.ext (Array.toList_inj.1 h)
/-- Two texts that end behind their last '/'. -/
theorem last_slash {a b x y : List UInt8} (hx : (47 : UInt8) ∉ x) (hy : (47 : UInt8) ∉ y) (h : a ++ 47 :: x = b ++ 47 :: y) : a = b ∧ x = y := by
  have hr := congrArg List.reverse h
  simp only [List.reverse_append, List.reverse_cons, List.append_assoc, List.singleton_append] at hr
  have hx' : (47 : UInt8) ∉ x.reverse := by simpa using hx
  have hy' : (47 : UInt8) ∉ y.reverse := by simpa using hy
  have e1 : x.reverse = y.reverse := by rw [← hd_some (y := a.reverse) hx', hr, hd_some hy']
  have e2 : a.reverse = b.reverse := by rw [← tl_some (x := x.reverse) (y := a.reverse) hx', hr, tl_some hy']
  exact ⟨List.reverse_inj.1 e2, List.reverse_inj.1 e1⟩
theorem stText_inj {x y : St} (hx : OkSt x) (hy : OkSt y) (h : stText x = stText y) : x = y := by
  have h1 := stepOf_text hx (p := toB (stText x)) (toB_list _)
  have h2 := stepOf_text hy (p := toB (stText x)) ((toB_list _).trans h)
  rw [h1] at h2
  exact Option.some.inj h2

theorem toB_ne {l : List UInt8} (h : l ≠ []) : toB l ≠ ⟨#[]⟩ := fun e => h (by have := congrArg (fun s : ByteArray => s.data.toList) e; simpa [toB_list] using this)
/-- What UpOf, ViewOf, TxsIn, Height answer. -/
def upAns (s : ByteArray) : ByteArray := toB (nm ((stepsAns s).getD []).dropLast)
def viewAns (s : ByteArray) : Int := (((stepsAns s).getD []).getLast?.map (·.1)).getD 0
def heightAns (s : ByteArray) : Int := match stepsAns s with | some ss => (ss.length : Int) | none => -1
theorem up_steps {s : ByteArray} {ss : List St} (h : stepsAns s = some ss) : stepsAns (upAns s) = some ss.dropLast := by
  have h2 := ((names_iff _ _).1 h).2
  unfold upAns
  rw [h, Option.getD_some]
  refine names_nm ?_
  by_cases hne : ss = []
  · subst hne; exact h2
  · rw [← List.dropLast_concat_getLast hne] at h2
    exact h2.pre
/-- How high a chain is: not above its last view. -/
theorem height_view {s : ByteArray} : heightAns s ≤ viewAns s ∧ heightAns s ≤ 30 ∧ viewAns s ≤ 60 := by
  unfold heightAns viewAns
  cases h : stepsAns s with
  | none => simp
  | some ss =>
    have ok := ((names_iff _ _).1 h).2
    simp only [Option.getD_some]
    refine ⟨?_, by have := ok.1; omega, ?_⟩
    · have key : ∀ ss : List St, (∀ s ∈ ss, OkSt s) → ss.Pairwise (fun a b => a.1 < b.1) → (ss.length : Int) ≤ (ss.getLast?.map (·.1)).getD 0 := by
        intro ss
        generalize hn : ss.length = n
        induction n generalizing ss with
        | zero => intro _ _; have : ss = [] := List.length_eq_zero_iff.1 hn; subst this; simp
        | succ n ih =>
          intro h1 h2
          obtain ⟨ss', x, rfl⟩ : ∃ ss' x, ss = ss' ++ [x] := ⟨ss.dropLast, ss.getLast (fun e => by rw [e] at hn; simp at hn), (List.dropLast_concat_getLast _).symm⟩
          rw [List.pairwise_append] at h2
          have := ih ss' (by simpa using hn) (fun s hs => h1 s (by simp [hs])) h2.1
          have hx := (h1 x (by simp)).1
          simp only [List.getLast?_append, List.getLast?_singleton, Option.some_or, Option.map_some, Option.getD_some]
          cases hl : ss'.getLast? with
          | none => rw [hl] at this; simp at this; omega
          | some y =>
            rw [hl] at this
            simp at this
            have := h2.2.2 y (List.mem_of_getLast? hl) x (by simp)
            omega
      exact key ss ok.2.1 ok.2.2
    · cases hl : ss.getLast? with
      | none => simp
      | some y => simp; exact (ok.2.1 y (List.mem_of_getLast? hl)).1.2
end Go.Proofs.YtgfboghieejbkaaDoor

/- UpOf by the last '/', Extends by bytes, a name put together of its steps. Nothing of the program. -/
namespace Go.Proofs.YtgfboghieejbkaaDoor
open Go.RowKit
set_option linter.unusedSectionVars false
variable [∀ (a b c d : Int), Decidable (Ok4 a b c d)]
variable [∀ (a b c d : Nat), Decidable (okN a b c d)]
variable [∀ (last : Int) (s : St), Decidable (GoodSt last s)]
variable [∀ (x : T4), Decidable (OkT x)]

/-- The place behind the last '/' tells UpOf. -/
theorem up_cut {s : ByteArray} {ss : List St} (h : stepsAns s = some ss) (k : Nat) (hk : k ≤ s.data.toList.length) (h1 : (47 : UInt8) ∉ s.data.toList.drop k) (h2 : k = 0 ∨ s.data.toList[k - 1]? = some 47) : toB (s.data.toList.take (k - 1)) = upAns s := by
  have hs := (names_iff _ _).1 h
  unfold upAns
  rw [h, Option.getD_some]
  by_cases hne : ss = []
  · subst hne
    have : s.data.toList = [] := hs.1
    rw [this]; simp [nm]
  · obtain ⟨ss', x, rfl⟩ : ∃ ss' x, ss = ss' ++ [x] := ⟨ss.dropLast, ss.getLast hne, (List.dropLast_concat_getLast _).symm⟩
    rw [List.dropLast_concat]
    have e := hs.1
    rw [nm_snoc] at e
    rcases h2 with rfl | h2
    · rw [List.drop_zero, e] at h1
      simp at h1
    · have hk0 : 0 < k := by
        cases k with
        | zero =>
          rw [List.drop_zero, e] at h1
          simp at h1
        | succ k => omega
      have hlt : k - 1 < s.data.toList.length := by omega
      have e3 : s.data.toList = s.data.toList.take (k - 1) ++ 47 :: s.data.toList.drop k := by
        conv => lhs; rw [← List.take_append_drop (k - 1) s.data.toList]
        congr 1
        rw [List.drop_eq_getElem_cons hlt, show k - 1 + 1 = k from by omega]
        congr 1
        rw [List.getElem?_eq_getElem hlt] at h2
        exact Option.some.inj h2
      have e4 := e3.symm.trans e
      rw [(last_slash h1 (stText_clean x) e4).1]
/-- The beginning of a list of steps, by the bytes of the names. -/
theorem nm_pre : ∀ (tt ss : List St), (∀ x ∈ tt, OkSt x) → (∀ x ∈ ss, OkSt x) → ∀ r, nm ss = nm tt ++ r → (r = [] ∨ ∃ q, r = 47 :: q) → tt <+: ss := by
  intro tt
  induction tt with
  | nil => intro ss _ _ r _ _; exact List.nil_prefix
  | cons x tt ih =>
    intro ss ht hs r h hr
    cases ss with
    | nil => simp [nm] at h
    | cons y ss =>
      have e : ∀ (z : St) (zs : List St), nm (z :: zs) = 47 :: (stText z ++ nm zs) := fun z zs => by simp [nm]
      rw [e, e, List.cons_append, List.append_assoc] at h
      have h' := List.tail_eq_of_cons_eq h
      have lead : ∀ (zs : List St) (q : List UInt8), (q = [] ∨ ∃ p, q = 47 :: p) → nm zs ++ q = [] ∨ ∃ p, nm zs ++ q = 47 :: p := fun zs q hq => by
        cases zs with
        | nil => simpa [nm] using hq
        | cons z zs => right; rw [e]; exact ⟨_, rfl⟩
      have cutAt : ∀ (a b p q : List UInt8), (47 : UInt8) ∉ a → (47 : UInt8) ∉ b → (p = [] ∨ ∃ p', p = 47 :: p') → (q = [] ∨ ∃ q', q = 47 :: q') → a ++ p = b ++ q → a = b ∧ p = q := by
        intro a b p q ha hb hp hq hab
        have f : ∀ (a p : List UInt8), (47 : UInt8) ∉ a → (p = [] ∨ ∃ p', p = 47 :: p') → hd 47 (a ++ p) = a := by
          intro a p ha hp
          rcases hp with rfl | ⟨p', rfl⟩
          · rw [List.append_nil]; exact hd_none ha
          · exact hd_some ha
        have e1 : a = b := by rw [← f a p ha hp, hab, f b q hb hq]
        subst e1
        exact ⟨rfl, List.append_cancel_left hab⟩
      have l1 := lead ss [] (.inl rfl)
      rw [List.append_nil] at l1
      obtain ⟨e1, e2⟩ := cutAt _ _ _ _ (stText_clean y) (stText_clean x) l1 (lead tt r hr) h'
      have exy : y = x := stText_inj (hs y (by simp)) (ht x (by simp)) e1
      subst exy
      exact (List.cons_prefix_cons).2 ⟨rfl, ih ss (fun z hz => ht z (by simp [hz])) (fun z hz => hs z (by simp [hz])) r e2 hr⟩
/-- How long a name is at most. -/
theorem txsT_len2 (ts : List T4) (h : ts.length ≤ 2) : (txsT ts).size ≤ 56 := by
  unfold txsT
  split
  · rw [toB_size]
    have := accT_len ts ts.length
    omega
  · exact Nat.zero_le _
end Go.Proofs.YtgfboghieejbkaaDoor

/- How the program cuts a name into steps, and that it tells what a name is: plain mathematics. -/
namespace Go.Proofs.YtgfboghieejbkaaDoor
open Go.RowKit
set_option linter.unusedSectionVars false
variable [∀ (a b c d : Int), Decidable (Ok4 a b c d)]
variable [∀ (a b c d : Nat), Decidable (okN a b c d)]
variable [∀ (last : Int) (s : St), Decidable (GoodSt last s)]
variable [∀ (x : T4), Decidable (OkT x)]

/-- The first piece: its first byte, whatever it is, and all up to the next mark. -/
def pc : List UInt8 → List UInt8
  | [] => []
  | c :: t => c :: t.takeWhile (· != 47)
/-- What is behind it. -/
def rs : List UInt8 → List UInt8
  | [] => []
  | _ :: t => t.dropWhile (· != 47)
theorem pc_rs (r : List UInt8) : pc r ++ rs r = r := by
  cases r with
  | nil => rfl
  | cons c t => simp [pc, rs, List.takeWhile_append_dropWhile]
theorem rs_lt {r : List UInt8} (h : r ≠ []) : (rs r).length < r.length := by
  cases r with
  | nil => exact absurd rfl h
  | cons c t =>
    have := congrArg List.length (List.takeWhile_append_dropWhile (p := (· != (47 : UInt8))) (l := t))
    rw [List.length_append] at this
    simp only [rs, List.length_cons]; omega
theorem rs_head (r : List UInt8) : rs r = [] ∨ ∃ q, rs r = 47 :: q := by
  cases r with
  | nil => exact .inl rfl
  | cons c t =>
    show t.dropWhile _ = [] ∨ ∃ q, t.dropWhile _ = 47 :: q
    cases h : t.dropWhile (· != (47 : UInt8)) with
    | nil => exact .inl rfl
    | cons x q =>
      have hx := List.head_dropWhile_not (p := (· != (47 : UInt8))) (l := t) (by rw [h]; simp)
      simp only [h, List.head_cons] at hx
      exact .inr ⟨q, by rw [show x = 47 by simpa using hx]⟩
/-- What is left behind k pieces. -/
def rsN (l : List UInt8) : Nat → List UInt8
  | 0 => l
  | k + 1 => rs (rsN l k)
theorem rsN_le (l : List UInt8) (k : Nat) : (rsN l k).length ≤ l.length := by
  induction k with
  | zero => exact Nat.le_refl _
  | succ k ih =>
    by_cases h : rsN l k = []
    · show (rs (rsN l k)).length ≤ _; rw [h]; exact Nat.zero_le _
    · have := rs_lt h; show (rs (rsN l k)).length ≤ _; omega
/-- How many pieces there are. -/
theorem rounds (l : List UInt8) : ∃ m, rsN l m = [] ∧ ∀ k, k < m → rsN l k ≠ [] := by
  have key : ∀ n k, (rsN l k).length ≤ n → (∀ j, j < k → rsN l j ≠ []) → ∃ m, rsN l m = [] ∧ ∀ k, k < m → rsN l k ≠ [] := by
    intro n
    induction n with
    | zero => exact fun k h hk => ⟨k, List.length_eq_zero_iff.1 (Nat.le_zero.1 h), hk⟩
    | succ n ih =>
      intro k h hk
      by_cases e : rsN l k = []
      · exact ⟨k, e, hk⟩
      · have := rs_lt e
        exact ih (k + 1) (by show (rs (rsN l k)).length ≤ n; omega) fun j hj => by
          by_cases e2 : j = k
          · subst e2; exact e
          · exact hk j (by omega)
  exact key _ 0 (Nat.le_refl _) fun j hj => by omega
/-- The step of which a piece is the text. -/
def stepP (p : List UInt8) : Option St := if p.head? = some 47 then stepOf (toB p.tail) else none
def lastV (ss : List St) : Int := (ss.getLast?.map (·.1)).getD 0
theorem lastV_snoc (ss : List St) (x : St) : lastV (ss ++ [x]) = x.1 := by simp [lastV]
theorem lastV_ge {ss : List St} (h : OkSts ss) : 0 ≤ lastV ss ∧ lastV ss ≤ 60 := by
  unfold lastV
  cases e : ss.getLast? with
  | none => simp
  | some x =>
    have := (h.2.1 x (List.mem_of_getLast? e)).1
    simp; omega
theorem views_le {ss : List St} (h : OkSts ss) : ∀ s ∈ ss, s.1 ≤ lastV ss := by
  intro s hs
  obtain ⟨ss', x, rfl⟩ : ∃ ss' x, ss = ss' ++ [x] := ⟨ss.dropLast, ss.getLast (List.ne_nil_of_mem hs), (List.dropLast_concat_getLast _).symm⟩
  rw [lastV_snoc]
  rcases List.mem_append.1 hs with h1 | h1
  · have := (List.pairwise_append.1 h.2.2).2.2 s h1 x (by simp)
    omega
  · simp at h1; subst h1; exact Int.le_refl _
/-- A piece that is a good step: what has been read grows by it. -/
theorem piece_on {l r : List UInt8} {ss : List St} {x : St} (h : l = nm ss ++ r) (hk : OkSts ss) (hx : stepP (pc r) = some x) (hg : GoodSt (lastV ss) x) (hl : ss.length < 30) : l = nm (ss ++ [x]) ++ rs r ∧ OkSts (ss ++ [x]) := by
  unfold stepP at hx
  split at hx
  · rename_i hh
    obtain ⟨h1, h2, h3⟩ := stepOf_some hx
    rw [toB_list] at h1
    have hp : pc r = 47 :: stText x := by
      rw [← h1]
      cases hpc : pc r with
      | nil => rw [hpc] at hh; simp at hh
      | cons c t => rw [hpc] at hh; simp at hh; rw [hh]; rfl
    obtain ⟨g1, g2, g3⟩ := hg
    have hz := lastV_ge hk
    have hx : OkSt x := ⟨⟨by omega, g2⟩, g3, h3⟩
    refine ⟨?_, by simp; omega, fun s hs => ?_, ?_⟩
    · rw [nm_snoc, ← hp, List.append_assoc, pc_rs]; exact h
    · rcases List.mem_append.1 hs with h4 | h4
      · exact hk.2.1 s h4
      · simp at h4; subst h4; exact hx
    · refine List.pairwise_append.2 ⟨hk.2.2, by simp, fun s hs t ht => ?_⟩
      simp at ht; subst ht
      have := views_le hk s hs
      omega
  · cases hx
theorem nm_head : ∀ ss : List St, nm ss = [] ∨ ∃ q, nm ss = 47 :: q := fun ss => by
  cases ss with
  | nil => exact .inl rfl
  | cons s ss => exact .inr ⟨_, rfl⟩
/-- A piece that is no good step: the whole is no name. -/
theorem piece_no {s : ByteArray} {r : List UInt8} {ss : List St} (h : s.data.toList = nm ss ++ r) (hr : r ≠ []) (hk : OkSts ss) (hh : ss = [] ∨ ∃ q, r = 47 :: q)
    (hn : ∀ x, stepP (pc r) = some x → GoodSt (lastV ss) x → ss.length < 30 → False) : stepsAns s = none := by
  cases hs : stepsAns s with
  | none => rfl
  | some tt =>
    exfalso
    obtain ⟨h1, h2⟩ := (names_iff _ _).1 hs
    have hpre : ss <+: tt := by
      rcases hh with rfl | hh
      · exact List.nil_prefix
      · exact nm_pre ss tt hk.2.1 h2.2.1 r (h1.symm.trans h) (.inr hh)
    obtain ⟨uu, rfl⟩ := hpre
    rw [h, nm_append] at h1
    have h1 := List.append_cancel_left h1
    cases uu with
    | nil => exact hr h1
    | cons x uu =>
      have hx : OkSt x := h2.2.1 x (by simp)
      have e1 : r = 47 :: (stText x ++ nm uu) := by rw [h1]; simp [nm]
      have hc : ∀ y ∈ stText x, (y != (47 : UInt8)) = true := fun y hy => by
        have := stText_clean x
        simp; intro e; subst e; exact this hy
      have e2 : pc r = 47 :: stText x := by
        rw [e1]
        show 47 :: (stText x ++ nm uu).takeWhile _ = _
        rw [List.takeWhile_append_of_pos hc]
        rcases nm_head uu with e | ⟨q, e⟩
        · rw [e]; simp
        · rw [e]; simp
      refine hn x ?_ ?_ ?_
      · unfold stepP
        rw [e2]
        refine (if_pos rfl).trans ?_
        exact stepOf_text hx (toB_list _)
      · have hv : lastV ss < x.1 := by
          unfold lastV
          cases e : ss.getLast? with
          | none => have := hx.1; simp; omega
          | some y =>
            have := (List.pairwise_append.1 h2.2.2).2.2 y (List.mem_of_getLast? e) x (by simp)
            simpa using this
        exact ⟨hv, hx.1.2, hx.2.1⟩
      · have := h2.1; simp at this; omega
/-- All pieces are good steps. -/
theorem piece_end {s : ByteArray} {ss : List St} (h : s.data.toList = nm ss ++ []) (hk : OkSts ss) : stepsAns s = some ss := (names_iff _ _).2 ⟨by simpa using h, hk⟩
end Go.Proofs.YtgfboghieejbkaaDoor

/- strings.Index, Cut, CutPrefix, LastIndex, HasPrefix at a mark of one byte. -/
namespace Go.Proofs.YtgfboghieejbkaaDoor
open Go.RowKit
set_option linter.unusedSectionVars false
variable [∀ (a b c d : Int), Decidable (Ok4 a b c d)]
variable [∀ (a b c d : Nat), Decidable (okN a b c d)]
variable [∀ (last : Int) (s : St), Decidable (GoodSt last s)]
variable [∀ (x : T4), Decidable (OkT x)]

theorem ib_cases (m : UInt8) (l : List UInt8) : (m ∉ l ∧ Lib.indexByte l m = -1) ∨ (m ∈ l ∧ Lib.indexByte l m = ((l.takeWhile (· != m)).length : Int)) := by
  induction l with
  | nil => exact .inl ⟨by simp, rfl⟩
  | cons b l ih =>
    unfold Lib.indexByte
    by_cases h : b = m
    · subst h; exact .inr ⟨by simp, by simp⟩
    · have hb : (b == m) = false := by simpa using h
      have hn : (b != m) = true := by simpa using h
      rw [if_neg (by simpa using h)]
      rcases ih with ⟨h1, h2⟩ | ⟨h1, h2⟩
      · rw [h2]; exact .inl ⟨by simp [h1, Ne.symm h], rfl⟩
      · rw [h2, if_neg (by simp)]
        refine .inr ⟨by simp [h1], ?_⟩
        rw [List.takeWhile_cons, if_pos hn]; simp

set_option maxHeartbeats 1000000 in
set_option maxRecDepth 100000 in
theorem lite_index (m : UInt8) (s : ByteArray) (w : World) :
    Calls Tryd.prog 40 #[.string s, .string ⟨#[m]⟩] w fun e w' => e = .returned (.int .i64 (Lib.indexByte s.data.toList m)) ∧ w' = w := by
  have IB := hide fun w => Tryd.stringslite_IndexByte s (m.toNat : Int) w
  have e1 : ((m.toNat : Nat) : Int).toNat.toUInt8 = m := by simp
  rw [e1] at IB
  have hz : (⟨#[m]⟩ : ByteArray).size = 1 := rfl
  have hi : (⟨#[m]⟩ : ByteArray)[0]'(by rw [hz]; omega) = m := rfl
  have hne : ([m] == s.toList) = true → Lib.indexByte s.data.toList m = 0 := fun h => by
    have h1 : s.toList = [m] := (by simpa using h : [m] = s.toList).symm
    rw [ByteArray.toList_eq] at h1
    rw [h1]; simp [Lib.indexByte]
  cases hb : ([m] == s.toList) with
  | true =>
    rw [hne hb]
    clear IB hne
    go_enter Tryd.func40, Tryd.ntmps40
    go_wp2
    go_ret
    exact ⟨rfl, rfl⟩
  | false =>
    clear hne
    generalize Lib.indexByte s.data.toList m = r at *
    go_enter Tryd.func40, Tryd.ntmps40
    go_wp2_with (first | (go_at_call 48; refine (unhide IB _).mono ?_; rintro e w' ⟨rfl, rfl⟩))
    go_ret
    exact ⟨rfl, rfl⟩
set_option maxHeartbeats 1000000 in
set_option maxRecDepth 100000 in
theorem index_mark (m : UInt8) (s : ByteArray) (w : World) :
    Calls Tryd.prog 34 #[.string s, .string ⟨#[m]⟩] w fun e w' => e = .returned (.int .i64 (Lib.indexByte s.data.toList m)) ∧ w' = w := by
  have IB := hide fun w => lite_index m s w
  generalize Lib.indexByte s.data.toList m = r at *
  generalize (⟨#[m]⟩ : ByteArray) = q at *
  go_enter Tryd.func34, Tryd.ntmps34
  go_wp2_with (first | (go_at_call 40; refine (unhide IB _).mono ?_; rintro e w' ⟨rfl, rfl⟩))
  go_ret
  exact ⟨rfl, rfl⟩
/-- What Cut answers at a mark of one byte. -/
def cutA (m : UInt8) (s : ByteArray) : ByteArray × ByteArray := if m ∈ s.data.toList then (toB (hd m s.data.toList), toB (tl m s.data.toList)) else (s, ⟨#[]⟩)
theorem cutA_size (m : UInt8) (s : ByteArray) : (cutA m s).1.size ≤ s.size ∧ (cutA m s).2.size ≤ s.size := by
  unfold cutA
  split
  · have h := congrArg List.length (List.takeWhile_append_dropWhile (p := (· != m)) (l := s.data.toList))
    rw [List.length_append] at h
    have h2 : s.data.toList.length = s.size := by simp
    simp only [toB_size, hd, tl, List.length_tail]
    omega
  · exact ⟨Nat.le_refl _, Nat.zero_le _⟩
theorem cut_ext {m : UInt8} {s : ByteArray} (h : m ∈ s.data.toList) : ∃ k : Nat, k < s.size ∧ (s.data.toList.takeWhile (· != m)).length = k ∧ s.extract 0 k = (cutA m s).1 ∧ s.extract (k + 1) s.size = (cutA m s).2 := by
  have h1 := List.takeWhile_append_dropWhile (p := (· != m)) (l := s.data.toList)
  have h3 := congrArg List.length h1
  rw [List.length_append] at h3
  have h2 : s.data.toList.length = s.size := by simp
  have h4 : s.data.toList.dropWhile (· != m) ≠ [] := fun e => by
    rw [e, List.append_nil] at h1
    have := (List.all_takeWhile (p := (· != m)) (l := s.data.toList))
    rw [h1] at this
    have := List.all_eq_true.1 this m h
    simp at this
  have h5 : 0 < (s.data.toList.dropWhile (· != m)).length := List.length_pos_iff.2 h4
  have e1 : hd m s.data.toList = s.data.toList.takeWhile (· != m) := rfl
  have e2 : tl m s.data.toList = (s.data.toList.dropWhile (· != m)).tail := rfl
  unfold cutA
  rw [if_pos h, e1, e2]
  generalize s.data.toList.takeWhile (· != m) = x at *
  generalize s.data.toList.dropWhile (· != m) = y at *
  refine ⟨_, by omega, rfl, ?_, ?_⟩
  · rw [ext_toB, ← h1]; simp
  · rw [rst_all, ← h1]; simp

set_option maxHeartbeats 1000000 in
set_option maxRecDepth 100000 in
theorem lite_cut (m : UInt8) (s : ByteArray) (w : World) (hs : s.size ≤ 33554432) :
    Calls Tryd.prog 42 #[.string s, .string ⟨#[m]⟩] w fun e w' => e = .returned (.tuple #[.string (cutA m s).1, .string (cutA m s).2, .bool (decide (m ∈ s.data.toList))]) ∧ Below w.heap.size w w' := by
  have IX := hide fun w => lite_index m s w
  have hz : (⟨#[m]⟩ : ByteArray).size = 1 := rfl
  rcases ib_cases m s.data.toList with ⟨h1, h2⟩ | ⟨h1, h2⟩
  · rw [h2] at IX
    have e1 : cutA m s = (s, ⟨#[]⟩) := if_neg h1
    rw [e1, decide_eq_false h1]
    clear h1 h2 e1
    generalize (⟨#[m]⟩ : ByteArray) = q at *
    go_enter Tryd.func42, Tryd.ntmps42
    go_wp2_with (first | (go_at_call 40; refine (unhide IX _).mono ?_; rintro e w' ⟨rfl, rfl⟩))
    go_ret3
    exact ⟨rfl, Below.refl _ _⟩
  · obtain ⟨k, hk, hkl, e1, e2⟩ := cut_ext h1
    rw [h2, hkl] at IX
    rw [← e1, ← e2, decide_eq_true h1]
    clear h1 h2 e1 e2 hkl
    have mixed : Tryd.prog.follows .mixedOrders = true := by kernel_rfl
    generalize (⟨#[m]⟩ : ByteArray) = q at *
    go_enter Tryd.func42, Tryd.ntmps42
    go_wp2_with (first | (go_at_call 40; refine (unhide IX _).mono ?_; rintro e w' ⟨rfl, rfl⟩))
    go_region_o
    go_wp2
    go_ret3
    exact ⟨rfl, (Below.refl _ _).drew⟩
set_option maxHeartbeats 1000000 in
set_option maxRecDepth 100000 in
theorem cut_mark (m : UInt8) (s : ByteArray) (w : World) (hs : s.size ≤ 33554432) :
    Calls Tryd.prog 36 #[.string s, .string ⟨#[m]⟩] w fun e w' => e = .returned (.tuple #[.string (cutA m s).1, .string (cutA m s).2, .bool (decide (m ∈ s.data.toList))]) ∧ Below w.heap.size w w' := by
  have IX := hide fun w => lite_cut m s w hs
  generalize decide (m ∈ s.data.toList) = r at *
  generalize cutA m s = r at *
  generalize (⟨#[m]⟩ : ByteArray) = q at *
  go_enter Tryd.func36, Tryd.ntmps36
  go_wp2_with (first | (go_at_call 42; refine (unhide IX _).mono ?_; rintro e w' ⟨rfl, bb⟩))
  go_ret3
  exact ⟨rfl, bb⟩
set_option maxHeartbeats 1000000 in
set_option maxRecDepth 100000 in
theorem last_mark (m : UInt8) (s : ByteArray) (w : World) (hs : s.size ≤ 33554432) :
    Calls Tryd.prog 22 #[.string s, .string ⟨#[m]⟩] w fun e w' => e = .returned (.int .i64 (Lib.lastIndexByte s (m.toNat : Int))) ∧ w' = w := by
  have IX := hide fun w => Tryd.bytealg_LastIndexByteString_nm s (m.toNat : Int) (by omega) w
  have hz : (⟨#[m]⟩ : ByteArray).size = 1 := rfl
  have hi : (⟨#[m]⟩ : ByteArray)[0]'(by rw [hz]; omega) = m := rfl
  generalize Lib.lastIndexByte s (m.toNat : Int) = r at *
  go_enter Tryd.func22, Tryd.ntmps22
  go_wp2_with (first | (go_at_call 27; refine (unhide IX _).mono ?_; rintro e w' ⟨rfl, rfl⟩))
  go_ret
  exact ⟨rfl, rfl⟩
end Go.Proofs.YtgfboghieejbkaaDoor

/- Lists of steps in memory: a row of two cells each, and each step's own list of payments. -/
namespace Go.Proofs.YtgfboghieejbkaaDoor
open Go.RowKit
set_option linter.unusedSectionVars false
variable [∀ (a b c d : Int), Decidable (Ok4 a b c d)]
variable [∀ (a b c d : Nat), Decidable (okN a b c d)]
variable [∀ (last : Int) (s : St), Decidable (GoodSt last s)]

theorem Tryd.infoSt : (Tryd.prog.info? 30).map (fun i => (i.zero, i.size, i.bytes)) = some (some (.agg #[.int .i64 0, .slice none 0 0]), 2, 32) := by kernel_rfl
def scell (p : Int × Value) : List Value := [.int .i64 p.1, p.2]
def scells (ps : List (Int × Value)) : List Value := ps.flatMap scell
theorem scells_append (ps qs : List (Int × Value)) : scells (ps ++ qs) = scells ps ++ scells qs := by simp [scells]
theorem scells_get (ps : List (Int × Value)) (k j : Nat) (hk : k < ps.length) (hj : j < 2) : (scells ps)[k * 2 + j]? = (scell (ps.getD k (0, .slice none 0 0)))[j]? := by
  induction ps generalizing k with
  | nil => simp at hk
  | cons p ps ih =>
    have e : scells (p :: ps) = scell p ++ scells ps := by simp [scells]
    rw [e]
    cases k with
    | zero => rw [Nat.zero_mul, Nat.zero_add, List.getElem?_append_left (by simp [scell]; exact hj)]; rfl
    | succ k =>
      rw [List.getElem?_append_right (by simp [scell]; omega), show (scell p).length = 2 from rfl, show (k + 1) * 2 + j - 2 = k * 2 + j from by omega, ih k (by simpa using hk)]
      rfl
/-- v is a row of the call's own, from block 'base' on, of the steps ss, whose lists vs are the call's own too, each in a block of its own. -/
structure OStV (w : World) (base : Nat) (v : Value) (ss : List St) (vs : List Value) : Prop where
  len : vs.length = ss.length
  row : w.ownsRow base 30 2 v ss.length (scells ((ss.map (·.1)).zip vs))
  each : ∀ k, k < ss.length → OT w base (vs.getD k (.slice none 0 0)) (ss.getD k zst).2
  apart : ∀ i j, i < j → j < ss.length → ∀ b, (vs.getD i (.slice none 0 0)).ownBlock = some b → (vs.getD j (.slice none 0 0)).ownBlock ≠ some b
def OSt (w : World) (base : Nat) (v : Value) (ss : List St) : Prop := ∃ vs, OStV w base v ss vs
/-- A row of steps and a list of payments lie in two blocks. -/
theorem st_ot {w : World} {B B' n : Nat} {v u : Value} {cs : List Value} {ys : List T4} (h : w.ownsRow B 30 2 v n cs) (h' : OT w B' u ys) (b : Nat) (hv : v.ownBlock = some b) : u.ownBlock ≠ some b := by
  rcases h.2 with ⟨rfl, _⟩ | ⟨g, cap, cur, rfl, _, hg, _⟩
  · simp [Value.ownBlock] at hv
  · rcases h'.2 with ⟨rfl, _⟩ | ⟨g', cap', cur', rfl, _, hg', _⟩
    · simp [Value.ownBlock]
    · intro e
      simp [Value.ownBlock] at e hv
      subst hv
      rw [e, hg] at hg'
      simp at hg'
theorem OStV.below {w w' : World} {base : Nat} {v : Value} {ss : List St} {vs : List Value} (h : OStV w base v ss vs) (hb : Below w.heap.size w w') : OStV w' base v ss vs :=
  ⟨h.len, World.ownsRow.kept (row := none) h.row ⟨hb.os, hb.tape, hb.output, hb.size, fun k hk _ => hb.block k hk⟩ (by cases v.ownBlock <;> simp), fun k hk => (h.each k hk).below hb, h.apart⟩
theorem OSt.below {w w' : World} {base : Nat} {v : Value} {ss : List St} (h : OSt w base v ss) (hb : Below w.heap.size w w') : OSt w' base v ss := by
  obtain ⟨vs, h⟩ := h; exact ⟨vs, h.below hb⟩
theorem ost_nil (w : World) (base : Nat) : OSt w base (.slice none 0 0) [] := ⟨[], rfl, World.ownsRow_nil _ _ _ _, fun k hk => by simp at hk, fun i j _ hj => by simp at hj⟩
theorem OSt.form {w : World} {base : Nat} {v : Value} {ss : List St} (h : OSt w base v ss) : ∃ ao ca, v = .slice ao ss.length ca := by
  obtain ⟨vs, h⟩ := h
  rcases h.row.2 with ⟨rfl, h0⟩ | ⟨g, cap, cur, rfl, _⟩
  · exact ⟨none, 0, by rw [h0]⟩
  · exact ⟨_, _, rfl⟩
/-- v reads as the steps ss. -/
def RSt (w : World) (v : Value) (ss : List St) : Prop :=
  ∃ ao cap, v = .slice ao ss.length cap ∧ (ss = [] ∨ ∃ g, ao = some ⟨g, 0, none⟩ ∧ ∀ k, k < ss.length → ∃ u, w.cell? ⟨g, k * 2, none⟩ = some (.int .i64 (ss.getD k zst).1) ∧ w.cell? ⟨g, k * 2 + 1, none⟩ = some u ∧ RT w u (ss.getD k zst).2)
theorem zip_get (ss : List St) (vs : List Value) (hl : vs.length = ss.length) (k : Nat) (hk : k < ss.length) : ((ss.map (·.1)).zip vs).getD k (0, .slice none 0 0) = ((ss.getD k zst).1, vs.getD k (.slice none 0 0)) := by
  rw [List.getD_eq_getElem?_getD, List.getElem?_eq_getElem (by simp; omega)]
  simp [List.getElem?_eq_getElem hk, List.getElem?_eq_getElem (show k < vs.length by omega)]
theorem OSt.rst {w : World} {base : Nat} {v : Value} {ss : List St} (h : OSt w base v ss) (hs : ∀ s ∈ ss, s.2.length ≤ 35184372088832) : RSt w v ss := by
  obtain ⟨vs, h⟩ := h
  have hz : ((ss.map (·.1)).zip vs).length = ss.length := by simp [h.len]
  rcases h.row.2 with ⟨rfl, h0⟩ | ⟨g, cap, cur, rfl, _⟩
  · exact ⟨none, 0, by rw [h0], .inl (List.length_eq_zero_iff.1 h0)⟩
  · refine ⟨_, cap, rfl, .inr ⟨g, rfl, fun k hk => ?_⟩⟩
    have c0 := World.ownsRow.cellAt h.row (k * 2 + 0) (by omega)
    have c1 := World.ownsRow.cellAt h.row (k * 2 + 1) (by omega)
    rw [scells_get _ k _ (by omega) (by omega), zip_get ss vs h.len k hk] at c0 c1
    exact ⟨_, c0, c1, (h.each k hk).rt (hs _ (by rw [List.getD_eq_getElem?_getD, List.getElem?_eq_getElem hk]; exact List.getElem_mem hk))⟩
theorem RSt.below {w w' : World} {v : Value} {ss : List St} (h : RSt w v ss) (hb : Below w.heap.size w w') : RSt w' v ss := by
  obtain ⟨ao, cap, rfl, h⟩ := h
  refine ⟨ao, cap, rfl, ?_⟩
  rcases h with h | ⟨g, rfl, h⟩
  · exact .inl h
  · refine .inr ⟨g, rfl, fun k hk => ?_⟩
    obtain ⟨u, c0, c1, r⟩ := h k hk
    have hg : g < w.heap.size := cell_lt c0
    exact ⟨u, (hb.cell (p := ⟨g, k * 2, none⟩) hg).trans c0, (hb.cell (p := ⟨g, k * 2 + 1, none⟩) hg).trans c1, r.below hb⟩
/-- One step more behind what is owned. -/
theorem ost_more {w w' : World} {base N : Nat} {v v' : Value} {ss : List St} {vs : List Value} {n : Int} {u : Value} {ts : List T4} (h : OStV w base v ss vs) (hu : OT w N u ts) (hN : ∀ k, k < ss.length → ∀ b, (vs.getD k (.slice none 0 0)).ownBlock = some b → b < N) (hbN : base ≤ N)
    (hr : w'.ownsRow base 30 2 v' (ss.length + 1) (scells ((ss.map (·.1)).zip vs) ++ scell (n, u))) (hg : w.grownBy w' v.ownBlock) : OStV w' base v' (ss ++ [(n, ts)]) (vs ++ [u]) := by
  have keep : ∀ (x : Value) (zs : List T4) (B : Nat), OT w B x zs → OT w' B x zs := fun x zs B hx => World.ownsRow.kept hx hg (by
    cases hxo : x.ownBlock with
    | none => exact .inl rfl
    | some b => exact .inr fun e => st_ot h.row hx b e.symm hxo)
  refine ⟨by simp [h.len], ?_, fun k hk => ?_, fun i j hij hj b hb => ?_⟩
  · have e : ((ss ++ [(n, ts)]).map (·.1)).zip (vs ++ [u]) = (ss.map (·.1)).zip vs ++ [(n, u)] := by
      rw [List.map_append, List.zip_append (by simp [h.len])]; rfl
    rw [e, scells_append, List.length_append]
    simpa [scells] using hr
  · rw [List.length_append, List.length_singleton] at hk
    by_cases e : k < ss.length
    · rw [List.getD_eq_getElem?_getD, List.getElem?_append_left (by rw [h.len]; exact e), ← List.getD_eq_getElem?_getD, List.getD_eq_getElem?_getD (l := ss ++ _), List.getElem?_append_left e, ← List.getD_eq_getElem?_getD]
      exact keep _ _ _ (h.each k e)
    · obtain rfl : k = ss.length := by omega
      have e1 : (vs ++ [u]).getD ss.length (.slice none 0 0) = u := by rw [← h.len]; simp
      have e2 : (ss ++ [(n, ts)]).getD ss.length zst = (n, ts) := by simp
      rw [e1, e2]
      have hk' := keep _ _ _ hu
      refine ⟨hk'.1, ?_⟩
      rcases hk'.2 with hn | ⟨g, cap, cur, rfl, hgN, rest⟩
      · exact .inl hn
      · exact .inr ⟨g, cap, cur, rfl, Nat.le_trans hbN hgN, rest⟩
  · rw [List.length_append, List.length_singleton] at hj
    have hi : i < ss.length := by omega
    rw [List.getD_eq_getElem?_getD, List.getElem?_append_left (by rw [h.len]; exact hi), ← List.getD_eq_getElem?_getD] at hb
    by_cases e : j < ss.length
    · rw [List.getD_eq_getElem?_getD, List.getElem?_append_left (by rw [h.len]; exact e), ← List.getD_eq_getElem?_getD]
      exact h.apart i j hij e b hb
    · obtain rfl : j = ss.length := by omega
      have e1 : (vs ++ [u]).getD ss.length (.slice none 0 0) = u := by rw [← h.len]; simp
      rw [e1]
      intro e3
      have := hN i hi b hb
      have := (World.ownsRow.lt hu b e3).1
      omega
end Go.Proofs.YtgfboghieejbkaaDoor

/- A range over a function whose rounds are handed what memory holds: the law by which Steps is walked. -/
namespace Go.Proofs.YtgfboghieejbkaaDoor
open Go Go.RowKit

theorem grown_of {w w' : World} (h : Below w.heap.size w w') : w.grownBy w' none := ⟨h.os, h.tape, h.output, h.size, fun k hk _ => h.block k hk⟩
/-- How the body of round k is left: it goes on, or it returns. -/
def fedPost (B n₀ : Nat) (G X : World → Prop) (W : World) : Exit → Act → World → Prop
  | .normal, _, W' => KeepsFrom B W W' ∧ Below n₀ W W' ∧ G W'
  | .ret, _, W' => KeepsFrom B W W' ∧ X W'
  | _, _, _ => False
/-- What an iterator of m rounds does, whatever its caller keeps (J) between rounds: in round k it hands out what 'hand k' says of values and memory, made since the caller was left. -/
def Feeds (F : Fence) (n : Nat) (P : Program) (gf : Nat) (lb : Array Value) (n₀ m : Nat) (hand : Nat → Array Value → World → World → Prop) (w : World) : Prop :=
  ∀ (l : Nat) (J X : Nat → World → Prop) (W : World), Below w.heap.size w W → (∀ k A A', J k A → Below A.heap.size A A' → J k A') → (∀ k A A', X k A → Below A.heap.size A A' → X k A') →
    (∀ k vs U V, J k U → Below U.heap.size U V → k < m → hand k vs U V → YieldAt F (n - 1) P l vs V fun e V' => (e = .returned (.bool true) ∧ J (k + 1) V' ∧ Below n₀ V V') ∨ (e = .returned (.bool false) ∧ X k V')) →
    J 0 W → CallsIn F n P gf (#[.func (.yield l) #[] #[]] ++ lb) W fun e W' => (∃ v, e = .returned v) ∧ (J m W' ∨ ∃ k, k < m ∧ X k W')

variable {F : Fence} {n : Nat} {P : Program}
theorem range_fed {g : Operand} {ps : Array Tmp} {assign body : Code} {R : Exit → Act → World → Prop} {a : Act} {w : World}
    (hro : F.round = none) (h1 : 1 ≤ n) {gf : Nat} {lb : Array Value} (hg : a.eval g = .func (.func gf) #[] lb) (hFg : F.fn gf) (eg : ∀ args w, (callFunc gf args).run P w = .ok (.enter gf args) w)
    {n₀ m : Nat} {hand : Nat → Array Value → World → World → Prop} (hn₀ : n₀ ≤ w.heap.size) (hps : ∀ k vs U W, hand k vs U W → vs.size = ps.size) (hseq : Feeds F (n - 1) P gf lb n₀ m hand w)
    (I X : Nat → World → Prop) (hI : OwnFrom w.heap.size I) (hX : OwnFrom w.heap.size X) (h0 : I 0 w)
    (Ax : Nat → Act → World → Prop) (hAx : ∀ a', OwnFrom w.heap.size (fun k W => Ax k a' W))
    (hassign : ∀ (l k : Nat) (vs : Array Value) (U W : World) (K : Act → World → Prop), k < m → I k U → Below U.heap.size U W → hand k vs U W → (∀ a' W', KeepsFrom w.heap.size W W' → Below n₀ W W' → Ax k a' W' → K a' W') →
      assign.wpIn (F.inRound l) (n - 1 - 1) P (Exit.then K (fun _ _ _ => False)) { tmps := (ps.zip vs).foldl (fun t (p, v) => t.setIfInBounds p v) a.tmps, defers := [] } W)
    (hbody : ∀ (l k : Nat) (a' : Act) (W : World), k < m → Ax k a' W → body.wpIn (F.inRound l) (n - 1 - 1) P (fedPost w.heap.size n₀ (I (k + 1)) (X k) W) a' W)
    (hdone : ∀ (D : Nat) (W : World), w.heap.size ≤ D → I m W → W.heap[D]? = some (.deferred (some [])) → R .normal { a with defers := { target := .collected D, args := #[] } :: a.defers } W)
    (hstop : ∀ (D k : Nat) (W : World), w.heap.size ≤ D → k < m → X k W → W.heap[D]? = some (.deferred (some [])) → Code.ret.wpIn F n P R { a with defers := { target := .collected D, args := #[] } :: a.defers } W) :
    (Code.rangeFunc g ps assign body).wpIn F n P R a w := by
  refine wpIn_rangeFunc fun fn hfn => ?_
  rw [hro]
  -- the two blocks that the statement lays: where deferred calls are kept, and the loop's record
  let D := w.heap.size
  let L := w.heap.size + 1
  let book : LoopState → Option Code → Loop := fun st j => { state := st, pending := j, fn, tmps := a.tmps, params := ps, assign, body, defers := D }
  let W0 := (w.alloc (.deferred (some []))).alloc (.loop (book .ready none))
  have zW0 : W0.heap.size = w.heap.size + 2 := by simp [W0]
  have bW0 : Below w.heap.size w W0 := ((Below.refl _ w).alloc (Nat.le_refl _) _).alloc (by simp) _
  have rec0 : W0.heap[L]? = some (.loop (book .ready none)) := by
    have := World.alloc_heap_new (w.alloc (.deferred (some []))) (.loop (book .ready none))
    rwa [World.size_alloc] at this
  have def0 : W0.heap[D]? = some (.deferred (some [])) := (Below.heap_alloc _ _ _ (by simp [D])).trans (World.alloc_heap_new w _)
  have iW0 : I 0 W0 := hI.alloc _ (hI.alloc _ h0)
  refine ⟨L, [{ target := .collected D, args := #[] }], W0, { target := .fn (.func gf) lb, args := #[.func (.yield L) #[] #[]] }, W0, gf, #[.func (.yield L) #[] #[]] ++ lb, W0, run_enterLoop_outer _ _ _ _ _, ?_, ?_, ?_, fun _ => h1, ?_⟩
  · simp only [resolve, hg]
    simp [go_sem]
  · intro f' hf'; simp [Target.leads] at hf'; subst hf'; exact hFg
  · simp [invoke, go_sem, eg]
  -- what the caller keeps between rounds: its own word, and both blocks
  refine (hseq L (fun k W => I k W ∧ W.heap[L]? = some (.loop (book .ready none)) ∧ W.heap[D]? = some (.deferred (some []))) (fun k W => X k W ∧ W.heap[L]? = some (.loop (book .done (some .ret))) ∧ W.heap[D]? = some (.deferred (some [])))
    W0 bW0 (fun k A A' h hb => ?_) (fun k A A' h hb => ?_) ?_ ⟨iW0, rec0, def0⟩).mono ?_
  · exact ⟨hI k A A' none h.1 (grown_of hb) (fun r e => by cases e), (hb.block L (Array.getElem?_eq_some_iff.1 h.2.1).1).trans h.2.1, (hb.block D (Array.getElem?_eq_some_iff.1 h.2.2).1).trans h.2.2⟩
  · exact ⟨hX k A A' none h.1 (grown_of hb) (fun r e => by cases e), (hb.block L (Array.getElem?_eq_some_iff.1 h.2.1).1).trans h.2.1, (hb.block D (Array.getElem?_eq_some_iff.1 h.2.2).1).trans h.2.2⟩
  · rintro k vs U V ⟨iU, recU, defU⟩ bU hk hh
    have recV := (bU.block L (Array.getElem?_eq_some_iff.1 recU).1).trans recU
    have defV := (bU.block D (Array.getElem?_eq_some_iff.1 defU).1).trans defU
    refine ⟨fn, _, assign, body, run_yield (P := P) (args := vs) recV (hps k vs U V hh), roundIn_of_wpIn hfn (hassign L k vs U V _ hk iU bU hh ?_)⟩
    intro a' A kA bA xA
    have recA := kA.same L _ (by simp [L]) recV rfl
    have defA := kA.same D _ (Nat.le_refl _) defV rfl
    have ltA := (Array.getElem?_eq_some_iff.1 recA).1
    refine ⟨_, run_beginRound recA rfl, ?_⟩
    generalize hM : A.putObj L (.loop { book .ready none with state := .busy }) = M
    have recM : M.heap[L]? = some (.loop { book .ready none with state := .busy }) := hM ▸ World.putObj_heap_same ltA
    have defM : M.heap[D]? = some (.deferred (some [])) := hM ▸ (World.putObj_heap_other (by simp [L, D])).trans defA
    have bM : Below n₀ A M := hM ▸ belowK_b (w := w) hn₀ A L _ _ (by simp [L]) recA rfl rfl
    have xM : Ax k a' M := hM ▸ (hAx a').putObj _ xA (by simp [L]) recA rfl
    refine wpIn_mono (hbody L k a' M hk xM) ?_
    intro e a3 Z hZ
    cases e with
    | normal =>
      obtain ⟨kZ, bZ, iZ⟩ := hZ
      have recZ := kZ.same L _ (by simp [L]) recM rfl
      have defZ := kZ.same D _ (Nat.le_refl _) defM rfl
      refine ⟨_, _, run_endRound (P := P) none recZ, .inl ⟨rfl, ⟨hI.putObj _ iZ (by simp [L]) recZ rfl, World.putObj_heap_same (Array.getElem?_eq_some_iff.1 recZ).1, (World.putObj_heap_other (by simp [L, D])).trans defZ⟩, ?_⟩⟩
      exact bA.trans (bM.trans (bZ.trans (belowK_b (w := w) hn₀ Z L _ _ (by simp [L]) recZ rfl rfl)))
    | ret =>
      obtain ⟨kZ, iZ⟩ := hZ
      have recZ := kZ.same L _ (by simp [L]) recM rfl
      have defZ := kZ.same D _ (Nat.le_refl _) defM rfl
      exact ⟨_, _, run_endRound (P := P) (some .ret) recZ, .inr ⟨rfl, hX.putObj _ iZ (by simp [L]) recZ rfl, World.putObj_heap_same (Array.getElem?_eq_some_iff.1 recZ).1, (World.putObj_heap_other (by simp [L, D])).trans defZ⟩⟩
    | exit id => exact hZ.elim
    | goto t => exact hZ.elim
    | panic c => exact hZ.elim
    | outgrown => exact hZ.elim
  · rintro e Z ⟨⟨v, rfl⟩, (⟨iZ, recZ, defZ⟩ | ⟨k, hk, iZ, recZ, defZ⟩)⟩
    · exact ⟨none, _, run_endLoop (P := P) recZ (by simp [book]), hdone D _ (Nat.le_refl _) (hI.putObj _ iZ (by simp [L]) recZ rfl) ((World.putObj_heap_other (by simp [L, D])).trans defZ)⟩
    · exact ⟨some .ret, _, run_endLoop (P := P) recZ (by simp [book]), hstop D k _ (Nat.le_refl _) hk (hX.putObj _ iZ (by simp [L]) recZ rfl) ((World.putObj_heap_other (by simp [L, D])).trans defZ)⟩
end Go.Proofs.YtgfboghieejbkaaDoor
