/- TxsOf of the program and of the specification. -/
import Derived.Test.YtnbiphlificliaaDoorTxList
import Derived.Test.YtnbiphlificliaaDoorSpecTxOf
import Derived.Test.YtnbiphlificliaaDoorSpecSplit
namespace Go.Proofs.YtnbiphlificliaaDoor
open Go.RowKit
set_option linter.unusedSectionVars false
variable [∀ (a b c d : Int), Decidable (Ok4 a b c d)]
variable [∀ (a b c d : Nat), Decidable (okN a b c d)]

def toT (q : Nat × Nat × Nat × Nat) : T4 := (q.1, q.2.1, q.2.2.1, q.2.2.2)
/-- The payments of which these are the texts. -/
def allTx : List ByteArray → Option (List T4)
  | [] => some []
  | p :: ps => match txAns p.data.toList with
    | some q => (allTx ps).map (toT q :: ·)
    | none => none
theorem allTx_more (ps : List ByteArray) (p : ByteArray) : allTx (ps ++ [p]) = (allTx ps).bind fun ys => (txAns p.data.toList).map fun q => ys ++ [toT q] := by
  induction ps with
  | nil => rw [List.nil_append, allTx, allTx]; cases txAns p.data.toList <;> simp [allTx]
  | cons r ps ih =>
    rw [List.cons_append, allTx, allTx]
    cases txAns r.data.toList with
    | none => rfl
    | some q => simp only [ih]; cases allTx ps <;> cases txAns p.data.toList <;> simp
theorem allTx_none {ps : List ByteArray} (k : Nat) (h : allTx (ps.take k) = none) : allTx ps = none := by
  rw [← List.take_append_drop k ps]
  generalize ps.drop k = r
  generalize ps.take k = l at h
  induction l with
  | nil => simp [allTx] at h
  | cons x l ih =>
    rw [List.cons_append, allTx]
    rw [allTx] at h
    cases hx : txAns x.data.toList with
    | none => rfl
    | some q => rw [hx] at h; simp at h; simp [ih h]
theorem take_more (ps : List ByteArray) (k : Nat) (hk : k < ps.length) : ps.take (k + 1) = ps.take k ++ [ps.getD k ByteArray.empty] := by
  rw [List.take_succ_eq_append_getElem hk, List.getD_eq_getElem?_getD, List.getElem?_eq_getElem hk]; rfl
/-- What TxsOf answers. -/
def txsAns (s : ByteArray) : Option (List T4) := if s = ⟨#[]⟩ then some [] else allTx (splitAns s 44)
theorem pcs_size (s : ByteArray) (b : Int) (k : Nat) : ∀ p ∈ (pcs s b k).1, p.size ≤ s.size := by
  induction k with
  | zero => simp [pcs]
  | succ k ih =>
    rw [pcs]; split
    · intro p hp
      rw [List.mem_append] at hp
      rcases hp with hp | hp
      · exact ih p hp
      · simp at hp; rw [hp]; exact ext_size s _ _
    · exact ih
theorem split_size (s : ByteArray) (b : Int) : ∀ p ∈ splitAns s b, p.size ≤ s.size := by
  intro p hp
  unfold splitAns at hp
  rw [List.mem_append] at hp
  rcases hp with hp | hp
  · exact pcs_size s b _ p hp
  · simp at hp; rw [hp]; exact ext_size s _ _
theorem getD_mem {ps : List ByteArray} {k : Nat} (hk : k < ps.length) : ps.getD k ByteArray.empty ∈ ps := by
  rw [List.getD_eq_getElem?_getD, List.getElem?_eq_getElem hk]; exact List.getElem_mem hk

theorem Tryd.infoTx : (Tryd.prog.info? 25).map (fun i => (i.zero, i.size, i.bytes)) = some (some (txv 0 0 0 0), 4, 32) := by kernel_rfl
theorem four_cell (w : World) (x : T4) (t : TypeId) (j : Nat) (u : Value) (h : (tcell x)[j]? = some u) : (w.alloc (.cells #[.int .i64 x.1, .int .i64 x.2.1, .int .i64 x.2.2.1, .int .i64 x.2.2.2] t)).cell? ((⟨w.heap.size, 0, none⟩ : Addr).add j) = some u := by
  match j, h with
  | 0, h => simp [tcell] at h; subst h; simp [Addr.add]
  | 1, h => simp [tcell] at h; subst h; simp [Addr.add]
  | 2, h => simp [tcell] at h; subst h; simp [Addr.add]
  | 3, h => simp [tcell] at h; subst h; simp [Addr.add]
  | j + 4, h => simp [tcell] at h
theorem four_plain (x : T4) (u : Value) (h : u ∈ tcell x) : u.oneCell' = true := by
  simp [tcell] at h; rcases h with rfl | rfl | rfl | rfl <;> rfl
/-- A list of texts and a list of payments lie in two blocks. -/
theorem os_ot {w : World} {B B' : Nat} {v u : Value} {ps : List ByteArray} {ys : List T4} (h : OS w B v ps) (h' : OT w B' u ys) : v.ownBlock = none ∨ v.ownBlock ≠ u.ownBlock := by
  rcases h.2 with ⟨rfl, _⟩ | ⟨g, cap, cur, rfl, _, hg, _⟩
  · exact .inl rfl
  · rcases h'.2 with ⟨rfl, _⟩ | ⟨g', cap', cur', rfl, _, hg', _⟩
    · exact .inr (by simp [Value.ownBlock])
    · refine .inr fun e => ?_
      simp [Value.ownBlock] at e
      rw [e, hg'] at hg
      simp at hg
/-- One payment more behind what is owned. -/
theorem ot_more {B : Nat} {w wr w1 : World} {v v' : Value} {xs : List T4} {x : T4} (hB : B ≤ wr.heap.size) (ho : OT wr B v xs) (hb : Below B w wr)
    (ho' : w1.ownsRow B 25 4 v' (xs.length + 1) (tcells xs ++ tcell x)) (hg : wr.grownBy w1 v.ownBlock) :
    OT w1 B v' (xs ++ [x]) ∧ Below B w w1 :=
  ⟨by unfold OT; rw [tcells_append, List.length_append]; simpa [tcells] using ho', hb.grown hg hB (fun j hj => (ho.lt j hj).1)⟩
theorem os_alloc {w : World} {B : Nat} {v : Value} {xs : List ByteArray} (h : OS w B v xs) (o : Obj) : OS (w.alloc o) B v xs := World.ownsRow.alloc h o
theorem ot_alloc {w : World} {B : Nat} {v : Value} {xs : List T4} (h : OT w B v xs) (o : Obj) : OT (w.alloc o) B v xs := World.ownsRow.alloc h o
theorem os_cell {w : World} {B g n cap : Nat} {ps : List ByteArray} (h : OS w B (.slice (some ⟨g, 0, none⟩) n cap) ps) (hn : n = ps.length) (k : Nat) (hk : k < ps.length) : w.cell? ⟨g, k, none⟩ = some (.string (ps.getD k ByteArray.empty)) := by
  subst hn
  rw [World.ownsRow.cellAt h k (by omega)]; simp [List.getElem?_eq_getElem hk]

set_option maxHeartbeats 4000000 in
set_option maxRecDepth 100000 in
theorem implTxsOf (s : ByteArray) (w : World) (hs : s.size ≤ 1048576) (hE : Env w) :
    Calls Tryd.prog 18 #[.string s] w fun e w' => ∃ v, e = .returned (.tuple #[v, .bool (txsAns s).isSome]) ∧ OT w' w.heap.size v ((txsAns s).getD []) ∧ Below w.heap.size w w' := by
  obtain ⟨i0, hi, hz0, hz1, hz2⟩ := info_parts Tryd.infoTx
  unfold txsAns
  by_cases hz : s = ⟨#[]⟩
  · rw [if_pos hz]
    subst hz
    go_enter Tryd.func18, Tryd.ntmps18
    go_wp2
    go_ret2
    exact ⟨_, rfl, World.ownsRow_nil _ _ _ _, Below.refl _ _⟩
  · rw [if_neg hz]
    have hne := str_ne hz
    have hne2 : (s.toList == []) = false := by
      rw [beq_eq_false_iff_ne]; intro e; apply hz; apply ByteArray.ext; apply Array.toList_inj.1; rw [ByteArray.toList_eq] at e; exact e
    have SP := hide fun w => split_any s 44 w hs
    have hpn : 0 < (splitAns s 44).length := by simp [splitAns]
    have hpl := splitAns_len s 44
    have hpz : Hid (∀ p ∈ splitAns s 44, p.size ≤ 1048576) := fun p hp => Nat.le_trans (split_size s 44 p hp) hs
    generalize splitAns s 44 = ps at *
    have HE := hide hE
    clear hE hz
    go_enter Tryd.func18, Tryd.ntmps18
    go_wp2_with fail
    refine (unhide SP _).mono ?_
    rintro e w1 ⟨vp, rfl, op, b1⟩
    rcases op.2 with ⟨_, h0⟩ | ⟨gp, pc, pcur, rfl, _⟩
    · omega
    have OP := hide op
    clear op SP
    go_wp2
    go_loopw [4, 14] (fun v i wr => ∃ (k : Nat) (ys : List T4), k ≤ ps.length ∧ i = .int .i64 k ∧ ys.length = k ∧ Hid (allTx (ps.take k) = some ys) ∧ OT wr w.heap.size v ys ∧ OS wr w.heap.size (.slice (some ⟨gp, 0, none⟩) ps.length pc) ps ∧ Below w.heap.size w wr) (fun _ i _ => ps.length - (intOf i).toNat)
    case atStart => exact ⟨0, [], by omega, rfl, rfl, rfl, World.ownsRow_nil _ _ _ _, unhide OP, b1⟩
    case round =>
      obtain ⟨k, ys, hk, rfl, hyl, HA, ho, hp, hb⟩ := hrel
      have hsz := hb.size
      by_cases hlt : k < ps.length
      · have hc := os_cell hp rfl k hlt
        have hm := hpz.out _ (getD_mem hlt)
        have HT := hide (take_more ps k hlt)
        have CT := hide fun w hE => implTxOf (ps.getD k ByteArray.empty) w hm hE
        have HB := hide (And.intro ho (And.intro hp hb))
        clear ho hp hb hm
        generalize ps.getD k ByteArray.empty = p at *
        cases ht : txAns p.data.toList with
        | none =>
          have HN : Hid (allTx ps = none) := allTx_none (k + 1) (by rw [unhide HT, allTx_more, ht]; cases allTx (ps.take k) <;> rfl)
          rw [ht] at CT
          clear ht HT HA
          go_wp2_with fail
          refine (unhide CT _ ((unhide HE).below (unhide HB).2.2)).mono ?_
          rintro e w2 ⟨rfl, b2⟩
          have hw : Below w.heap.size w (w2.alloc (.cells #[.int .i64 0, .int .i64 0, .int .i64 0, .int .i64 0] 25)) := ((unhide HB).2.2.trans (b2.mono hsz)).alloc (by have := b2.size; omega) _
          unfold txval
          go_wp2
          go_ret2
          exact ⟨_, by rw [HN.out]; rfl, by rw [HN.out]; exact World.ownsRow_nil _ _ _ _, hw⟩
        | some q =>
          obtain ⟨a, b, c, d⟩ := q
          have HN : Hid (allTx (ps.take (k + 1)) = some (ys ++ [((a : Int), (b : Int), (c : Int), (d : Int))])) := by
            show allTx _ = _
            rw [unhide HT, allTx_more, HA.out, ht]; rfl
          rw [ht] at CT
          clear ht HT HA
          go_wp2_with fail
          refine (unhide CT _ ((unhide HE).below (unhide HB).2.2)).mono ?_
          rintro e w2 ⟨rfl, b2⟩
          obtain ⟨ho, hp, hb⟩ := unhide HB
          have s2 := b2.size
          have ho2 := ot_alloc (ot_alloc (ho.below b2) (.cells #[.int .i64 a, .int .i64 b, .int .i64 c, .int .i64 d] 25)) (.cells #[.int .i64 a, .int .i64 b, .int .i64 c, .int .i64 d] 25)
          have hp2 := os_alloc (os_alloc (hp.below b2) (.cells #[.int .i64 a, .int .i64 b, .int .i64 c, .int .i64 d] 25)) (.cells #[.int .i64 a, .int .i64 b, .int .i64 c, .int .i64 d] 25)
          have hb2 : Below w.heap.size w ((w2.alloc (.cells #[.int .i64 a, .int .i64 b, .int .i64 c, .int .i64 d] 25)).alloc (.cells #[.int .i64 a, .int .i64 b, .int .i64 c, .int .i64 d] 25)) := ((hb.trans (b2.mono hsz)).alloc (by omega) _).alloc (by simp; omega) _
          have hdis := os_ot hp2 ho2
          clear ho hp hb HB b2 hc
          unfold txval
          go_wp2_with (first
            | (at_builtin; refine wpList_append_own _ rfl _ _ 31 rfl w.heap.size 25 i0 (txv 0 0 0 0) 4 32 Tryd.underlying31 hi hz0 hz1 hz2 rfl (by decide) _ _ _ rfl ho2 ⟨w2.heap.size + 1, 0, none⟩ 1 1 (tcell ((a : Int), (b : Int), (c : Int), (d : Int))) rfl rfl (by have := four_cell (w2.alloc (.cells #[.int .i64 a, .int .i64 b, .int .i64 c, .int .i64 d] 25)) ((a : Int), (b : Int), (c : Int), (d : Int)) 25; simpa using this) (four_plain _) (by unfold maxLen; omega) (by omega) (by simp; omega) ?_; intro v' w3 ho' hg' _; have R := ot_more (by simp; omega) ho2 hb2 ho' hg'; have RP : OS w3 w.heap.size (.slice (some ⟨gp, 0, none⟩) ps.length pc) ps := World.ownsRow.kept hp2 hg' hdis; clear ho2 ho' hg' hb2 hp2 hdis))
          go_roundw
          case rel => exact ⟨k + 1, _, by omega, by go_num, by simp [hyl], HN, R.1, RP, R.2⟩
          case measure => simp [intOf]; omega
      · have hkn : k = ps.length := by omega
        have HN : Hid (allTx ps = some ys) := by
          have := HA.out
          rw [hkn, List.take_of_length_le (Nat.le_refl _)] at this
          exact this
        have HO := hide ho
        clear ho hp HA
        go_wp2
        go_ret2
        exact ⟨_, by rw [HN.out]; rfl, by rw [HN.out]; exact unhide HO, hb⟩
end Go.Proofs.YtnbiphlificliaaDoor
