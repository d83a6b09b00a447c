/- Lemmas; their conditions stand in each statement. -/
import Derived.Test.YtjkcphnohhpihaaGreatDoorPPAI
set_option maxRecDepth 100000
set_option maxHeartbeats 4000000
set_option linter.unusedSectionVars false
namespace Go.Proofs.YtjkcphnohhpihaaGreatDoor
section
open Go.RowKit
variable [∀ (a b c d : Int), Decidable (Ok4 a b c d)]
variable [∀ (a b c d : Nat), Decidable (okN a b c d)]
def toT (q : Nat × Nat × Nat × Nat) : T4 := (q.1, q.2.1, q.2.2.1, q.2.2.2)
def allTx : List ByteArray → Option (List T4)
 | [] => some []
 | p :: ps => match txAns p.data.toList with
  | some q => (allTx ps).map (toT q :: ·)
  | none => none
theorem allTx_more (ps : List ByteArray) (p : ByteArray) : allTx (ps ++ [p]) = (allTx ps).bind fun ys => (txAns p.data.toList).map fun q => ys ++ [toT q] := by
 induction ps with
 | nil => rw [List.nil_append, allTx, allTx]; cases txAns p.data.toList <;> simp [allTx]
 | cons r ps ih =>
  rw [List.cons_append, allTx, allTx]
  cases txAns r.data.toList with
  | none => rfl
  | some q => simp only [ih]; cases allTx ps <;> cases txAns p.data.toList <;> simp
theorem allTx_none {ps : List ByteArray} (k : Nat) (h : allTx (ps.take k) = none) : allTx ps = none := by
 rw [← List.take_append_drop k ps]
 generalize ps.drop k = r
 generalize ps.take k = l at h
 induction l with
 | nil => simp [allTx] at h
 | cons x l ih =>
  rw [List.cons_append, allTx]
  rw [allTx] at h
  cases hx : txAns x.data.toList with
  | none => rfl
  | some q => rw [hx] at h; simp at h; simp [ih h]
theorem take_more (ps : List ByteArray) (k : Nat) (hk : k < ps.length) : ps.take (k + 1) = ps.take k ++ [ps.getD k ByteArray.empty] := by
 rw [List.take_succ_eq_append_getElem hk, List.getD_eq_getElem?_getD, List.getElem?_eq_getElem hk]; rfl
def txsAns (s : ByteArray) : Option (List T4) := if s = ⟨#[]⟩ then some [] else allTx (splitAns s 44)
theorem pcs_size (s : ByteArray) (b : Int) (k : Nat) : ∀ p ∈ (pcs s b k).1, p.size ≤ s.size := by
 induction k with
 | zero => simp [pcs]
 | succ k ih =>
  rw [pcs]; split
  ·intro p hp
   rw [List.mem_append] at hp
   rcases hp with hp | hp
   ·exact ih p hp
   simp at hp; rw [hp]; exact ext_size s _ _
  exact ih
theorem split_size (s : ByteArray) (b : Int) : ∀ p ∈ splitAns s b, p.size ≤ s.size := by
 intro p hp
 unfold splitAns at hp
 rw [List.mem_append] at hp
 rcases hp with hp | hp
 ·exact pcs_size s b _ p hp
 simp at hp; rw [hp]; exact ext_size s _ _
theorem getD_mem {ps : List ByteArray} {k : Nat} (hk : k < ps.length) : ps.getD k ByteArray.empty ∈ ps := by
 rw [List.getD_eq_getElem?_getD, List.getElem?_eq_getElem hk]; exact List.getElem_mem hk

theorem Tryz.infoTx : (Tryz.prog.info? 132).map (fun i => (i.zero, i.size, i.bytes)) = some (some (txv 0 0 0 0), 4, 32) := by kernel_rfl
theorem four_cell (w : World) (x : T4) (t : TypeId) (j : Nat) (u : Value) (h : (tcell x)[j]? = some u) : (w.alloc (.cells #[.int .i64 x.1,.int .i64 x.2.1,.int .i64 x.2.2.1,.int .i64 x.2.2.2] t)).cell? ((⟨w.heap.size, 0, none⟩ : Addr).add j) = some u := by
 match j, h with
 | 0, h => simp [tcell] at h; subst h; simp [Addr.add]
 | 1, h => simp [tcell] at h; subst h; simp [Addr.add]
 | 2, h => simp [tcell] at h; subst h; simp [Addr.add]
 | 3, h => simp [tcell] at h; subst h; simp [Addr.add]
 | j + 4, h => simp [tcell] at h
theorem four_plain (x : T4) (u : Value) (h : u ∈ tcell x) : u.oneCell' = true := by
 simp [tcell] at h; rcases h with rfl | rfl | rfl | rfl <;> rfl
theorem os_ot {w : World} {B B' : Nat} {v u : Value} {ps : List ByteArray} {ys : List T4} (h : OS w B v ps) (h' : OT w B' u ys) : v.ownBlock = none ∨ v.ownBlock ≠ u.ownBlock := by
 rcases h.2 with ⟨rfl, _⟩ | ⟨g, cap, cur, rfl, _, hg, _⟩
 ·exact .inl rfl
 rcases h'.2 with ⟨rfl, _⟩ | ⟨g', cap', cur', rfl, _, hg', _⟩
 ·exact .inr (by simp [Value.ownBlock])
 refine .inr fun e => ?_
 simp [Value.ownBlock] at e
 rw [e, hg'] at hg
 simp at hg
theorem ot_more {B : Nat} {w wr w1 : World} {v v' : Value} {xs : List T4} {x : T4} (hB : B ≤ wr.heap.size) (ho : OT wr B v xs) (hb : Below B w wr)
 (ho' : w1.ownsRow B 132 4 v' (xs.length + 1) (tcells xs ++ tcell x)) (hg : wr.grownBy w1 v.ownBlock) :
 OT w1 B v' (xs ++ [x]) ∧ Below B w w1 :=
 ⟨by unfold OT; rw [tcells_append, List.length_append]; simpa [tcells] using ho', hb.grown hg hB (fun j hj => (ho.lt j hj).1)⟩
theorem os_alloc {w : World} {B : Nat} {v : Value} {xs : List ByteArray} (h : OS w B v xs) (o : Obj) : OS (w.alloc o) B v xs := World.ownsRow.alloc h o
theorem ot_alloc {w : World} {B : Nat} {v : Value} {xs : List T4} (h : OT w B v xs) (o : Obj) : OT (w.alloc o) B v xs := World.ownsRow.alloc h o
theorem os_cell {w : World} {B g n cap : Nat} {ps : List ByteArray} (h : OS w B (.slice (some ⟨g, 0, none⟩) n cap) ps) (hn : n = ps.length) (k : Nat) (hk : k < ps.length) : w.cell? ⟨g, k, none⟩ = some (.string (ps.getD k ByteArray.empty)) := by
 subst hn
 rw [World.ownsRow.cellAt h k (by omega)]; simp [List.getElem?_eq_getElem hk]

theorem implTxsOf (s : ByteArray) (w : World) (hs : s.size ≤ 33554432) (hE : Env w) :
 Calls Tryz.prog 155 #[.string s] w fun e w' => ∃ v, e = .returned (.tuple #[v,.bool (txsAns s).isSome]) ∧ OT w' w.heap.size v ((txsAns s).getD []) ∧ Below w.heap.size w w' := by
 obtain ⟨i0, hi, hz0, hz1, hz2⟩:=info_parts Tryz.infoTx
 unfold txsAns
 by_cases hz : s = ⟨#[]⟩
 ·rw [if_pos hz]
  subst hz
  go_enter Tryz.func155, Tryz.ntmps155
  go_wp2
  go_ret2
  exact ⟨_, rfl, World.ownsRow_nil _ _ _ _, Below.refl _ _⟩
 rw [if_neg hz]
 have hne:=str_ne hz
 have hne2 : (s.toList == []) = false:=by
  rw [beq_eq_false_iff_ne]; intro e; apply hz; apply ByteArray.ext; apply Array.toList_inj.1; rw [ByteArray.toList_eq] at e; exact e
 have SP:=hide fun w => split_any s 44 w hs
 have hpn : 0 < (splitAns s 44).length:=by simp [splitAns]
 have hpl:=splitAns_len s 44
 have hpz : Hid (∀ p ∈ splitAns s 44, p.size ≤ 33554432):=fun p hp => Nat.le_trans (split_size s 44 p hp) hs
 generalize splitAns s 44 = ps at *
 have HE:=hide hE
 clear hE hz
 go_enter Tryz.func155, Tryz.ntmps155
 go_wp2_with fail
 refine (SP.out _).mono ?_
 rintro e w1 ⟨vp, rfl, op, b1⟩
 rcases op.2 with ⟨_, h0⟩ | ⟨gp, pc, pcur, rfl, _⟩
 ·omega
 have OP:=hide op
 clear op SP
 go_wp2
 go_loopw [4, 14] (fun v i wr => ∃ (k : Nat) (ys : List T4), k ≤ ps.length ∧ i = .int .i64 k ∧ ys.length = k ∧ Hid (allTx (ps.take k) = some ys) ∧ OT wr w.heap.size v ys ∧ OS wr w.heap.size (.slice (some ⟨gp, 0, none⟩) ps.length pc) ps ∧ Below w.heap.size w wr) (fun _ i _ => ps.length - (intOf i).toNat)
 case atStart => exact ⟨0, [], by omega, rfl, rfl, rfl, World.ownsRow_nil _ _ _ _, OP.out, b1⟩
 case round =>
  obtain ⟨k, ys, hk, rfl, hyl, HA, ho, hp, hb⟩:=hrel
  have hsz:=hb.size
  by_cases hlt : k < ps.length
  ·have hc:=os_cell hp rfl k hlt
   have hm:=hpz.out _ (getD_mem hlt)
   have HT:=hide (take_more ps k hlt)
   have CT:=hide fun w hE => implTxOf (ps.getD k ByteArray.empty) w hm hE
   have HB:=hide (And.intro ho (And.intro hp hb))
   clear ho hp hb hm
   generalize ps.getD k ByteArray.empty = p at *
   cases ht : txAns p.data.toList with
   | none =>
    have HN : Hid (allTx ps = none):=allTx_none (k + 1) (by rw [HT.out, allTx_more, ht]; cases allTx (ps.take k) <;> rfl)
    rw [ht] at CT
    clear ht HT HA
    go_wp2_with fail
    refine (CT.out _ (HE.out.below HB.out.2.2)).mono ?_
    rintro e w2 ⟨rfl, b2⟩
    have hw : Below w.heap.size w (w2.alloc (.cells #[.int .i64 0,.int .i64 0,.int .i64 0,.int .i64 0] 132)):=(HB.out.2.2.trans (b2.mono hsz)).alloc (by have:=b2.size; omega) _
    unfold txval
    go_wp2
    go_ret2
    exact ⟨_, by rw [HN.out]; rfl, by rw [HN.out]; exact World.ownsRow_nil _ _ _ _, hw⟩
   | some q =>
    obtain ⟨a, b, c, d⟩:=q
    have HN : Hid (allTx (ps.take (k + 1)) = some (ys ++ [((a : Int), (b : Int), (c : Int), (d : Int))])):=by
     show allTx _ = _
     rw [HT.out, allTx_more, HA.out, ht]; rfl
    rw [ht] at CT
    clear ht HT HA
    go_wp2_with fail
    refine (CT.out _ (HE.out.below HB.out.2.2)).mono ?_
    rintro e w2 ⟨rfl, b2⟩
    obtain ⟨ho, hp, hb⟩:=HB.out
    have s2:=b2.size
    have ho2:=ot_alloc (ot_alloc (ho.below b2) (.cells #[.int .i64 a,.int .i64 b,.int .i64 c,.int .i64 d] 132)) (.cells #[.int .i64 a,.int .i64 b,.int .i64 c,.int .i64 d] 132)
    have hp2:=os_alloc (os_alloc (hp.below b2) (.cells #[.int .i64 a,.int .i64 b,.int .i64 c,.int .i64 d] 132)) (.cells #[.int .i64 a,.int .i64 b,.int .i64 c,.int .i64 d] 132)
    have hb2 : Below w.heap.size w ((w2.alloc (.cells #[.int .i64 a,.int .i64 b,.int .i64 c,.int .i64 d] 132)).alloc (.cells #[.int .i64 a,.int .i64 b,.int .i64 c,.int .i64 d] 132)):=((hb.trans (b2.mono hsz)).alloc (by omega) _).alloc (by simp; omega) _
    have hdis:=os_ot hp2 ho2
    clear ho hp hb HB b2 hc
    unfold txval
    go_wp2_with (first
     | (at_builtin; refine wpList_append_own _ rfl _ _ 130 rfl w.heap.size 132 i0 (txv 0 0 0 0) 4 32 Tryz.underlying130 hi hz0 hz1 hz2 rfl (by decide) _ _ _ rfl ho2 ⟨w2.heap.size + 1, 0, none⟩ 1 1 (tcell ((a : Int), (b : Int), (c : Int), (d : Int))) rfl rfl (by have := four_cell (w2.alloc (.cells #[.int .i64 a,.int .i64 b,.int .i64 c,.int .i64 d] 132)) ((a : Int), (b : Int), (c : Int), (d : Int)) 132; simpa using this) (four_plain _) (by unfold maxLen; omega) (by omega) (by simp; omega) ?_; intro v' w3 ho' hg' _; have R := ot_more (by simp; omega) ho2 hb2 ho' hg'; have RP : OS w3 w.heap.size (.slice (some ⟨gp, 0, none⟩) ps.length pc) ps := World.ownsRow.kept hp2 hg' hdis; clear ho2 ho' hg' hb2 hp2 hdis))
    go_roundw
    case rel => exact ⟨k + 1, _, by omega, by go_num, by simp [hyl], HN, R.1, RP, R.2⟩
    case measure => simp [intOf]; omega
  have hkn : k = ps.length:=by omega
  have HN : Hid (allTx ps = some ys):=by
   have:=HA.out
   rw [hkn, List.take_of_length_le (Nat.le_refl _)] at this
   exact this
  have HO:=hide ho
  clear ho hp HA
  go_wp2
  go_ret2
  exact ⟨_, by rw [HN.out]; rfl, by rw [HN.out]; exact HO.out, hb⟩
end
section
open Go.RowKit
variable [∀ (a b c d : Int), Decidable (Ok4 a b c d)]
variable [∀ (a b c d : Nat), Decidable (okN a b c d)]
abbrev St := Int × List T4
abbrev zst : St := (0, [])
def stepOf (p : ByteArray) : Option St :=
 if (124 : UInt8) ∈ p.data.toList then (numOf (hd 124 p.data.toList)).bind fun n => (txsAns (toB (tl 124 p.data.toList))).map fun ts => ((n : Int), ts) else none
def GoodSt (last : Int) (s : St) : Prop := last < s.1 ∧ s.1 ≤ 60 ∧ s.2.length ≤ 2
variable [∀ (last : Int) (s : St), Decidable (GoodSt last s)]
def stepAcc (o : Option (Int × List St)) (p : ByteArray) : Option (Int × List St) := o.bind fun q => (stepOf p).bind fun s => if GoodSt q.1 s then some (s.1, q.2 ++ [s]) else none
def stepsRun (ps : List ByteArray) : Option (Int × List St) := ps.foldl stepAcc (some (0, []))
def stepsAns (s : ByteArray) : Option (List St) :=
 if s = ⟨#[]⟩ then some []
 else if (splitAns s 47).getD 0 ByteArray.empty = ⟨#[]⟩ ∧ (splitAns s 47).length ≤ 31 then (stepsRun (splitAns s 47).tail).map (·.2) else none
theorem stepsRun_more (ps : List ByteArray) (p : ByteArray) : stepsRun (ps ++ [p]) = stepAcc (stepsRun ps) p := by
 unfold stepsRun; rw [List.foldl_append]; rfl
theorem acc_none (ps : List ByteArray) : ps.foldl stepAcc none = none := by
 induction ps with
 | nil => rfl
 | cons p ps ih => rw [List.foldl_cons]; exact ih
theorem stepsRun_none {ps : List ByteArray} (k : Nat) (h : stepsRun (ps.take k) = none) : stepsRun ps = none := by
 have e : stepsRun ps = (ps.drop k).foldl stepAcc (stepsRun (ps.take k)):=by
  unfold stepsRun
  rw [← List.foldl_append, List.take_append_drop]
 rw [e, h]
 exact acc_none _
theorem stepsRun_ok (ps : List ByteArray) (q : Int × List St) (h : stepsRun ps = some q) : q.2.length = ps.length ∧ (0 ≤ q.1 ∧ q.1 ≤ 60) ∧ (ps.length : Int) ≤ q.1 ∧ ∀ s ∈ q.2, (1 ≤ s.1 ∧ s.1 ≤ q.1) ∧ s.2.length ≤ 2 := by
 generalize hn : ps.length = n
 induction n generalizing ps q with
 | zero =>
  have : ps = []:=List.length_eq_zero_iff.1 hn
  subst this
  cases h
  exact ⟨rfl, by simp, by simp, fun s hs => by simp at hs⟩
 | succ n ih =>
  obtain ⟨ps', p, rfl⟩ : ∃ ps' p, ps = ps' ++ [p]:=⟨ps.dropLast, ps.getLast (fun e => by rw [e] at hn; simp at hn), (List.dropLast_concat_getLast _).symm⟩
  rw [stepsRun_more] at h
  unfold stepAcc at h
  cases hr : stepsRun ps' with
  | none => rw [hr] at h; cases h
  | some q' =>
   rw [hr] at h
   cases hs : stepOf p with
   | none => rw [hs] at h; simp at h
   | some s =>
    rw [hs] at h
    simp only [Option.bind_some] at h
    split at h
    ·rename_i hg
     cases h
     obtain ⟨h1, h2, h3, h4⟩:=ih ps' q' hr (by simpa using hn)
     obtain ⟨g1, g2, g3⟩:=hg
     refine ⟨by simp [h1], ⟨by show 0 ≤ s.1; omega, g2⟩, by show (((n + 1 : Nat)) : Int) ≤ s.1; omega, fun y hy => ?_⟩
     rcases List.mem_append.1 hy with hy | hy
     ·obtain ⟨⟨a1, a2⟩, a3⟩:=h4 y hy
      exact ⟨⟨a1, by show y.1 ≤ s.1; omega⟩, a3⟩
     simp at hy
     subst hy
     exact ⟨⟨by omega, Int.le_refl _⟩, g3⟩
    cases h
end
section
open Go.RowKit
variable [∀ (a b c d : Int), Decidable (Ok4 a b c d)]
variable [∀ (a b c d : Nat), Decidable (okN a b c d)]
variable [∀ (last : Int) (s : St), Decidable (GoodSt last s)]
theorem Tryz.infoSt : (Tryz.prog.info? 141).map (fun i => (i.zero, i.size, i.bytes)) = some (some (.agg #[.int .i64 0,.slice none 0 0]), 2, 32) := by kernel_rfl
def scell (p : Int × Value) : List Value := [.int .i64 p.1, p.2]
def scells (ps : List (Int × Value)) : List Value := ps.flatMap scell
theorem scells_append (ps qs : List (Int × Value)) : scells (ps ++ qs) = scells ps ++ scells qs := by simp [scells]
theorem scells_get (ps : List (Int × Value)) (k j : Nat) (hk : k < ps.length) (hj : j < 2) : (scells ps)[k * 2 + j]? = (scell (ps.getD k (0, .slice none 0 0)))[j]? := by
 induction ps generalizing k with
 | nil => simp at hk
 | cons p ps ih =>
  have e : scells (p :: ps) = scell p ++ scells ps:=by simp [scells]
  rw [e]
  cases k with
  | zero => rw [Nat.zero_mul, Nat.zero_add, List.getElem?_append_left (by simp [scell]; exact hj)]; rfl
  | succ k =>
   rw [List.getElem?_append_right (by simp [scell]; omega), show (scell p).length = 2 from rfl, show (k + 1) * 2 + j - 2 = k * 2 + j from by omega, ih k (by simpa using hk)]
   rfl
structure OStV (w : World) (base : Nat) (v : Value) (ss : List St) (vs : List Value) : Prop where
 len : vs.length = ss.length
 row : w.ownsRow base 141 2 v ss.length (scells ((ss.map (·.1)).zip vs))
 each : ∀ k, k < ss.length → OT w base (vs.getD k (.slice none 0 0)) (ss.getD k zst).2
 apart : ∀ i j, i < j → j < ss.length → ∀ b, (vs.getD i (.slice none 0 0)).ownBlock = some b → (vs.getD j (.slice none 0 0)).ownBlock ≠ some b
def OSt (w : World) (base : Nat) (v : Value) (ss : List St) : Prop := ∃ vs, OStV w base v ss vs
theorem st_ot {w : World} {B B' n : Nat} {v u : Value} {cs : List Value} {ys : List T4} (h : w.ownsRow B 141 2 v n cs) (h' : OT w B' u ys) (b : Nat) (hv : v.ownBlock = some b) : u.ownBlock ≠ some b := by
 rcases h.2 with ⟨rfl, _⟩ | ⟨g, cap, cur, rfl, _, hg, _⟩
 ·simp [Value.ownBlock] at hv
 rcases h'.2 with ⟨rfl, _⟩ | ⟨g', cap', cur', rfl, _, hg', _⟩
 ·simp [Value.ownBlock]
 intro e
 simp [Value.ownBlock] at e hv
 subst hv
 rw [e, hg] at hg'
 simp at hg'
theorem OStV.below {w w' : World} {base : Nat} {v : Value} {ss : List St} {vs : List Value} (h : OStV w base v ss vs) (hb : Below w.heap.size w w') : OStV w' base v ss vs :=
 ⟨h.len, World.ownsRow.kept (row := none) h.row ⟨hb.os, hb.tape, hb.output, hb.size, fun k hk _ => hb.block k hk⟩ (by cases v.ownBlock <;> simp), fun k hk => (h.each k hk).below hb, h.apart⟩
theorem OSt.below {w w' : World} {base : Nat} {v : Value} {ss : List St} (h : OSt w base v ss) (hb : Below w.heap.size w w') : OSt w' base v ss := by
 obtain ⟨vs, h⟩:=h; exact ⟨vs, h.below hb⟩
theorem ost_nil (w : World) (base : Nat) : OSt w base (.slice none 0 0) [] := ⟨[], rfl, World.ownsRow_nil _ _ _ _, fun k hk => by simp at hk, fun i j _ hj => by simp at hj⟩
theorem OSt.form {w : World} {base : Nat} {v : Value} {ss : List St} (h : OSt w base v ss) : ∃ ao ca, v = .slice ao ss.length ca := by
 obtain ⟨vs, h⟩:=h
 rcases h.row.2 with ⟨rfl, h0⟩ | ⟨g, cap, cur, rfl, _⟩
 ·exact ⟨none, 0, by rw [h0]⟩
 exact ⟨_, _, rfl⟩
def RSt (w : World) (v : Value) (ss : List St) : Prop :=
 ∃ ao cap, v = .slice ao ss.length cap ∧ (ss = [] ∨ ∃ g, ao = some ⟨g, 0, none⟩ ∧ ∀ k, k < ss.length → ∃ u, w.cell? ⟨g, k * 2, none⟩ = some (.int .i64 (ss.getD k zst).1) ∧ w.cell? ⟨g, k * 2 + 1, none⟩ = some u ∧ RT w u (ss.getD k zst).2)
theorem zip_get (ss : List St) (vs : List Value) (hl : vs.length = ss.length) (k : Nat) (hk : k < ss.length) : ((ss.map (·.1)).zip vs).getD k (0, .slice none 0 0) = ((ss.getD k zst).1, vs.getD k (.slice none 0 0)) := by
 rw [List.getD_eq_getElem?_getD, List.getElem?_eq_getElem (by simp; omega)]
 simp [List.getElem?_eq_getElem hk, List.getElem?_eq_getElem (show k < vs.length by omega)]
theorem OSt.rst {w : World} {base : Nat} {v : Value} {ss : List St} (h : OSt w base v ss) (hs : ∀ s ∈ ss, s.2.length ≤ 35184372088832) : RSt w v ss := by
 obtain ⟨vs, h⟩:=h
 have hz : ((ss.map (·.1)).zip vs).length = ss.length:=by simp [h.len]
 rcases h.row.2 with ⟨rfl, h0⟩ | ⟨g, cap, cur, rfl, _⟩
 ·exact ⟨none, 0, by rw [h0], .inl (List.length_eq_zero_iff.1 h0)⟩
 refine ⟨_, cap, rfl, .inr ⟨g, rfl, fun k hk => ?_⟩⟩
 have c0:=World.ownsRow.cellAt h.row (k * 2 + 0) (by omega)
 have c1:=World.ownsRow.cellAt h.row (k * 2 + 1) (by omega)
 rw [scells_get _ k _ (by omega) (by omega), zip_get ss vs h.len k hk] at c0 c1
 exact ⟨_, c0, c1, (h.each k hk).rt (hs _ (by rw [List.getD_eq_getElem?_getD, List.getElem?_eq_getElem hk]; exact List.getElem_mem hk))⟩
theorem RSt.below {w w' : World} {v : Value} {ss : List St} (h : RSt w v ss) (hb : Below w.heap.size w w') : RSt w' v ss := by
 obtain ⟨ao, cap, rfl, h⟩:=h
 refine ⟨ao, cap, rfl, ?_⟩
 rcases h with h | ⟨g, rfl, h⟩
 ·exact .inl h
 refine .inr ⟨g, rfl, fun k hk => ?_⟩
 obtain ⟨u, c0, c1, r⟩:=h k hk
 have hg : g < w.heap.size:=cell_lt c0
 exact ⟨u, (hb.cell (p := ⟨g, k * 2, none⟩) hg).trans c0, (hb.cell (p := ⟨g, k * 2 + 1, none⟩) hg).trans c1, r.below hb⟩
theorem ost_more {w w' : World} {base N : Nat} {v v' : Value} {ss : List St} {vs : List Value} {n : Int} {u : Value} {ts : List T4} (h : OStV w base v ss vs) (hu : OT w N u ts) (hN : ∀ k, k < ss.length → ∀ b, (vs.getD k (.slice none 0 0)).ownBlock = some b → b < N) (hbN : base ≤ N)
 (hr : w'.ownsRow base 141 2 v' (ss.length + 1) (scells ((ss.map (·.1)).zip vs) ++ scell (n, u))) (hg : w.grownBy w' v.ownBlock) : OStV w' base v' (ss ++ [(n, ts)]) (vs ++ [u]) := by
 have keep : ∀ (x : Value) (zs : List T4) (B : Nat), OT w B x zs → OT w' B x zs:=fun x zs B hx => World.ownsRow.kept hx hg (by
  cases hxo : x.ownBlock with
  | none => exact .inl rfl
  | some b => exact .inr fun e => st_ot h.row hx b e.symm hxo)
 refine ⟨by simp [h.len], ?_, fun k hk => ?_, fun i j hij hj b hb => ?_⟩
 ·have e : ((ss ++ [(n, ts)]).map (·.1)).zip (vs ++ [u]) = (ss.map (·.1)).zip vs ++ [(n, u)]:=by
   rw [List.map_append, List.zip_append (by simp [h.len])]; rfl
  rw [e, scells_append, List.length_append]
  simpa [scells] using hr
 ·rw [List.length_append, List.length_singleton] at hk
  by_cases e : k < ss.length
  ·rw [List.getD_eq_getElem?_getD, List.getElem?_append_left (by rw [h.len]; exact e), ← List.getD_eq_getElem?_getD, List.getD_eq_getElem?_getD (l := ss ++ _), List.getElem?_append_left e, ← List.getD_eq_getElem?_getD]
   exact keep _ _ _ (h.each k e)
  obtain rfl : k = ss.length:=by omega
  have e1 : (vs ++ [u]).getD ss.length (.slice none 0 0) = u:=by rw [← h.len]; simp
  have e2 : (ss ++ [(n, ts)]).getD ss.length zst = (n, ts):=by simp
  rw [e1, e2]
  have hk':=keep _ _ _ hu
  refine ⟨hk'.1, ?_⟩
  rcases hk'.2 with hn | ⟨g, cap, cur, rfl, hgN, rest⟩
  ·exact .inl hn
  exact .inr ⟨g, cap, cur, rfl, Nat.le_trans hbN hgN, rest⟩
 rw [List.length_append, List.length_singleton] at hj
 have hi : i < ss.length:=by omega
 rw [List.getD_eq_getElem?_getD, List.getElem?_append_left (by rw [h.len]; exact hi), ← List.getD_eq_getElem?_getD] at hb
 by_cases e : j < ss.length
 ·rw [List.getD_eq_getElem?_getD, List.getElem?_append_left (by rw [h.len]; exact e), ← List.getD_eq_getElem?_getD]
  exact h.apart i j hij e b hb
 obtain rfl : j = ss.length:=by omega
 have e1 : (vs ++ [u]).getD ss.length (.slice none 0 0) = u:=by rw [← h.len]; simp
 rw [e1]
 intro e3
 have:=hN i hi b hb
 have:=(World.ownsRow.lt hu b e3).1
 omega
end
section
open Go.RowKit
variable [∀ (a b c d : Int), Decidable (Ok4 a b c d)]
variable [∀ (a b c d : Nat), Decidable (okN a b c d)]
theorem os_base {w : World} {B B' : Nat} {v : Value} {xs : List ByteArray} (h : OS w B v xs) (hB : B' ≤ B) : OS w B' v xs := by
 refine ⟨h.1, ?_⟩
 rcases h.2 with h | ⟨g, cap, cur, h1, h2, h3⟩
 ·exact .inl h
 exact .inr ⟨g, cap, cur, h1, by omega, h3⟩

theorem specTxsOf (s : ByteArray) (w : World) (hs : s.size ≤ 33554432) :
 Calls Tryz.prog 128 #[.string s] w fun e w' => ∃ v, e = .returned (.tuple #[v,.bool (txsAns s).isSome]) ∧ OT w' w.heap.size v ((txsAns s).getD []) ∧ Below w.heap.size w w' := by
 obtain ⟨i0, hi, hz0, hz1, hz2⟩:=info_parts Tryz.infoTx
 unfold txsAns
 by_cases hz : s = ⟨#[]⟩
 ·rw [if_pos hz]
  subst hz
  go_enter Tryz.func128, Tryz.ntmps128
  go_wp2
  go_ret2
  exact ⟨_, rfl, World.ownsRow_lit w #[] 0 (Nat.le_refl _) (by unfold maxLen; omega) rfl, (Below.refl _ _).alloc (Nat.le_refl _) _⟩
 rw [if_neg hz]
 have hne:=str_ne hz
 have hne2 : (s.toList == []) = false:=by
  rw [beq_eq_false_iff_ne]; intro e; apply hz; apply ByteArray.ext; apply Array.toList_inj.1; rw [ByteArray.toList_eq] at e; exact e
 have SP:=hide fun w => specSplit_any s 44 w hs
 have hpn : 0 < (splitAns s 44).length:=by simp [splitAns]
 have hpl:=splitAns_len s 44
 have hpz : Hid (∀ p ∈ splitAns s 44, p.size ≤ 33554432):=fun p hp => Nat.le_trans (split_size s 44 p hp) hs
 generalize splitAns s 44 = ps at *
 clear hz
 go_enter Tryz.func128, Tryz.ntmps128
 go_wp2_with fail
 refine (SP.out _).mono ?_
 rintro e w1 ⟨vp, rfl, op', b1'⟩
 have b1 : Below w.heap.size w w1:=((Below.refl _ _).alloc (Nat.le_refl _) _).trans (b1'.mono (by simp))
 have op : OS w1 w.heap.size vp ps:=os_base op' (by simp)
 have OL:=hide (OT.below (show OT _ w.heap.size _ [] from World.ownsRow_lit w #[] 0 (Nat.le_refl _) (by unfold maxLen; omega) rfl) b1')
 clear op' b1'
 rcases op.2 with ⟨_, h0⟩ | ⟨gp, pc, pcur, rfl, _⟩
 ·omega
 have OP:=hide op
 clear op SP
 go_wp2
 go_loopw [4, 6] (fun v i wr => ∃ (k : Nat) (ys : List T4), k ≤ ps.length ∧ i = .int .i64 k ∧ ys.length = k ∧ Hid (allTx (ps.take k) = some ys) ∧ OT wr w.heap.size v ys ∧ OS wr w.heap.size (.slice (some ⟨gp, 0, none⟩) ps.length pc) ps ∧ Below w.heap.size w wr) (fun _ i _ => ps.length - (intOf i).toNat)
 case atStart => exact ⟨0, [], by omega, rfl, rfl, rfl, OL.out, OP.out, b1⟩
 case round =>
  obtain ⟨k, ys, hk, rfl, hyl, HA, ho, hp, hb⟩:=hrel
  have hsz:=hb.size
  by_cases hlt : k < ps.length
  ·have hc:=os_cell hp rfl k hlt
   have hm:=hpz.out _ (getD_mem hlt)
   have HT:=hide (take_more ps k hlt)
   have CT:=hide fun w => specTxOf (ps.getD k ByteArray.empty) w hm
   have HB:=hide (And.intro ho (And.intro hp hb))
   clear ho hp hb hm
   generalize ps.getD k ByteArray.empty = p at *
   cases ht : txAns p.data.toList with
   | none =>
    have HN : Hid (allTx ps = none):=allTx_none (k + 1) (by rw [HT.out, allTx_more, ht]; cases allTx (ps.take k) <;> rfl)
    rw [ht] at CT
    clear ht HT HA
    go_wp2_with fail
    refine (CT.out _).mono ?_
    rintro e w2 ⟨rfl, b2⟩
    have hw : Below w.heap.size w (w2.alloc (.cells #[.int .i64 0,.int .i64 0,.int .i64 0,.int .i64 0] 132)):=(HB.out.2.2.trans (b2.mono hsz)).alloc (by have:=b2.size; omega) _
    unfold txval
    go_wp2
    go_ret2
    exact ⟨_, by rw [HN.out]; rfl, by rw [HN.out]; have hq := World.ownsRow_lit (base := w.heap.size) (e := 132) (size := 4) (w2.alloc (.cells #[.int .i64 0,.int .i64 0,.int .i64 0,.int .i64 0] 132)) #[] 0 hw.size (by unfold maxLen; omega) (by simp); simpa [OT, tcells] using hq, hw.alloc hw.size _⟩
   | some q =>
    obtain ⟨a, b, c, d⟩:=q
    have HN : Hid (allTx (ps.take (k + 1)) = some (ys ++ [((a : Int), (b : Int), (c : Int), (d : Int))])):=by
     show allTx _ = _
     rw [HT.out, allTx_more, HA.out, ht]; rfl
    rw [ht] at CT
    clear ht HT HA
    go_wp2_with fail
    refine (CT.out _).mono ?_
    rintro e w2 ⟨rfl, b2⟩
    obtain ⟨ho, hp, hb⟩:=HB.out
    have s2:=b2.size
    have ho2:=ot_alloc (ot_alloc (ho.below b2) (.cells #[.int .i64 a,.int .i64 b,.int .i64 c,.int .i64 d] 132)) (.cells #[.int .i64 a,.int .i64 b,.int .i64 c,.int .i64 d] 132)
    have hp2:=os_alloc (os_alloc (hp.below b2) (.cells #[.int .i64 a,.int .i64 b,.int .i64 c,.int .i64 d] 132)) (.cells #[.int .i64 a,.int .i64 b,.int .i64 c,.int .i64 d] 132)
    have hb2 : Below w.heap.size w ((w2.alloc (.cells #[.int .i64 a,.int .i64 b,.int .i64 c,.int .i64 d] 132)).alloc (.cells #[.int .i64 a,.int .i64 b,.int .i64 c,.int .i64 d] 132)):=((hb.trans (b2.mono hsz)).alloc (by omega) _).alloc (by simp; omega) _
    have hdis:=os_ot hp2 ho2
    clear ho hp hb HB b2 hc
    unfold txval
    go_wp2_with (first
     | (at_builtin; refine wpList_append_own _ rfl _ _ 130 rfl w.heap.size 132 i0 (txv 0 0 0 0) 4 32 Tryz.underlying130 hi hz0 hz1 hz2 rfl (by decide) _ _ _ rfl ho2 ⟨w2.heap.size + 1, 0, none⟩ 1 1 (tcell ((a : Int), (b : Int), (c : Int), (d : Int))) rfl rfl (by have := four_cell (w2.alloc (.cells #[.int .i64 a,.int .i64 b,.int .i64 c,.int .i64 d] 132)) ((a : Int), (b : Int), (c : Int), (d : Int)) 132; simpa using this) (four_plain _) (by unfold maxLen; omega) (by omega) (by simp; omega) ?_; intro v' w3 ho' hg' _; have R := ot_more (by simp; omega) ho2 hb2 ho' hg'; have RP : OS w3 w.heap.size (.slice (some ⟨gp, 0, none⟩) ps.length pc) ps := World.ownsRow.kept hp2 hg' hdis; clear ho2 ho' hg' hb2 hp2 hdis))
    go_roundw
    case rel => exact ⟨k + 1, _, by omega, by go_num, by simp [hyl], HN, R.1, RP, R.2⟩
    case measure => simp [intOf]; omega
  have hkn : k = ps.length:=by omega
  have HN : Hid (allTx ps = some ys):=by
   have:=HA.out
   rw [hkn, List.take_of_length_le (Nat.le_refl _)] at this
   exact this
  have HO:=hide ho
  clear ho hp HA
  go_wp2
  go_ret2
  exact ⟨_, by rw [HN.out]; rfl, by rw [HN.out]; exact HO.out, hb⟩
end
end Go.Proofs.YtjkcphnohhpihaaGreatDoor
