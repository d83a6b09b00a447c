/- Lemmas; their conditions stand in each statement. -/
import Derived.Test.YtjkcphnohhpihaaPDAH
set_option maxRecDepth 100000
set_option maxHeartbeats 8000000
set_option linter.unusedSectionVars false
namespace Go.Proofs.Ytjkcphnohhpihaa
section
open Go.RowKit
variable [∀ (a b c d : Int), Decidable (Ok4 a b c d)]
variable [∀ (a b c d : Nat), Decidable (okN a b c d)]
variable [∀ (last : Int) (s : St), Decidable (GoodSt last s)]
theorem Try.infoSt : (Try.prog.info? 96).map (fun i => (i.zero, i.size, i.bytes)) = some (some (.agg #[.int .i64 0,.slice none 0 0]), 2, 32) := by kernel_rfl
def scell (p : Int × Value) : List Value := [.int .i64 p.1, p.2]
def scells (ps : List (Int × Value)) : List Value := ps.flatMap scell
theorem scells_append (ps qs : List (Int × Value)) : scells (ps ++ qs) = scells ps ++ scells qs := by simp [scells]
theorem scells_get (ps : List (Int × Value)) (k j : Nat) (hk : k < ps.length) (hj : j < 2) : (scells ps)[k * 2 + j]? = (scell (ps.getD k (0, .slice none 0 0)))[j]? := by
 induction ps generalizing k with
 | nil => simp at hk
 | cons p ps ih =>
  have e : scells (p :: ps) = scell p ++ scells ps:=by simp [scells]
  rw [e]
  cases k with
  | zero => rw [Nat.zero_mul, Nat.zero_add, List.getElem?_append_left (by simp [scell]; exact hj)]; rfl
  | succ k =>
   rw [List.getElem?_append_right (by simp [scell]; omega), show (scell p).length = 2 from rfl, show (k + 1) * 2 + j - 2 = k * 2 + j from by omega, ih k (by simpa using hk)]
   rfl
structure OStV (w : World) (base : Nat) (v : Value) (ss : List St) (vs : List Value) : Prop where
 len : vs.length = ss.length
 row : w.ownsRow base 96 2 v ss.length (scells ((ss.map (·.1)).zip vs))
 each : ∀ k, k < ss.length → OT w base (vs.getD k (.slice none 0 0)) (ss.getD k zst).2
 apart : ∀ i j, i < j → j < ss.length → ∀ b, (vs.getD i (.slice none 0 0)).ownBlock = some b → (vs.getD j (.slice none 0 0)).ownBlock ≠ some b
def OSt (w : World) (base : Nat) (v : Value) (ss : List St) : Prop := ∃ vs, OStV w base v ss vs
theorem st_ot {w : World} {B B' n : Nat} {v u : Value} {cs : List Value} {ys : List T4} (h : w.ownsRow B 96 2 v n cs) (h' : OT w B' u ys) (b : Nat) (hv : v.ownBlock = some b) : u.ownBlock ≠ some b := by
 rcases h.2 with ⟨rfl, _⟩ | ⟨g, cap, cur, rfl, _, hg, _⟩
 ·simp [Value.ownBlock] at hv
 rcases h'.2 with ⟨rfl, _⟩ | ⟨g', cap', cur', rfl, _, hg', _⟩
 ·simp [Value.ownBlock]
 intro e
 simp [Value.ownBlock] at e hv
 subst hv
 rw [e, hg] at hg'
 simp at hg'
theorem OStV.below {w w' : World} {base : Nat} {v : Value} {ss : List St} {vs : List Value} (h : OStV w base v ss vs) (hb : Below w.heap.size w w') : OStV w' base v ss vs :=
 ⟨h.len, World.ownsRow.kept (row := none) h.row ⟨hb.os, hb.tape, hb.output, hb.size, fun k hk _ => hb.block k hk⟩ (by cases v.ownBlock <;> simp), fun k hk => (h.each k hk).below hb, h.apart⟩
theorem OSt.below {w w' : World} {base : Nat} {v : Value} {ss : List St} (h : OSt w base v ss) (hb : Below w.heap.size w w') : OSt w' base v ss := by
 obtain ⟨vs, h⟩:=h; exact ⟨vs, h.below hb⟩
theorem OSt.form {w : World} {base : Nat} {v : Value} {ss : List St} (h : OSt w base v ss) : ∃ ao ca, v = .slice ao ss.length ca := by
 obtain ⟨vs, h⟩:=h
 rcases h.row.2 with ⟨rfl, h0⟩ | ⟨g, cap, cur, rfl, _⟩
 ·exact ⟨none, 0, by rw [h0]⟩
 exact ⟨_, _, rfl⟩
def RSt (w : World) (v : Value) (ss : List St) : Prop :=
 ∃ ao cap, v = .slice ao ss.length cap ∧ (ss = [] ∨ ∃ g, ao = some ⟨g, 0, none⟩ ∧ ∀ k, k < ss.length → ∃ u, w.cell? ⟨g, k * 2, none⟩ = some (.int .i64 (ss.getD k zst).1) ∧ w.cell? ⟨g, k * 2 + 1, none⟩ = some u ∧ RT w u (ss.getD k zst).2)
theorem zip_get (ss : List St) (vs : List Value) (hl : vs.length = ss.length) (k : Nat) (hk : k < ss.length) : ((ss.map (·.1)).zip vs).getD k (0, .slice none 0 0) = ((ss.getD k zst).1, vs.getD k (.slice none 0 0)) := by
 rw [List.getD_eq_getElem?_getD, List.getElem?_eq_getElem (by simp; omega)]
 simp [List.getElem?_eq_getElem hk, List.getElem?_eq_getElem (show k < vs.length by omega)]
theorem OSt.rst {w : World} {base : Nat} {v : Value} {ss : List St} (h : OSt w base v ss) (hs : ∀ s ∈ ss, s.2.length ≤ 35184372088832) : RSt w v ss := by
 obtain ⟨vs, h⟩:=h
 have hz : ((ss.map (·.1)).zip vs).length = ss.length:=by simp [h.len]
 rcases h.row.2 with ⟨rfl, h0⟩ | ⟨g, cap, cur, rfl, _⟩
 ·exact ⟨none, 0, by rw [h0], .inl (List.length_eq_zero_iff.1 h0)⟩
 refine ⟨_, cap, rfl, .inr ⟨g, rfl, fun k hk => ?_⟩⟩
 have c0:=World.ownsRow.cellAt h.row (k * 2 + 0) (by omega)
 have c1:=World.ownsRow.cellAt h.row (k * 2 + 1) (by omega)
 rw [scells_get _ k _ (by omega) (by omega), zip_get ss vs h.len k hk] at c0 c1
 exact ⟨_, c0, c1, (h.each k hk).rt (hs _ (by rw [List.getD_eq_getElem?_getD, List.getElem?_eq_getElem hk]; exact List.getElem_mem hk))⟩
theorem RSt.below {w w' : World} {v : Value} {ss : List St} (h : RSt w v ss) (hb : Below w.heap.size w w') : RSt w' v ss := by
 obtain ⟨ao, cap, rfl, h⟩:=h
 refine ⟨ao, cap, rfl, ?_⟩
 rcases h with h | ⟨g, rfl, h⟩
 ·exact .inl h
 refine .inr ⟨g, rfl, fun k hk => ?_⟩
 obtain ⟨u, c0, c1, r⟩:=h k hk
 have hg : g < w.heap.size:=cell_lt c0
 exact ⟨u, (hb.cell (p := ⟨g, k * 2, none⟩) hg).trans c0, (hb.cell (p := ⟨g, k * 2 + 1, none⟩) hg).trans c1, r.below hb⟩
theorem ost_more {w w' : World} {base N : Nat} {v v' : Value} {ss : List St} {vs : List Value} {n : Int} {u : Value} {ts : List T4} (h : OStV w base v ss vs) (hu : OT w N u ts) (hN : ∀ k, k < ss.length → ∀ b, (vs.getD k (.slice none 0 0)).ownBlock = some b → b < N) (hbN : base ≤ N)
 (hr : w'.ownsRow base 96 2 v' (ss.length + 1) (scells ((ss.map (·.1)).zip vs) ++ scell (n, u))) (hg : w.grownBy w' v.ownBlock) : OStV w' base v' (ss ++ [(n, ts)]) (vs ++ [u]) := by
 have keep : ∀ (x : Value) (zs : List T4) (B : Nat), OT w B x zs → OT w' B x zs:=fun x zs B hx => World.ownsRow.kept hx hg (by
  cases hxo : x.ownBlock with
  | none => exact .inl rfl
  | some b => exact .inr fun e => st_ot h.row hx b e.symm hxo)
 refine ⟨by simp [h.len], ?_, fun k hk => ?_, fun i j hij hj b hb => ?_⟩
 ·have e : ((ss ++ [(n, ts)]).map (·.1)).zip (vs ++ [u]) = (ss.map (·.1)).zip vs ++ [(n, u)]:=by
   rw [List.map_append, List.zip_append (by simp [h.len])]; rfl
  rw [e, scells_append, List.length_append]
  simpa [scells] using hr
 ·rw [List.length_append, List.length_singleton] at hk
  by_cases e : k < ss.length
  ·rw [List.getD_eq_getElem?_getD, List.getElem?_append_left (by rw [h.len]; exact e), ← List.getD_eq_getElem?_getD, List.getD_eq_getElem?_getD (l := ss ++ _), List.getElem?_append_left e, ← List.getD_eq_getElem?_getD]
   exact keep _ _ _ (h.each k e)
  obtain rfl : k = ss.length:=by omega
  have e1 : (vs ++ [u]).getD ss.length (.slice none 0 0) = u:=by rw [← h.len]; simp
  have e2 : (ss ++ [(n, ts)]).getD ss.length zst = (n, ts):=by simp
  rw [e1, e2]
  have hk':=keep _ _ _ hu
  refine ⟨hk'.1, ?_⟩
  rcases hk'.2 with hn | ⟨g, cap, cur, rfl, hgN, rest⟩
  ·exact .inl hn
  exact .inr ⟨g, cap, cur, rfl, Nat.le_trans hbN hgN, rest⟩
 rw [List.length_append, List.length_singleton] at hj
 have hi : i < ss.length:=by omega
 rw [List.getD_eq_getElem?_getD, List.getElem?_append_left (by rw [h.len]; exact hi), ← List.getD_eq_getElem?_getD] at hb
 by_cases e : j < ss.length
 ·rw [List.getD_eq_getElem?_getD, List.getElem?_append_left (by rw [h.len]; exact e), ← List.getD_eq_getElem?_getD]
  exact h.apart i j hij e b hb
 obtain rfl : j = ss.length:=by omega
 have e1 : (vs ++ [u]).getD ss.length (.slice none 0 0) = u:=by rw [← h.len]; simp
 rw [e1]
 intro e3
 have:=hN i hi b hb
 have:=(World.ownsRow.lt hu b e3).1
 omega
end
section
open Go.RowKit
variable [∀ (a b c d : Int), Decidable (Ok4 a b c d)]
variable [∀ (a b c d : Nat), Decidable (okN a b c d)]
theorem os_base {w : World} {B B' : Nat} {v : Value} {xs : List ByteArray} (h : OS w B v xs) (hB : B' ≤ B) : OS w B' v xs := by
 refine ⟨h.1, ?_⟩
 rcases h.2 with h | ⟨g, cap, cur, h1, h2, h3⟩
 ·exact .inl h
 exact .inr ⟨g, cap, cur, h1, by omega, h3⟩

theorem specTxsOf (s : ByteArray) (w : World) (hs : s.size ≤ 33554432) :
 Calls Try.prog 74 #[.string s] w fun e w' => ∃ v, e = .returned (.tuple #[v,.bool (txsAns s).isSome]) ∧ OT w' w.heap.size v ((txsAns s).getD []) ∧ Below w.heap.size w w' := by
 obtain ⟨i0, hi, hz0, hz1, hz2⟩:=info_parts Try.infoTx
 unfold txsAns
 by_cases hz : s = ⟨#[]⟩
 ·rw [if_pos hz]
  subst hz
  go_enter Try.func74, Try.ntmps74
  go_wp2
  go_ret2
  exact ⟨_, rfl, World.ownsRow_lit w #[] 0 (Nat.le_refl _) (by unfold maxLen; omega) rfl, (Below.refl _ _).alloc (Nat.le_refl _) _⟩
 rw [if_neg hz]
 have hne:=str_ne hz
 have hne2 : (s.toList == []) = false:=by
  rw [beq_eq_false_iff_ne]; intro e; apply hz; apply ByteArray.ext; apply Array.toList_inj.1; rw [ByteArray.toList_eq] at e; exact e
 have SP:=hide fun w => specSplit_any s 44 w hs
 have hpn : 0 < (splitAns s 44).length:=by simp [splitAns]
 have hpl:=splitAns_len s 44
 have hpz : Hid (∀ p ∈ splitAns s 44, p.size ≤ 33554432):=fun p hp => Nat.le_trans (split_size s 44 p hp) hs
 generalize splitAns s 44 = ps at *
 clear hz
 go_enter Try.func74, Try.ntmps74
 go_wp2_with fail
 refine (SP.out _).mono ?_
 rintro e w1 ⟨vp, rfl, op', b1'⟩
 have b1 : Below w.heap.size w w1:=((Below.refl _ _).alloc (Nat.le_refl _) _).trans (b1'.mono (by simp))
 have op : OS w1 w.heap.size vp ps:=os_base op' (by simp)
 have OL:=hide (OT.below (show OT _ w.heap.size _ [] from World.ownsRow_lit w #[] 0 (Nat.le_refl _) (by unfold maxLen; omega) rfl) b1')
 clear op' b1'
 rcases op.2 with ⟨_, h0⟩ | ⟨gp, pc, pcur, rfl, _⟩
 ·omega
 have OP:=hide op
 clear op SP
 go_wp2
 go_loopw [4, 6] (fun v i wr => ∃ (k : Nat) (ys : List T4), k ≤ ps.length ∧ i = .int .i64 k ∧ ys.length = k ∧ Hid (allTx (ps.take k) = some ys) ∧ OT wr w.heap.size v ys ∧ OS wr w.heap.size (.slice (some ⟨gp, 0, none⟩) ps.length pc) ps ∧ Below w.heap.size w wr) (fun _ i _ => ps.length - (intOf i).toNat)
 case atStart => exact ⟨0, [], by omega, rfl, rfl, rfl, OL.out, OP.out, b1⟩
 case round =>
  obtain ⟨k, ys, hk, rfl, hyl, HA, ho, hp, hb⟩:=hrel
  have hsz:=hb.size
  by_cases hlt : k < ps.length
  ·have hc:=os_cell hp rfl k hlt
   have hm:=hpz.out _ (getD_mem hlt)
   have HT:=hide (take_more ps k hlt)
   have CT:=hide fun w => specTxOf (ps.getD k ByteArray.empty) w hm
   have HB:=hide (And.intro ho (And.intro hp hb))
   clear ho hp hb hm
   generalize ps.getD k ByteArray.empty = p at *
   cases ht : txAns p.data.toList with
   | none =>
    have HN : Hid (allTx ps = none):=allTx_none (k + 1) (by rw [HT.out, allTx_more, ht]; cases allTx (ps.take k) <;> rfl)
    rw [ht] at CT
    clear ht HT HA
    go_wp2_with fail
    refine (CT.out _).mono ?_
    rintro e w2 ⟨rfl, b2⟩
    have hw : Below w.heap.size w (w2.alloc (.cells #[.int .i64 0,.int .i64 0,.int .i64 0,.int .i64 0] 89)):=(HB.out.2.2.trans (b2.mono hsz)).alloc (by have:=b2.size; omega) _
    unfold txval
    go_wp2
    go_ret2
    exact ⟨_, by rw [HN.out]; rfl, by rw [HN.out]; have hq := World.ownsRow_lit (base := w.heap.size) (e := 89) (size := 4) (w2.alloc (.cells #[.int .i64 0,.int .i64 0,.int .i64 0,.int .i64 0] 89)) #[] 0 hw.size (by unfold maxLen; omega) (by simp); simpa [OT, tcells] using hq, hw.alloc hw.size _⟩
   | some q =>
    obtain ⟨a, b, c, d⟩:=q
    have HN : Hid (allTx (ps.take (k + 1)) = some (ys ++ [((a : Int), (b : Int), (c : Int), (d : Int))])):=by
     show allTx _ = _
     rw [HT.out, allTx_more, HA.out, ht]; rfl
    rw [ht] at CT
    clear ht HT HA
    go_wp2_with fail
    refine (CT.out _).mono ?_
    rintro e w2 ⟨rfl, b2⟩
    obtain ⟨ho, hp, hb⟩:=HB.out
    have s2:=b2.size
    have ho2:=ot_alloc (ot_alloc (ho.below b2) (.cells #[.int .i64 a,.int .i64 b,.int .i64 c,.int .i64 d] 89)) (.cells #[.int .i64 a,.int .i64 b,.int .i64 c,.int .i64 d] 89)
    have hp2:=os_alloc (os_alloc (hp.below b2) (.cells #[.int .i64 a,.int .i64 b,.int .i64 c,.int .i64 d] 89)) (.cells #[.int .i64 a,.int .i64 b,.int .i64 c,.int .i64 d] 89)
    have hb2 : Below w.heap.size w ((w2.alloc (.cells #[.int .i64 a,.int .i64 b,.int .i64 c,.int .i64 d] 89)).alloc (.cells #[.int .i64 a,.int .i64 b,.int .i64 c,.int .i64 d] 89)):=((hb.trans (b2.mono hsz)).alloc (by omega) _).alloc (by simp; omega) _
    have hdis:=os_ot hp2 ho2
    clear ho hp hb HB b2 hc
    unfold txval
    go_wp2_with (first
     | (at_builtin; refine wpList_append_own _ rfl _ _ 87 rfl w.heap.size 89 i0 (txv 0 0 0 0) 4 32 Try.underlying87 hi hz0 hz1 hz2 rfl (by decide) _ _ _ rfl ho2 ⟨w2.heap.size + 1, 0, none⟩ 1 1 (tcell ((a : Int), (b : Int), (c : Int), (d : Int))) rfl rfl (by have := four_cell (w2.alloc (.cells #[.int .i64 a,.int .i64 b,.int .i64 c,.int .i64 d] 89)) ((a : Int), (b : Int), (c : Int), (d : Int)) 89; simpa using this) (four_plain _) (by unfold maxLen; omega) (by omega) (by simp; omega) ?_; intro v' w3 ho' hg' _; have R := ot_more (by simp; omega) ho2 hb2 ho' hg'; have RP : OS w3 w.heap.size (.slice (some ⟨gp, 0, none⟩) ps.length pc) ps := World.ownsRow.kept hp2 hg' hdis; clear ho2 ho' hg' hb2 hp2 hdis))
    go_roundw
    case rel => exact ⟨k + 1, _, by omega, by go_num, by simp [hyl], HN, R.1, RP, R.2⟩
    case measure => simp [intOf]; omega
  have hkn : k = ps.length:=by omega
  have HN : Hid (allTx ps = some ys):=by
   have:=HA.out
   rw [hkn, List.take_of_length_le (Nat.le_refl _)] at this
   exact this
  have HO:=hide ho
  clear ho hp HA
  go_wp2
  go_ret2
  exact ⟨_, by rw [HN.out]; rfl, by rw [HN.out]; exact HO.out, hb⟩
end
section
open Go.RowKit
variable [∀ (a b c d : Int), Decidable (Ok4 a b c d)]
variable [∀ (a b c d : Nat), Decidable (okN a b c d)]
variable [∀ (last : Int) (s : St), Decidable (GoodSt last s)]
theorem own_types {w : World} {B B' n n' s s' : Nat} {e e' : TypeId} {v u : Value} {xs ys : List Value} (h : w.ownsRow B e s v n xs) (h' : w.ownsRow B' e' s' u n' ys) (he : e ≠ e') : v.ownBlock = none ∨ v.ownBlock ≠ u.ownBlock := by
 rcases h.2 with ⟨rfl, _⟩ | ⟨g, cap, cur, rfl, _, hg, _⟩
 ·exact .inl rfl
 rcases h'.2 with ⟨rfl, _⟩ | ⟨g', cap', cur', rfl, _, hg', _⟩
 ·exact .inr (by simp [Value.ownBlock])
 refine .inr fun e2 => ?_
 simp [Value.ownBlock] at e2
 rw [e2, hg'] at hg
 simp at hg
 exact he hg.2.symm
theorem none_apart {w : World} {B n s : Nat} {e : TypeId} {v : Value} {xs : List Value} {c : Nat} (h : w.ownsRow (B + 1) e s v n xs) : (Value.slice (some ⟨B, 0, none⟩) 0 c).ownBlock = none ∨ (Value.slice (some ⟨B, 0, none⟩) 0 c).ownBlock ≠ v.ownBlock := .inr fun e => by
 have:=(World.ownsRow.lt h B (by rw [← e]; rfl)).1
 omega
theorem row_lower {w : World} {B B' n s : Nat} {e : TypeId} {v : Value} {xs : List Value} (h : w.ownsRow B e s v n xs) (hb : B' ≤ B) : w.ownsRow B' e s v n xs := by
 refine ⟨h.1, ?_⟩
 rcases h.2 with h | ⟨g, cap, cur, h1, h2, h3⟩
 ·exact .inl h
 exact .inr ⟨g, cap, cur, h1, by omega, h3⟩
theorem two_plain (n : Int) (a : Option Addr) (l c : Nat) : ∀ u ∈ scell (n, .slice a l c), u.oneCell' = true := by
 intro u hu
 simp [scell] at hu
 rcases hu with rfl | rfl <;> rfl
theorem two_cell (w : World) (p : Int × Value) (t : TypeId) (j : Nat) (u : Value) (h : (scell p)[j]? = some u) : (w.alloc (.cells #[.int .i64 p.1, p.2] t)).cell? ((⟨w.heap.size, 0, none⟩ : Addr).add j) = some u := by
 match j, h with
 | 0, h => simp [scell] at h; subst h; simp [Addr.add]
 | 1, h => simp [scell] at h; subst h; simp [Addr.add]
 | j + 2, h => simp [scell] at h
theorem stepOf_cut (p : ByteArray) : stepOf p = if (cutS 124 p.data.toList).2.2 = true ∧ (numOf (cutS 124 p.data.toList).1).isSome = true ∧ (txsAns (toB (cutS 124 p.data.toList).2.1)).isSome = true then some (nans (numOf (cutS 124 p.data.toList).1), (txsAns (toB (cutS 124 p.data.toList).2.1)).getD []) else none := by
 unfold stepOf cutS
 by_cases hm : (124 : UInt8) ∈ p.data.toList
 ·rw [if_pos hm, if_pos hm]
  cases hn : numOf (hd 124 p.data.toList) with
  | none => simp
  | some n =>
   cases ht : txsAns (toB (tl 124 p.data.toList)) with
   | none => simp
   | some ts => simp [nans]
 rw [if_neg hm, if_neg hm]; simp
theorem tail_get (ps : List ByteArray) (k : Nat) (h : k + 1 < ps.length) : ps.tail.take (k + 1) = ps.tail.take k ++ [ps.getD (k + 1) ByteArray.empty] := by
 cases ps with
 | nil => simp at h
 | cons p ps =>
  simp only [List.tail_cons]
  simp at h
  rw [List.take_succ_eq_append_getElem h]
  simp [List.getD_eq_getElem?_getD, List.getElem?_eq_getElem h]

theorem specSteps (s : ByteArray) (w : World) (hs : s.size ≤ 33554432) :
 Calls Try.prog 65 #[.string s] w fun e w' => ∃ v, e = .returned (.tuple #[v,.bool (stepsAns s).isSome]) ∧ OSt w' w.heap.size v ((stepsAns s).getD []) ∧ Below w.heap.size w w' := by
 obtain ⟨i0, hi, hz0, hz1, hz2⟩:=info_parts Try.infoSt
 obtain ⟨w0, hw0⟩ : ∃ w0, (w.alloc (.cells #[] 96)).alloc (.cells #[] 96) = w0:=⟨_, rfl⟩
 have z0 : w0.heap.size = w.heap.size + 1 + 1:=by rw [← hw0]; simp
 have B0 : Below w.heap.size w w0:=hw0 ▸ ((Below.refl _ _).alloc (Nat.le_refl _) _).alloc (by simp) _
 have R1 : (w.alloc (.cells #[] 96)).ownsRow w.heap.size 96 2 (.slice (some ⟨w.heap.size, 0, none⟩) 0 0) 0 []:=World.ownsRow_lit w #[] 0 (Nat.le_refl _) (by unfold maxLen; omega) rfl
 have N0 : w0.ownsRow w.heap.size 96 2 (.slice (some ⟨w.heap.size, 0, none⟩) 0 0) 0 []:=hw0 ▸ R1.alloc _
 have O0 : w0.ownsRow (w.heap.size + 1) 96 2 (.slice (some ⟨w.heap.size + 1, 0, none⟩) 0 0) 0 []:=by
  have:=World.ownsRow_lit (base:=w.heap.size + 1) (e:=96) (size:=2) (w.alloc (.cells #[] 96)) #[] 0 (by simp) (by unfold maxLen; omega) rfl
  rw [hw0] at this
  have e : (w.alloc (.cells #[] 96)).heap.size = w.heap.size + 1:=by simp
  rw [e] at this
  exact this
 clear R1
 unfold stepsAns
 by_cases hz : s = ⟨#[]⟩
 ·rw [if_pos hz]
  subst hz
  go_enter Try.func65, Try.ntmps65
  go_wp2
  go_ret2
  refine ⟨_, rfl, ⟨[], rfl, ?_, fun k hk => by simp at hk, fun i j _ hj => by simp at hj⟩, B0⟩
  refine ⟨O0.1, ?_⟩
  rcases O0.2 with h | ⟨g, cap, cur, h1, h2, h3⟩
  ·exact .inl h
  exact .inr ⟨g, cap, cur, h1, by omega, h3⟩
 rw [if_neg hz]
 have hne:=str_ne hz
 have hne2 : (s.toList == []) = false:=by
  rw [beq_eq_false_iff_ne]; intro e; apply hz; apply ByteArray.ext; apply Array.toList_inj.1; rw [ByteArray.toList_eq] at e; exact e
 have SP:=hide fun w => specSplit_any s 47 w hs
 have hpn : 0 < (splitAns s 47).length:=by simp [splitAns]
 have hpz : Hid (∀ p ∈ splitAns s 47, p.size ≤ 33554432):=fun p hp => Nat.le_trans (split_size s 47 p hp) hs
 have hpl:=splitAns_len s 47
 have NONE : Hid (∀ w', Below w.heap.size w w' → w'.ownsRow w.heap.size 96 2 (.slice (some ⟨w.heap.size, 0, none⟩) 0 0) 0 [] → OSt w' w.heap.size (.slice (some ⟨w.heap.size, 0, none⟩) 0 0) []):=hide fun w' _ h => ⟨[], rfl, h, fun k hk => by simp at hk, fun i j _ hj => by simp at hj⟩
 generalize splitAns s 47 = ps at *
 generalize hA : (if ps.getD 0 ByteArray.empty = ⟨#[]⟩ ∧ ps.length ≤ 31 then (stepsRun ps.tail).map (·.2) else none) = A
 have HA:=hide hA
 clear hz hA
 go_enter Try.func65, Try.ntmps65
 go_wp2_with fail
 clear hw0
 refine (SP.out _).mono ?_
 rintro e w1 ⟨vp, rfl, op, b1⟩
 have s1:=b1.size
 have B1:=bu B0 b1
 have k1 : w0.grownBy w1 none:=⟨b1.os, b1.tape, b1.output, b1.size, fun k hk _ => b1.block k hk⟩
 have N1:=N0.kept k1 (by simp [Value.ownBlock])
 have O1:=O0.kept k1 (by simp [Value.ownBlock])
 rcases op.2 with ⟨_, h0⟩ | ⟨gp, pc, pcur, rfl, _⟩
 ·omega
 have c0:=os_cell op rfl 0 hpn
 have OP:=hide op
 have N1:=hide N1
 clear op SP k1 b1 N0 O0 B0
 by_cases h0 : ps.getD 0 ByteArray.empty = ⟨#[]⟩
 ·rw [h0] at c0
  by_cases h31 : ps.length ≤ 31
  ·have E : Hid (A = (stepsRun ps.tail).map (·.2)):=hide (HA.out.symm.trans (if_pos ⟨h0, h31⟩))
   have h31' : decide ((31 : Int) < (ps.length : Int)) = false:=by simp; omega
   go_wp2
   clear c0
   go_loopw [5, 7, 8] (fun out last i wr => ∃ (k : Nat) (l : Int) (ss : List St) (vs : List Value), k + 1 ≤ ps.length ∧ i = .int .i64 ((k + 1 : Nat) : Int) ∧ last = .int .i64 l ∧ Hid (stepsRun (ps.tail.take k) = some (l, ss)) ∧ ss.length = k ∧ OStV wr (w.heap.size + 1) out ss vs ∧ OS wr w0.heap.size (.slice (some ⟨gp, 0, none⟩) ps.length pc) ps ∧ wr.ownsRow w.heap.size 96 2 (.slice (some ⟨w.heap.size, 0, none⟩) 0 0) 0 [] ∧ Below w.heap.size w wr ∧ w.heap.size + 1 ≤ wr.heap.size) (fun _ _ i _ => ps.length - (intOf i).toNat)
   case atStart => exact ⟨0, 0, [], [], by omega, by go_num, rfl, hide (by rw [List.take_zero]; rfl), rfl, ⟨rfl, O1, fun k hk => by simp at hk, fun i j _ hj => by simp at hj⟩, OP.out, N1.out, B1, by omega⟩
   case round =>
    clear O1 N1 OP B1
    obtain ⟨k, l, ss, vs, hk, rfl, rfl, HR, hsl, ost, hp, nr, br, sz⟩:=hrel
    subst hsl
    obtain ⟨oa, oc, rfl⟩:=OSt.form ⟨vs, ost⟩
    have RO1:=(stepsRun_ok _ _ HR.out).2.1
    by_cases hlt : ss.length + 1 < ps.length
    ·have hc:=os_cell hp rfl (ss.length + 1) hlt
     have hm:=hpz.out _ (getD_mem hlt)
     have HT:=hide (tail_get ps ss.length hlt)
     have HC:=hide (stepOf_cut (ps.getD (ss.length + 1) ByteArray.empty))
     have CUT:=hide fun w => l2Cut_any 124 124 rfl (ps.getD (ss.length + 1) ByteArray.empty) w hm
     generalize ps.getD (ss.length + 1) ByteArray.empty = p at *
     have hc1 : (cutS 124 p.data.toList).1.length ≤ 33554432 ∧ (cutS 124 p.data.toList).2.1.length ≤ 33554432:=by
      have h1:=cutS_len 124 p.data.toList
      have h2 : p.data.toList.length = p.size:=by simp
      omega
     obtain ⟨c, hcc⟩ : ∃ c, cutS 124 p.data.toList = c:=⟨_, rfl⟩
     rw [hcc] at CUT HC hc1
     clear hcc
     have NU:=hide fun w => specNumber_any (toB c.1) w (by rw [toB_size]; unfold maxLen; omega)
     have TX:=hide fun w => specTxsOf (toB c.2.1) w (by rw [toB_size]; omega)
     rw [toB_list] at NU
     obtain ⟨cn, hcn⟩ : ∃ x, numOf c.1 = x:=⟨_, rfl⟩
     obtain ⟨ct, hct⟩ : ∃ x, txsAns (toB c.2.1) = x:=⟨_, rfl⟩
     rw [hcn] at NU HC
     rw [hct] at TX HC
     have hn0 : 0 ≤ nans cn ∧ nans cn ≤ 999999:=by
      cases cn with
      | none => simp [nans]
      | some m => have := numOf_some hcn; simp [nans]; omega
     clear hcn hct
     obtain ⟨n, hn⟩ : ∃ n, nans cn = n:=⟨_, rfl⟩
     obtain ⟨bn, hbn⟩ : ∃ b, cn.isSome = b:=⟨_, rfl⟩
     obtain ⟨bt, hbt⟩ : ∃ b, ct.isSome = b:=⟨_, rfl⟩
     obtain ⟨ts, hts⟩ : ∃ b, ct.getD [] = b:=⟨_, rfl⟩
     rw [hn] at NU HC hn0
     rw [hbn] at NU HC
     rw [hbt] at TX HC
     rw [hts] at TX HC
     clear hn hbn hbt hts
     have OST:=hide ost
     have NR:=hide nr
     have HP:=hide hp
     clear ost nr hp
     go_wp2_with fail
     refine (CUT.out _).mono ?_
     rintro _ w2 ⟨rfl, b2⟩
     go_wp2_with fail
     refine (NU.out _).mono ?_
     rintro _ w3 ⟨rfl, b3⟩
     have b23 : Below wr.heap.size wr w3:=bu b2 b3
     go_wp2_with fail
     refine (TX.out _).mono ?_
     rintro _ w4 ⟨vt, rfl, ot, b4⟩
     have b24 : Below wr.heap.size wr w4:=bu b23 b4
     have B4:=bu br b24
     have s24:=b24.size
     have s23:=b23.size
     have ost4:=OST.out.below b24
     have k24 : wr.grownBy w4 none:=⟨b24.os, b24.tape, b24.output, b24.size, fun k hk _ => b24.block k hk⟩
     have nr4:=World.ownsRow.kept NR.out k24 (by simp [Value.ownBlock])
     have hp4:=HP.out.below b24
     obtain ⟨ta, tc, rfl⟩ : ∃ ta tc, vt = .slice ta ts.length tc:=by
      rcases ot.2 with ⟨rfl, h0⟩ | ⟨g, cap, cur, rfl, _⟩
      ·exact ⟨none, 0, by rw [h0]⟩
      exact ⟨_, _, rfl⟩
     clear CUT NU TX b2 b3 b4
     have RN : Hid (stepOf p = none → stepsRun ps.tail = none):=hide fun h => stepsRun_none (ss.length + 1) (by rw [HT.out, stepsRun_more, HR.out]; unfold stepAcc; rw [h]; rfl)
     obtain ⟨c1, c2, cb⟩:=c
     cases cb with
     | false =>
      have F:=hide (RN.out (by rw [HC.out, if_neg (by simp)]))
      go_wp2
      go_ret2
      rw [E.out, F.out]
      exact ⟨_, rfl, NONE.out _ B4 nr4, B4⟩
     | true =>
     cases bn with
     | false =>
      have F:=hide (RN.out (by rw [HC.out, if_neg (by simp)]))
      go_wp2
      go_ret2
      rw [E.out, F.out]
      exact ⟨_, rfl, NONE.out _ B4 nr4, B4⟩
     | true =>
     cases bt with
     | false =>
      have F:=hide (RN.out (by rw [HC.out, if_neg (by simp)]))
      go_wp2
      go_ret2
      rw [E.out, F.out]
      exact ⟨_, rfl, NONE.out _ B4 nr4, B4⟩
     | true =>
     have HS : Hid (stepOf p = some (n, ts)):=hide (by rw [HC.out, if_pos (by simp)])
     have RG : Hid (¬ GoodSt l (n, ts) → stepsRun ps.tail = none):=hide fun h => stepsRun_none (ss.length + 1) (by rw [HT.out, stepsRun_more, HR.out]; unfold stepAcc; rw [HS.out]; exact if_neg h)
     clear RN HC
     by_cases g1 : n ≤ l
     ·have F:=hide (RG.out fun h => by have:=h.1; simp only at this; omega)
      have g1' : decide (n ≤ l) = true:=by simp; omega
      go_wp2
      go_ret2
      rw [E.out, F.out]
      exact ⟨_, rfl, NONE.out _ B4 nr4, B4⟩
     have g1' : decide (n ≤ l) = false:=by simp; omega
     by_cases g2 : 60 < n
     ·have F:=hide (RG.out fun h => by have:=h.2.1; simp only at this; omega)
      have g2' : decide (60 < n) = true:=by simp; omega
      go_wp2
      go_ret2
      rw [E.out, F.out]
      exact ⟨_, rfl, NONE.out _ B4 nr4, B4⟩
     have g2' : decide (60 < n) = false:=by simp; omega
     by_cases g3 : 2 < ts.length
     ·have F:=hide (RG.out fun h => by have:=h.2.2; simp only at this; omega)
      have g3' : decide ((2 : Int) < (ts.length : Int)) = true:=by simp; omega
      go_wp2
      go_ret2
      rw [E.out, F.out]
      exact ⟨_, rfl, NONE.out _ B4 nr4, B4⟩
     have g3' : decide ((2 : Int) < (ts.length : Int)) = false:=by simp; omega
     have HN : Hid (stepsRun (ps.tail.take (ss.length + 1)) = some (n, ss ++ [(n, ts)])):=hide (by
      rw [HT.out, stepsRun_more, HR.out]; unfold stepAcc; rw [HS.out]
      exact if_pos ⟨by omega, by omega, by show ts.length ≤ 2; omega⟩)
     have bX : Below w4.heap.size w4 (w4.alloc (.cells #[.int .i64 n,.slice ta ts.length tc] 96)):=(Below.refl _ _).alloc (Nat.le_refl _) _
     have ostX:=ost4.below bX
     have otX:=ot.below bX
     have hpX:=hp4.below bX
     have nrX:=World.ownsRow.alloc nr4 (.cells #[.int .i64 n,.slice ta ts.length tc] 96)
     have BX:=bu B4 bX
     have hN : ∀ k, k < ss.length → ∀ b, (vs.getD k (.slice none 0 0)).ownBlock = some b → b < w3.heap.size:=fun k hk b hb => by
      have:=(World.ownsRow.lt (OST.out.each k hk) b hb).2; omega
     have hl31 : ss.length ≤ 31:=by omega
     clear RG ost4 ot hp4 nr4 B4
     go_wp2_with (first
      | (at_builtin; refine wpList_append_own _ rfl _ _ 92 rfl (w.heap.size + 1) 96 i0 (.agg #[.int .i64 0,.slice none 0 0]) 2 32 Try.underlying92 hi hz0 hz1 hz2 rfl (by decide) _ _ _ rfl ostX.row ⟨w4.heap.size, 0, none⟩ 1 1 (scell (n,.slice ta ts.length tc)) rfl rfl (two_cell w4 (n,.slice ta ts.length tc) 96) (two_plain _ _ _ _) (by unfold maxLen; omega) (by omega) (by simp; omega) ?_; intro v' w5 ho' hg' _; have R := ost_more ostX otX hN (by omega) ho' hg'; have RP := World.ownsRow.kept hpX hg' (own_types hpX ostX.row (by decide)); have RN := World.ownsRow.kept nrX hg' (none_apart ostX.row); have RB := BX.grown hg' BX.size (fun k hk => by have := (World.ownsRow.lt ostX.row k hk).1; omega); have SZ : w4.heap.size ≤ w5.heap.size := (by have := hg'.size; simp at this; omega); clear ho' hg' ostX otX hpX nrX BX bX))
     go_roundw
     case rel => exact ⟨ss.length + 1, n, _, _, by omega, by go_num, rfl, HN, by simp, R, RP, RN, RB, by omega⟩
     case measure => simp [intOf]; omega
    have hk2 : ps.tail.take ss.length = ps.tail:=List.take_of_length_le (by simp; omega)
    rw [hk2] at HR
    have hlt' : decide (((ss.length + 1 : Nat) : Int) < (ps.length : Int)) = false:=by simp; omega
    go_wp2
    go_ret2
    rw [E.out, HR.out]
    refine ⟨_, rfl, ⟨vs, ost.len, ?_, fun k hk => ?_, ost.apart⟩, br⟩
    ·exact row_lower ost.row (by omega)
    exact row_lower (ost.each k hk) (by omega)
  have E : A = none:=HA.out.symm.trans (if_neg fun h => h31 h.2)
  have h31' : decide ((31 : Int) < (ps.length : Int)) = true:=by simp; omega
  go_wp2
  go_ret2
  rw [E]
  exact ⟨_, rfl, NONE.out _ B1 N1.out, B1⟩
 have E : A = none:=HA.out.symm.trans (if_neg fun h => h0 h.1)
 have hn0:=str_ne h0
 have hn1 : ((ps.getD 0 ByteArray.empty).toList = []) = False:=eq_false fun e => h0 (by apply ByteArray.ext; apply Array.toList_inj.1; rw [ByteArray.toList_eq] at e; exact e)
 generalize ps.getD 0 ByteArray.empty = p0 at *
 go_wp2
 go_ret2
 rw [E]
 exact ⟨_, rfl, NONE.out _ B1 N1.out, B1⟩
end
section

def joinTo (b : UInt8) (ps : List ByteArray) : Nat → List UInt8
 | 0 => []
 | j + 1 => (if 0 < j then joinTo b ps j ++ [b] else joinTo b ps j) ++ (ps.getD j ByteArray.empty).data.toList
theorem joinTo_pre (b : UInt8) (ps qs : List ByteArray) (j : Nat) (h : j ≤ ps.length) : joinTo b (ps ++ qs) j = joinTo b ps j := by
 induction j with
 | zero => rfl
 | succ j ih =>
  have e : (ps ++ qs).getD j ByteArray.empty = ps.getD j ByteArray.empty:=by
   rw [List.getD_eq_getElem?_getD, List.getD_eq_getElem?_getD, List.getElem?_append_left (by omega)]
  rw [joinTo, joinTo, ih (by omega), e]
theorem joinTo_snoc (b : UInt8) (ps : List ByteArray) (x : ByteArray) : joinTo b (ps ++ [x]) (ps.length + 1) = (if 0 < ps.length then joinTo b ps ps.length ++ [b] else joinTo b ps ps.length) ++ x.data.toList := by
 have e : (ps ++ [x]).getD ps.length ByteArray.empty = x:=by simp
 rw [joinTo, joinTo_pre b ps [x] ps.length (Nat.le_refl _), e]
theorem ext_cut (s : ByteArray) (i j : Nat) : (s.extract i j).data.toList = (s.data.toList.drop i).take (j - i) := by
 rw [ByteArray.data_extract, Array.toList_extract]
theorem split_inv (s : ByteArray) (b : UInt8) (k : Nat) (hk : k ≤ s.size) :
 ((pcs s b.toNat k).1 = [] ∧ (pcs s b.toNat k).2 = 0) ∨ (0 < (pcs s b.toNat k).1.length ∧ joinTo b (pcs s b.toNat k).1 (pcs s b.toNat k).1.length ++ [b] = s.data.toList.take (pcs s b.toNat k).2) := by
 induction k with
 | zero => left; simp [pcs]
 | succ k ih =>
  have ih:=ih (by omega)
  have hks : k < s.size:=by omega
  by_cases hb : (s[k].toNat : Int) = b.toNat
  ·rw [pcs_hit s _ k hks hb]
   right
   have hle:=(pcs_le s b.toNat k).1
   have hbb : s[k] = b:=by
    apply UInt8.toNat_inj.1; omega
   have htk : s.data.toList.take (k + 1) = s.data.toList.take k ++ [b]:=by
    rw [List.take_succ_eq_append_getElem (by simpa using hks)]
    congr 1
    rw [← hbb]; rfl
   refine ⟨by simp, ?_⟩
   simp only [List.length_append, List.length_cons, List.length_nil, Nat.zero_add]
   rw [joinTo_snoc, ext_cut, htk]
   congr 1
   rcases ih with ⟨h1, h2⟩ | ⟨h1, h2⟩
   ·rw [h1, h2]; simp [joinTo]
   rw [if_pos h1, h2]
   rw [← List.take_add]
   congr 1; omega
  rw [pcs_miss s _ k hks hb]; exact ih
theorem split_join (s : ByteArray) (b : UInt8) : joinTo b (splitAns s b.toNat) (splitAns s b.toNat).length = s.data.toList := by
 have hle:=(pcs_le s b.toNat s.size).1
 have hinv:=split_inv s b s.size (Nat.le_refl _)
 have hlen : s.data.toList.length = s.size:=by simp
 unfold splitAns
 simp only [List.length_append, List.length_cons, List.length_nil, Nat.zero_add]
 rw [joinTo_snoc, ext_cut]
 rcases hinv with ⟨h1, h2⟩ | ⟨h1, h2⟩
 ·rw [h1, h2]
  simp only [List.length_nil, joinTo, List.drop_zero, Nat.sub_zero]
  rw [List.take_of_length_le (by omega)]; simp
 rw [if_pos h1, h2, ← List.take_add, List.take_of_length_le (by omega)]
end
section
variable [∀ (a b c d : Int), Decidable (Ok4 a b c d)]
variable [∀ (a b c d : Nat), Decidable (okN a b c d)]
variable [∀ (x : T4), Decidable (OkT x)]
def jn : List (List UInt8) → List UInt8
 | [] => []
 | [p] => p
 | p :: q :: r => p ++ 44 :: jn (q :: r)
theorem jn_snoc (ps : List (List UInt8)) (p : List UInt8) : jn (ps ++ [p]) = (if 0 < ps.length then jn ps ++ [44] else jn ps) ++ p := by
 induction ps with
 | nil => simp [jn]
 | cons x ps ih =>
  cases ps with
  | nil => simp [jn]
  | cons y ps =>
   rw [List.cons_append] at ih
   rw [List.cons_append, List.cons_append, jn, jn, ih]
   simp
theorem jn_unique (ps qs : List (List UInt8)) (hp : ∀ p ∈ ps, 44 ∉ p) (hq : ∀ q ∈ qs, 44 ∉ q) (hn : ps ≠ []) (hm : qs ≠ []) (h : jn ps = jn qs) : ps = qs := by
 induction ps generalizing qs with
 | nil => exact absurd rfl hn
 | cons p ps ih =>
  cases qs with
  | nil => exact absurd rfl hm
  | cons q qs =>
   have hp0:=hp p (by simp)
   have hq0:=hq q (by simp)
   cases ps with
   | nil =>
    cases qs with
    | nil => simp [jn] at h; rw [h]
    | cons q' qs => simp only [jn] at h; rw [h] at hp0; simp at hp0
   | cons p' ps =>
    cases qs with
    | nil => simp only [jn] at h; rw [← h] at hq0; simp at hq0
    | cons q' qs =>
     simp only [jn] at h
     have e1 : p = q:=by rw [← hd_some (y:=jn (p' :: ps)) hp0, h, hd_some hq0]
     have e2 : jn (p' :: ps) = jn (q' :: qs):=by rw [← tl_some (x:=p) (y:=jn (p' :: ps)) hp0, h, tl_some hq0]
     rw [e1, ih (q' :: qs) (fun x hx => hp x (by simp at hx ⊢; exact .inr hx)) (fun x hx => hq x (by simp at hx ⊢; exact .inr hx)) (by simp) (by simp) e2]
theorem joinTo_jn (ps : List ByteArray) (k : Nat) (hk : k ≤ ps.length) : joinTo 44 ps k = jn ((ps.take k).map fun s => s.data.toList) := by
 induction k with
 | zero => simp [joinTo, jn]
 | succ k ih =>
  rw [joinTo, ih (by omega), take_more ps k (by omega), List.map_append, List.map_singleton, jn_snoc]
  simp only [List.length_map, List.length_take]
  rw [show min k ps.length = k from by omega]
theorem accT_jn (xs : List T4) (k : Nat) (hk : k ≤ xs.length) : accT xs k = jn ((xs.take k).map fun x => (txT x).data.toList) := by
 induction k with
 | zero => simp [accT, jn]
 | succ k ih =>
  have e : xs.take (k + 1) = xs.take k ++ [xs.getD k (0, 0, 0, 0)]:=by
   rw [List.take_succ_eq_append_getElem (by omega), List.getD_eq_getElem?_getD, List.getElem?_eq_getElem (by omega)]; rfl
  rw [accT, ih (by omega), e, List.map_append, List.map_singleton, jn_snoc]
  simp only [List.length_map, List.length_take]
  rw [show min k xs.length = k from by omega]
theorem pcs_clean (s : ByteArray) (k : Nat) (hk : k ≤ s.size) : (∀ p ∈ (pcs s 44 k).1, (44 : UInt8) ∉ p.data.toList) ∧ (44 : UInt8) ∉ (s.data.toList.drop (pcs s 44 k).2).take (k - (pcs s 44 k).2) := by
 induction k with
 | zero => simp [pcs]
 | succ k ih =>
  obtain ⟨h1, h2⟩:=ih (by omega)
  have hle:=(pcs_le s 44 k).1
  by_cases hb : (s[k].toNat : Int) = 44
  ·rw [pcs_hit s 44 k (by omega) hb]
   refine ⟨fun p hp => ?_, by simp⟩
   rw [List.mem_append] at hp
   rcases hp with hp | hp
   ·exact h1 p hp
   simp at hp; rw [hp, ext_list]; exact h2
  rw [pcs_miss s 44 k (by omega) hb]
  refine ⟨h1, ?_⟩
  have e:=not_mem_more (m:=44) (l:=s.data.toList) (n:=(pcs s 44 k).2) (pos:=k) (v:=1) hle h2 (fun j hj => by
   obtain rfl : j = 0:=by omega
   rw [Nat.add_zero, List.getElem?_eq_getElem (by simp; omega)]
   intro e
   have e' : s[k] = 44:=Option.some.inj e
   rw [e'] at hb; exact hb rfl)
  exact e
theorem split_clean (s : ByteArray) : ∀ p ∈ splitAns s 44, (44 : UInt8) ∉ p.data.toList := by
 intro p hp
 obtain ⟨h1, h2⟩:=pcs_clean s s.size (Nat.le_refl _)
 unfold splitAns at hp
 rw [List.mem_append] at hp
 rcases hp with hp | hp
 ·exact h1 p hp
 simp at hp; rw [hp, ext_list]; exact h2
theorem split_ne (s : ByteArray) : splitAns s 44 ≠ [] := by unfold splitAns; simp
theorem txT_clean (x : T4) : (44 : UInt8) ∉ (txT x).data.toList := by
 unfold txT txt
 obtain ⟨a, b, c, d⟩:=x
 by_cases h : Ok4 a b c d
 ·show (44 : UInt8) ∉ (if Ok4 a b c d then txs a b c d else (⟨#[]⟩ : ByteArray)).data.toList
  rw [if_pos h]
  obtain ⟨a', b', c', d', rfl, rfl, rfl, rfl⟩:=ok_nat h
  rw [txs_toB, toB_list]
  unfold txl
  have n:=fun n => no_mark n 44 (by decide)
  simp [n]
 show (44 : UInt8) ∉ (if Ok4 a b c d then txs a b c d else (⟨#[]⟩ : ByteArray)).data.toList
 rw [if_neg h]; simp
theorem isTx_T {s : ByteArray} {q : Nat × Nat × Nat × Nat} (h : txAns s.data.toList = some q) : txT (toT q) = s ∧ OkT (toT q) := by
 obtain ⟨a, b, c, d⟩:=q
 have hi:=txAns_is h
 exact ⟨isTx_txt hi, ok_cast.2 hi.1⟩
theorem ok_T {x : T4} (h : OkT x) : ∃ q, toT q = x ∧ txAns (txT x).data.toList = some q := by
 obtain ⟨a, b, c, d⟩:=x
 obtain ⟨a', b', c', d', rfl, rfl, rfl, rfl⟩:=ok_nat h
 refine ⟨(a', b', c', d'), rfl, txAns_some ⟨ok_cast.1 h, ?_⟩⟩
 show _ = (if Ok4 (a' : Int) b' c' d' then txs a' b' c' d' else (⟨#[]⟩ : ByteArray)).data.toList
 rw [if_pos (show Ok4 (a' : Int) b' c' d' from h), txs_toB, toB_list]
theorem allTx_texts {ps : List ByteArray} {ys : List T4} (h : allTx ps = some ys) : ys.map txT = ps ∧ ∀ y ∈ ys, OkT y := by
 induction ps generalizing ys with
 | nil => simp [allTx] at h; subst h; simp
 | cons p ps ih =>
  rw [allTx] at h
  cases hp : txAns p.data.toList with
  | none => rw [hp] at h; cases h
  | some q =>
   rw [hp] at h
   cases hq : allTx ps with
   | none => rw [hq] at h; cases h
   | some zs =>
    rw [hq] at h; simp at h; subst h
    obtain ⟨i1, i2⟩:=ih hq
    obtain ⟨j1, j2⟩:=isTx_T hp
    refine ⟨by simp [i1, j1], fun y hy => ?_⟩
    simp at hy
    rcases hy with rfl | hy
    ·exact j2
    exact i2 y hy
theorem allTx_of (ys : List T4) (h : ∀ y ∈ ys, OkT y) : allTx (ys.map txT) = some ys := by
 induction ys with
 | nil => rfl
 | cons y ys ih =>
  obtain ⟨q, e, hq⟩:=ok_T (h y (by simp))
  rw [List.map_cons, allTx, hq, ih (fun z hz => h z (by simp [hz]))]
  simp [e]
theorem txsAns_text {s : ByteArray} {ys : List T4} (h : txsAns s = some ys) : txsT ys = s := by
 unfold txsAns at h
 split at h
 ·rename_i hz
  simp at h; subst h
  unfold txsT; simp [accT, toB, hz]
 obtain ⟨h1, h2⟩:=allTx_texts h
 unfold txsT
 rw [if_pos h2, accT_jn ys ys.length (Nat.le_refl _), List.take_of_length_le (Nat.le_refl _)]
 have hj:=split_join s 44
 have e44 : (((44 : UInt8).toNat : Nat) : Int) = 44:=rfl
 rw [e44, joinTo_jn _ _ (Nat.le_refl _), List.take_of_length_le (Nat.le_refl _), ← h1, List.map_map] at hj
 have hj' : jn (ys.map fun x => (txT x).data.toList) = s.data.toList:=hj
 rw [hj', toB_data]
theorem txsAns_of (ys : List T4) (h : ∀ y ∈ ys, OkT y) : txsAns (txsT ys) = some ys := by
 have e : txsT ys = toB (jn (ys.map fun x => (txT x).data.toList)):=by
  unfold txsT
  rw [if_pos h, accT_jn ys ys.length (Nat.le_refl _), List.take_of_length_le (Nat.le_refl _)]
 cases ys with
 | nil => rw [e]; unfold txsAns; simp [jn, toB]
 | cons y ys =>
  have hne : txsT (y :: ys) ≠ ⟨#[]⟩:=by
   rw [e]
   intro hz
   have hz':=congrArg (fun s : ByteArray => s.data.toList) hz
   have hy:=txT_ne (h y (by simp))
   cases ys with
   | nil => simp [jn, toB] at hz'; exact hy (ByteArray.ext hz')
   | cons y' ys => simp [jn, toB] at hz'
  unfold txsAns
  rw [if_neg hne]
  have hj:=split_join (txsT (y :: ys)) 44
  have e44 : (((44 : UInt8).toNat : Nat) : Int) = 44:=rfl
  rw [e44, joinTo_jn _ _ (Nat.le_refl _), List.take_of_length_le (Nat.le_refl _)] at hj
  have hl : (txsT (y :: ys)).data.toList = jn ((y :: ys).map fun x => (txT x).data.toList):=by rw [e]; rfl
  rw [hl] at hj
  have hu:=jn_unique _ _ (fun p hp => by
   obtain ⟨z, hz, rfl⟩:=List.mem_map.1 hp
   exact split_clean _ z hz) (fun q hq => by
   obtain ⟨z, _, rfl⟩:=List.mem_map.1 hq
   exact txT_clean z) (by simp [split_ne]) (by simp) hj
  have hs : splitAns (txsT (y :: ys)) 44 = (y :: ys).map txT:=by
   have inj : ∀ (a b : List ByteArray), a.map (fun s => s.data.toList) = b.map (fun s => s.data.toList) → a = b:=by
    intro a
    induction a with
    | nil => intro b hb; cases b with
     | nil => rfl
     | cons => simp at hb
    | cons x a ih =>
     intro b hb
     cases b with
     | nil => simp at hb
     | cons z b =>
      simp at hb
      rw [ih b hb.2, ByteArray.ext hb.1]
   apply inj
   rw [hu, List.map_map]; rfl
  rw [hs]
  exact allTx_of _ h
end
section
open Go.RowKit
variable [∀ (a b c d : Int), Decidable (Ok4 a b c d)]
variable [∀ (a b c d : Nat), Decidable (okN a b c d)]
variable [∀ (last : Int) (s : St), Decidable (GoodSt last s)]
variable [∀ (x : T4), Decidable (OkT x)]
def jb (b : UInt8) : List (List UInt8) → List UInt8
 | [] => []
 | [p] => p
 | p :: q :: r => p ++ b :: jb b (q :: r)
theorem jb_flat (b : UInt8) (p : List UInt8) (ps : List (List UInt8)) : jb b (p :: ps) = p ++ ps.flatMap (fun t => b :: t) := by
 induction ps generalizing p with
 | nil => simp [jb]
 | cons q ps ih => rw [jb, ih]; simp
theorem jb_snoc (b : UInt8) (ps : List (List UInt8)) (p : List UInt8) : jb b (ps ++ [p]) = (if 0 < ps.length then jb b ps ++ [b] else jb b ps) ++ p := by
 cases ps with
 | nil => simp [jb]
 | cons x ps => rw [List.cons_append, jb_flat, jb_flat]; simp
theorem jb_unique (b : UInt8) (ps qs : List (List UInt8)) (hp : ∀ p ∈ ps, b ∉ p) (hq : ∀ q ∈ qs, b ∉ q) (hn : ps ≠ []) (hm : qs ≠ []) (h : jb b ps = jb b qs) : ps = qs := by
 induction ps generalizing qs with
 | nil => exact absurd rfl hn
 | cons p ps ih =>
  cases qs with
  | nil => exact absurd rfl hm
  | cons q qs =>
   have hp0:=hp p (by simp)
   have hq0:=hq q (by simp)
   cases ps with
   | nil =>
    cases qs with
    | nil => simp [jb] at h; rw [h]
    | cons q' qs => simp only [jb] at h; rw [h] at hp0; simp at hp0
   | cons p' ps =>
    cases qs with
    | nil => simp only [jb] at h; rw [← h] at hq0; simp at hq0
    | cons q' qs =>
     simp only [jb] at h
     have e1 : p = q:=by rw [← hd_some (y:=jb b (p' :: ps)) hp0, h, hd_some hq0]
     have e2 : jb b (p' :: ps) = jb b (q' :: qs):=by rw [← tl_some (x:=p) (y:=jb b (p' :: ps)) hp0, h, tl_some hq0]
     rw [e1, ih (q' :: qs) (fun x hx => hp x (by simp at hx ⊢; exact .inr hx)) (fun x hx => hq x (by simp at hx ⊢; exact .inr hx)) (by simp) (by simp) e2]
theorem joinTo_jb (b : UInt8) (ps : List ByteArray) (k : Nat) (hk : k ≤ ps.length) : joinTo b ps k = jb b ((ps.take k).map fun s => s.data.toList) := by
 induction k with
 | zero => simp [joinTo, jb]
 | succ k ih =>
  rw [joinTo, ih (by omega), take_more ps k (by omega), List.map_append, List.map_singleton, jb_snoc]
  simp only [List.length_map, List.length_take]
  rw [show min k ps.length = k from by omega]
theorem pcs_cleanB (s : ByteArray) (b : UInt8) (k : Nat) (hk : k ≤ s.size) : (∀ p ∈ (pcs s b.toNat k).1, b ∉ p.data.toList) ∧ b ∉ (s.data.toList.drop (pcs s b.toNat k).2).take (k - (pcs s b.toNat k).2) := by
 induction k with
 | zero => simp [pcs]
 | succ k ih =>
  obtain ⟨h1, h2⟩:=ih (by omega)
  have hle:=(pcs_le s b.toNat k).1
  by_cases hb : (s[k].toNat : Int) = b.toNat
  ·rw [pcs_hit s b.toNat k (by omega) hb]
   refine ⟨fun p hp => ?_, by simp⟩
   rw [List.mem_append] at hp
   rcases hp with hp | hp
   ·exact h1 p hp
   simp at hp; rw [hp, ext_list]; exact h2
  rw [pcs_miss s b.toNat k (by omega) hb]
  refine ⟨h1, ?_⟩
  exact not_mem_more (m := b) (l := s.data.toList) (n := (pcs s b.toNat k).2) (pos := k) (v := 1) hle h2 (fun j hj => by
   obtain rfl : j = 0:=by omega
   rw [Nat.add_zero, List.getElem?_eq_getElem (by simp; omega)]
   intro e
   have e' : s[k] = b:=Option.some.inj e
   rw [e'] at hb; exact hb rfl)
theorem split_cleanB (s : ByteArray) (b : UInt8) : ∀ p ∈ splitAns s b.toNat, b ∉ p.data.toList := by
 intro p hp
 obtain ⟨h1, h2⟩:=pcs_cleanB s b s.size (Nat.le_refl _)
 unfold splitAns at hp
 rw [List.mem_append] at hp
 rcases hp with hp | hp
 ·exact h1 p hp
 simp at hp; rw [hp, ext_list]; exact h2
theorem split_jb (s : ByteArray) (b : UInt8) : jb b ((splitAns s b.toNat).map fun s => s.data.toList) = s.data.toList := by
 have:=split_join s b
 rw [joinTo_jb b _ _ (Nat.le_refl _), List.take_of_length_le (Nat.le_refl _)] at this
 exact this
theorem split_neB (s : ByteArray) (b : Int) : splitAns s b ≠ [] := by unfold splitAns; simp
theorem split_of (s : ByteArray) (b : UInt8) (ps : List (List UInt8)) (hn : ps ≠ []) (hp : ∀ p ∈ ps, b ∉ p) (h : s.data.toList = jb b ps) : (splitAns s b.toNat).map (fun s => s.data.toList) = ps := by
 refine jb_unique b _ _ (fun p hp' => ?_) hp (by simp [split_neB]) hn ((split_jb s b).trans h)
 obtain ⟨q, hq, rfl⟩:=List.mem_map.1 hp'
 exact split_cleanB s b q hq

def stText (s : St) : List UInt8 := Lib.decDigits s.1.toNat ++ 124 :: (txsT s.2).data.toList
def nm (ss : List St) : List UInt8 := ss.flatMap fun s => 47 :: stText s
def OkSt (s : St) : Prop := (1 ≤ s.1 ∧ s.1 ≤ 60) ∧ s.2.length ≤ 2 ∧ ∀ x ∈ s.2, OkT x
def OkSts (ss : List St) : Prop := ss.length ≤ 30 ∧ (∀ s ∈ ss, OkSt s) ∧ ss.Pairwise (fun a b => a.1 < b.1)
theorem txT_clean2 (x : T4) (m : UInt8) (h : m.toNat < 48 ∨ 57 < m.toNat) (h1 : m ≠ 62) (h2 : m ≠ 58) (h3 : m ≠ 35) : m ∉ (txT x).data.toList := by
 unfold txT txt
 obtain ⟨a, b, c, d⟩:=x
 by_cases ho : Ok4 a b c d
 ·show m ∉ (if Ok4 a b c d then txs a b c d else (⟨#[]⟩ : ByteArray)).data.toList
  rw [if_pos ho]
  obtain ⟨a', b', c', d', rfl, rfl, rfl, rfl⟩:=ok_nat ho
  rw [txs_toB, toB_list]
  unfold txl
  have n:=fun n => no_mark n m h
  simp [n, h1, h2, h3]
 show m ∉ (if Ok4 a b c d then txs a b c d else (⟨#[]⟩ : ByteArray)).data.toList
 rw [if_neg ho]; simp
theorem txsT_clean (ts : List T4) (m : UInt8) (h : m.toNat < 48 ∨ 57 < m.toNat) (h1 : m ≠ 62) (h2 : m ≠ 58) (h3 : m ≠ 35) (h4 : m ≠ 44) : m ∉ (txsT ts).data.toList := by
 unfold txsT
 split
 ·rw [toB_list]
  have : ∀ k, k ≤ ts.length → m ∉ accT ts k:=by
   intro k
   induction k with
   | zero => intro _; simp [accT]
   | succ k ih =>
    intro hk
    have:=ih (by omega)
    have c:=txT_clean2 (ts.getD k (0, 0, 0, 0)) m h h1 h2 h3
    rw [accT]
    split <;> simp [this, h4] <;> simpa using c
  exact this ts.length (Nat.le_refl _)
 simp
theorem stText_clean (s : St) : (47 : UInt8) ∉ stText s := by
 unfold stText
 have h1:=no_mark s.1.toNat 47 (by decide)
 have h2:=txsT_clean s.2 47 (by decide) (by decide) (by decide) (by decide) (by decide)
 simp [h1, h2]
theorem stepOf_some {p : ByteArray} {s : St} (h : stepOf p = some s) : p.data.toList = stText s ∧ (0 ≤ s.1) ∧ ∀ x ∈ s.2, OkT x := by
 unfold stepOf at h
 split at h
 ·rename_i hm
  cases hn : numOf (hd 124 p.data.toList) with
  | none => rw [hn] at h; cases h
  | some n =>
   rw [hn] at h
   cases ht : txsAns (toB (tl 124 p.data.toList)) with
   | none => rw [ht] at h; cases h
   | some ts =>
    rw [ht] at h
    cases h
    obtain ⟨_, h2⟩:=numOf_some hn
    have h3:=txsAns_text ht
    have e : p.data.toList = hd 124 p.data.toList ++ 124 :: tl 124 p.data.toList:=by
     unfold hd tl
     generalize p.data.toList = l at hm
     induction l with
     | nil => simp at hm
     | cons y l ih =>
      by_cases hy : y = 124
      ·subst hy; simp
      have hm' : (124 : UInt8) ∈ l:=by rcases List.mem_cons.1 hm with e | e; exact absurd e.symm hy; exact e
      have:=ih hm'
      simp only [List.takeWhile_cons, List.dropWhile_cons, bne_iff_ne, ne_eq, hy, not_false_eq_true, if_true]
      rw [List.cons_append, ← this]
    refine ⟨?_, by simp, ?_⟩
    ·rw [e, ← h2]
     unfold stText
     rw [h3]
     simp [toB_list]
    unfold txsAns at ht
    split at ht
    ·cases ht; simp
    exact (allTx_texts ht).2
 cases h
theorem stepOf_text {p : ByteArray} {s : St} (h : OkSt s) (hp : p.data.toList = stText s) : stepOf p = some s := by
 obtain ⟨⟨h1, h2⟩, _, h3⟩:=h
 have c:=no_mark s.1.toNat 124 (by decide)
 unfold stepOf
 rw [hp]
 have hm : (124 : UInt8) ∈ stText s:=by unfold stText; simp
 rw [if_pos hm]
 have e1 : hd 124 (stText s) = Lib.decDigits s.1.toNat:=by unfold stText; exact hd_some c
 have e2 : tl 124 (stText s) = (txsT s.2).data.toList:=by unfold stText; exact tl_some c
 rw [e1, e2, numOf_of (by omega), toB_data, txsAns_of s.2 h3]
 obtain ⟨v, ts⟩:=s
 simp at h1 ⊢
 omega
theorem run_texts (ps : List ByteArray) (q : Int × List St) (h : stepsRun ps = some q) : ps.map (fun p => p.data.toList) = q.2.map stText ∧ (∀ s ∈ q.2, OkSt s ∧ s.1 ≤ q.1) ∧ q.2.Pairwise (fun a b => a.1 < b.1) := by
 generalize hn : ps.length = n
 induction n generalizing ps q with
 | zero =>
  have : ps = []:=List.length_eq_zero_iff.1 hn
  subst this
  cases h
  simp
 | succ n ih =>
  obtain ⟨ps', p, rfl⟩ : ∃ ps' p, ps = ps' ++ [p]:=⟨ps.dropLast, ps.getLast (fun e => by rw [e] at hn; simp at hn), (List.dropLast_concat_getLast _).symm⟩
  rw [stepsRun_more] at h
  unfold stepAcc at h
  cases hr : stepsRun ps' with
  | none => rw [hr] at h; cases h
  | some q' =>
   rw [hr] at h
   cases hs : stepOf p with
   | none => rw [hs] at h; simp at h
   | some s =>
    rw [hs] at h
    simp only [Option.bind_some] at h
    split at h
    ·rename_i hg
     cases h
     obtain ⟨i1, i2, i3⟩:=ih ps' q' hr (by simpa using hn)
     obtain ⟨_, o2, _, _⟩:=stepsRun_ok ps' q' hr
     obtain ⟨g1, g2, g3⟩:=hg
     obtain ⟨t1, t2, t3⟩:=stepOf_some hs
     refine ⟨by simp [i1, t1], fun y hy => ?_, ?_⟩
     ·rcases List.mem_append.1 hy with hy | hy
      ·exact ⟨(i2 y hy).1, by have := (i2 y hy).2; show y.1 ≤ s.1; omega⟩
      simp at hy; subst hy
      exact ⟨⟨⟨by omega, g2⟩, g3, t3⟩, Int.le_refl _⟩
     rw [List.pairwise_append]
     refine ⟨i3, by simp, fun a ha b hb => ?_⟩
     simp at hb; subst hb
     have:=(i2 a ha).2
     omega
    cases h
theorem run_of (ss : List St) (hok : ∀ s ∈ ss, OkSt s) (hpw : ss.Pairwise (fun a b => a.1 < b.1)) (ps : List ByteArray) (hp : ps.map (fun p => p.data.toList) = ss.map stText) : ∃ l, stepsRun ps = some (l, ss) ∧ ∀ x, (∀ s ∈ ss, s.1 < x) → 0 < x → l < x := by
 generalize hn : ss.length = n
 induction n generalizing ss ps with
 | zero =>
  have : ss = []:=List.length_eq_zero_iff.1 hn
  subst this
  have : ps = []:=by simpa using hp
  subst this
  exact ⟨0, rfl, fun x _ h => h⟩
 | succ n ih =>
  obtain ⟨ss', s, rfl⟩ : ∃ ss' s, ss = ss' ++ [s]:=⟨ss.dropLast, ss.getLast (fun e => by rw [e] at hn; simp at hn), (List.dropLast_concat_getLast _).symm⟩
  have hpl : ps.length = (ss' ++ [s]).length:=by have:=congrArg List.length hp; simpa using this
  obtain ⟨ps', p, rfl⟩ : ∃ ps' p, ps = ps' ++ [p]:=⟨ps.dropLast, ps.getLast (fun e => by rw [e] at hpl; simp at hpl), (List.dropLast_concat_getLast _).symm⟩
  rw [List.map_append, List.map_append] at hp
  obtain ⟨hp1, hp2⟩:=List.append_inj hp (by simp at hpl ⊢; exact hpl)
  rw [List.pairwise_append] at hpw
  obtain ⟨l, hl, hx⟩:=ih ss' (fun y hy => hok y (by simp [hy])) hpw.1 ps' hp1 (by simpa using hn)
  have hs:=hok s (by simp)
  have hst:=stepOf_text hs (p:=p) (by simpa using hp2)
  have hlt : l < s.1:=hx s.1 (fun y hy => hpw.2.2 y hy s (by simp)) (by have:=hs.1; omega)
  refine ⟨s.1, ?_, fun x h1 _ => h1 s (by simp)⟩
  rw [stepsRun_more, hl]
  unfold stepAcc
  simp only [Option.bind_some, hst]
  rw [if_pos (show GoodSt l s from ⟨hlt, hs.1.2, hs.2.1⟩)]
theorem nm_jb (ss : List St) : nm ss = jb 47 ([] :: ss.map stText) := by
 rw [jb_flat]; unfold nm; simp [List.flatMap_map]
theorem names_iff (s : ByteArray) (ss : List St) : stepsAns s = some ss ↔ s.data.toList = nm ss ∧ OkSts ss := by
 unfold stepsAns
 by_cases hz : s = ⟨#[]⟩
 ·rw [if_pos hz]
  subst hz
  constructor
  ·intro h; cases h; exact ⟨rfl, by simp, by simp, by simp⟩
  rintro ⟨h, _⟩
  cases ss with
  | nil => rfl
  | cons x ss => simp [nm] at h
 rw [if_neg hz]
 have hj:=split_jb s 47
 have e47 : ((47 : UInt8).toNat : Int) = 47:=rfl
 rw [e47] at hj
 constructor
 ·intro h
  split at h
  ·rename_i hc
   cases hr : stepsRun (splitAns s 47).tail with
   | none => rw [hr] at h; cases h
   | some q =>
    rw [hr] at h
    cases h
    obtain ⟨h1, h2, h3⟩:=run_texts _ q hr
    have hlen:=(stepsRun_ok _ q hr).1
    cases hp : splitAns s 47 with
    | nil => exact absurd hp (split_neB s 47)
    | cons p ps =>
     rw [hp] at hc h1 hj hlen
     simp at hc
     refine ⟨?_, ?_, fun y hy => (h2 y hy).1, h3⟩
     ·rw [← hj, nm_jb, List.map_cons, hc.1]
      simp only [List.tail_cons] at h1
      rw [h1]
     show q.2.length ≤ 30
     simp at hlen
     omega
  cases h
 rintro ⟨h1, h2, h3, h4⟩
 have hne : ss ≠ []:=by
  rintro rfl
  apply hz
  apply ByteArray.ext
  apply Array.toList_inj.1
  rw [h1]; rfl
 have hsp:=split_of s 47 ([] :: ss.map stText) (by simp) (fun p hp => by
  rcases List.mem_cons.1 hp with rfl | hp
  ·simp
  obtain ⟨y, _, rfl⟩:=List.mem_map.1 hp; exact stText_clean y) (by rw [h1, nm_jb])
 rw [e47] at hsp
 cases hp : splitAns s 47 with
 | nil => exact absurd hp (split_neB s 47)
 | cons p ps =>
  rw [hp] at hsp
  simp only [List.map_cons, List.cons.injEq] at hsp
  obtain ⟨l, hl, _⟩:=run_of ss h3 h4 ps hsp.2
  have hpl : ps.length = ss.length:=by have:=congrArg List.length hsp.2; simpa using this
  have hp0 : p = ⟨#[]⟩:=ByteArray.ext (Array.toList_inj.1 hsp.1)
  rw [if_pos ⟨by simpa using hp0, by simp; omega⟩, List.tail_cons, hl]
  rfl
theorem ba_ext {s t : ByteArray} (h : s.data.toList = t.data.toList) : s = t := ByteArray.ext (Array.toList_inj.1 h)
def nmOut (up : ByteArray) (view : Int) (ts : List T4) : List UInt8 := up.data.toList ++ 47 :: (Lib.itoa view ++ 124 :: (txsT ts).data.toList)
def nameAns (up : ByteArray) (view : Int) (ts : List T4) : ByteArray := if (∀ x ∈ ts, OkT x) ∧ (stepsAns (toB (nmOut up view ts))).isSome then toB (nmOut up view ts) else ⟨#[]⟩
def viewAns (s : ByteArray) : Int := (((stepsAns s).getD []).getLast?.map (·.1)).getD 0
def heightAns (s : ByteArray) : Int := match stepsAns s with | some ss => (ss.length : Int) | none => -1
theorem height_view {s : ByteArray} : heightAns s ≤ viewAns s ∧ heightAns s ≤ 30 ∧ viewAns s ≤ 60 := by
 unfold heightAns viewAns
 cases h : stepsAns s with
 | none => simp
 | some ss =>
  have ok:=((names_iff _ _).1 h).2
  simp only [Option.getD_some]
  refine ⟨?_, by have := ok.1; omega, ?_⟩
  ·have key : ∀ ss : List St, (∀ s ∈ ss, OkSt s) → ss.Pairwise (fun a b => a.1 < b.1) → (ss.length : Int) ≤ (ss.getLast?.map (·.1)).getD 0:=by
    intro ss
    generalize hn : ss.length = n
    induction n generalizing ss with
    | zero => intro _ _; have : ss = [] := List.length_eq_zero_iff.1 hn; subst this; simp
    | succ n ih =>
     intro h1 h2
     obtain ⟨ss', x, rfl⟩ : ∃ ss' x, ss = ss' ++ [x]:=⟨ss.dropLast, ss.getLast (fun e => by rw [e] at hn; simp at hn), (List.dropLast_concat_getLast _).symm⟩
     rw [List.pairwise_append] at h2
     have:=ih ss' (by simpa using hn) (fun s hs => h1 s (by simp [hs])) h2.1
     have hx:=(h1 x (by simp)).1
     simp only [List.getLast?_append, List.getLast?_singleton, Option.some_or, Option.map_some, Option.getD_some]
     cases hl : ss'.getLast? with
     | none => rw [hl] at this; simp at this; omega
     | some y =>
      rw [hl] at this
      simp at this
      have:=h2.2.2 y (List.mem_of_getLast? hl) x (by simp)
      omega
   exact key ss ok.2.1 ok.2.2
  cases hl : ss.getLast? with
  | none => simp
  | some y => simp; exact (ok.2.1 y (List.mem_of_getLast? hl)).1.2
theorem txsT_len2 (ts : List T4) (h : ts.length ≤ 2) : (txsT ts).size ≤ 56 := by
 unfold txsT
 split
 ·rw [toB_size]
  have:=accT_len ts ts.length
  omega
 exact Nat.zero_le _
end
end Go.Proofs.Ytjkcphnohhpihaa
