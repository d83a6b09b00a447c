/- Lemmas; their conditions stand in each statement. -/
import Derived.Test.YtjkcphnohhpihaaGreatDoorPPAN
namespace Go.Proofs.YtjkcphnohhpihaaGreatDoor
section
open Go.RowKit
theorem OI.one {w : World} {base : Nat} {u : Value} {xs : List Int} (h : OI w base u xs) : u.oneCell' = true := by
 obtain ⟨a, c, rfl⟩:=h.form; rfl
theorem append_part {ops : Array Oper} {rest : List Oper} {o : Oper} {a : Act} {Q : Exit → Act → World → Prop} {w : World} (hgd : o.guard = none) (s x : Operand)
 (ho : o.op = .call { callee := .builtin .append, args := #[s, x], argTypes := #[30, 30] }) (base N : Nat) (v : Value) (ps : List Pt) (vs : List Value) (g cp : Nat) (m : Int) (nm : ByteArray) (u : Value) (xs : List Int) (hs : a.eval s = v) (hx : a.eval x = .slice (some ⟨g, 0, none⟩) 1 cp)
 (htab : OPtV w base v ps vs) (c0 : w.cell? ⟨g, 0, none⟩ = some (.int .i64 m)) (c1 : w.cell? ⟨g, 1, none⟩ = some (.string nm)) (c2 : w.cell? ⟨g, 2, none⟩ = some u) (hu : OI w N u xs)
 (hN : ∀ k, k < ps.length → ∀ b, (vs.getD k (.slice none 0 0)).ownBlock = some b → b < N) (hbN : base ≤ N) (hl : ps.length ≤ 4194304) (hbase : base ≤ w.heap.size)
 (h : ∀ v' w', OPtV w' base v' (ps ++ [(m, nm, xs)]) (vs ++ [u]) → w.grownBy w' v.ownBlock → (v'.ownBlock = v.ownBlock ∨ v'.ownBlock = some w.heap.size) → wpList Tryz.prog ops Q rest (a.put o.dst v') w') :
 wpList Tryz.prog ops Q (o :: rest) a w := by
 obtain ⟨i0, hi, hz0, hz1, hz2⟩:=info_parts Tryz.infoPt
 have hn : ∀ j y, (pcell ((m, nm), u))[j]? = some y → w.cell? ((⟨g, 0, none⟩ : Addr).add j) = some y:=by
  intro j y hj
  match j, hj with
  | 0, hj => simp [pcell] at hj; subst hj; simpa [Addr.add] using c0
  | 1, hj => simp [pcell] at hj; subst hj; simpa [Addr.add] using c1
  | 2, hj => simp [pcell] at hj; subst hj; simpa [Addr.add] using c2
  | j + 3, hj => simp [pcell] at hj
 have hp : ∀ y ∈ pcell ((m, nm), u), y.oneCell' = true:=by
  intro y hy
  simp [pcell] at hy
  rcases hy with rfl | rfl | rfl
  ·rfl
  ·rfl
  exact hu.one
 refine wpList_append_own_at _ hgd s x 30 ho base 36 i0 (qv 0 ⟨#[]⟩ (.slice none 0 0)) 3 48 Tryz.underlying30 hi hz0 hz1 hz2 rfl (by decide) v ps.length (pcells ((ps.map phd).zip vs)) hs htab.row ⟨g, 0, none⟩ 1 cp (pcell ((m, nm), u)) hx (by simp [pcell]) hn hp (by unfold maxLen; omega) (by omega) hbase ?_
 intro v' w' ho' hg' _ hb'
 exact h v' w' (opt_more htab hu hN hbN ho' hg') hg' hb'
theorem opt_empty (w : World) : OPtV (w.alloc (.cells #[] 36)) w.heap.size (.slice (some ⟨w.heap.size, 0, none⟩) 0 0) [] [] := by
 refine ⟨rfl, ?_, fun k hk => by simp at hk, fun i j _ hj => by simp at hj⟩
 have:=World.ownsRow_lit (base:=w.heap.size) (e:=36) (size:=3) w #[] 0 (Nat.le_refl _) (by unfold maxLen; omega) (by simp)
 simpa [pcells] using this
theorem pt_take {ps : List Pt} {k : Nat} (hk : k < ps.length) : ps.take (k + 1) = ps.take k ++ [ps.getD k zpt] := by
 rw [List.take_succ_eq_append_getElem hk]
 simp [List.getElem?_eq_getElem hk]

set_option maxHeartbeats 4000000 in
set_option maxRecDepth 100000 in
theorem l10Table_any (v : Value) (ps : List Pt) (w : World) (hl : ps.length ≤ 4194304) (h : RPt w v ps) :
 Calls Tryz.prog 46 #[v] w fun e w' => ∃ u, e = .returned u ∧ OPt w' w.heap.size u ps ∧ Below w.heap.size w w' := by
 obtain ⟨ao, ca, rfl⟩:=h.form
 obtain ⟨n, hn⟩ : ∃ n, ps.length = n:=⟨_, rfl⟩
 have Hn:=hide hn
 obtain ⟨w0, hw0⟩ : ∃ y, w.alloc (.cells #[] 36) = y:=⟨_, rfl⟩
 have B0 : Below w.heap.size w w0:=hw0 ▸ qalloc _ _
 have T0 : OPtV w0 w.heap.size (.slice (some ⟨w.heap.size, 0, none⟩) 0 0) [] []:=hw0 ▸ opt_empty w
 have H:=hide h
 rw [hn] at hl H ⊢
 clear h hn
 go_enter Tryz.func46, Tryz.ntmps46
 go_wp2
 go_loopw [3, 4] (fun t i wr => ∃ (k : Nat) (vs : List Value) (ta : Option Addr) (tc : Nat), k ≤ n ∧ i = .int .i64 k ∧ t = .slice ta k tc ∧ OPtV wr w.heap.size (.slice ta k tc) (ps.take k) vs ∧ Below w.heap.size w wr) (fun _ i _ => n - (intOf i).toNat)
 case atStart => exact ⟨0, _, _, _, Nat.zero_le _, rfl, rfl, T0, B0⟩
 case round =>
  clear T0 B0 hw0
  obtain ⟨k, vs, ta, tc, hk, rfl, rfl, T, br⟩:=hrel
  by_cases hlt : k < n
  ·have hkx : k < ps.length:=by have:=Hn.out; omega
   have HT:=hide (pt_take hkx)
   obtain ⟨g, off, u, rfl, c0, c1, c2, ru⟩:=(H.out.below br).at k hkx
   obtain ⟨x, hx⟩ : ∃ x, ps.getD k zpt = x:=⟨_, rfl⟩
   rw [hx] at c0 c1 ru HT
   clear hx
   obtain ⟨m, s, xs⟩:=x
   simp only at c0 c1 ru
   have CP:=hide fun w h => l10Copy_any m s u xs w h
   obtain ⟨ua, uc, rfl⟩:=ru.form
   have RU:=hide ru
   have TT:=hide T
   have hlk : (ps.take k).length = k:=by simp; omega
   clear ru T H
   generalize xs.length = xl at *
   go_wp2_with fail
   refine (CP.out _ RU.out).mono ?_
   rintro e w2 ⟨u2, rfl, o2, b2⟩
   have T2:=TT.out.below b2
   have B2:=bu br b2
   obtain ⟨w3, hw3⟩ : ∃ y, w2.alloc (.cells #[.int .i64 m,.string s, u2] 36) = y:=⟨_, rfl⟩
   have t3 : Below w2.heap.size w2 w3:=hw3 ▸ qalloc _ _
   have L3 : Loc w3 w2.heap.size #[.int .i64 m,.string s, u2]:=hw3 ▸ loc_at w2 _ _ rfl
   have T3:=hide (T2.below t3)
   have O3:=hide (o2.below t3)
   have B3:=bu B2 t3
   have hN : Hid (∀ j, j < (ps.take k).length → ∀ b, (vs.getD j (.slice none 0 0)).ownBlock = some b → b < wr.heap.size):=hide fun j hj b hb => (World.ownsRow.lt (TT.out.each j hj) b hb).2
   have d0:=L3.cell 0 rfl
   have d1:=L3.cell 1 rfl
   have d2:=L3.cell 2 rfl
   obtain ⟨xa, xc, rfl⟩:=o2.form
   have sr:=br.size
   have s3:=B3.size
   clear T2 B2 o2 b2 TT CP RU c0 c1 c2 t3 L3
   go_wp2_with (first
    | (at_builtin; clear hw3; refine append_part rfl _ _ rfl w.heap.size wr.heap.size (.slice ta k tc) (ps.take k) vs w2.heap.size 1 m s _ xs rfl rfl T3.out d0 d1 d2 O3.out hN.out sr (by omega) s3 ?_; intro v4 w4 ho4 hg4 _
       have r4:=World.ownsRow.lt T3.out.row
       have B4:=B3.grown hg4 s3 (fun j e => (r4 j e).1)
       obtain ⟨a4, c4, hv4⟩:=OPt.form ⟨_, ho4⟩
       rw [← HT.out] at hv4 ho4
       rw [show (ps.take (k + 1)).length = k + 1 by simp; omega] at hv4
       subst hv4
       have O4:=hide ho4
       clear T3 O3 B3 ho4 hg4 r4 d0 d1 d2 hN))
   go_roundw
   case rel => exact ⟨k + 1, _, a4, c4, by omega, by go_num, by go_num, O4.out, B4⟩
   case measure => simp [intOf]; omega
  have hkn : ps.take k = ps:=List.take_of_length_le (by have:=Hn.out; omega)
  rw [hkn] at T
  have T':=hide T
  clear T hkn H
  go_wp2
  go_ret
  exact ⟨_, rfl, ⟨_, T'.out⟩, br⟩
theorem opt_more2 {w w' : World} {base : Nat} {v v' : Value} {ps : List Pt} {vs : List Value} {n : Int} {s : ByteArray} {u : Value} {xs : List Int} (h : OPtV w base v ps vs) (hu : OI w base u xs) (hap : ∀ k, k < ps.length → ∀ b, (vs.getD k (.slice none 0 0)).ownBlock = some b → u.ownBlock ≠ some b)
 (hr : w'.ownsRow base 36 3 v' (ps.length + 1) (pcells ((ps.map phd).zip vs) ++ pcell ((n, s), u))) (hg : w.grownBy w' v.ownBlock) : OPtV w' base v' (ps ++ [(n, s, xs)]) (vs ++ [u]) := by
 have keep : ∀ (x : Value) (zs : List Int) (B : Nat), OI w B x zs → OI w' B x zs:=fun x zs B hx => World.ownsRow.kept hx hg (by
  cases hxo : x.ownBlock with
  | none => exact .inl rfl
  | some b => exact .inr fun e => pt_oi h.row hx b e.symm hxo)
 refine ⟨by simp [h.len], ?_, fun k hk => ?_, fun i j hij hj b hb => ?_⟩
 ·have e : ((ps ++ [(n, s, xs)]).map phd).zip (vs ++ [u]) = (ps.map phd).zip vs ++ [((n, s), u)]:=by
   rw [List.map_append, List.zip_append (by simp [h.len])]; rfl
  rw [e, pcells_append, List.length_append]
  simpa [pcells] using hr
 ·rw [List.length_append, List.length_singleton] at hk
  by_cases e : k < ps.length
  ·rw [List.getD_eq_getElem?_getD, List.getElem?_append_left (by rw [h.len]; exact e), ← List.getD_eq_getElem?_getD, List.getD_eq_getElem?_getD (l := ps ++ _), List.getElem?_append_left e, ← List.getD_eq_getElem?_getD]
   exact keep _ _ _ (h.each k e)
  obtain rfl : k = ps.length:=by omega
  have e1 : (vs ++ [u]).getD ps.length (.slice none 0 0) = u:=by rw [← h.len]; simp
  have e2 : (ps ++ [(n, s, xs)]).getD ps.length zpt = (n, s, xs):=by simp
  rw [e1, e2]
  exact keep _ _ _ hu
 rw [List.length_append, List.length_singleton] at hj
 have hi : i < ps.length:=by omega
 rw [List.getD_eq_getElem?_getD, List.getElem?_append_left (by rw [h.len]; exact hi), ← List.getD_eq_getElem?_getD] at hb
 by_cases e : j < ps.length
 ·rw [List.getD_eq_getElem?_getD, List.getElem?_append_left (by rw [h.len]; exact e), ← List.getD_eq_getElem?_getD]
  exact h.apart i j hij e b hb
 obtain rfl : j = ps.length:=by omega
 have e1 : (vs ++ [u]).getD ps.length (.slice none 0 0) = u:=by rw [← h.len]; simp
 rw [e1]
 exact hap i hi b hb
theorem append_part2 {ops : Array Oper} {rest : List Oper} {o : Oper} {a : Act} {Q : Exit → Act → World → Prop} {w : World} (hgd : o.guard = none) (s x : Operand)
 (ho : o.op = .call { callee := .builtin .append, args := #[s, x], argTypes := #[30, 30] }) (base : Nat) (v : Value) (ps : List Pt) (vs : List Value) (g cp : Nat) (m : Int) (nm : ByteArray) (u : Value) (xs : List Int) (hs : a.eval s = v) (hx : a.eval x = .slice (some ⟨g, 0, none⟩) 1 cp)
 (htab : OPtV w base v ps vs) (c0 : w.cell? ⟨g, 0, none⟩ = some (.int .i64 m)) (c1 : w.cell? ⟨g, 1, none⟩ = some (.string nm)) (c2 : w.cell? ⟨g, 2, none⟩ = some u) (hu : OI w base u xs)
 (hap : ∀ k, k < ps.length → ∀ b, (vs.getD k (.slice none 0 0)).ownBlock = some b → u.ownBlock ≠ some b) (hl : ps.length ≤ 4194304) (hbase : base ≤ w.heap.size)
 (h : ∀ v' w', OPtV w' base v' (ps ++ [(m, nm, xs)]) (vs ++ [u]) → w.grownBy w' v.ownBlock → (v'.ownBlock = v.ownBlock ∨ v'.ownBlock = some w.heap.size) → wpList Tryz.prog ops Q rest (a.put o.dst v') w') :
 wpList Tryz.prog ops Q (o :: rest) a w := by
 obtain ⟨i0, hi, hz0, hz1, hz2⟩:=info_parts Tryz.infoPt
 have hn : ∀ j y, (pcell ((m, nm), u))[j]? = some y → w.cell? ((⟨g, 0, none⟩ : Addr).add j) = some y:=by
  intro j y hj
  match j, hj with
  | 0, hj => simp [pcell] at hj; subst hj; simpa [Addr.add] using c0
  | 1, hj => simp [pcell] at hj; subst hj; simpa [Addr.add] using c1
  | 2, hj => simp [pcell] at hj; subst hj; simpa [Addr.add] using c2
  | j + 3, hj => simp [pcell] at hj
 have hp : ∀ y ∈ pcell ((m, nm), u), y.oneCell' = true:=by
  intro y hy
  simp [pcell] at hy
  rcases hy with rfl | rfl | rfl
  ·rfl
  ·rfl
  exact hu.one
 refine wpList_append_own_at _ hgd s x 30 ho base 36 i0 (qv 0 ⟨#[]⟩ (.slice none 0 0)) 3 48 Tryz.underlying30 hi hz0 hz1 hz2 rfl (by decide) v ps.length (pcells ((ps.map phd).zip vs)) hs htab.row ⟨g, 0, none⟩ 1 cp (pcell ((m, nm), u)) hx (by simp [pcell]) hn hp (by unfold maxLen; omega) (by omega) hbase ?_
 intro v' w' ho' hg' _ hb'
 exact h v' w' (opt_more2 htab hu hap ho' hg') hg' hb'
end
end Go.Proofs.YtjkcphnohhpihaaGreatDoor
