/- Lemmas; their conditions stand in each statement. -/
import Derived.Test.YtjkcphnohhpihaaGreatDoorPPAK
set_option linter.unusedSectionVars false
namespace Go.Proofs.YtjkcphnohhpihaaGreatDoor
section

def joinTo (b : UInt8) (ps : List ByteArray) : Nat → List UInt8
 | 0 => []
 | j + 1 => (if 0 < j then joinTo b ps j ++ [b] else joinTo b ps j) ++ (ps.getD j ByteArray.empty).data.toList
theorem joinTo_pre (b : UInt8) (ps qs : List ByteArray) (j : Nat) (h : j ≤ ps.length) : joinTo b (ps ++ qs) j = joinTo b ps j := by
 induction j with
 | zero => rfl
 | succ j ih =>
  have e : (ps ++ qs).getD j ByteArray.empty = ps.getD j ByteArray.empty:=by
   rw [List.getD_eq_getElem?_getD, List.getD_eq_getElem?_getD, List.getElem?_append_left (by omega)]
  rw [joinTo, joinTo, ih (by omega), e]
theorem joinTo_snoc (b : UInt8) (ps : List ByteArray) (x : ByteArray) : joinTo b (ps ++ [x]) (ps.length + 1) = (if 0 < ps.length then joinTo b ps ps.length ++ [b] else joinTo b ps ps.length) ++ x.data.toList := by
 have e : (ps ++ [x]).getD ps.length ByteArray.empty = x:=by simp
 rw [joinTo, joinTo_pre b ps [x] ps.length (Nat.le_refl _), e]
theorem ext_cut (s : ByteArray) (i j : Nat) : (s.extract i j).data.toList = (s.data.toList.drop i).take (j - i) := by
 rw [ByteArray.data_extract, Array.toList_extract]
theorem split_inv (s : ByteArray) (b : UInt8) (k : Nat) (hk : k ≤ s.size) :
 ((pcs s b.toNat k).1 = [] ∧ (pcs s b.toNat k).2 = 0) ∨ (0 < (pcs s b.toNat k).1.length ∧ joinTo b (pcs s b.toNat k).1 (pcs s b.toNat k).1.length ++ [b] = s.data.toList.take (pcs s b.toNat k).2) := by
 induction k with
 | zero => left; simp [pcs]
 | succ k ih =>
  have ih:=ih (by omega)
  have hks : k < s.size:=by omega
  by_cases hb : (s[k].toNat : Int) = b.toNat
  ·rw [pcs_hit s _ k hks hb]
   right
   have hle:=(pcs_le s b.toNat k).1
   have hbb : s[k] = b:=by
    apply UInt8.toNat_inj.1; omega
   have htk : s.data.toList.take (k + 1) = s.data.toList.take k ++ [b]:=by
    rw [List.take_succ_eq_append_getElem (by simpa using hks)]
    congr 1
    rw [← hbb]; rfl
   refine ⟨by simp, ?_⟩
   simp only [List.length_append, List.length_cons, List.length_nil, Nat.zero_add]
   rw [joinTo_snoc, ext_cut, htk]
   congr 1
   rcases ih with ⟨h1, h2⟩ | ⟨h1, h2⟩
   ·rw [h1, h2]; simp [joinTo]
   rw [if_pos h1, h2]
   rw [← List.take_add]
   congr 1; omega
  rw [pcs_miss s _ k hks hb]; exact ih
theorem split_join (s : ByteArray) (b : UInt8) : joinTo b (splitAns s b.toNat) (splitAns s b.toNat).length = s.data.toList := by
 have hle:=(pcs_le s b.toNat s.size).1
 have hinv:=split_inv s b s.size (Nat.le_refl _)
 have hlen : s.data.toList.length = s.size:=by simp
 unfold splitAns
 simp only [List.length_append, List.length_cons, List.length_nil, Nat.zero_add]
 rw [joinTo_snoc, ext_cut]
 rcases hinv with ⟨h1, h2⟩ | ⟨h1, h2⟩
 ·rw [h1, h2]
  simp only [List.length_nil, joinTo, List.drop_zero, Nat.sub_zero]
  rw [List.take_of_length_le (by omega)]; simp
 rw [if_pos h1, h2, ← List.take_add, List.take_of_length_le (by omega)]
end
section
open Go.RowKit
variable [∀ (a b c d : Int), Decidable (Ok4 a b c d)]
variable [∀ (a b c d : Nat), Decidable (okN a b c d)]
def OkT (x : T4) : Prop := Ok4 x.1 x.2.1 x.2.2.1 x.2.2.2
variable [∀ (x : T4), Decidable (OkT x)]
def txT (x : T4) : ByteArray := txt x.1 x.2.1 x.2.2.1 x.2.2.2
def accT (xs : List T4) : Nat → List UInt8
 | 0 => []
 | k + 1 => (if 0 < k then accT xs k ++ [44] else accT xs k) ++ (txT (xs.getD k (0, 0, 0, 0))).data.toList
def txsT (xs : List T4) : ByteArray := if ∀ x ∈ xs, OkT x then toB (accT xs xs.length) else ⟨#[]⟩
theorem ok_nat {a b c d : Int} (h : Ok4 a b c d) : ∃ a' b' c' d' : Nat, a = a' ∧ b = b' ∧ c = c' ∧ d = d' := by
 obtain ⟨⟨a1, _⟩, ⟨b1, _⟩, ⟨c1, _⟩, ⟨d1, _⟩⟩:=h
 exact ⟨a.toNat, b.toNat, c.toNat, d.toNat, by omega, by omega, by omega, by omega⟩
theorem txT_size (x : T4) : (txT x).size ≤ 27 := by
 unfold txT txt
 split
 ·rename_i h
  obtain ⟨a, b, c, d⟩:=x
  obtain ⟨⟨a1, a2⟩, ⟨b1, b2⟩, ⟨c1, c2⟩, ⟨d1, d2⟩⟩:=h
  simp only at *
  have za:=dg_size a (by omega) (by omega)
  have zb:=dg_size b (by omega) (by omega)
  have zc:=dg_size c (by omega) (by omega)
  have zd:=dg_size d (by omega) (by omega)
  have o : ∀ c : UInt8, (⟨#[c]⟩ : ByteArray).size = 1:=fun _ => rfl
  unfold txs dg
  rw [ByteArray.size_append, ByteArray.size_append, ByteArray.size_append, ByteArray.size_append, ByteArray.size_append, ByteArray.size_append, o, o, o]
  omega
 exact Nat.zero_le _
theorem txT_ne {x : T4} (h : OkT x) : txT x ≠ ⟨#[]⟩ := by
 unfold txT txt
 obtain ⟨a, b, c, d⟩:=x
 show (if Ok4 a b c d then txs a b c d else (⟨#[]⟩ : ByteArray)) ≠ _
 rw [if_pos (show Ok4 a b c d from h)]
 obtain ⟨a', b', c', d', rfl, rfl, rfl, rfl⟩:=ok_nat h
 rw [txs_toB]
 intro e
 have:=congrArg (fun s : ByteArray => s.data.toList) e
 exact txl_ne a' b' c' d' this
theorem size_len (s : ByteArray) : s.data.toList.length = s.size := by simp
theorem accT_len (xs : List T4) (k : Nat) : (accT xs k).length ≤ k * 28 := by
 induction k with
 | zero => simp [accT]
 | succ k ih =>
  have:=txT_size (xs.getD k (0, 0, 0, 0))
  have e:=size_len (txT (xs.getD k (0, 0, 0, 0)))
  rw [accT]
  split <;> simp only [List.length_append, List.length_cons, List.length_nil, e] <;> omega
theorem txsT_no {xs : List T4} {k : Nat} (hk : k < xs.length) (h : ¬ OkT (xs.getD k (0, 0, 0, 0))) : txsT xs = ⟨#[]⟩ := by
 unfold txsT
 rw [if_neg]
 intro ha
 exact h (ha _ (by rw [List.getD_eq_getElem?_getD, List.getElem?_eq_getElem hk]; exact List.getElem_mem hk))
theorem txsT_yes {xs : List T4} (h : ∀ k, k < xs.length → OkT (xs.getD k (0, 0, 0, 0))) : txsT xs = toB (accT xs xs.length) := by
 unfold txsT
 rw [if_pos]
 intro x hx
 obtain ⟨k, hk, rfl⟩:=List.mem_iff_getElem.1 hx
 have:=h k hk
 rwa [List.getD_eq_getElem?_getD, List.getElem?_eq_getElem hk] at this
theorem toB_append (x y : List UInt8) : toB x ++ toB y = toB (x ++ y) := by
 apply ByteArray.ext; apply Array.toList_inj.1; simp [toB]
theorem ne2 {s : ByteArray} (hz : s ≠ ⟨#[]⟩) : (s.toList == []) = false := by
 rw [beq_eq_false_iff_ne]; intro e; apply hz; apply ByteArray.ext; apply Array.toList_inj.1; rw [ByteArray.toList_eq] at e; exact e

set_option maxHeartbeats 4000000 in
set_option maxRecDepth 100000 in
theorem specTxsText (v : Value) (xs : List T4) (w : World) (hx : xs.length ≤ 1048577) (h : RT w v xs) :
 Calls Tryz.prog 122 #[v] w fun e w' => e = .returned (.string (txsT xs)) ∧ Below w.heap.size w w' := by
 obtain ⟨hl, ao, ca, rfl, ha⟩:=h
 go_enter Tryz.func122, Tryz.ntmps122
 go_wp2
 go_loopw [3, 4] (fun o i wr => ∃ k : Nat, k ≤ xs.length ∧ i = .int .i64 k ∧ o = .string (toB (accT xs k)) ∧ Hid (∀ j, j < k → OkT (xs.getD j (0, 0, 0, 0))) ∧ Below w.heap.size w wr) (fun _ i _ => xs.length - (intOf i).toNat)
 case atStart => exact ⟨0, Nat.zero_le _, rfl, rfl, hide (fun j hj => by omega), Below.refl _ _⟩
 case round =>
  obtain ⟨k, hk, rfl, rfl, HK, br⟩:=hrel
  have hsr:=br.size
  by_cases hlt : k < xs.length
  ·rcases ha with ha | ⟨g, rfl, ha⟩
   ·subst ha; simp at hlt
   obtain ⟨a0, a1, a2, a3⟩:=ha k hlt
   have hg : g < w.heap.size:=cell_lt a0
   have c0:=(br.cell (p:=⟨g, k * 4, none⟩) hg).trans a0
   have c1:=(br.cell (p:=⟨g, k * 4 + 1, none⟩) hg).trans a1
   have c2:=(br.cell (p:=⟨g, k * 4 + 2, none⟩) hg).trans a2
   have c3:=(br.cell (p:=⟨g, k * 4 + 3, none⟩) hg).trans a3
   have hal:=accT_len xs k
   have hts:=txT_size (xs.getD k (0, 0, 0, 0))
   have HS : Hid (accT xs (k + 1) = (if 0 < k then accT xs k ++ [44] else accT xs k) ++ (txT (xs.getD k (0, 0, 0, 0))).data.toList):=rfl
   have HNO:=hide (fun h => txsT_no hlt h)
   clear ha
   generalize hxk : xs.getD k (0, 0, 0, 0) = x at *
   obtain ⟨xa, xb, xc, xd⟩:=x
   simp only at c0 c1 c2 c3 a0 a1 a2 a3
   by_cases hok : OkT (xa, xb, xc, xd)
   ·have CK:=hide fun w => specTxOk_yes xa xb xc xd w hok
    have CT:=hide fun w => specTxText xa xb xc xd w
    have HK' : Hid (∀ j, j < k + 1 → OkT (xs.getD j (0, 0, 0, 0))):=fun j hj => by
     by_cases e : j = k
     ·subst e; rw [hxk]; exact hok
     exact HK.out j (by omega)
    have htx : txT (xa, xb, xc, xd) = txt xa xb xc xd:=rfl
    rw [htx] at HS hts
    clear htx HK HNO hok hxk
    generalize txt xa xb xc xd = t at *
    go_wp2_with fail
    refine (CK.out _).mono ?_
    rintro e w1 ⟨rfl, b1⟩
    have b1':=br.trans (b1.mono hsr)
    have s1:=b1.size
    have d0:=(b1'.cell (p:=⟨g, k * 4, none⟩) hg).trans a0
    have d1:=(b1'.cell (p:=⟨g, k * 4 + 1, none⟩) hg).trans a1
    have d2:=(b1'.cell (p:=⟨g, k * 4 + 2, none⟩) hg).trans a2
    have d3:=(b1'.cell (p:=⟨g, k * 4 + 3, none⟩) hg).trans a3
    clear a0 a1 a2 a3 c0 c1 c2 c3
    by_cases hk0 : 0 < k
    ·obtain ⟨u, hu⟩ : ∃ u, u = toB (accT xs k ++ [44]):=⟨_, rfl⟩
     have us : u.size ≤ k * 28 + 1:=by rw [hu, toB_size]; simp; omega
     have q1 : ∀ w, (Op.stringOp .add (toB (accT xs k)) (⟨#[44]⟩ : ByteArray)).run Tryz.prog w = .ok (.string u) w:=fun w => by
      rw [run_string_add_sum w _ _ (by rw [toB_size]; show _ + 1 ≤ _; omega), hu, ← toB_append]; rfl
     have q2 : ∀ w, (Op.stringOp .add u t).run Tryz.prog w = .ok (.string (toB (accT xs (k + 1)))) w:=fun w => by
      rw [run_string_add_sum w _ _ (by omega), HS.out, if_pos hk0, hu]
      rw [← toB_data t, toB_append, toB_data t]
     clear hu us HS
     generalize toB (accT xs k) = ok at *
     generalize hnx : toB (accT xs (k + 1)) = ok' at *
     go_wp2_with fail
     refine (CT.out _).mono ?_
     rintro e w2 ⟨rfl, b2⟩
     have b2':=b1'.trans (b2.mono (by omega))
     go_wp2
     go_roundw
     case rel => exact ⟨k + 1, by omega, by go_num, by rw [hnx], HK', b2'⟩
     case measure => simp [intOf]; omega
    have q2 : ∀ w, (Op.stringOp .add (toB (accT xs k)) t).run Tryz.prog w = .ok (.string (toB (accT xs (k + 1)))) w:=fun w => by
     rw [run_string_add_sum w _ _ (by rw [toB_size]; omega), HS.out, if_neg hk0]
     rw [← toB_data t, toB_append, toB_data t]
    clear HS
    generalize toB (accT xs k) = ok at *
    generalize hnx : toB (accT xs (k + 1)) = ok' at *
    go_wp2_with fail
    refine (CT.out _).mono ?_
    rintro e w2 ⟨rfl, b2⟩
    have b2':=b1'.trans (b2.mono (by omega))
    go_wp2
    go_roundw
    case rel => exact ⟨k + 1, by omega, by go_num, by rw [hnx], HK', b2'⟩
    case measure => simp [intOf]; omega
   have CK:=hide fun w => specTxOk_no xa xb xc xd w hok
   have HN:=hide (HNO.out hok)
   clear HNO HK HS hok
   generalize toB (accT xs k) = ok at *
   go_wp2_with fail
   refine (CK.out _).mono ?_
   rintro e w1 ⟨rfl, b1⟩
   go_wp2
   go_ret
   exact ⟨by rw [HN.out]; rfl, br.trans (b1.mono hsr)⟩
  have hkn : k = xs.length:=by omega
  have HY : Hid (txsT xs = toB (accT xs k)):=by rw [hkn]; rw [hkn] at HK; exact txsT_yes HK.out
  clear HK ha
  generalize toB (accT xs k) = ok at *
  go_wp2
  go_ret
  exact ⟨by rw [HY.out]; rfl, br⟩
end
section
variable [∀ (a b c d : Int), Decidable (Ok4 a b c d)]
variable [∀ (a b c d : Nat), Decidable (okN a b c d)]
variable [∀ (x : T4), Decidable (OkT x)]
def jn : List (List UInt8) → List UInt8
 | [] => []
 | [p] => p
 | p :: q :: r => p ++ 44 :: jn (q :: r)
theorem jn_snoc (ps : List (List UInt8)) (p : List UInt8) : jn (ps ++ [p]) = (if 0 < ps.length then jn ps ++ [44] else jn ps) ++ p := by
 induction ps with
 | nil => simp [jn]
 | cons x ps ih =>
  cases ps with
  | nil => simp [jn]
  | cons y ps =>
   rw [List.cons_append] at ih
   rw [List.cons_append, List.cons_append, jn, jn, ih]
   simp
theorem jn_unique (ps qs : List (List UInt8)) (hp : ∀ p ∈ ps, 44 ∉ p) (hq : ∀ q ∈ qs, 44 ∉ q) (hn : ps ≠ []) (hm : qs ≠ []) (h : jn ps = jn qs) : ps = qs := by
 induction ps generalizing qs with
 | nil => exact absurd rfl hn
 | cons p ps ih =>
  cases qs with
  | nil => exact absurd rfl hm
  | cons q qs =>
   have hp0:=hp p (by simp)
   have hq0:=hq q (by simp)
   cases ps with
   | nil =>
    cases qs with
    | nil => simp [jn] at h; rw [h]
    | cons q' qs => simp only [jn] at h; rw [h] at hp0; simp at hp0
   | cons p' ps =>
    cases qs with
    | nil => simp only [jn] at h; rw [← h] at hq0; simp at hq0
    | cons q' qs =>
     simp only [jn] at h
     have e1 : p = q:=by rw [← hd_some (y:=jn (p' :: ps)) hp0, h, hd_some hq0]
     have e2 : jn (p' :: ps) = jn (q' :: qs):=by rw [← tl_some (x:=p) (y:=jn (p' :: ps)) hp0, h, tl_some hq0]
     rw [e1, ih (q' :: qs) (fun x hx => hp x (by simp at hx ⊢; exact .inr hx)) (fun x hx => hq x (by simp at hx ⊢; exact .inr hx)) (by simp) (by simp) e2]
theorem joinTo_jn (ps : List ByteArray) (k : Nat) (hk : k ≤ ps.length) : joinTo 44 ps k = jn ((ps.take k).map fun s => s.data.toList) := by
 induction k with
 | zero => simp [joinTo, jn]
 | succ k ih =>
  rw [joinTo, ih (by omega), take_more ps k (by omega), List.map_append, List.map_singleton, jn_snoc]
  simp only [List.length_map, List.length_take]
  rw [show min k ps.length = k from by omega]
theorem accT_jn (xs : List T4) (k : Nat) (hk : k ≤ xs.length) : accT xs k = jn ((xs.take k).map fun x => (txT x).data.toList) := by
 induction k with
 | zero => simp [accT, jn]
 | succ k ih =>
  have e : xs.take (k + 1) = xs.take k ++ [xs.getD k (0, 0, 0, 0)]:=by
   rw [List.take_succ_eq_append_getElem (by omega), List.getD_eq_getElem?_getD, List.getElem?_eq_getElem (by omega)]; rfl
  rw [accT, ih (by omega), e, List.map_append, List.map_singleton, jn_snoc]
  simp only [List.length_map, List.length_take]
  rw [show min k xs.length = k from by omega]
theorem pcs_clean (s : ByteArray) (k : Nat) (hk : k ≤ s.size) : (∀ p ∈ (pcs s 44 k).1, (44 : UInt8) ∉ p.data.toList) ∧ (44 : UInt8) ∉ (s.data.toList.drop (pcs s 44 k).2).take (k - (pcs s 44 k).2) := by
 induction k with
 | zero => simp [pcs]
 | succ k ih =>
  obtain ⟨h1, h2⟩:=ih (by omega)
  have hle:=(pcs_le s 44 k).1
  by_cases hb : (s[k].toNat : Int) = 44
  ·rw [pcs_hit s 44 k (by omega) hb]
   refine ⟨fun p hp => ?_, by simp⟩
   rw [List.mem_append] at hp
   rcases hp with hp | hp
   ·exact h1 p hp
   simp at hp; rw [hp, ext_list]; exact h2
  rw [pcs_miss s 44 k (by omega) hb]
  refine ⟨h1, ?_⟩
  have e:=not_mem_more (m:=44) (l:=s.data.toList) (n:=(pcs s 44 k).2) (pos:=k) (v:=1) hle h2 (fun j hj => by
   obtain rfl : j = 0:=by omega
   rw [Nat.add_zero, List.getElem?_eq_getElem (by simp; omega)]
   intro e
   have e' : s[k] = 44:=Option.some.inj e
   rw [e'] at hb; exact hb rfl)
  exact e
theorem split_clean (s : ByteArray) : ∀ p ∈ splitAns s 44, (44 : UInt8) ∉ p.data.toList := by
 intro p hp
 obtain ⟨h1, h2⟩:=pcs_clean s s.size (Nat.le_refl _)
 unfold splitAns at hp
 rw [List.mem_append] at hp
 rcases hp with hp | hp
 ·exact h1 p hp
 simp at hp; rw [hp, ext_list]; exact h2
theorem split_ne (s : ByteArray) : splitAns s 44 ≠ [] := by unfold splitAns; simp
theorem txT_clean (x : T4) : (44 : UInt8) ∉ (txT x).data.toList := by
 unfold txT txt
 obtain ⟨a, b, c, d⟩:=x
 by_cases h : Ok4 a b c d
 ·show (44 : UInt8) ∉ (if Ok4 a b c d then txs a b c d else (⟨#[]⟩ : ByteArray)).data.toList
  rw [if_pos h]
  obtain ⟨a', b', c', d', rfl, rfl, rfl, rfl⟩:=ok_nat h
  rw [txs_toB, toB_list]
  unfold txl
  have n:=fun n => no_mark n 44 (by decide)
  simp [n]
 show (44 : UInt8) ∉ (if Ok4 a b c d then txs a b c d else (⟨#[]⟩ : ByteArray)).data.toList
 rw [if_neg h]; simp
theorem isTx_T {s : ByteArray} {q : Nat × Nat × Nat × Nat} (h : txAns s.data.toList = some q) : txT (toT q) = s ∧ OkT (toT q) := by
 obtain ⟨a, b, c, d⟩:=q
 have hi:=txAns_is h
 exact ⟨isTx_txt hi, ok_cast.2 hi.1⟩
theorem ok_T {x : T4} (h : OkT x) : ∃ q, toT q = x ∧ txAns (txT x).data.toList = some q := by
 obtain ⟨a, b, c, d⟩:=x
 obtain ⟨a', b', c', d', rfl, rfl, rfl, rfl⟩:=ok_nat h
 refine ⟨(a', b', c', d'), rfl, txAns_some ⟨ok_cast.1 h, ?_⟩⟩
 show _ = (if Ok4 (a' : Int) b' c' d' then txs a' b' c' d' else (⟨#[]⟩ : ByteArray)).data.toList
 rw [if_pos (show Ok4 (a' : Int) b' c' d' from h), txs_toB, toB_list]
theorem allTx_texts {ps : List ByteArray} {ys : List T4} (h : allTx ps = some ys) : ys.map txT = ps ∧ ∀ y ∈ ys, OkT y := by
 induction ps generalizing ys with
 | nil => simp [allTx] at h; subst h; simp
 | cons p ps ih =>
  rw [allTx] at h
  cases hp : txAns p.data.toList with
  | none => rw [hp] at h; cases h
  | some q =>
   rw [hp] at h
   cases hq : allTx ps with
   | none => rw [hq] at h; cases h
   | some zs =>
    rw [hq] at h; simp at h; subst h
    obtain ⟨i1, i2⟩:=ih hq
    obtain ⟨j1, j2⟩:=isTx_T hp
    refine ⟨by simp [i1, j1], fun y hy => ?_⟩
    simp at hy
    rcases hy with rfl | hy
    ·exact j2
    exact i2 y hy
theorem allTx_of (ys : List T4) (h : ∀ y ∈ ys, OkT y) : allTx (ys.map txT) = some ys := by
 induction ys with
 | nil => rfl
 | cons y ys ih =>
  obtain ⟨q, e, hq⟩:=ok_T (h y (by simp))
  rw [List.map_cons, allTx, hq, ih (fun z hz => h z (by simp [hz]))]
  simp [e]
theorem txsAns_text {s : ByteArray} {ys : List T4} (h : txsAns s = some ys) : txsT ys = s := by
 unfold txsAns at h
 split at h
 ·rename_i hz
  simp at h; subst h
  unfold txsT; simp [accT, toB, hz]
 obtain ⟨h1, h2⟩:=allTx_texts h
 unfold txsT
 rw [if_pos h2, accT_jn ys ys.length (Nat.le_refl _), List.take_of_length_le (Nat.le_refl _)]
 have hj:=split_join s 44
 have e44 : (((44 : UInt8).toNat : Nat) : Int) = 44:=rfl
 rw [e44, joinTo_jn _ _ (Nat.le_refl _), List.take_of_length_le (Nat.le_refl _), ← h1, List.map_map] at hj
 have hj' : jn (ys.map fun x => (txT x).data.toList) = s.data.toList:=hj
 rw [hj', toB_data]
theorem txsAns_of (ys : List T4) (h : ∀ y ∈ ys, OkT y) : txsAns (txsT ys) = some ys := by
 have e : txsT ys = toB (jn (ys.map fun x => (txT x).data.toList)):=by
  unfold txsT
  rw [if_pos h, accT_jn ys ys.length (Nat.le_refl _), List.take_of_length_le (Nat.le_refl _)]
 cases ys with
 | nil => rw [e]; unfold txsAns; simp [jn, toB]
 | cons y ys =>
  have hne : txsT (y :: ys) ≠ ⟨#[]⟩:=by
   rw [e]
   intro hz
   have hz':=congrArg (fun s : ByteArray => s.data.toList) hz
   have hy:=txT_ne (h y (by simp))
   cases ys with
   | nil => simp [jn, toB] at hz'; exact hy (ByteArray.ext hz')
   | cons y' ys => simp [jn, toB] at hz'
  unfold txsAns
  rw [if_neg hne]
  have hj:=split_join (txsT (y :: ys)) 44
  have e44 : (((44 : UInt8).toNat : Nat) : Int) = 44:=rfl
  rw [e44, joinTo_jn _ _ (Nat.le_refl _), List.take_of_length_le (Nat.le_refl _)] at hj
  have hl : (txsT (y :: ys)).data.toList = jn ((y :: ys).map fun x => (txT x).data.toList):=by rw [e]; rfl
  rw [hl] at hj
  have hu:=jn_unique _ _ (fun p hp => by
   obtain ⟨z, hz, rfl⟩:=List.mem_map.1 hp
   exact split_clean _ z hz) (fun q hq => by
   obtain ⟨z, _, rfl⟩:=List.mem_map.1 hq
   exact txT_clean z) (by simp [split_ne]) (by simp) hj
  have hs : splitAns (txsT (y :: ys)) 44 = (y :: ys).map txT:=by
   have inj : ∀ (a b : List ByteArray), a.map (fun s => s.data.toList) = b.map (fun s => s.data.toList) → a = b:=by
    intro a
    induction a with
    | nil => intro b hb; cases b with
     | nil => rfl
     | cons => simp at hb
    | cons x a ih =>
     intro b hb
     cases b with
     | nil => simp at hb
     | cons z b =>
      simp at hb
      rw [ih b hb.2, ByteArray.ext hb.1]
   apply inj
   rw [hu, List.map_map]; rfl
  rw [hs]
  exact allTx_of _ h
end
section
open Go.RowKit
variable [∀ (a b c d : Int), Decidable (Ok4 a b c d)]
variable [∀ (a b c d : Nat), Decidable (okN a b c d)]
variable [∀ (last : Int) (s : St), Decidable (GoodSt last s)]
variable [∀ (x : T4), Decidable (OkT x)]
def jb (b : UInt8) : List (List UInt8) → List UInt8
 | [] => []
 | [p] => p
 | p :: q :: r => p ++ b :: jb b (q :: r)
theorem jb_flat (b : UInt8) (p : List UInt8) (ps : List (List UInt8)) : jb b (p :: ps) = p ++ ps.flatMap (fun t => b :: t) := by
 induction ps generalizing p with
 | nil => simp [jb]
 | cons q ps ih => rw [jb, ih]; simp
theorem jb_snoc (b : UInt8) (ps : List (List UInt8)) (p : List UInt8) : jb b (ps ++ [p]) = (if 0 < ps.length then jb b ps ++ [b] else jb b ps) ++ p := by
 cases ps with
 | nil => simp [jb]
 | cons x ps => rw [List.cons_append, jb_flat, jb_flat]; simp
theorem jb_unique (b : UInt8) (ps qs : List (List UInt8)) (hp : ∀ p ∈ ps, b ∉ p) (hq : ∀ q ∈ qs, b ∉ q) (hn : ps ≠ []) (hm : qs ≠ []) (h : jb b ps = jb b qs) : ps = qs := by
 induction ps generalizing qs with
 | nil => exact absurd rfl hn
 | cons p ps ih =>
  cases qs with
  | nil => exact absurd rfl hm
  | cons q qs =>
   have hp0:=hp p (by simp)
   have hq0:=hq q (by simp)
   cases ps with
   | nil =>
    cases qs with
    | nil => simp [jb] at h; rw [h]
    | cons q' qs => simp only [jb] at h; rw [h] at hp0; simp at hp0
   | cons p' ps =>
    cases qs with
    | nil => simp only [jb] at h; rw [← h] at hq0; simp at hq0
    | cons q' qs =>
     simp only [jb] at h
     have e1 : p = q:=by rw [← hd_some (y:=jb b (p' :: ps)) hp0, h, hd_some hq0]
     have e2 : jb b (p' :: ps) = jb b (q' :: qs):=by rw [← tl_some (x:=p) (y:=jb b (p' :: ps)) hp0, h, tl_some hq0]
     rw [e1, ih (q' :: qs) (fun x hx => hp x (by simp at hx ⊢; exact .inr hx)) (fun x hx => hq x (by simp at hx ⊢; exact .inr hx)) (by simp) (by simp) e2]
theorem joinTo_jb (b : UInt8) (ps : List ByteArray) (k : Nat) (hk : k ≤ ps.length) : joinTo b ps k = jb b ((ps.take k).map fun s => s.data.toList) := by
 induction k with
 | zero => simp [joinTo, jb]
 | succ k ih =>
  rw [joinTo, ih (by omega), take_more ps k (by omega), List.map_append, List.map_singleton, jb_snoc]
  simp only [List.length_map, List.length_take]
  rw [show min k ps.length = k from by omega]
theorem pcs_cleanB (s : ByteArray) (b : UInt8) (k : Nat) (hk : k ≤ s.size) : (∀ p ∈ (pcs s b.toNat k).1, b ∉ p.data.toList) ∧ b ∉ (s.data.toList.drop (pcs s b.toNat k).2).take (k - (pcs s b.toNat k).2) := by
 induction k with
 | zero => simp [pcs]
 | succ k ih =>
  obtain ⟨h1, h2⟩:=ih (by omega)
  have hle:=(pcs_le s b.toNat k).1
  by_cases hb : (s[k].toNat : Int) = b.toNat
  ·rw [pcs_hit s b.toNat k (by omega) hb]
   refine ⟨fun p hp => ?_, by simp⟩
   rw [List.mem_append] at hp
   rcases hp with hp | hp
   ·exact h1 p hp
   simp at hp; rw [hp, ext_list]; exact h2
  rw [pcs_miss s b.toNat k (by omega) hb]
  refine ⟨h1, ?_⟩
  exact not_mem_more (m := b) (l := s.data.toList) (n := (pcs s b.toNat k).2) (pos := k) (v := 1) hle h2 (fun j hj => by
   obtain rfl : j = 0:=by omega
   rw [Nat.add_zero, List.getElem?_eq_getElem (by simp; omega)]
   intro e
   have e' : s[k] = b:=Option.some.inj e
   rw [e'] at hb; exact hb rfl)
theorem split_cleanB (s : ByteArray) (b : UInt8) : ∀ p ∈ splitAns s b.toNat, b ∉ p.data.toList := by
 intro p hp
 obtain ⟨h1, h2⟩:=pcs_cleanB s b s.size (Nat.le_refl _)
 unfold splitAns at hp
 rw [List.mem_append] at hp
 rcases hp with hp | hp
 ·exact h1 p hp
 simp at hp; rw [hp, ext_list]; exact h2
theorem split_jb (s : ByteArray) (b : UInt8) : jb b ((splitAns s b.toNat).map fun s => s.data.toList) = s.data.toList := by
 have:=split_join s b
 rw [joinTo_jb b _ _ (Nat.le_refl _), List.take_of_length_le (Nat.le_refl _)] at this
 exact this
theorem split_neB (s : ByteArray) (b : Int) : splitAns s b ≠ [] := by unfold splitAns; simp
theorem split_of (s : ByteArray) (b : UInt8) (ps : List (List UInt8)) (hn : ps ≠ []) (hp : ∀ p ∈ ps, b ∉ p) (h : s.data.toList = jb b ps) : (splitAns s b.toNat).map (fun s => s.data.toList) = ps := by
 refine jb_unique b _ _ (fun p hp' => ?_) hp (by simp [split_neB]) hn ((split_jb s b).trans h)
 obtain ⟨q, hq, rfl⟩:=List.mem_map.1 hp'
 exact split_cleanB s b q hq

def stText (s : St) : List UInt8 := Lib.decDigits s.1.toNat ++ 124 :: (txsT s.2).data.toList
def nm (ss : List St) : List UInt8 := ss.flatMap fun s => 47 :: stText s
def OkSt (s : St) : Prop := (1 ≤ s.1 ∧ s.1 ≤ 60) ∧ s.2.length ≤ 2 ∧ ∀ x ∈ s.2, OkT x
def OkSts (ss : List St) : Prop := ss.length ≤ 30 ∧ (∀ s ∈ ss, OkSt s) ∧ ss.Pairwise (fun a b => a.1 < b.1)
theorem txT_clean2 (x : T4) (m : UInt8) (h : m.toNat < 48 ∨ 57 < m.toNat) (h1 : m ≠ 62) (h2 : m ≠ 58) (h3 : m ≠ 35) : m ∉ (txT x).data.toList := by
 unfold txT txt
 obtain ⟨a, b, c, d⟩:=x
 by_cases ho : Ok4 a b c d
 ·show m ∉ (if Ok4 a b c d then txs a b c d else (⟨#[]⟩ : ByteArray)).data.toList
  rw [if_pos ho]
  obtain ⟨a', b', c', d', rfl, rfl, rfl, rfl⟩:=ok_nat ho
  rw [txs_toB, toB_list]
  unfold txl
  have n:=fun n => no_mark n m h
  simp [n, h1, h2, h3]
 show m ∉ (if Ok4 a b c d then txs a b c d else (⟨#[]⟩ : ByteArray)).data.toList
 rw [if_neg ho]; simp
theorem txsT_clean (ts : List T4) (m : UInt8) (h : m.toNat < 48 ∨ 57 < m.toNat) (h1 : m ≠ 62) (h2 : m ≠ 58) (h3 : m ≠ 35) (h4 : m ≠ 44) : m ∉ (txsT ts).data.toList := by
 unfold txsT
 split
 ·rw [toB_list]
  have : ∀ k, k ≤ ts.length → m ∉ accT ts k:=by
   intro k
   induction k with
   | zero => intro _; simp [accT]
   | succ k ih =>
    intro hk
    have:=ih (by omega)
    have c:=txT_clean2 (ts.getD k (0, 0, 0, 0)) m h h1 h2 h3
    rw [accT]
    split <;> simp [this, h4] <;> simpa using c
  exact this ts.length (Nat.le_refl _)
 simp
theorem stText_clean (s : St) : (47 : UInt8) ∉ stText s := by
 unfold stText
 have h1:=no_mark s.1.toNat 47 (by decide)
 have h2:=txsT_clean s.2 47 (by decide) (by decide) (by decide) (by decide) (by decide)
 simp [h1, h2]
theorem stepOf_some {p : ByteArray} {s : St} (h : stepOf p = some s) : p.data.toList = stText s ∧ (0 ≤ s.1) ∧ ∀ x ∈ s.2, OkT x := by
 unfold stepOf at h
 split at h
 ·rename_i hm
  cases hn : numOf (hd 124 p.data.toList) with
  | none => rw [hn] at h; cases h
  | some n =>
   rw [hn] at h
   cases ht : txsAns (toB (tl 124 p.data.toList)) with
   | none => rw [ht] at h; cases h
   | some ts =>
    rw [ht] at h
    cases h
    obtain ⟨_, h2⟩:=numOf_some hn
    have h3:=txsAns_text ht
    have e : p.data.toList = hd 124 p.data.toList ++ 124 :: tl 124 p.data.toList:=by
     unfold hd tl
     generalize p.data.toList = l at hm
     induction l with
     | nil => simp at hm
     | cons y l ih =>
      by_cases hy : y = 124
      ·subst hy; simp
      have hm' : (124 : UInt8) ∈ l:=by rcases List.mem_cons.1 hm with e | e; exact absurd e.symm hy; exact e
      have:=ih hm'
      simp only [List.takeWhile_cons, List.dropWhile_cons, bne_iff_ne, ne_eq, hy, not_false_eq_true, if_true]
      rw [List.cons_append, ← this]
    refine ⟨?_, by simp, ?_⟩
    ·rw [e, ← h2]
     unfold stText
     rw [h3]
     simp [toB_list]
    unfold txsAns at ht
    split at ht
    ·cases ht; simp
    exact (allTx_texts ht).2
 cases h
theorem stepOf_text {p : ByteArray} {s : St} (h : OkSt s) (hp : p.data.toList = stText s) : stepOf p = some s := by
 obtain ⟨⟨h1, h2⟩, _, h3⟩:=h
 have c:=no_mark s.1.toNat 124 (by decide)
 unfold stepOf
 rw [hp]
 have hm : (124 : UInt8) ∈ stText s:=by unfold stText; simp
 rw [if_pos hm]
 have e1 : hd 124 (stText s) = Lib.decDigits s.1.toNat:=by unfold stText; exact hd_some c
 have e2 : tl 124 (stText s) = (txsT s.2).data.toList:=by unfold stText; exact tl_some c
 rw [e1, e2, numOf_of (by omega), toB_data, txsAns_of s.2 h3]
 obtain ⟨v, ts⟩:=s
 simp at h1 ⊢
 omega
theorem run_texts (ps : List ByteArray) (q : Int × List St) (h : stepsRun ps = some q) : ps.map (fun p => p.data.toList) = q.2.map stText ∧ (∀ s ∈ q.2, OkSt s ∧ s.1 ≤ q.1) ∧ q.2.Pairwise (fun a b => a.1 < b.1) := by
 generalize hn : ps.length = n
 induction n generalizing ps q with
 | zero =>
  have : ps = []:=List.length_eq_zero_iff.1 hn
  subst this
  cases h
  simp
 | succ n ih =>
  obtain ⟨ps', p, rfl⟩ : ∃ ps' p, ps = ps' ++ [p]:=⟨ps.dropLast, ps.getLast (fun e => by rw [e] at hn; simp at hn), (List.dropLast_concat_getLast _).symm⟩
  rw [stepsRun_more] at h
  unfold stepAcc at h
  cases hr : stepsRun ps' with
  | none => rw [hr] at h; cases h
  | some q' =>
   rw [hr] at h
   cases hs : stepOf p with
   | none => rw [hs] at h; simp at h
   | some s =>
    rw [hs] at h
    simp only [Option.bind_some] at h
    split at h
    ·rename_i hg
     cases h
     obtain ⟨i1, i2, i3⟩:=ih ps' q' hr (by simpa using hn)
     obtain ⟨_, o2, _, _⟩:=stepsRun_ok ps' q' hr
     obtain ⟨g1, g2, g3⟩:=hg
     obtain ⟨t1, t2, t3⟩:=stepOf_some hs
     refine ⟨by simp [i1, t1], fun y hy => ?_, ?_⟩
     ·rcases List.mem_append.1 hy with hy | hy
      ·exact ⟨(i2 y hy).1, by have := (i2 y hy).2; show y.1 ≤ s.1; omega⟩
      simp at hy; subst hy
      exact ⟨⟨⟨by omega, g2⟩, g3, t3⟩, Int.le_refl _⟩
     rw [List.pairwise_append]
     refine ⟨i3, by simp, fun a ha b hb => ?_⟩
     simp at hb; subst hb
     have:=(i2 a ha).2
     omega
    cases h
theorem run_of (ss : List St) (hok : ∀ s ∈ ss, OkSt s) (hpw : ss.Pairwise (fun a b => a.1 < b.1)) (ps : List ByteArray) (hp : ps.map (fun p => p.data.toList) = ss.map stText) : ∃ l, stepsRun ps = some (l, ss) ∧ ∀ x, (∀ s ∈ ss, s.1 < x) → 0 < x → l < x := by
 generalize hn : ss.length = n
 induction n generalizing ss ps with
 | zero =>
  have : ss = []:=List.length_eq_zero_iff.1 hn
  subst this
  have : ps = []:=by simpa using hp
  subst this
  exact ⟨0, rfl, fun x _ h => h⟩
 | succ n ih =>
  obtain ⟨ss', s, rfl⟩ : ∃ ss' s, ss = ss' ++ [s]:=⟨ss.dropLast, ss.getLast (fun e => by rw [e] at hn; simp at hn), (List.dropLast_concat_getLast _).symm⟩
  have hpl : ps.length = (ss' ++ [s]).length:=by have:=congrArg List.length hp; simpa using this
  obtain ⟨ps', p, rfl⟩ : ∃ ps' p, ps = ps' ++ [p]:=⟨ps.dropLast, ps.getLast (fun e => by rw [e] at hpl; simp at hpl), (List.dropLast_concat_getLast _).symm⟩
  rw [List.map_append, List.map_append] at hp
  obtain ⟨hp1, hp2⟩:=List.append_inj hp (by simp at hpl ⊢; exact hpl)
  rw [List.pairwise_append] at hpw
  obtain ⟨l, hl, hx⟩:=ih ss' (fun y hy => hok y (by simp [hy])) hpw.1 ps' hp1 (by simpa using hn)
  have hs:=hok s (by simp)
  have hst:=stepOf_text hs (p:=p) (by simpa using hp2)
  have hlt : l < s.1:=hx s.1 (fun y hy => hpw.2.2 y hy s (by simp)) (by have:=hs.1; omega)
  refine ⟨s.1, ?_, fun x h1 _ => h1 s (by simp)⟩
  rw [stepsRun_more, hl]
  unfold stepAcc
  simp only [Option.bind_some, hst]
  rw [if_pos (show GoodSt l s from ⟨hlt, hs.1.2, hs.2.1⟩)]
theorem nm_jb (ss : List St) : nm ss = jb 47 ([] :: ss.map stText) := by
 rw [jb_flat]; unfold nm; simp [List.flatMap_map]
theorem names_iff (s : ByteArray) (ss : List St) : stepsAns s = some ss ↔ s.data.toList = nm ss ∧ OkSts ss := by
 unfold stepsAns
 by_cases hz : s = ⟨#[]⟩
 ·rw [if_pos hz]
  subst hz
  constructor
  ·intro h; cases h; exact ⟨rfl, by simp, by simp, by simp⟩
  rintro ⟨h, _⟩
  cases ss with
  | nil => rfl
  | cons x ss => simp [nm] at h
 rw [if_neg hz]
 have hj:=split_jb s 47
 have e47 : ((47 : UInt8).toNat : Int) = 47:=rfl
 rw [e47] at hj
 constructor
 ·intro h
  split at h
  ·rename_i hc
   cases hr : stepsRun (splitAns s 47).tail with
   | none => rw [hr] at h; cases h
   | some q =>
    rw [hr] at h
    cases h
    obtain ⟨h1, h2, h3⟩:=run_texts _ q hr
    have hlen:=(stepsRun_ok _ q hr).1
    cases hp : splitAns s 47 with
    | nil => exact absurd hp (split_neB s 47)
    | cons p ps =>
     rw [hp] at hc h1 hj hlen
     simp at hc
     refine ⟨?_, ?_, fun y hy => (h2 y hy).1, h3⟩
     ·rw [← hj, nm_jb, List.map_cons, hc.1]
      simp only [List.tail_cons] at h1
      rw [h1]
     show q.2.length ≤ 30
     simp at hlen
     omega
  cases h
 rintro ⟨h1, h2, h3, h4⟩
 have hne : ss ≠ []:=by
  rintro rfl
  apply hz
  apply ByteArray.ext
  apply Array.toList_inj.1
  rw [h1]; rfl
 have hsp:=split_of s 47 ([] :: ss.map stText) (by simp) (fun p hp => by
  rcases List.mem_cons.1 hp with rfl | hp
  ·simp
  obtain ⟨y, _, rfl⟩:=List.mem_map.1 hp; exact stText_clean y) (by rw [h1, nm_jb])
 rw [e47] at hsp
 cases hp : splitAns s 47 with
 | nil => exact absurd hp (split_neB s 47)
 | cons p ps =>
  rw [hp] at hsp
  simp only [List.map_cons, List.cons.injEq] at hsp
  obtain ⟨l, hl, _⟩:=run_of ss h3 h4 ps hsp.2
  have hpl : ps.length = ss.length:=by have:=congrArg List.length hsp.2; simpa using this
  have hp0 : p = ⟨#[]⟩:=ByteArray.ext (Array.toList_inj.1 hsp.1)
  rw [if_pos ⟨by simpa using hp0, by simp; omega⟩, List.tail_cons, hl]
  rfl
theorem nm_append (ss tt : List St) : nm (ss ++ tt) = nm ss ++ nm tt := by simp [nm]
theorem nm_snoc (ss : List St) (x : St) : nm (ss ++ [x]) = nm ss ++ 47 :: stText x := by simp [nm]
theorem OkSts.pre {ss tt : List St} (h : OkSts (ss ++ tt)) : OkSts ss := by
 obtain ⟨h1, h2, h3⟩:=h
 refine ⟨by simp at h1; omega, fun s hs => h2 s (by simp [hs]), ?_⟩
 rw [List.pairwise_append] at h3; exact h3.1
theorem ba_ext {s t : ByteArray} (h : s.data.toList = t.data.toList) : s = t := ByteArray.ext (Array.toList_inj.1 h)
theorem stText_inj {x y : St} (hx : OkSt x) (hy : OkSt y) (h : stText x = stText y) : x = y := by
 have h1:=stepOf_text hx (p:=toB (stText x)) (toB_list _)
 have h2:=stepOf_text hy (p:=toB (stText x)) ((toB_list _).trans h)
 rw [h1] at h2
 exact Option.some.inj h2

def nmOut (up : ByteArray) (view : Int) (ts : List T4) : List UInt8 := up.data.toList ++ 47 :: (Lib.itoa view ++ 124 :: (txsT ts).data.toList)
def nameAns (up : ByteArray) (view : Int) (ts : List T4) : ByteArray := if (∀ x ∈ ts, OkT x) ∧ (stepsAns (toB (nmOut up view ts))).isSome then toB (nmOut up view ts) else ⟨#[]⟩
theorem toB_ne {l : List UInt8} (h : l ≠ []) : toB l ≠ ⟨#[]⟩ := fun e => h (by have := congrArg (fun s : ByteArray => s.data.toList) e; simpa [toB_list] using this)
def viewAns (s : ByteArray) : Int := (((stepsAns s).getD []).getLast?.map (·.1)).getD 0
def heightAns (s : ByteArray) : Int := match stepsAns s with | some ss => (ss.length : Int) | none => -1
theorem height_view {s : ByteArray} : heightAns s ≤ viewAns s ∧ heightAns s ≤ 30 ∧ viewAns s ≤ 60 := by
 unfold heightAns viewAns
 cases h : stepsAns s with
 | none => simp
 | some ss =>
  have ok:=((names_iff _ _).1 h).2
  simp only [Option.getD_some]
  refine ⟨?_, by have := ok.1; omega, ?_⟩
  ·have key : ∀ ss : List St, (∀ s ∈ ss, OkSt s) → ss.Pairwise (fun a b => a.1 < b.1) → (ss.length : Int) ≤ (ss.getLast?.map (·.1)).getD 0:=by
    intro ss
    generalize hn : ss.length = n
    induction n generalizing ss with
    | zero => intro _ _; have : ss = [] := List.length_eq_zero_iff.1 hn; subst this; simp
    | succ n ih =>
     intro h1 h2
     obtain ⟨ss', x, rfl⟩ : ∃ ss' x, ss = ss' ++ [x]:=⟨ss.dropLast, ss.getLast (fun e => by rw [e] at hn; simp at hn), (List.dropLast_concat_getLast _).symm⟩
     rw [List.pairwise_append] at h2
     have:=ih ss' (by simpa using hn) (fun s hs => h1 s (by simp [hs])) h2.1
     have hx:=(h1 x (by simp)).1
     simp only [List.getLast?_append, List.getLast?_singleton, Option.some_or, Option.map_some, Option.getD_some]
     cases hl : ss'.getLast? with
     | none => rw [hl] at this; simp at this; omega
     | some y =>
      rw [hl] at this
      simp at this
      have:=h2.2.2 y (List.mem_of_getLast? hl) x (by simp)
      omega
   exact key ss ok.2.1 ok.2.2
  cases hl : ss.getLast? with
  | none => simp
  | some y => simp; exact (ok.2.1 y (List.mem_of_getLast? hl)).1.2
theorem nm_pre : ∀ (tt ss : List St), (∀ x ∈ tt, OkSt x) → (∀ x ∈ ss, OkSt x) → ∀ r, nm ss = nm tt ++ r → (r = [] ∨ ∃ q, r = 47 :: q) → tt <+: ss := by
 intro tt
 induction tt with
 | nil => intro ss _ _ r _ _; exact List.nil_prefix
 | cons x tt ih =>
  intro ss ht hs r h hr
  cases ss with
  | nil => simp [nm] at h
  | cons y ss =>
   have e : ∀ (z : St) (zs : List St), nm (z :: zs) = 47 :: (stText z ++ nm zs):=fun z zs => by simp [nm]
   rw [e, e, List.cons_append, List.append_assoc] at h
   have h':=List.tail_eq_of_cons_eq h
   have lead : ∀ (zs : List St) (q : List UInt8), (q = [] ∨ ∃ p, q = 47 :: p) → nm zs ++ q = [] ∨ ∃ p, nm zs ++ q = 47 :: p:=fun zs q hq => by
    cases zs with
    | nil => simpa [nm] using hq
    | cons z zs => right; rw [e]; exact ⟨_, rfl⟩
   have cutAt : ∀ (a b p q : List UInt8), (47 : UInt8) ∉ a → (47 : UInt8) ∉ b → (p = [] ∨ ∃ p', p = 47 :: p') → (q = [] ∨ ∃ q', q = 47 :: q') → a ++ p = b ++ q → a = b ∧ p = q:=by
    intro a b p q ha hb hp hq hab
    have f : ∀ (a p : List UInt8), (47 : UInt8) ∉ a → (p = [] ∨ ∃ p', p = 47 :: p') → hd 47 (a ++ p) = a:=by
     intro a p ha hp
     rcases hp with rfl | ⟨p', rfl⟩
     ·rw [List.append_nil]; exact hd_none ha
     exact hd_some ha
    have e1 : a = b:=by rw [← f a p ha hp, hab, f b q hb hq]
    subst e1
    exact ⟨rfl, List.append_cancel_left hab⟩
   have l1:=lead ss [] (.inl rfl)
   rw [List.append_nil] at l1
   obtain ⟨e1, e2⟩:=cutAt _ _ _ _ (stText_clean y) (stText_clean x) l1 (lead tt r hr) h'
   have exy : y = x:=stText_inj (hs y (by simp)) (ht x (by simp)) e1
   subst exy
   exact (List.cons_prefix_cons).2 ⟨rfl, ih ss (fun z hz => ht z (by simp [hz])) (fun z hz => hs z (by simp [hz])) r e2 hr⟩
theorem txsT_len2 (ts : List T4) (h : ts.length ≤ 2) : (txsT ts).size ≤ 56 := by
 unfold txsT
 split
 ·rw [toB_size]
  have:=accT_len ts ts.length
  omega
 exact Nat.zero_le _
end
end Go.Proofs.YtjkcphnohhpihaaGreatDoor
