/- Texts that belong together: TxsText, JoinPlain. -/
import Derived.Test.YtmpmedbojfjnaaaGreatDoorFSAH
import Derived.Test.YtmpmedbojfjnaaaGreatDoorFSAJ
import Derived.Test.YtmpmedbojfjnaaaGreatDoorFSAI
namespace Go.Proofs.YtmpmedbojfjnaaaGreatDoor
open Go.RowKit
set_option linter.unusedSectionVars false
variable [∀ (a b c d : Int), Decidable (Ok4 a b c d)]
variable [∀ (a b c d : Nat), Decidable (okN a b c d)]

def OkT (x : T4) : Prop := Ok4 x.1 x.2.1 x.2.2.1 x.2.2.2
variable [∀ (x : T4), Decidable (OkT x)]
def txT (x : T4) : ByteArray := txt x.1 x.2.1 x.2.2.1 x.2.2.2
def accT (xs : List T4) : Nat → List UInt8
 | 0 => []
 | k + 1 => (if 0 < k then accT xs k ++ [44] else accT xs k) ++ (txT (xs.getD k (0, 0, 0, 0))).data.toList
def txsT (xs : List T4) : ByteArray := if ∀ x ∈ xs, OkT x then toB (accT xs xs.length) else ⟨#[]⟩
theorem ok_nat {a b c d : Int} (h : Ok4 a b c d) : ∃ a' b' c' d' : Nat, a = a' ∧ b = b' ∧ c = c' ∧ d = d' := by
 obtain ⟨⟨a1, _⟩, ⟨b1, _⟩, ⟨c1, _⟩, ⟨d1, _⟩⟩ := h
 exact ⟨a.toNat, b.toNat, c.toNat, d.toNat, by omega, by omega, by omega, by omega⟩
theorem txT_size (x : T4) : (txT x).size ≤ 27 := by
 unfold txT txt
 split
 ·rename_i h
  obtain ⟨a, b, c, d⟩ := x
  obtain ⟨⟨a1, a2⟩, ⟨b1, b2⟩, ⟨c1, c2⟩, ⟨d1, d2⟩⟩ := h
  simp only at *
  have za := dg_size a (by omega) (by omega)
  have zb := dg_size b (by omega) (by omega)
  have zc := dg_size c (by omega) (by omega)
  have zd := dg_size d (by omega) (by omega)
  have o : ∀ c : UInt8, (⟨#[c]⟩ : ByteArray).size = 1 := fun _ => rfl
  unfold txs dg
  rw [ByteArray.size_append, ByteArray.size_append, ByteArray.size_append, ByteArray.size_append, ByteArray.size_append, ByteArray.size_append, o, o, o]
  omega
 ·exact Nat.zero_le _
theorem txT_ne {x : T4} (h : OkT x) : txT x ≠ ⟨#[]⟩ := by
 unfold txT txt
 obtain ⟨a, b, c, d⟩ := x
 show (if Ok4 a b c d then txs a b c d else (⟨#[]⟩ : ByteArray)) ≠ _
 rw [if_pos (show Ok4 a b c d from h)]
 obtain ⟨a', b', c', d', rfl, rfl, rfl, rfl⟩ := ok_nat h
 rw [txs_toB]
 intro e
 have := congrArg (fun s : ByteArray => s.data.toList) e
 exact txl_ne a' b' c' d' this
theorem size_len (s : ByteArray) : s.data.toList.length = s.size := by simp
theorem accT_len (xs : List T4) (k : Nat) : (accT xs k).length ≤ k * 28 := by
 induction k with
 | zero => simp [accT]
 | succ k ih =>
  have := txT_size (xs.getD k (0, 0, 0, 0))
  have e := size_len (txT (xs.getD k (0, 0, 0, 0)))
  rw [accT]
  split <;> simp only [List.length_append, List.length_cons, List.length_nil, e] <;> omega
theorem txsT_no {xs : List T4} {k : Nat} (hk : k < xs.length) (h : ¬ OkT (xs.getD k (0, 0, 0, 0))) : txsT xs = ⟨#[]⟩ := by
 unfold txsT
 rw [if_neg]
 intro ha
 exact h (ha _ (by rw [List.getD_eq_getElem?_getD, List.getElem?_eq_getElem hk]; exact List.getElem_mem hk))
theorem txsT_yes {xs : List T4} (h : ∀ k, k < xs.length → OkT (xs.getD k (0, 0, 0, 0))) : txsT xs = toB (accT xs xs.length) := by
 unfold txsT
 rw [if_pos]
 intro x hx
 obtain ⟨k, hk, rfl⟩ := List.mem_iff_getElem.1 hx
 have := h k hk
 rwa [List.getD_eq_getElem?_getD, List.getElem?_eq_getElem hk] at this
theorem toB_append (x y : List UInt8) : toB x ++ toB y = toB (x ++ y) := by
 apply ByteArray.ext; apply Array.toList_inj.1; simp [toB]
theorem ne2 {s : ByteArray} (hz : s ≠ ⟨#[]⟩) : (s.toList == []) = false := by
 rw [beq_eq_false_iff_ne]; intro e; apply hz; apply ByteArray.ext; apply Array.toList_inj.1; rw [ByteArray.toList_eq] at e; exact e

set_option maxHeartbeats 4000000 in
set_option maxRecDepth 100000 in
theorem specTxsText (v : Value) (xs : List T4) (w : World) (hx : xs.length ≤ 1048577) (h : RT w v xs) :
 Calls Tryz.prog 164 #[v] w fun e w' => e = .returned (.string (txsT xs)) ∧ Below w.heap.size w w' := by
 obtain ⟨hl, ao, ca, rfl, ha⟩ := h
 go_enter Tryz.func164, Tryz.ntmps164
 go_wp2
 go_loopw [3, 4] (fun o i wr => ∃ k : Nat, k ≤ xs.length ∧ i = .int .i64 k ∧ o = .string (toB (accT xs k)) ∧ Hid (∀ j, j < k → OkT (xs.getD j (0, 0, 0, 0))) ∧ Below w.heap.size w wr) (fun _ i _ => xs.length - (intOf i).toNat)
 case atStart => exact ⟨0, Nat.zero_le _, rfl, rfl, hide (fun j hj => by omega), Below.refl _ _⟩
 case round =>
  obtain ⟨k, hk, rfl, rfl, HK, br⟩ := hrel
  have hsr := br.size
  by_cases hlt : k < xs.length
  ·rcases ha with ha | ⟨g, rfl, ha⟩
   ·subst ha; simp at hlt
   obtain ⟨a0, a1, a2, a3⟩ := ha k hlt
   have hg : g < w.heap.size := cell_lt a0
   have c0 := (br.cell (p := ⟨g, k * 4, none⟩) hg).trans a0
   have c1 := (br.cell (p := ⟨g, k * 4 + 1, none⟩) hg).trans a1
   have c2 := (br.cell (p := ⟨g, k * 4 + 2, none⟩) hg).trans a2
   have c3 := (br.cell (p := ⟨g, k * 4 + 3, none⟩) hg).trans a3
   have hal := accT_len xs k
   have hts := txT_size (xs.getD k (0, 0, 0, 0))
   have HS : Hid (accT xs (k + 1) = (if 0 < k then accT xs k ++ [44] else accT xs k) ++ (txT (xs.getD k (0, 0, 0, 0))).data.toList) := rfl
   have HNO := hide (fun h => txsT_no hlt h)
   clear ha
   generalize hxk : xs.getD k (0, 0, 0, 0) = x at *
   obtain ⟨xa, xb, xc, xd⟩ := x
   simp only at c0 c1 c2 c3 a0 a1 a2 a3
   by_cases hok : OkT (xa, xb, xc, xd)
   ·have CK := hide fun w => specTxOk_yes xa xb xc xd w hok
    have CT := hide fun w => specTxText xa xb xc xd w
    have HK' : Hid (∀ j, j < k + 1 → OkT (xs.getD j (0, 0, 0, 0))) := fun j hj => by
     by_cases e : j = k
     ·subst e; rw [hxk]; exact hok
     ·exact HK.out j (by omega)
    have htx : txT (xa, xb, xc, xd) = txt xa xb xc xd := rfl
    rw [htx] at HS hts
    clear htx HK HNO hok hxk
    generalize txt xa xb xc xd = t at *
    go_wp2_with fail
    refine (unhide CK _).mono ?_
    rintro e w1 ⟨rfl, b1⟩
    have b1' := br.trans (b1.mono hsr)
    have s1 := b1.size
    have d0 := (b1'.cell (p := ⟨g, k * 4, none⟩) hg).trans a0
    have d1 := (b1'.cell (p := ⟨g, k * 4 + 1, none⟩) hg).trans a1
    have d2 := (b1'.cell (p := ⟨g, k * 4 + 2, none⟩) hg).trans a2
    have d3 := (b1'.cell (p := ⟨g, k * 4 + 3, none⟩) hg).trans a3
    clear a0 a1 a2 a3 c0 c1 c2 c3
    by_cases hk0 : 0 < k
    ·obtain ⟨u, hu⟩ : ∃ u, u = toB (accT xs k ++ [44]) := ⟨_, rfl⟩
     have us : u.size ≤ k * 28 + 1 := by rw [hu, toB_size]; simp; omega
     have q1 : ∀ w, (Op.stringOp .add (toB (accT xs k)) (⟨#[44]⟩ : ByteArray)).run Tryz.prog w = .ok (.string u) w := fun w => by
      rw [run_string_add_sum w _ _ (by rw [toB_size]; show _ + 1 ≤ _; omega), hu, ← toB_append]; rfl
     have q2 : ∀ w, (Op.stringOp .add u t).run Tryz.prog w = .ok (.string (toB (accT xs (k + 1)))) w := fun w => by
      rw [run_string_add_sum w _ _ (by omega), unhide HS, if_pos hk0, hu]
      rw [← toB_data t, toB_append, toB_data t]
     clear hu us HS
     generalize toB (accT xs k) = ok at *
     generalize hnx : toB (accT xs (k + 1)) = ok' at *
     go_wp2_with fail
     refine (unhide CT _).mono ?_
     rintro e w2 ⟨rfl, b2⟩
     have b2' := b1'.trans (b2.mono (by omega))
     go_wp2
     go_roundw
     case rel => exact ⟨k + 1, by omega, by go_num, by rw [hnx], HK', b2'⟩
     case measure => simp [intOf]; omega
    ·have q2 : ∀ w, (Op.stringOp .add (toB (accT xs k)) t).run Tryz.prog w = .ok (.string (toB (accT xs (k + 1)))) w := fun w => by
      rw [run_string_add_sum w _ _ (by rw [toB_size]; omega), unhide HS, if_neg hk0]
      rw [← toB_data t, toB_append, toB_data t]
     clear HS
     generalize toB (accT xs k) = ok at *
     generalize hnx : toB (accT xs (k + 1)) = ok' at *
     go_wp2_with fail
     refine (unhide CT _).mono ?_
     rintro e w2 ⟨rfl, b2⟩
     have b2' := b1'.trans (b2.mono (by omega))
     go_wp2
     go_roundw
     case rel => exact ⟨k + 1, by omega, by go_num, by rw [hnx], HK', b2'⟩
     case measure => simp [intOf]; omega
   ·have CK := hide fun w => specTxOk_no xa xb xc xd w hok
    have HN := hide ((unhide HNO) hok)
    clear HNO HK HS hok
    generalize toB (accT xs k) = ok at *
    go_wp2_with fail
    refine (unhide CK _).mono ?_
    rintro e w1 ⟨rfl, b1⟩
    go_wp2
    go_ret
    exact ⟨by rw [unhide HN]; rfl, br.trans (b1.mono hsr)⟩
  ·have hkn : k = xs.length := by omega
   have HY : Hid (txsT xs = toB (accT xs k)) := by rw [hkn]; rw [hkn] at HK; exact txsT_yes HK.out
   clear HK ha
   generalize toB (accT xs k) = ok at *
   go_wp2
   go_ret
   exact ⟨by rw [HY.out]; rfl, br⟩
end Go.Proofs.YtmpmedbojfjnaaaGreatDoor
namespace Go.Proofs.YtmpmedbojfjnaaaGreatDoor
set_option linter.unusedSectionVars false
variable [∀ (a b c d : Int), Decidable (Ok4 a b c d)]
variable [∀ (a b c d : Nat), Decidable (okN a b c d)]
variable [∀ (x : T4), Decidable (OkT x)]

def jn : List (List UInt8) → List UInt8
 | [] => []
 | [p] => p
 | p :: q :: r => p ++ 44 :: jn (q :: r)
theorem jn_snoc (ps : List (List UInt8)) (p : List UInt8) : jn (ps ++ [p]) = (if 0 < ps.length then jn ps ++ [44] else jn ps) ++ p := by
 induction ps with
 | nil => simp [jn]
 | cons x ps ih =>
  cases ps with
  | nil => simp [jn]
  | cons y ps =>
   rw [List.cons_append] at ih
   rw [List.cons_append, List.cons_append, jn, jn, ih]
   simp
theorem jn_unique (ps qs : List (List UInt8)) (hp : ∀ p ∈ ps, 44 ∉ p) (hq : ∀ q ∈ qs, 44 ∉ q) (hn : ps ≠ []) (hm : qs ≠ []) (h : jn ps = jn qs) : ps = qs := by
 induction ps generalizing qs with
 | nil => exact absurd rfl hn
 | cons p ps ih =>
  cases qs with
  | nil => exact absurd rfl hm
  | cons q qs =>
   have hp0 := hp p (by simp)
   have hq0 := hq q (by simp)
   cases ps with
   | nil =>
    cases qs with
    | nil => simp [jn] at h; rw [h]
    | cons q' qs => simp only [jn] at h; rw [h] at hp0; simp at hp0
   | cons p' ps =>
    cases qs with
    | nil => simp only [jn] at h; rw [← h] at hq0; simp at hq0
    | cons q' qs =>
     simp only [jn] at h
     have e1 : p = q := by rw [← hd_some (y := jn (p' :: ps)) hp0, h, hd_some hq0]
     have e2 : jn (p' :: ps) = jn (q' :: qs) := by rw [← tl_some (x := p) (y := jn (p' :: ps)) hp0, h, tl_some hq0]
     rw [e1, ih (q' :: qs) (fun x hx => hp x (by simp at hx ⊢; exact .inr hx)) (fun x hx => hq x (by simp at hx ⊢; exact .inr hx)) (by simp) (by simp) e2]
theorem joinTo_jn (ps : List ByteArray) (k : Nat) (hk : k ≤ ps.length) : joinTo 44 ps k = jn ((ps.take k).map fun s => s.data.toList) := by
 induction k with
 | zero => simp [joinTo, jn]
 | succ k ih =>
  rw [joinTo, ih (by omega), take_more ps k (by omega), List.map_append, List.map_singleton, jn_snoc]
  simp only [List.length_map, List.length_take]
  rw [show min k ps.length = k from by omega]
theorem accT_jn (xs : List T4) (k : Nat) (hk : k ≤ xs.length) : accT xs k = jn ((xs.take k).map fun x => (txT x).data.toList) := by
 induction k with
 | zero => simp [accT, jn]
 | succ k ih =>
  have e : xs.take (k + 1) = xs.take k ++ [xs.getD k (0, 0, 0, 0)] := by
   rw [List.take_succ_eq_append_getElem (by omega), List.getD_eq_getElem?_getD, List.getElem?_eq_getElem (by omega)]; rfl
  rw [accT, ih (by omega), e, List.map_append, List.map_singleton, jn_snoc]
  simp only [List.length_map, List.length_take]
  rw [show min k xs.length = k from by omega]
theorem pcs_clean (s : ByteArray) (k : Nat) (hk : k ≤ s.size) : (∀ p ∈ (pcs s 44 k).1, (44 : UInt8) ∉ p.data.toList) ∧ (44 : UInt8) ∉ (s.data.toList.drop (pcs s 44 k).2).take (k - (pcs s 44 k).2) := by
 induction k with
 | zero => simp [pcs]
 | succ k ih =>
  obtain ⟨h1, h2⟩ := ih (by omega)
  have hle := (pcs_le s 44 k).1
  by_cases hb : (s[k].toNat : Int) = 44
  ·rw [pcs_hit s 44 k (by omega) hb]
   refine ⟨fun p hp => ?_, by simp⟩
   rw [List.mem_append] at hp
   rcases hp with hp | hp
   ·exact h1 p hp
   ·simp at hp; rw [hp, ext_list]; exact h2
  ·rw [pcs_miss s 44 k (by omega) hb]
   refine ⟨h1, ?_⟩
   have e := not_mem_more (m := 44) (l := s.data.toList) (n := (pcs s 44 k).2) (pos := k) (v := 1) hle h2 (fun j hj => by
    obtain rfl : j = 0 := by omega
    rw [Nat.add_zero, List.getElem?_eq_getElem (by simp; omega)]
    intro e
    have e' : s[k] = 44 := Option.some.inj e
    rw [e'] at hb; exact hb rfl)
   exact e
theorem split_clean (s : ByteArray) : ∀ p ∈ splitAns s 44, (44 : UInt8) ∉ p.data.toList := by
 intro p hp
 obtain ⟨h1, h2⟩ := pcs_clean s s.size (Nat.le_refl _)
 unfold splitAns at hp
 rw [List.mem_append] at hp
 rcases hp with hp | hp
 ·exact h1 p hp
 ·simp at hp; rw [hp, ext_list]; exact h2
theorem split_ne (s : ByteArray) : splitAns s 44 ≠ [] := by unfold splitAns; simp
theorem txT_clean (x : T4) : (44 : UInt8) ∉ (txT x).data.toList := by
 unfold txT txt
 obtain ⟨a, b, c, d⟩ := x
 by_cases h : Ok4 a b c d
 ·show (44 : UInt8) ∉ (if Ok4 a b c d then txs a b c d else (⟨#[]⟩ : ByteArray)).data.toList
  rw [if_pos h]
  obtain ⟨a', b', c', d', rfl, rfl, rfl, rfl⟩ := ok_nat h
  rw [txs_toB, toB_list]
  unfold txl
  have n := fun n => no_mark n 44 (by decide)
  simp [n]
 ·show (44 : UInt8) ∉ (if Ok4 a b c d then txs a b c d else (⟨#[]⟩ : ByteArray)).data.toList
  rw [if_neg h]; simp
theorem isTx_T {s : ByteArray} {q : Nat × Nat × Nat × Nat} (h : txAns s.data.toList = some q) : txT (toT q) = s ∧ OkT (toT q) := by
 obtain ⟨a, b, c, d⟩ := q
 have hi := txAns_is h
 exact ⟨isTx_txt hi, ok_cast.2 hi.1⟩
theorem ok_T {x : T4} (h : OkT x) : ∃ q, toT q = x ∧ txAns (txT x).data.toList = some q := by
 obtain ⟨a, b, c, d⟩ := x
 obtain ⟨a', b', c', d', rfl, rfl, rfl, rfl⟩ := ok_nat h
 refine ⟨(a', b', c', d'), rfl, txAns_some ⟨ok_cast.1 h, ?_⟩⟩
 show _ = (if Ok4 (a' : Int) b' c' d' then txs a' b' c' d' else (⟨#[]⟩ : ByteArray)).data.toList
 rw [if_pos (show Ok4 (a' : Int) b' c' d' from h), txs_toB, toB_list]
theorem allTx_texts {ps : List ByteArray} {ys : List T4} (h : allTx ps = some ys) : ys.map txT = ps ∧ ∀ y ∈ ys, OkT y := by
 induction ps generalizing ys with
 | nil => simp [allTx] at h; subst h; simp
 | cons p ps ih =>
  rw [allTx] at h
  cases hp : txAns p.data.toList with
  | none => rw [hp] at h; cases h
  | some q =>
   rw [hp] at h
   cases hq : allTx ps with
   | none => rw [hq] at h; cases h
   | some zs =>
    rw [hq] at h; simp at h; subst h
    obtain ⟨i1, i2⟩ := ih hq
    obtain ⟨j1, j2⟩ := isTx_T hp
    refine ⟨by simp [i1, j1], fun y hy => ?_⟩
    simp at hy
    rcases hy with rfl | hy
    ·exact j2
    ·exact i2 y hy
theorem allTx_of (ys : List T4) (h : ∀ y ∈ ys, OkT y) : allTx (ys.map txT) = some ys := by
 induction ys with
 | nil => rfl
 | cons y ys ih =>
  obtain ⟨q, e, hq⟩ := ok_T (h y (by simp))
  rw [List.map_cons, allTx, hq, ih (fun z hz => h z (by simp [hz]))]
  simp [e]
theorem txsAns_text {s : ByteArray} {ys : List T4} (h : txsAns s = some ys) : txsT ys = s := by
 unfold txsAns at h
 split at h
 ·rename_i hz
  simp at h; subst h
  unfold txsT; simp [accT, toB, hz]
 ·obtain ⟨h1, h2⟩ := allTx_texts h
  unfold txsT
  rw [if_pos h2, accT_jn ys ys.length (Nat.le_refl _), List.take_of_length_le (Nat.le_refl _)]
  have hj := split_join s 44
  have e44 : (((44 : UInt8).toNat : Nat) : Int) = 44 := rfl
  rw [e44, joinTo_jn _ _ (Nat.le_refl _), List.take_of_length_le (Nat.le_refl _), ← h1, List.map_map] at hj
  have hj' : jn (ys.map fun x => (txT x).data.toList) = s.data.toList := hj
  rw [hj', toB_data]
theorem txsAns_of (ys : List T4) (h : ∀ y ∈ ys, OkT y) : txsAns (txsT ys) = some ys := by
 have e : txsT ys = toB (jn (ys.map fun x => (txT x).data.toList)) := by
  unfold txsT
  rw [if_pos h, accT_jn ys ys.length (Nat.le_refl _), List.take_of_length_le (Nat.le_refl _)]
 cases ys with
 | nil => rw [e]; unfold txsAns; simp [jn, toB]
 | cons y ys =>
  have hne : txsT (y :: ys) ≠ ⟨#[]⟩ := by
   rw [e]
   intro hz
   have hz' := congrArg (fun s : ByteArray => s.data.toList) hz
   have hy := txT_ne (h y (by simp))
   cases ys with
   | nil => simp [jn, toB] at hz'; exact hy (ByteArray.ext hz')
   | cons y' ys => simp [jn, toB] at hz'
  unfold txsAns
  rw [if_neg hne]
  have hj := split_join (txsT (y :: ys)) 44
  have e44 : (((44 : UInt8).toNat : Nat) : Int) = 44 := rfl
  rw [e44, joinTo_jn _ _ (Nat.le_refl _), List.take_of_length_le (Nat.le_refl _)] at hj
  have hl : (txsT (y :: ys)).data.toList = jn ((y :: ys).map fun x => (txT x).data.toList) := by rw [e]; rfl
  rw [hl] at hj
  have hu := jn_unique _ _ (fun p hp => by
   obtain ⟨z, hz, rfl⟩ := List.mem_map.1 hp
   exact split_clean _ z hz) (fun q hq => by
   obtain ⟨z, _, rfl⟩ := List.mem_map.1 hq
   exact txT_clean z) (by simp [split_ne]) (by simp) hj
  have hs : splitAns (txsT (y :: ys)) 44 = (y :: ys).map txT := by
   have inj : ∀ (a b : List ByteArray), a.map (fun s => s.data.toList) = b.map (fun s => s.data.toList) → a = b := by
    intro a
    induction a with
    | nil => intro b hb; cases b with
     | nil => rfl
     | cons => simp at hb
    | cons x a ih =>
     intro b hb
     cases b with
     | nil => simp at hb
     | cons z b =>
      simp at hb
      rw [ih b hb.2, ByteArray.ext hb.1]
   apply inj
   rw [hu, List.map_map]; rfl
  rw [hs]
  exact allTx_of _ h
end Go.Proofs.YtmpmedbojfjnaaaGreatDoor
