/- Texts joined and parted. Nothing of the program. -/
import Derived.Test.YtnbiphlificliaaDoorRoundPlain
import Derived.Test.YtnbiphlificliaaDoorTxsText
import Derived.Test.YtnbiphlificliaaDoorTxsOf
namespace Go.Proofs.YtnbiphlificliaaDoor
set_option linter.unusedSectionVars false
variable [∀ (a b c d : Int), Decidable (Ok4 a b c d)]
variable [∀ (a b c d : Nat), Decidable (okN a b c d)]
variable [∀ (x : T4), Decidable (OkT x)]

/-- Texts with a comma between. -/
def jn : List (List UInt8) → List UInt8
  | [] => []
  | [p] => p
  | p :: q :: r => p ++ 44 :: jn (q :: r)
theorem jn_snoc (ps : List (List UInt8)) (p : List UInt8) : jn (ps ++ [p]) = (if 0 < ps.length then jn ps ++ [44] else jn ps) ++ p := by
  induction ps with
  | nil => simp [jn]
  | cons x ps ih =>
    cases ps with
    | nil => simp [jn]
    | cons y ps =>
      rw [List.cons_append] at ih
      rw [List.cons_append, List.cons_append, jn, jn, ih]
      simp
theorem jn_unique (ps qs : List (List UInt8)) (hp : ∀ p ∈ ps, 44 ∉ p) (hq : ∀ q ∈ qs, 44 ∉ q) (hn : ps ≠ []) (hm : qs ≠ []) (h : jn ps = jn qs) : ps = qs := by
  induction ps generalizing qs with
  | nil => exact absurd rfl hn
  | cons p ps ih =>
    cases qs with
    | nil => exact absurd rfl hm
    | cons q qs =>
      have hp0 := hp p (by simp)
      have hq0 := hq q (by simp)
      cases ps with
      | nil =>
        cases qs with
        | nil => simp [jn] at h; rw [h]
        | cons q' qs => simp only [jn] at h; rw [h] at hp0; simp at hp0
      | cons p' ps =>
        cases qs with
        | nil => simp only [jn] at h; rw [← h] at hq0; simp at hq0
        | cons q' qs =>
          simp only [jn] at h
          have e1 : p = q := by rw [← hd_some (y := jn (p' :: ps)) hp0, h, hd_some hq0]
          have e2 : jn (p' :: ps) = jn (q' :: qs) := by rw [← tl_some (x := p) (y := jn (p' :: ps)) hp0, h, tl_some hq0]
          rw [e1, ih (q' :: qs) (fun x hx => hp x (by simp at hx ⊢; exact .inr hx)) (fun x hx => hq x (by simp at hx ⊢; exact .inr hx)) (by simp) (by simp) e2]
theorem joinTo_jn (ps : List ByteArray) (k : Nat) (hk : k ≤ ps.length) : joinTo 44 ps k = jn ((ps.take k).map fun s => s.data.toList) := by
  induction k with
  | zero => simp [joinTo, jn]
  | succ k ih =>
    rw [joinTo, ih (by omega), take_more ps k (by omega), List.map_append, List.map_singleton, jn_snoc]
    simp only [List.length_map, List.length_take]
    rw [show min k ps.length = k from by omega]
theorem accT_jn (xs : List T4) (k : Nat) (hk : k ≤ xs.length) : accT xs k = jn ((xs.take k).map fun x => (txT x).data.toList) := by
  induction k with
  | zero => simp [accT, jn]
  | succ k ih =>
    have e : xs.take (k + 1) = xs.take k ++ [xs.getD k (0, 0, 0, 0)] := by
      rw [List.take_succ_eq_append_getElem (by omega), List.getD_eq_getElem?_getD, List.getElem?_eq_getElem (by omega)]; rfl
    rw [accT, ih (by omega), e, List.map_append, List.map_singleton, jn_snoc]
    simp only [List.length_map, List.length_take]
    rw [show min k xs.length = k from by omega]
theorem pcs_clean (s : ByteArray) (k : Nat) (hk : k ≤ s.size) : (∀ p ∈ (pcs s 44 k).1, (44 : UInt8) ∉ p.data.toList) ∧ (44 : UInt8) ∉ (s.data.toList.drop (pcs s 44 k).2).take (k - (pcs s 44 k).2) := by
  induction k with
  | zero => simp [pcs]
  | succ k ih =>
    obtain ⟨h1, h2⟩ := ih (by omega)
    have hle := (pcs_le s 44 k).1
    by_cases hb : (s[k].toNat : Int) = 44
    · rw [pcs_hit s 44 k (by omega) hb]
      refine ⟨fun p hp => ?_, by simp⟩
      rw [List.mem_append] at hp
      rcases hp with hp | hp
      · exact h1 p hp
      · simp at hp; rw [hp, ext_list]; exact h2
    · rw [pcs_miss s 44 k (by omega) hb]
      refine ⟨h1, ?_⟩
      have e := not_mem_more (m := 44) (l := s.data.toList) (n := (pcs s 44 k).2) (pos := k) (v := 1) hle h2 (fun j hj => by
        obtain rfl : j = 0 := by omega
        rw [Nat.add_zero, List.getElem?_eq_getElem (by simp; omega)]
        intro e
        have e' : s[k] = 44 := Option.some.inj e
        rw [e'] at hb; exact hb rfl)
      exact e
theorem split_clean (s : ByteArray) : ∀ p ∈ splitAns s 44, (44 : UInt8) ∉ p.data.toList := by
  intro p hp
  obtain ⟨h1, h2⟩ := pcs_clean s s.size (Nat.le_refl _)
  unfold splitAns at hp
  rw [List.mem_append] at hp
  rcases hp with hp | hp
  · exact h1 p hp
  · simp at hp; rw [hp, ext_list]; exact h2
theorem split_ne (s : ByteArray) : splitAns s 44 ≠ [] := by unfold splitAns; simp
theorem txT_clean (x : T4) : (44 : UInt8) ∉ (txT x).data.toList := by
  unfold txT txt
  obtain ⟨a, b, c, d⟩ := x
  by_cases h : Ok4 a b c d
  · show (44 : UInt8) ∉ (if Ok4 a b c d then txs a b c d else (⟨#[]⟩ : ByteArray)).data.toList
    rw [if_pos h]
    obtain ⟨a', b', c', d', rfl, rfl, rfl, rfl⟩ := ok_nat h
    rw [txs_toB, toB_list]
    unfold txl
    have n := fun n => no_mark n 44 (by decide)
    simp [n]
  · show (44 : UInt8) ∉ (if Ok4 a b c d then txs a b c d else (⟨#[]⟩ : ByteArray)).data.toList
    rw [if_neg h]; simp
theorem isTx_T {s : ByteArray} {q : Nat × Nat × Nat × Nat} (h : txAns s.data.toList = some q) : txT (toT q) = s ∧ OkT (toT q) := by
  obtain ⟨a, b, c, d⟩ := q
  have hi := txAns_is h
  exact ⟨isTx_txt hi, ok_cast.2 hi.1⟩
theorem ok_T {x : T4} (h : OkT x) : ∃ q, toT q = x ∧ txAns (txT x).data.toList = some q := by
  obtain ⟨a, b, c, d⟩ := x
  obtain ⟨a', b', c', d', rfl, rfl, rfl, rfl⟩ := ok_nat h
  refine ⟨(a', b', c', d'), rfl, txAns_some ⟨ok_cast.1 h, ?_⟩⟩
  show _ = (if Ok4 (a' : Int) b' c' d' then txs a' b' c' d' else (⟨#[]⟩ : ByteArray)).data.toList
  rw [if_pos (show Ok4 (a' : Int) b' c' d' from h), txs_toB, toB_list]
theorem allTx_texts {ps : List ByteArray} {ys : List T4} (h : allTx ps = some ys) : ys.map txT = ps ∧ ∀ y ∈ ys, OkT y := by
  induction ps generalizing ys with
  | nil => simp [allTx] at h; subst h; simp
  | cons p ps ih =>
    rw [allTx] at h
    cases hp : txAns p.data.toList with
    | none => rw [hp] at h; cases h
    | some q =>
      rw [hp] at h
      cases hq : allTx ps with
      | none => rw [hq] at h; cases h
      | some zs =>
        rw [hq] at h; simp at h; subst h
        obtain ⟨i1, i2⟩ := ih hq
        obtain ⟨j1, j2⟩ := isTx_T hp
        refine ⟨by simp [i1, j1], fun y hy => ?_⟩
        simp at hy
        rcases hy with rfl | hy
        · exact j2
        · exact i2 y hy
theorem allTx_of (ys : List T4) (h : ∀ y ∈ ys, OkT y) : allTx (ys.map txT) = some ys := by
  induction ys with
  | nil => rfl
  | cons y ys ih =>
    obtain ⟨q, e, hq⟩ := ok_T (h y (by simp))
    rw [List.map_cons, allTx, hq, ih (fun z hz => h z (by simp [hz]))]
    simp [e]
/-- What is read of a text is told as that text. -/
theorem txsAns_text {s : ByteArray} {ys : List T4} (h : txsAns s = some ys) : txsT ys = s := by
  unfold txsAns at h
  split at h
  · rename_i hz
    simp at h; subst h
    unfold txsT; simp [accT, toB, hz]
  · obtain ⟨h1, h2⟩ := allTx_texts h
    unfold txsT
    rw [if_pos h2, accT_jn ys ys.length (Nat.le_refl _), List.take_of_length_le (Nat.le_refl _)]
    have hj := split_join s 44
    have e44 : (((44 : UInt8).toNat : Nat) : Int) = 44 := rfl
    rw [e44, joinTo_jn _ _ (Nat.le_refl _), List.take_of_length_le (Nat.le_refl _), ← h1, List.map_map] at hj
    have hj' : jn (ys.map fun x => (txT x).data.toList) = s.data.toList := hj
    rw [hj', toB_data]
/-- What is told of payments is read as they were. -/
theorem txsAns_of (ys : List T4) (h : ∀ y ∈ ys, OkT y) : txsAns (txsT ys) = some ys := by
  have e : txsT ys = toB (jn (ys.map fun x => (txT x).data.toList)) := by
    unfold txsT
    rw [if_pos h, accT_jn ys ys.length (Nat.le_refl _), List.take_of_length_le (Nat.le_refl _)]
  cases ys with
  | nil => rw [e]; unfold txsAns; simp [jn, toB]
  | cons y ys =>
    have hne : txsT (y :: ys) ≠ ⟨#[]⟩ := by
      rw [e]
      intro hz
      have hz' := congrArg (fun s : ByteArray => s.data.toList) hz
      have hy := txT_ne (h y (by simp))
      cases ys with
      | nil => simp [jn, toB] at hz'; exact hy (ByteArray.ext hz')
      | cons y' ys => simp [jn, toB] at hz'
    unfold txsAns
    rw [if_neg hne]
    have hj := split_join (txsT (y :: ys)) 44
    have e44 : (((44 : UInt8).toNat : Nat) : Int) = 44 := rfl
    rw [e44, joinTo_jn _ _ (Nat.le_refl _), List.take_of_length_le (Nat.le_refl _)] at hj
    have hl : (txsT (y :: ys)).data.toList = jn ((y :: ys).map fun x => (txT x).data.toList) := by rw [e]; rfl
    rw [hl] at hj
    have hu := jn_unique _ _ (fun p hp => by
      obtain ⟨z, hz, rfl⟩ := List.mem_map.1 hp
      exact split_clean _ z hz) (fun q hq => by
      obtain ⟨z, _, rfl⟩ := List.mem_map.1 hq
      exact txT_clean z) (by simp [split_ne]) (by simp) hj
    have hs : splitAns (txsT (y :: ys)) 44 = (y :: ys).map txT := by
      have inj : ∀ (a b : List ByteArray), a.map (fun s => s.data.toList) = b.map (fun s => s.data.toList) → a = b := by
        intro a
        induction a with
        | nil => intro b hb; cases b with
          | nil => rfl
          | cons => simp at hb
        | cons x a ih =>
          intro b hb
          cases b with
          | nil => simp at hb
          | cons z b =>
            simp at hb
            rw [ih b hb.2, ByteArray.ext hb.1]
      apply inj
      rw [hu, List.map_map]; rfl
    rw [hs]
    exact allTx_of _ h
end Go.Proofs.YtnbiphlificliaaDoor
