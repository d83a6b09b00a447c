/- Texts that belong together: NamesPlain, NamesPlain2, NamesPlain3, SpecNames, SpecNameOf, DrawName, DrawL. -/
import Derived.Test.YtehdchpolgihlaaDbAD
import Derived.Test.YtehdchpolgihlaaDbAE
import Derived.Lib.ItoaLen
import Derived.Test.YtehdchpolgihlaaDbAA
import Derived.Laws.Bits128
/- Names and their steps: a name is the texts of its steps, one behind the other. Nothing of the program. -/
namespace Go.Proofs.Ytehdchpolgihlaa
open Go.RowKit
set_option linter.unusedSectionVars false
variable [∀ (a b c d : Int), Decidable (Ok4 a b c d)]
variable [∀ (a b c d : Nat), Decidable (okN a b c d)]
variable [∀ (last : Int) (s : St), Decidable (GoodSt last s)]
variable [∀ (x : T4), Decidable (OkT x)]

/-- Texts with a byte between. -/
def jb (b : UInt8) : List (List UInt8) → List UInt8
  | [] => []
  | [p] => p
  | p :: q :: r => p ++ b :: jb b (q :: r)
theorem jb_flat (b : UInt8) (p : List UInt8) (ps : List (List UInt8)) : jb b (p :: ps) = p ++ ps.flatMap (fun t => b :: t) := by
  induction ps generalizing p with
  | nil => simp [jb]
  | cons q ps ih => rw [jb, ih]; simp
theorem jb_snoc (b : UInt8) (ps : List (List UInt8)) (p : List UInt8) : jb b (ps ++ [p]) = (if 0 < ps.length then jb b ps ++ [b] else jb b ps) ++ p := by
  cases ps with
  | nil => simp [jb]
  | cons x ps => rw [List.cons_append, jb_flat, jb_flat]; simp
theorem jb_unique (b : UInt8) (ps qs : List (List UInt8)) (hp : ∀ p ∈ ps, b ∉ p) (hq : ∀ q ∈ qs, b ∉ q) (hn : ps ≠ []) (hm : qs ≠ []) (h : jb b ps = jb b qs) : ps = qs := by
  induction ps generalizing qs with
  | nil => exact absurd rfl hn
  | cons p ps ih =>
    cases qs with
    | nil => exact absurd rfl hm
    | cons q qs =>
      have hp0 := hp p (by simp)
      have hq0 := hq q (by simp)
      cases ps with
      | nil =>
        cases qs with
        | nil => simp [jb] at h; rw [h]
        | cons q' qs => simp only [jb] at h; rw [h] at hp0; simp at hp0
      | cons p' ps =>
        cases qs with
        | nil => simp only [jb] at h; rw [← h] at hq0; simp at hq0
        | cons q' qs =>
          simp only [jb] at h
          have e1 : p = q := by rw [← hd_some (y := jb b (p' :: ps)) hp0, h, hd_some hq0]
          have e2 : jb b (p' :: ps) = jb b (q' :: qs) := by rw [← tl_some (x := p) (y := jb b (p' :: ps)) hp0, h, tl_some hq0]
          rw [e1, ih (q' :: qs) (fun x hx => hp x (by simp at hx ⊢; exact .inr hx)) (fun x hx => hq x (by simp at hx ⊢; exact .inr hx)) (by simp) (by simp) e2]
theorem joinTo_jb (b : UInt8) (ps : List ByteArray) (k : Nat) (hk : k ≤ ps.length) : joinTo b ps k = jb b ((ps.take k).map fun s => s.data.toList) := by
  induction k with
  | zero => simp [joinTo, jb]
  | succ k ih =>
    rw [joinTo, ih (by omega), take_more ps k (by omega), List.map_append, List.map_singleton, jb_snoc]
    simp only [List.length_map, List.length_take]
    rw [show min k ps.length = k from by omega]
theorem pcs_cleanB (s : ByteArray) (b : UInt8) (k : Nat) (hk : k ≤ s.size) : (∀ p ∈ (pcs s b.toNat k).1, b ∉ p.data.toList) ∧ b ∉ (s.data.toList.drop (pcs s b.toNat k).2).take (k - (pcs s b.toNat k).2) := by
  induction k with
  | zero => simp [pcs]
  | succ k ih =>
    obtain ⟨h1, h2⟩ := ih (by omega)
    have hle := (pcs_le s b.toNat k).1
    by_cases hb : (s[k].toNat : Int) = b.toNat
    · rw [pcs_hit s b.toNat k (by omega) hb]
      refine ⟨fun p hp => ?_, by simp⟩
      rw [List.mem_append] at hp
      rcases hp with hp | hp
      · exact h1 p hp
      · simp at hp; rw [hp, ext_list]; exact h2
    · rw [pcs_miss s b.toNat k (by omega) hb]
      refine ⟨h1, ?_⟩
      exact not_mem_more (m := b) (l := s.data.toList) (n := (pcs s b.toNat k).2) (pos := k) (v := 1) hle h2 (fun j hj => by
        obtain rfl : j = 0 := by omega
        rw [Nat.add_zero, List.getElem?_eq_getElem (by simp; omega)]
        intro e
        have e' : s[k] = b := Option.some.inj e
        rw [e'] at hb; exact hb rfl)
theorem split_cleanB (s : ByteArray) (b : UInt8) : ∀ p ∈ splitAns s b.toNat, b ∉ p.data.toList := by
  intro p hp
  obtain ⟨h1, h2⟩ := pcs_cleanB s b s.size (Nat.le_refl _)
  unfold splitAns at hp
  rw [List.mem_append] at hp
  rcases hp with hp | hp
  · exact h1 p hp
  · simp at hp; rw [hp, ext_list]; exact h2
theorem split_jb (s : ByteArray) (b : UInt8) : jb b ((splitAns s b.toNat).map fun s => s.data.toList) = s.data.toList := by
  have := split_join s b
  rw [joinTo_jb b _ _ (Nat.le_refl _), List.take_of_length_le (Nat.le_refl _)] at this
  exact this
theorem split_neB (s : ByteArray) (b : Int) : splitAns s b ≠ [] := by unfold splitAns; simp
/-- What a text is split into, told from its parts. -/
theorem split_of (s : ByteArray) (b : UInt8) (ps : List (List UInt8)) (hn : ps ≠ []) (hp : ∀ p ∈ ps, b ∉ p) (h : s.data.toList = jb b ps) : (splitAns s b.toNat).map (fun s => s.data.toList) = ps := by
  refine jb_unique b _ _ (fun p hp' => ?_) hp (by simp [split_neB]) hn ((split_jb s b).trans h)
  obtain ⟨q, hq, rfl⟩ := List.mem_map.1 hp'
  exact split_cleanB s b q hq

/-- A step's text, and a name's. -/
def stText (s : St) : List UInt8 := Lib.decDigits s.1.toNat ++ 124 :: (txsT s.2).data.toList
def nm (ss : List St) : List UInt8 := ss.flatMap fun s => 47 :: stText s
/-- A step that may stand in a name. -/
def OkSt (s : St) : Prop := (1 ≤ s.1 ∧ s.1 ≤ 60) ∧ s.2.length ≤ 2 ∧ ∀ x ∈ s.2, OkT x
/-- Steps that make a name. -/
def OkSts (ss : List St) : Prop := ss.length ≤ 30 ∧ (∀ s ∈ ss, OkSt s) ∧ ss.Pairwise (fun a b => a.1 < b.1)
theorem txT_clean2 (x : T4) (m : UInt8) (h : m.toNat < 48 ∨ 57 < m.toNat) (h1 : m ≠ 62) (h2 : m ≠ 58) (h3 : m ≠ 35) : m ∉ (txT x).data.toList := by
  unfold txT txt
  obtain ⟨a, b, c, d⟩ := x
  by_cases ho : Ok4 a b c d
  · show m ∉ (if Ok4 a b c d then txs a b c d else (⟨#[]⟩ : ByteArray)).data.toList
    rw [if_pos ho]
    obtain ⟨a', b', c', d', rfl, rfl, rfl, rfl⟩ := ok_nat ho
    rw [txs_toB, toB_list]
    unfold txl
    have n := fun n => no_mark n m h
    simp [n, h1, h2, h3]
  · show m ∉ (if Ok4 a b c d then txs a b c d else (⟨#[]⟩ : ByteArray)).data.toList
    rw [if_neg ho]; simp
theorem txsT_clean (ts : List T4) (m : UInt8) (h : m.toNat < 48 ∨ 57 < m.toNat) (h1 : m ≠ 62) (h2 : m ≠ 58) (h3 : m ≠ 35) (h4 : m ≠ 44) : m ∉ (txsT ts).data.toList := by
  unfold txsT
  split
  · rw [toB_list]
    have : ∀ k, k ≤ ts.length → m ∉ accT ts k := by
      intro k
      induction k with
      | zero => intro _; simp [accT]
      | succ k ih =>
        intro hk
        have := ih (by omega)
        have c := txT_clean2 (ts.getD k (0, 0, 0, 0)) m h h1 h2 h3
        rw [accT]
        split <;> simp [this, h4] <;> simpa using c
    exact this ts.length (Nat.le_refl _)
  · simp
theorem stText_clean (s : St) : (47 : UInt8) ∉ stText s := by
  unfold stText
  have h1 := no_mark s.1.toNat 47 (by decide)
  have h2 := txsT_clean s.2 47 (by decide) (by decide) (by decide) (by decide) (by decide)
  simp [h1, h2]
theorem stepOf_some {p : ByteArray} {s : St} (h : stepOf p = some s) : p.data.toList = stText s ∧ (0 ≤ s.1) ∧ ∀ x ∈ s.2, OkT x := by
  unfold stepOf at h
  split at h
  · rename_i hm
    cases hn : numOf (hd 124 p.data.toList) with
    | none => rw [hn] at h; cases h
    | some n =>
      rw [hn] at h
      cases ht : txsAns (toB (tl 124 p.data.toList)) with
      | none => rw [ht] at h; cases h
      | some ts =>
        rw [ht] at h
        cases h
        obtain ⟨_, h2⟩ := numOf_some hn
        have h3 := txsAns_text ht
        have e : p.data.toList = hd 124 p.data.toList ++ 124 :: tl 124 p.data.toList := by
          unfold hd tl
          generalize p.data.toList = l at hm
          induction l with
          | nil => simp at hm
          | cons y l ih =>
            by_cases hy : y = 124
            · subst hy; simp
            · have hm' : (124 : UInt8) ∈ l := by rcases List.mem_cons.1 hm with e | e; exact absurd e.symm hy; exact e
              have := ih hm'
              simp only [List.takeWhile_cons, List.dropWhile_cons, bne_iff_ne, ne_eq, hy, not_false_eq_true, if_true]
              rw [List.cons_append, ← this]
        refine ⟨?_, by simp, ?_⟩
        · rw [e, ← h2]
          unfold stText
          rw [h3]
          simp [toB_list]
        · unfold txsAns at ht
          split at ht
          · cases ht; simp
          · exact (allTx_texts ht).2
  · cases h
theorem stepOf_text {p : ByteArray} {s : St} (h : OkSt s) (hp : p.data.toList = stText s) : stepOf p = some s := by
  obtain ⟨⟨h1, h2⟩, _, h3⟩ := h
  have c := no_mark s.1.toNat 124 (by decide)
  unfold stepOf
  rw [hp]
  have hm : (124 : UInt8) ∈ stText s := by unfold stText; simp
  rw [if_pos hm]
  have e1 : hd 124 (stText s) = Lib.decDigits s.1.toNat := by unfold stText; exact hd_some c
  have e2 : tl 124 (stText s) = (txsT s.2).data.toList := by unfold stText; exact tl_some c
  rw [e1, e2, numOf_of (by omega), toB_data, txsAns_of s.2 h3]
  obtain ⟨v, ts⟩ := s
  simp at h1 ⊢
  omega
/-- What the parts of a name say. -/
theorem run_texts (ps : List ByteArray) (q : Int × List St) (h : stepsRun ps = some q) : ps.map (fun p => p.data.toList) = q.2.map stText ∧ (∀ s ∈ q.2, OkSt s ∧ s.1 ≤ q.1) ∧ q.2.Pairwise (fun a b => a.1 < b.1) := by
  generalize hn : ps.length = n
  induction n generalizing ps q with
  | zero =>
    have : ps = [] := List.length_eq_zero_iff.1 hn
    subst this
    cases h
    simp
  | succ n ih =>
    obtain ⟨ps', p, rfl⟩ : ∃ ps' p, ps = ps' ++ [p] := ⟨ps.dropLast, ps.getLast (fun e => by rw [e] at hn; simp at hn), (List.dropLast_concat_getLast _).symm⟩
    rw [stepsRun_more] at h
    unfold stepAcc at h
    cases hr : stepsRun ps' with
    | none => rw [hr] at h; cases h
    | some q' =>
      rw [hr] at h
      cases hs : stepOf p with
      | none => rw [hs] at h; simp at h
      | some s =>
        rw [hs] at h
        simp only [Option.bind_some] at h
        split at h
        · rename_i hg
          cases h
          obtain ⟨i1, i2, i3⟩ := ih ps' q' hr (by simpa using hn)
          obtain ⟨_, o2, _, _⟩ := stepsRun_ok ps' q' hr
          obtain ⟨g1, g2, g3⟩ := hg
          obtain ⟨t1, t2, t3⟩ := stepOf_some hs
          refine ⟨by simp [i1, t1], fun y hy => ?_, ?_⟩
          · rcases List.mem_append.1 hy with hy | hy
            · exact ⟨(i2 y hy).1, by have := (i2 y hy).2; show y.1 ≤ s.1; omega⟩
            · simp at hy; subst hy
              exact ⟨⟨⟨by omega, g2⟩, g3, t3⟩, Int.le_refl _⟩
          · rw [List.pairwise_append]
            refine ⟨i3, by simp, fun a ha b hb => ?_⟩
            simp at hb; subst hb
            have := (i2 a ha).2
            omega
        · cases h
theorem run_of (ss : List St) (hok : ∀ s ∈ ss, OkSt s) (hpw : ss.Pairwise (fun a b => a.1 < b.1)) (ps : List ByteArray) (hp : ps.map (fun p => p.data.toList) = ss.map stText) : ∃ l, stepsRun ps = some (l, ss) ∧ ∀ x, (∀ s ∈ ss, s.1 < x) → 0 < x → l < x := by
  generalize hn : ss.length = n
  induction n generalizing ss ps with
  | zero =>
    have : ss = [] := List.length_eq_zero_iff.1 hn
    subst this
    have : ps = [] := by simpa using hp
    subst this
    exact ⟨0, rfl, fun x _ h => h⟩
  | succ n ih =>
    obtain ⟨ss', s, rfl⟩ : ∃ ss' s, ss = ss' ++ [s] := ⟨ss.dropLast, ss.getLast (fun e => by rw [e] at hn; simp at hn), (List.dropLast_concat_getLast _).symm⟩
    have hpl : ps.length = (ss' ++ [s]).length := by have := congrArg List.length hp; simpa using this
    obtain ⟨ps', p, rfl⟩ : ∃ ps' p, ps = ps' ++ [p] := ⟨ps.dropLast, ps.getLast (fun e => by rw [e] at hpl; simp at hpl), (List.dropLast_concat_getLast _).symm⟩
    rw [List.map_append, List.map_append] at hp
    obtain ⟨hp1, hp2⟩ := List.append_inj hp (by simp at hpl ⊢; exact hpl)
    rw [List.pairwise_append] at hpw
    obtain ⟨l, hl, hx⟩ := ih ss' (fun y hy => hok y (by simp [hy])) hpw.1 ps' hp1 (by simpa using hn)
    have hs := hok s (by simp)
    have hst := stepOf_text hs (p := p) (by simpa using hp2)
    have hlt : l < s.1 := hx s.1 (fun y hy => hpw.2.2 y hy s (by simp)) (by have := hs.1; omega)
    refine ⟨s.1, ?_, fun x h1 _ => h1 s (by simp)⟩
    rw [stepsRun_more, hl]
    unfold stepAcc
    simp only [Option.bind_some, hst]
    rw [if_pos (show GoodSt l s from ⟨hlt, hs.1.2, hs.2.1⟩)]
theorem nm_jb (ss : List St) : nm ss = jb 47 ([] :: ss.map stText) := by
  rw [jb_flat]; unfold nm; simp [List.flatMap_map]
/-- A text is a name just where it is the texts of right steps, and then these are its steps. -/
theorem names_iff (s : ByteArray) (ss : List St) : stepsAns s = some ss ↔ s.data.toList = nm ss ∧ OkSts ss := by
  unfold stepsAns
  by_cases hz : s = ⟨#[]⟩
  · rw [if_pos hz]
    subst hz
    constructor
    · intro h; cases h; exact ⟨rfl, by simp, by simp, by simp⟩
    · rintro ⟨h, _⟩
      cases ss with
      | nil => rfl
      | cons x ss => simp [nm] at h
  · rw [if_neg hz]
    have hj := split_jb s 47
    have e47 : ((47 : UInt8).toNat : Int) = 47 := rfl
    rw [e47] at hj
    constructor
    · intro h
      split at h
      · rename_i hc
        cases hr : stepsRun (splitAns s 47).tail with
        | none => rw [hr] at h; cases h
        | some q =>
          rw [hr] at h
          cases h
          obtain ⟨h1, h2, h3⟩ := run_texts _ q hr
          have hlen := (stepsRun_ok _ q hr).1
          cases hp : splitAns s 47 with
          | nil => exact absurd hp (split_neB s 47)
          | cons p ps =>
            rw [hp] at hc h1 hj hlen
            simp at hc
            refine ⟨?_, ?_, fun y hy => (h2 y hy).1, h3⟩
            · rw [← hj, nm_jb, List.map_cons, hc.1]
              simp only [List.tail_cons] at h1
              rw [h1]
            · show q.2.length ≤ 30
              simp at hlen
              omega
      · cases h
    · rintro ⟨h1, h2, h3, h4⟩
      have hne : ss ≠ [] := by
        rintro rfl
        apply hz
        apply ByteArray.ext
        apply Array.toList_inj.1
        rw [h1]; rfl
      have hsp := split_of s 47 ([] :: ss.map stText) (by simp) (fun p hp => by
        rcases List.mem_cons.1 hp with rfl | hp
        · simp
        · obtain ⟨y, _, rfl⟩ := List.mem_map.1 hp; exact stText_clean y) (by rw [h1, nm_jb])
      rw [e47] at hsp
      cases hp : splitAns s 47 with
      | nil => exact absurd hp (split_neB s 47)
      | cons p ps =>
        rw [hp] at hsp
        simp only [List.map_cons, List.cons.injEq] at hsp
        obtain ⟨l, hl, _⟩ := run_of ss h3 h4 ps hsp.2
        have hpl : ps.length = ss.length := by have := congrArg List.length hsp.2; simpa using this
        have hp0 : p = ⟨#[]⟩ := ByteArray.ext (Array.toList_inj.1 hsp.1)
        rw [if_pos ⟨by simpa using hp0, by simp; omega⟩, List.tail_cons, hl]
        rfl
end Go.Proofs.Ytehdchpolgihlaa

/- What NameOf, UpOf, ViewOf, Height, Extends answer, told by steps. Nothing of the program. -/
namespace Go.Proofs.Ytehdchpolgihlaa
open Go.RowKit
set_option linter.unusedSectionVars false
variable [∀ (a b c d : Int), Decidable (Ok4 a b c d)]
variable [∀ (a b c d : Nat), Decidable (okN a b c d)]
variable [∀ (last : Int) (s : St), Decidable (GoodSt last s)]
variable [∀ (x : T4), Decidable (OkT x)]

theorem nm_append (ss tt : List St) : nm (ss ++ tt) = nm ss ++ nm tt := by simp [nm]
theorem nm_snoc (ss : List St) (x : St) : nm (ss ++ [x]) = nm ss ++ 47 :: stText x := by simp [nm]
theorem OkSts.pre {ss tt : List St} (h : OkSts (ss ++ tt)) : OkSts ss := by
  obtain ⟨h1, h2, h3⟩ := h
  refine ⟨by simp at h1; omega, fun s hs => h2 s (by simp [hs]), ?_⟩
  rw [List.pairwise_append] at h3; exact h3.1
theorem names_nm {ss : List St} (h : OkSts ss) : stepsAns (toB (nm ss)) = some ss := (names_iff _ _).2 ⟨toB_list _, h⟩
theorem ba_ext {s t : ByteArray} (h : s.data.toList = t.data.toList) : s = t := ByteArray.ext (Array.toList_inj.1 h)
/-- Two texts that end behind their last '/'. -/
theorem last_slash {a b x y : List UInt8} (hx : (47 : UInt8) ∉ x) (hy : (47 : UInt8) ∉ y) (h : a ++ 47 :: x = b ++ 47 :: y) : a = b ∧ x = y := by
  have hr := congrArg List.reverse h
  simp only [List.reverse_append, List.reverse_cons, List.append_assoc, List.singleton_append] at hr
  have hx' : (47 : UInt8) ∉ x.reverse := by simpa using hx
  have hy' : (47 : UInt8) ∉ y.reverse := by simpa using hy
  have e1 : x.reverse = y.reverse := by rw [← hd_some (y := a.reverse) hx', hr, hd_some hy']
  have e2 : a.reverse = b.reverse := by rw [← tl_some (x := x.reverse) (y := a.reverse) hx', hr, tl_some hy']
  exact ⟨List.reverse_inj.1 e2, List.reverse_inj.1 e1⟩
theorem stText_inj {x y : St} (hx : OkSt x) (hy : OkSt y) (h : stText x = stText y) : x = y := by
  have h1 := stepOf_text hx (p := toB (stText x)) (toB_list _)
  have h2 := stepOf_text hy (p := toB (stText x)) ((toB_list _).trans h)
  rw [h1] at h2
  exact Option.some.inj h2

/-- What NameOf puts together. -/
def nmOut (up : ByteArray) (view : Int) (ts : List T4) : List UInt8 := up.data.toList ++ 47 :: (Lib.itoa view ++ 124 :: (txsT ts).data.toList)
/-- What NameOf answers. -/
def nameAns (up : ByteArray) (view : Int) (ts : List T4) : ByteArray := if (∀ x ∈ ts, OkT x) ∧ (stepsAns (toB (nmOut up view ts))).isSome then toB (nmOut up view ts) else ⟨#[]⟩
theorem itoa_clean (v : Int) (m : UInt8) (h : m.toNat < 48 ∨ 57 < m.toNat) (h1 : m ≠ 45) : m ∉ Lib.itoa v := by
  rw [Lib.itoa]
  split
  · have := no_mark v.natAbs m h
    simp [h1, this]
  · exact no_mark v.toNat m h
theorem name_parts {up : ByteArray} {view : Int} {ts : List T4} {ss : List St} (ht : ∀ x ∈ ts, OkT x) (h : stepsAns (toB (nmOut up view ts)) = some ss) : ∃ ss', ss = ss' ++ [(view, ts)] ∧ stepsAns up = some ss' ∧ OkSts (ss' ++ [(view, ts)]) := by
  obtain ⟨h1, h2⟩ := (names_iff _ _).1 h
  rw [toB_list] at h1
  have hne : ss ≠ [] := by
    rintro rfl
    unfold nmOut nm at h1
    simp at h1
  obtain ⟨ss', x, rfl⟩ : ∃ ss' x, ss = ss' ++ [x] := ⟨ss.dropLast, ss.getLast hne, (List.dropLast_concat_getLast _).symm⟩
  have hx := h2.2.1 x (by simp)
  rw [nm_snoc] at h1
  unfold nmOut at h1
  have hc : (47 : UInt8) ∉ Lib.itoa view ++ 124 :: (txsT ts).data.toList := by
    have a := itoa_clean view 47 (by decide) (by decide)
    have b := txsT_clean ts 47 (by decide) (by decide) (by decide) (by decide) (by decide)
    simp [a, b]
  obtain ⟨e1, e2⟩ := last_slash hc (stText_clean x) h1
  have c1 := itoa_clean view 124 (by decide) (by decide)
  have c2 := no_mark x.1.toNat 124 (by decide)
  unfold stText at e2
  have f1 : Lib.itoa view = Lib.decDigits x.1.toNat := by rw [← hd_some (y := (txsT ts).data.toList) c1, e2, hd_some c2]
  have f2 : (txsT ts).data.toList = (txsT x.2).data.toList := by rw [← tl_some (x := Lib.itoa view) (y := (txsT ts).data.toList) c1, e2, tl_some c2]
  have g2 : ts = x.2 := by
    have a := txsAns_of ts ht
    have b := txsAns_of x.2 hx.2.2
    rw [ba_ext f2, b] at a
    exact (Option.some.inj a).symm
  have g1 : view = x.1 := by
    have hx1 := hx.1
    rw [Lib.itoa] at f1
    split at f1
    · have := no_mark x.1.toNat 45 (by decide)
      rw [← f1] at this
      simp at this
    · have a := decFrom_digits view.toNat
      rw [f1, decFrom_digits] at a
      have := Option.some.inj a
      omega
  obtain ⟨xv, xt⟩ := x
  subst g1 g2
  exact ⟨ss', rfl, (names_iff _ _).2 ⟨e1, h2.pre⟩, h2⟩
theorem name_made {up : ByteArray} {ss : List St} {x : St} (hu : stepsAns up = some ss) (h : OkSts (ss ++ [x])) : nameAns up x.1 x.2 = toB (nm (ss ++ [x])) := by
  have hx := h.2.1 x (by simp)
  have e : nmOut up x.1 x.2 = nm (ss ++ [x]) := by
    rw [nm_snoc]
    unfold nmOut stText
    rw [((names_iff _ _).1 hu).1]
    have : Lib.itoa x.1 = Lib.decDigits x.1.toNat := by rw [Lib.itoa, if_neg (by have := hx.1; omega)]
    rw [this]
  unfold nameAns
  rw [e, names_nm h, if_pos ⟨hx.2.2, rfl⟩]
theorem toB_ne {l : List UInt8} (h : l ≠ []) : toB l ≠ ⟨#[]⟩ := fun e => h (by have := congrArg (fun s : ByteArray => s.data.toList) e; simpa [toB_list] using this)
theorem nmOut_ne (up : ByteArray) (view : Int) (ts : List T4) : toB (nmOut up view ts) ≠ ⟨#[]⟩ := toB_ne (by unfold nmOut; simp)
/-- Where NameOf tells a name: its steps are those of up and the new one. -/
theorem nameAns_some {up : ByteArray} {view : Int} {ts : List T4} (h : nameAns up view ts ≠ ⟨#[]⟩) : ∃ ss, stepsAns up = some ss ∧ OkSts (ss ++ [(view, ts)]) ∧ stepsAns (nameAns up view ts) = some (ss ++ [(view, ts)]) := by
  unfold nameAns at h ⊢
  by_cases hc : (∀ x ∈ ts, OkT x) ∧ (stepsAns (toB (nmOut up view ts))).isSome = true
  · rw [if_pos hc]
    obtain ⟨ss, hss⟩ := Option.isSome_iff_exists.1 hc.2
    obtain ⟨ss', rfl, h2, h3⟩ := name_parts hc.1 hss
    exact ⟨ss', h2, h3, hss⟩
  · rw [if_neg hc] at h; exact absurd rfl h

/-- What UpOf, ViewOf, TxsIn, Height answer. -/
def upAns (s : ByteArray) : ByteArray := toB (nm ((stepsAns s).getD []).dropLast)
def viewAns (s : ByteArray) : Int := (((stepsAns s).getD []).getLast?.map (·.1)).getD 0
def txsInAns (s : ByteArray) : List T4 := ((stepsAns s).getD []).flatMap (·.2)
def heightAns (s : ByteArray) : Int := match stepsAns s with | some ss => (ss.length : Int) | none => -1
/-- Extends: the steps of t are the first ones of s. -/
def Ext (s t : ByteArray) : Prop := ∃ ss tt, stepsAns s = some ss ∧ stepsAns t = some tt ∧ tt <+: ss
theorem up_steps {s : ByteArray} {ss : List St} (h : stepsAns s = some ss) : stepsAns (upAns s) = some ss.dropLast := by
  have h2 := ((names_iff _ _).1 h).2
  unfold upAns
  rw [h, Option.getD_some]
  refine names_nm ?_
  by_cases hne : ss = []
  · subst hne; exact h2
  · rw [← List.dropLast_concat_getLast hne] at h2
    exact h2.pre
theorem name_up {up : ByteArray} {view : Int} {ts : List T4} (h : nameAns up view ts ≠ ⟨#[]⟩) : upAns (nameAns up view ts) = up ∧ viewAns (nameAns up view ts) = view ∧ heightAns (nameAns up view ts) = heightAns up + 1 ∧ Ext (nameAns up view ts) up := by
  obtain ⟨ss, h1, h2, h3⟩ := nameAns_some h
  refine ⟨?_, ?_, ?_, ⟨_, _, h3, h1, by simp⟩⟩
  · unfold upAns
    rw [h3, Option.getD_some, List.dropLast_concat, ← ((names_iff _ _).1 h1).1, toB_data]
  · unfold viewAns; rw [h3]; simp
  · unfold heightAns; rw [h3, h1]; simp
theorem ext_views {s t : ByteArray} (h : Ext s t) : heightAns t ≤ heightAns s ∧ viewAns t ≤ viewAns s := by
  obtain ⟨ss, tt, h1, h2, r, rfl⟩ := h
  have ok := ((names_iff _ _).1 h1).2
  constructor
  · unfold heightAns; rw [h1, h2]; simp; omega
  · unfold viewAns
    rw [h1, h2, Option.getD_some, Option.getD_some]
    by_cases hr : r = []
    · subst hr; simp
    · obtain ⟨r', x, rfl⟩ : ∃ r' x, r = r' ++ [x] := ⟨r.dropLast, r.getLast hr, (List.dropLast_concat_getLast _).symm⟩
      have e : (tt ++ (r' ++ [x])).getLast? = some x := by rw [← List.append_assoc]; simp
      rw [e]
      have hx := ok.2.1 x (by simp)
      cases ht : tt.getLast? with
      | none => simp; have := hx.1; omega
      | some y =>
        simp
        have hy : y ∈ tt := List.mem_of_getLast? ht
        have hp := ok.2.2
        rw [List.pairwise_append] at hp
        have := hp.2.2 y hy x (by simp)
        omega
theorem ext_up {s : ByteArray} (h : (stepsAns s).isSome) : Ext s (upAns s) := by
  obtain ⟨ss, hs⟩ := Option.isSome_iff_exists.1 h
  exact ⟨ss, ss.dropLast, hs, up_steps hs, List.dropLast_prefix ss⟩
/-- How high a chain is: not above its last view. -/
theorem height_view {s : ByteArray} : heightAns s ≤ viewAns s ∧ heightAns s ≤ 30 ∧ viewAns s ≤ 60 := by
  unfold heightAns viewAns
  cases h : stepsAns s with
  | none => simp
  | some ss =>
    have ok := ((names_iff _ _).1 h).2
    simp only [Option.getD_some]
    refine ⟨?_, by have := ok.1; omega, ?_⟩
    · have key : ∀ ss : List St, (∀ s ∈ ss, OkSt s) → ss.Pairwise (fun a b => a.1 < b.1) → (ss.length : Int) ≤ (ss.getLast?.map (·.1)).getD 0 := by
        intro ss
        generalize hn : ss.length = n
        induction n generalizing ss with
        | zero => intro _ _; have : ss = [] := List.length_eq_zero_iff.1 hn; subst this; simp
        | succ n ih =>
          intro h1 h2
          obtain ⟨ss', x, rfl⟩ : ∃ ss' x, ss = ss' ++ [x] := ⟨ss.dropLast, ss.getLast (fun e => by rw [e] at hn; simp at hn), (List.dropLast_concat_getLast _).symm⟩
          rw [List.pairwise_append] at h2
          have := ih ss' (by simpa using hn) (fun s hs => h1 s (by simp [hs])) h2.1
          have hx := (h1 x (by simp)).1
          simp only [List.getLast?_append, List.getLast?_singleton, Option.some_or, Option.map_some, Option.getD_some]
          cases hl : ss'.getLast? with
          | none => rw [hl] at this; simp at this; omega
          | some y =>
            rw [hl] at this
            simp at this
            have := h2.2.2 y (List.mem_of_getLast? hl) x (by simp)
            omega
      exact key ss ok.2.1 ok.2.2
    · cases hl : ss.getLast? with
      | none => simp
      | some y => simp; exact (ok.2.1 y (List.mem_of_getLast? hl)).1.2
end Go.Proofs.Ytehdchpolgihlaa

/- UpOf by the last '/', Extends by bytes, a name put together of its steps. Nothing of the program. -/
namespace Go.Proofs.Ytehdchpolgihlaa
open Go.RowKit
set_option linter.unusedSectionVars false
variable [∀ (a b c d : Int), Decidable (Ok4 a b c d)]
variable [∀ (a b c d : Nat), Decidable (okN a b c d)]
variable [∀ (last : Int) (s : St), Decidable (GoodSt last s)]
variable [∀ (x : T4), Decidable (OkT x)]

/-- The place behind the last '/' tells UpOf. -/
theorem up_cut {s : ByteArray} {ss : List St} (h : stepsAns s = some ss) (k : Nat) (hk : k ≤ s.data.toList.length) (h1 : (47 : UInt8) ∉ s.data.toList.drop k) (h2 : k = 0 ∨ s.data.toList[k - 1]? = some 47) : toB (s.data.toList.take (k - 1)) = upAns s := by
  have hs := (names_iff _ _).1 h
  unfold upAns
  rw [h, Option.getD_some]
  by_cases hne : ss = []
  · subst hne
    have : s.data.toList = [] := hs.1
    rw [this]; simp [nm]
  · obtain ⟨ss', x, rfl⟩ : ∃ ss' x, ss = ss' ++ [x] := ⟨ss.dropLast, ss.getLast hne, (List.dropLast_concat_getLast _).symm⟩
    rw [List.dropLast_concat]
    have e := hs.1
    rw [nm_snoc] at e
    rcases h2 with rfl | h2
    · rw [List.drop_zero, e] at h1
      simp at h1
    · have hk0 : 0 < k := by
        cases k with
        | zero =>
          rw [List.drop_zero, e] at h1
          simp at h1
        | succ k => omega
      have hlt : k - 1 < s.data.toList.length := by omega
      have e3 : s.data.toList = s.data.toList.take (k - 1) ++ 47 :: s.data.toList.drop k := by
        conv => lhs; rw [← List.take_append_drop (k - 1) s.data.toList]
        congr 1
        rw [List.drop_eq_getElem_cons hlt, show k - 1 + 1 = k from by omega]
        congr 1
        rw [List.getElem?_eq_getElem hlt] at h2
        exact Option.some.inj h2
      have e4 := e3.symm.trans e
      rw [(last_slash h1 (stText_clean x) e4).1]
/-- The beginning of a list of steps, by the bytes of the names. -/
theorem nm_pre : ∀ (tt ss : List St), (∀ x ∈ tt, OkSt x) → (∀ x ∈ ss, OkSt x) → ∀ r, nm ss = nm tt ++ r → (r = [] ∨ ∃ q, r = 47 :: q) → tt <+: ss := by
  intro tt
  induction tt with
  | nil => intro ss _ _ r _ _; exact List.nil_prefix
  | cons x tt ih =>
    intro ss ht hs r h hr
    cases ss with
    | nil => simp [nm] at h
    | cons y ss =>
      have e : ∀ (z : St) (zs : List St), nm (z :: zs) = 47 :: (stText z ++ nm zs) := fun z zs => by simp [nm]
      rw [e, e, List.cons_append, List.append_assoc] at h
      have h' := List.tail_eq_of_cons_eq h
      have lead : ∀ (zs : List St) (q : List UInt8), (q = [] ∨ ∃ p, q = 47 :: p) → nm zs ++ q = [] ∨ ∃ p, nm zs ++ q = 47 :: p := fun zs q hq => by
        cases zs with
        | nil => simpa [nm] using hq
        | cons z zs => right; rw [e]; exact ⟨_, rfl⟩
      have cutAt : ∀ (a b p q : List UInt8), (47 : UInt8) ∉ a → (47 : UInt8) ∉ b → (p = [] ∨ ∃ p', p = 47 :: p') → (q = [] ∨ ∃ q', q = 47 :: q') → a ++ p = b ++ q → a = b ∧ p = q := by
        intro a b p q ha hb hp hq hab
        have f : ∀ (a p : List UInt8), (47 : UInt8) ∉ a → (p = [] ∨ ∃ p', p = 47 :: p') → hd 47 (a ++ p) = a := by
          intro a p ha hp
          rcases hp with rfl | ⟨p', rfl⟩
          · rw [List.append_nil]; exact hd_none ha
          · exact hd_some ha
        have e1 : a = b := by rw [← f a p ha hp, hab, f b q hb hq]
        subst e1
        exact ⟨rfl, List.append_cancel_left hab⟩
      have l1 := lead ss [] (.inl rfl)
      rw [List.append_nil] at l1
      obtain ⟨e1, e2⟩ := cutAt _ _ _ _ (stText_clean y) (stText_clean x) l1 (lead tt r hr) h'
      have exy : y = x := stText_inj (hs y (by simp)) (ht x (by simp)) e1
      subst exy
      exact (List.cons_prefix_cons).2 ⟨rfl, ih ss (fun z hz => ht z (by simp [hz])) (fun z hz => hs z (by simp [hz])) r e2 hr⟩
/-- Extends, as it is asked of the bytes. -/
def extL (l t : List UInt8) : Prop := t.length ≤ l.length ∧ l.take t.length = t ∧ (l.length = t.length ∨ l[t.length]? = some 47)
theorem ext_bytes {s t : ByteArray} {ss tt : List St} (hs : stepsAns s = some ss) (ht : stepsAns t = some tt) : extL s.data.toList t.data.toList ↔ tt <+: ss := by
  have a := (names_iff _ _).1 hs
  have b := (names_iff _ _).1 ht
  unfold extL
  rw [a.1, b.1]
  constructor
  · rintro ⟨h1, h2, h3⟩
    refine nm_pre tt ss b.2.2.1 a.2.2.1 ((nm ss).drop (nm tt).length) ?_ ?_
    · conv => lhs; rw [← List.take_append_drop (nm tt).length (nm ss)]
      rw [h2]
    · rcases h3 with h3 | h3
      · left; rw [List.drop_of_length_le (by omega)]
      · right
        have hlt : (nm tt).length < (nm ss).length := (List.getElem?_eq_some_iff.1 h3).1
        rw [List.drop_eq_getElem_cons hlt]
        rw [List.getElem?_eq_getElem hlt] at h3
        exact ⟨_, by rw [Option.some.inj h3]⟩
  · rintro ⟨r, rfl⟩
    rw [nm_append]
    refine ⟨by simp, by simp, ?_⟩
    cases r with
    | nil => left; simp [nm]
    | cons x r =>
      right
      rw [List.getElem?_append_right (Nat.le_refl _), Nat.sub_self]
      simp [nm]
/-- What Extends answers. -/
def extB (s t : ByteArray) : Bool := match stepsAns s, stepsAns t with
  | some ss, some tt => tt.isPrefixOf ss
  | _, _ => false
theorem extB_iff (s t : ByteArray) : extB s t = true ↔ Ext s t := by
  unfold extB Ext
  cases hs : stepsAns s with
  | none => simp
  | some ss =>
    cases ht : stepsAns t with
    | none => simp
    | some tt => simp
theorem extB_bytes (s t : ByteArray) : extB s t = true ↔ (stepsAns s).isSome = true ∧ (stepsAns t).isSome = true ∧ extL s.data.toList t.data.toList := by
  rw [extB_iff]
  constructor
  · rintro ⟨ss, tt, hs, ht, h⟩
    exact ⟨by rw [hs]; rfl, by rw [ht]; rfl, (ext_bytes hs ht).2 h⟩
  · rintro ⟨h1, h2, h3⟩
    obtain ⟨ss, hs⟩ := Option.isSome_iff_exists.1 h1
    obtain ⟨tt, ht⟩ := Option.isSome_iff_exists.1 h2
    exact ⟨ss, tt, hs, ht, (ext_bytes hs ht).1 h3⟩
/-- A name put together of its steps, one behind the other. -/
theorem name_back {s : ByteArray} {ss : List St} (h : stepsAns s = some ss) (k : Nat) (hk : k < ss.length) : nameAns (toB (nm (ss.take k))) (ss.getD k zst).1 (ss.getD k zst).2 = toB (nm (ss.take (k + 1))) := by
  have ok := ((names_iff _ _).1 h).2
  have e : ss.take (k + 1) = ss.take k ++ [ss.getD k zst] := by
    rw [List.take_succ_eq_append_getElem hk, List.getD_eq_getElem?_getD, List.getElem?_eq_getElem hk]; rfl
  have o1 : OkSts (ss.take (k + 1)) := by
    rw [← List.take_append_drop (k + 1) ss] at ok
    exact ok.pre
  have o0 : OkSts (ss.take k) := by rw [e] at o1; exact o1.pre
  rw [e] at o1 ⊢
  exact name_made (names_nm o0) o1
theorem name_whole {s : ByteArray} {ss : List St} (h : stepsAns s = some ss) : toB (nm (ss.take ss.length)) = s := by
  rw [List.take_of_length_le (Nat.le_refl _), ← ((names_iff _ _).1 h).1, toB_data]
/-- How long a name is at most. -/
theorem txsT_len2 (ts : List T4) (h : ts.length ≤ 2) : (txsT ts).size ≤ 56 := by
  unfold txsT
  split
  · rw [toB_size]
    have := accT_len ts ts.length
    omega
  · exact Nat.zero_le _
end Go.Proofs.Ytehdchpolgihlaa

/- spec.NameOk, Height, ViewOf. -/
namespace Go.Proofs.Ytehdchpolgihlaa
open Go.RowKit
set_option linter.unusedSectionVars false
variable [∀ (a b c d : Int), Decidable (Ok4 a b c d)]
variable [∀ (a b c d : Nat), Decidable (okN a b c d)]
variable [∀ (last : Int) (s : St), Decidable (GoodSt last s)]
variable [∀ (x : T4), Decidable (OkT x)]

set_option maxHeartbeats 8000000 in
set_option maxRecDepth 100000 in
theorem specNameOk (s : ByteArray) (w : World) (hs : s.size ≤ 33554432) :
    Calls Try.prog 72 #[.string s] w fun e w' => e = .returned (.bool (stepsAns s).isSome) ∧ Below w.heap.size w w' := by
  have ST := hide fun w => specSteps s w hs
  generalize stepsAns s = A at *
  go_enter Try.func72, Try.ntmps72
  go_wp2_with fail
  refine (unhide ST _).mono ?_
  rintro e w1 ⟨v, rfl, _, b1⟩
  go_wp2
  go_ret
  exact ⟨rfl, b1⟩

set_option maxHeartbeats 8000000 in
set_option maxRecDepth 100000 in
theorem specViewOf (s : ByteArray) (w : World) (hs : s.size ≤ 33554432) :
    Calls Try.prog 59 #[.string s] w fun e w' => e = .returned (.int .i64 (viewAns s)) ∧ Below w.heap.size w w' := by
  have ST := hide fun w => specSteps s w hs
  have hl : ∀ ss, stepsAns s = some ss → ss.length ≤ 30 ∧ ∀ x ∈ ss, OkSt x := fun ss h => ⟨((names_iff _ _).1 h).2.1, ((names_iff _ _).1 h).2.2.1⟩
  unfold viewAns
  generalize stepsAns s = A at *
  go_enter Try.func59, Try.ntmps59
  go_wp2_with fail
  refine (unhide ST _).mono ?_
  rintro e w1 ⟨v, rfl, o1, b1⟩
  cases A with
  | none =>
    obtain ⟨ao, ca, rfl⟩ := o1.form
    clear o1 ST hl
    go_wp2
    go_ret
    exact ⟨rfl, b1⟩
  | some ss =>
    obtain ⟨hl, hok⟩ := hl ss rfl
    obtain ⟨ao, ca, hv, r⟩ := o1.rst (fun x hx => by have := (hok x hx).2.1; omega)
    subst hv
    clear o1 ST hok
    simp only [Option.getD_some] at *
    rcases r with rfl | ⟨g, rfl, r⟩
    · go_wp2
      go_ret
      exact ⟨rfl, b1⟩
    · by_cases h0 : ss.length = 0
      · obtain rfl := List.length_eq_zero_iff.1 h0
        go_wp2
        go_ret
        exact ⟨rfl, b1⟩
      · obtain ⟨n, hn⟩ : ∃ n, ss.length = n + 1 := ⟨ss.length - 1, by omega⟩
        obtain ⟨u, c0, c1, _⟩ := r n (by omega)
        have hlast := hide (show (ss.getLast?.map (·.1)).getD 0 = (ss.getD n zst).1 by
          rw [List.getLast?_eq_getElem?, List.getD_eq_getElem?_getD, List.getElem?_eq_getElem (show ss.length - 1 < ss.length by omega), List.getElem?_eq_getElem (show n < ss.length by omega)]
          simp [hn])
        have hi : ((n + 1 : Nat) : Int) - 1 = n := by omega
        generalize (ss.getD n zst).1 = x at *
        clear r h0
        go_wp2
        go_ret
        exact ⟨by rw [show ((some ss).getD []) = ss from rfl, unhide hlast]; rfl, b1⟩

end Go.Proofs.Ytehdchpolgihlaa

/- spec.NameOf. -/
namespace Go.Proofs.Ytehdchpolgihlaa
open Go.RowKit
set_option linter.unusedSectionVars false
variable [∀ (a b c d : Int), Decidable (Ok4 a b c d)]
variable [∀ (a b c d : Nat), Decidable (okN a b c d)]
variable [∀ (last : Int) (s : St), Decidable (GoodSt last s)]
variable [∀ (x : T4), Decidable (OkT x)]

theorem itoa_seven (n : Int) (h0 : -999999 ≤ n) (h1 : n ≤ 999999) : (Lib.itoa n).length ≤ 7 := by
  unfold Lib.itoa
  split
  · have := nDigits_six n.natAbs (by omega)
    rw [List.length_cons, Lib.decDigits_length]; omega
  · have := nDigits_six n.toNat (by omega)
    rw [Lib.decDigits_length]; omega
theorem itoa_short (n : Int) (h0 : -9223372036854775808 ≤ n) (h1 : n ≤ 9223372036854775807) : (Lib.itoa n).length ≤ 21 := by
  unfold Lib.itoa
  split
  · have := Lib.nDigits_le20 n.natAbs (by omega)
    rw [List.length_cons, Lib.decDigits_length]; omega
  · have := Lib.nDigits_le20 n.toNat (by omega)
    rw [Lib.decDigits_length]; omega
theorem txsT_len (ts : List T4) : (txsT ts).size ≤ ts.length * 28 := by
  unfold txsT
  split
  · rw [toB_size]; exact accT_len ts ts.length
  · exact Nat.zero_le _

set_option maxHeartbeats 8000000 in
set_option maxRecDepth 100000 in
theorem specNameOfW (up : ByteArray) (view : Int) (v : Value) (xs : List T4) (w : World) (hu : up.size + xs.length * 28 + 100 ≤ 33554432) (hx : xs.length ≤ 1048577) (h0 : -9223372036854775808 ≤ view) (h1 : view ≤ 9223372036854775807) (h : RT w v xs) :
    Calls Try.prog 74 #[.string up, .int .i64 view, v] w fun e w' => e = .returned (.string (nameAns up view xs)) ∧ Below w.heap.size w w' := by
  have DG := hide fun w => specDigits_any view w (by omega) (by omega)
  have TT := hide fun w h => specTxsText v xs w (by omega) h
  have RTH := hide h
  have NO := hide fun w => specNameOk (toB (nmOut up view xs)) w (by
    have := itoa_short view h0 h1
    have := txsT_len xs
    rw [toB_size]; unfold nmOut
    simp only [List.length_append, List.length_cons, Array.length_toList, ByteArray.size_data]
    omega)
  obtain ⟨hl, ao, ca, rfl, ha⟩ := h
  go_enter Try.func74, Try.ntmps74
  go_wp2
  go_loopw [7] (fun i wr => ∃ k : Nat, k ≤ xs.length ∧ i = .int .i64 k ∧ Hid (∀ j, j < k → OkT (xs.getD j (0, 0, 0, 0))) ∧ Below w.heap.size w wr) (fun i _ => xs.length - (intOf i).toNat)
  case atStart => exact ⟨0, Nat.zero_le _, rfl, hide (fun j hj => by omega), Below.refl _ _⟩
  case round =>
    obtain ⟨k, hk, rfl, HK, br⟩ := hrel
    have hsr := br.size
    by_cases hlt : k < xs.length
    · rcases ha with ha | ⟨g, rfl, ha⟩
      · subst ha; simp at hlt
      obtain ⟨a0, a1, a2, a3⟩ := ha k hlt
      have hg : g < w.heap.size := cell_lt a0
      have c0 := (br.cell (p := ⟨g, k * 4, none⟩) hg).trans a0
      have c1 := (br.cell (p := ⟨g, k * 4 + 1, none⟩) hg).trans a1
      have c2 := (br.cell (p := ⟨g, k * 4 + 2, none⟩) hg).trans a2
      have c3 := (br.cell (p := ⟨g, k * 4 + 3, none⟩) hg).trans a3
      have HNO : Hid (¬ OkT (xs.getD k (0, 0, 0, 0)) → nameAns up view xs = ⟨#[]⟩) := hide fun h => if_neg fun h2 => h (h2.1 _ (by rw [List.getD_eq_getElem?_getD, List.getElem?_eq_getElem hlt]; exact List.getElem_mem hlt))
      clear ha a0 a1 a2 a3
      generalize hxk : xs.getD k (0, 0, 0, 0) = x at *
      obtain ⟨xa, xb, xc, xd⟩ := x
      simp only at c0 c1 c2 c3
      by_cases hok : OkT (xa, xb, xc, xd)
      · have CK := hide fun w => specTxOk_yes xa xb xc xd w hok
        have HK' : Hid (∀ j, j < k + 1 → OkT (xs.getD j (0, 0, 0, 0))) := fun j hj => by
          by_cases e : j = k
          · subst e; rw [hxk]; exact hok
          · exact HK.out j (by omega)
        clear HK HNO hok hxk
        go_wp2_with fail
        refine (unhide CK _).mono ?_
        rintro e w1 ⟨rfl, b1⟩
        have b1' := br.trans (b1.mono hsr)
        clear c0 c1 c2 c3 b1 CK
        go_wp2
        go_roundw
        case rel => exact ⟨k + 1, by omega, by go_num, HK', b1'⟩
        case measure => simp [intOf]; omega
      · have CK := hide fun w => specTxOk_no xa xb xc xd w hok
        have HNO := hide (unhide HNO hok)
        clear HK hok hxk
        go_wp2_with fail
        refine (unhide CK _).mono ?_
        rintro e w1 ⟨rfl, b1⟩
        have b1' := br.trans (b1.mono hsr)
        clear c0 c1 c2 c3 b1 CK
        go_wp2
        go_ret
        exact ⟨by rw [unhide HNO]; rfl, b1'⟩
    · obtain rfl : k = xs.length := by omega
      have HA : Hid (∀ x ∈ xs, OkT x) := hide fun x hx => by
        obtain ⟨j, hj, rfl⟩ := List.getElem_of_mem hx
        have := HK.out j hj
        rwa [List.getD_eq_getElem?_getD, List.getElem?_eq_getElem hj] at this
      clear HK ha
      have NA : Hid (nameAns up view xs = if (stepsAns (toB (nmOut up view xs))).isSome then toB (nmOut up view xs) else ⟨#[]⟩) := hide (by
        unfold nameAns
        by_cases hq : (stepsAns (toB (nmOut up view xs))).isSome = true
        · rw [if_pos ⟨unhide HA, hq⟩, if_pos hq]
        · rw [if_neg fun e => hq e.2, if_neg hq])
      have EQ : up ++ (⟨#[47]⟩ : ByteArray) ++ (⟨(Lib.itoa view).toArray⟩ : ByteArray) ++ (⟨#[124]⟩ : ByteArray) ++ txsT xs = toB (nmOut up view xs) := by
        apply ba_ext
        rw [toB_list]
        simp [nmOut, ByteArray.data_append]
      have hd : (⟨(Lib.itoa view).toArray⟩ : ByteArray).size ≤ 21 := by
        have := itoa_short view h0 h1
        simpa [ByteArray.size] using this
      have hts := txsT_len xs
      obtain ⟨z, hz⟩ : ∃ z, toB (nmOut up view xs) = z := ⟨_, rfl⟩
      rw [hz] at NA NO EQ
      generalize (⟨(Lib.itoa view).toArray⟩ : ByteArray) = d at *
      generalize txsT xs = tt at *
      obtain ⟨b, hb⟩ : ∃ b, (stepsAns z).isSome = b := ⟨_, rfl⟩
      rw [hb] at NA NO
      clear hz hb HA
      have q1 : ∀ w, (Op.stringOp .add (up ++ (⟨#[47]⟩ : ByteArray)) d).run Try.prog w = .ok (.string (up ++ (⟨#[47]⟩ : ByteArray) ++ d)) w := fun w => run_string_add_sum w _ _ (by simp [ByteArray.size_append]; show up.size + 1 + d.size ≤ _; omega)
      have q2 : ∀ w, (Op.stringOp .add (up ++ (⟨#[47]⟩ : ByteArray) ++ d) (⟨#[124]⟩ : ByteArray)).run Try.prog w = .ok (.string (up ++ (⟨#[47]⟩ : ByteArray) ++ d ++ (⟨#[124]⟩ : ByteArray))) w := fun w => run_string_add_sum w _ _ (by simp [ByteArray.size_append]; show up.size + 1 + d.size + 1 ≤ _; omega)
      have q3 : ∀ w, (Op.stringOp .add (up ++ (⟨#[47]⟩ : ByteArray) ++ d ++ (⟨#[124]⟩ : ByteArray)) tt).run Try.prog w = .ok (.string z) w := fun w => by
        rw [run_string_add_sum w _ _ (by simp [ByteArray.size_append]; show up.size + 1 + d.size + 1 + tt.size ≤ _; omega), EQ]
      clear EQ
      go_wp2_with fail
      refine (unhide DG _).mono ?_
      rintro e w1 ⟨rfl, b1⟩
      have B1 := br.trans (b1.mono hsr)
      clear b1 DG
      generalize up ++ (⟨#[47]⟩ : ByteArray) = a1 at *
      generalize a1 ++ d = a2 at *
      generalize a2 ++ (⟨#[124]⟩ : ByteArray) = a3 at *
      go_wp2_with fail
      refine (unhide TT _ ((unhide RTH).below B1)).mono ?_
      rintro e w2 ⟨rfl, b2⟩
      have B2 := B1.trans (b2.mono B1.size)
      clear b2 TT
      go_wp2_with fail
      refine (unhide NO _).mono ?_
      rintro e w3 ⟨rfl, b3⟩
      have B3 := B2.trans (b3.mono B2.size)
      clear b3 NO
      cases b with
      | true =>
        go_wp2
        go_ret
        exact ⟨by rw [unhide NA]; rfl, B3⟩
      | false =>
        go_wp2
        go_ret
        exact ⟨by rw [unhide NA]; rfl, B3⟩
theorem specNameOf (up : ByteArray) (view : Int) (v : Value) (xs : List T4) (w : World) (hu : up.size + xs.length * 28 + 100 ≤ 1000000) (h0 : -999999 ≤ view) (h1 : view ≤ 999999) (h : RT w v xs) :
    Calls Try.prog 74 #[.string up, .int .i64 view, v] w fun e w' => e = .returned (.string (nameAns up view xs)) ∧ Below w.heap.size w w' :=
  specNameOfW up view v xs w (by omega) (by omega) (by omega) (by omega) h
end Go.Proofs.Ytehdchpolgihlaa

/- The draws of names: spec.l5DrawRight, l5Draw. -/
namespace Go.Proofs.Ytehdchpolgihlaa
open Go.RowKit
set_option linter.unusedSectionVars false
variable [∀ (a b c d : Int), Decidable (Ok4 a b c d)]
variable [∀ (a b c d : Nat), Decidable (okN a b c d)]
variable [∀ (x : T4), Decidable (OkT x)]
variable [∀ (last : Int) (s : St), Decidable (GoodSt last s)]

theorem grown_of_below {B : Nat} {w w' : World} (b : Below B w w') (h : B = w.heap.size) : w.grownBy w' none := by subst h; exact ⟨b.os, b.tape, b.output, b.size, fun k hk _ => b.block k hk⟩
theorem nm_len (ss : List St) (h : ∀ s ∈ ss, OkSt s) : (nm ss).length ≤ ss.length * 64 := by
  induction ss with
  | nil => simp [nm]
  | cons s ss ih =>
    have h1 := h s (by simp)
    have h2 := ih fun x hx => h x (by simp [hx])
    have h3 := txsT_len2 s.2 h1.2.1
    have h4 := nDigits_six s.1.toNat (by have := h1.1; omega)
    have e : nm (s :: ss) = 47 :: stText s ++ nm ss := by simp [nm]
    rw [e, List.length_append, List.length_cons, List.length_cons]
    unfold stText
    rw [List.length_append, List.length_cons, Lib.decDigits_length]
    have e2 : (txsT s.2).data.toList.length = (txsT s.2).size := by simp
    omega
theorem name_len {s : ByteArray} (h : (stepsAns s).isSome = true) : s.size ≤ 1920 := by
  cases hs : stepsAns s with
  | none => rw [hs] at h; cases h
  | some ss =>
    obtain ⟨h1, h2⟩ := (names_iff _ _).1 hs
    have h3 := nm_len ss h2.2.1
    have h4 := h2.1
    have e : s.size = s.data.toList.length := by simp
    rw [e, h1]; omega
theorem nameAns_len (up : ByteArray) (view : Int) (ts : List T4) : (nameAns up view ts).size ≤ 1920 := by
  unfold nameAns
  split
  · rename_i h; exact name_len h.2
  · exact Nat.zero_le _

set_option maxHeartbeats 8000000 in
set_option maxRecDepth 100000 in
theorem drawNameR (base g ca : Nat) (ao : Option Addr) (xs : List Int) (w : World) (hB : base ≤ w.heap.size) (h : Cur w base g ao ca xs) :
    Calls Try.prog 58 #[.pointer (some ⟨g, 0, none⟩)] w fun e w' => ∃ s : ByteArray, e = .returned (.string s) ∧ s.size ≤ 1920 ∧ Cur w' base g ao ca xs ∧ w.grownBy w' (some g) := by
  obtain ⟨i0, hi, hz0, hz1, hz2⟩ := info_parts Try.infoTx
  have hlt := h.lt
  have H0 := hide h
  clear h
  go_enter Try.func58, Try.ntmps58
  go_wp2
  go_loopw [3, 4, 5] (fun sv vv iv wr => ∃ (i : Nat) (view : Int) (s : ByteArray), i ≤ 6 ∧ iv = .int .i64 i ∧ vv = .int .i64 view ∧ 0 ≤ view ∧ view ≤ 3 * i ∧ sv = .string s ∧ s.size ≤ 1920 ∧ Cur wr base g ao ca xs ∧ w.grownBy wr (some g)) (fun _ _ iv _ => 7 - (intOf iv).toNat)
  case atStart => exact ⟨0, 0, ⟨#[]⟩, by omega, rfl, rfl, by omega, by omega, rfl, by decide, unhide H0, grown_refl _ _⟩
  case round =>
    clear H0
    obtain ⟨i, view, s, hi6, rfl, rfl, v0, v1, rfl, hs, hc, hg⟩ := hrel
    have hsz := hg.size
    have P := hide (And.intro hc hg)
    clear hc hg
    go_wp2_with fail
    refine (below_any base g ca ao xs 6 _ (by omega) (by omega) (by omega) (unhide P).1).mono ?_
    rintro e w1 ⟨n, rfl, _, n1, c1, e1⟩
    have s1 := e1.size
    have P1 := hide (And.intro c1 (grown_trans (unhide P).2 e1))
    clear P c1 e1
    by_cases hin : (i : Int) < n
    · go_wp2_with fail
      refine (below_any base g ca ao xs 4 _ (by omega) (by omega) (by omega) (unhide P1).1).mono ?_
      rintro e w2 ⟨q, rfl, q0, q1, c2, e2⟩
      have s2 := e2.size
      have P2 := hide (And.intro c2 (grown_trans (unhide P1).2 e2))
      clear P1 c2 e2
      have hqd : 0 ≤ q.tdiv 3 ∧ q.tdiv 3 ≤ 1 := by rw [Int.tdiv_eq_ediv_of_nonneg q0]; omega
      have hqe : 0 ≤ q / 3 ∧ q / 3 ≤ 1 := by omega
      have hw2 : w.heap.size ≤ w2.heap.size := by omega
      go_wp2
      go_loopw [6, 7] (fun lv kv w3 => ∃ (k : Nat) (ys : List T4), k ≤ 3 ∧ kv = .int .i64 k ∧ ys.length = k ∧ OT w3 w2.heap.size lv ys ∧ Cur w3 base g ao ca xs ∧ w.grownBy w3 (some g) ∧ w2.heap.size ≤ w3.heap.size) (fun _ kv _ => 4 - (intOf kv).toNat)
      case atStart => exact ⟨0, [], by omega, rfl, rfl, World.ownsRow_lit w2 #[] 0 (Nat.le_refl _) (by unfold maxLen; omega) rfl, (unhide P2).1.alloc (by omega) _, grown_trans (unhide P2).2 (World.grownBy_alloc _ _ _), by simp⟩
      case round =>
        clear P2
        obtain ⟨k, ys, hk, rfl, hyl, ho, hc, hg, hz⟩ := hrel
        have P := hide (And.intro ho (And.intro hc hg))
        clear ho hc hg
        go_wp2_with fail
        refine (below_any base g ca ao xs 3 _ (by omega) (by omega) (by omega) (unhide P).2.1).mono ?_
        rintro e w4 ⟨m, rfl, _, m1, c4, e4⟩
        have s4 := e4.size
        have P4 := hide (And.intro ((unhide P).1.grown e4 (by omega)) (And.intro c4 (grown_trans (unhide P).2.2 e4)))
        clear P c4 e4
        by_cases hkm : (k : Int) < m
        · go_wp2_with fail
          refine (drawRight base g ca ao xs _ (by omega) (unhide P4).2.1).mono ?_
          rintro e w5 ⟨a, b, c, d, rfl, c5, e5⟩
          have s5 := e5.size
          have ho5 := ot_alloc ((unhide P4).1.grown e5 (by omega)) (.cells #[.int .i64 a, .int .i64 b, .int .i64 c, .int .i64 d] 97)
          have hc5 := c5.alloc (by omega) (.cells #[.int .i64 a, .int .i64 b, .int .i64 c, .int .i64 d] 97)
          have hg5 := grown_trans (grown_trans (unhide P4).2.2 e5) (World.grownBy_alloc w5 (.cells #[.int .i64 a, .int .i64 b, .int .i64 c, .int .i64 d] 97) (some g))
          clear P4 c5 e5
          go_wp2_with (first
            | (at_builtin; refine wpList_append_own _ rfl _ _ 95 rfl w2.heap.size 97 i0 (txv 0 0 0 0) 4 32 Try.underlying95 hi hz0 hz1 hz2 rfl (by decide) _ _ _ rfl ho5 ⟨w5.heap.size, 0, none⟩ 1 1 (tcell (a, b, c, d)) rfl rfl (four_cell w5 (a, b, c, d) 97) (four_plain _) (by unfold maxLen; omega) (by omega) (by simp; omega) ?_; intro v' w6 ho' hg' _; have hl2 := ho5.lt; have R := (show OT w6 w2.heap.size v' (ys ++ [(a, b, c, d)]) by unfold OT; rw [tcells_append, List.length_append]; simpa [tcells] using ho'); have RC := hc5.grownNew hg' (fun j e => by have := (hl2 j e).1; omega); have RG := grown_new hg5 hg' (fun j e => by have := (hl2 j e).1; omega); have SZ : w2.heap.size ≤ w6.heap.size := (by have := hg'.size; simp at this; omega); clear ho5 ho' hg' hg5 hc5 hl2))
          go_roundw
          case rel => exact ⟨k + 1, _, by omega, by go_num, by simp [hyl], R, RC, RG, SZ⟩
          case measure => simp [intOf]; omega
        · have hd : decide ((k : Int) < m) = false := by simpa using hkm
          have hrt := (unhide P4).1.rt (by omega)
          have NM := hide fun vw h0 h1 => specNameOf s vw _ ys w4 (by omega) h0 h1 hrt
          clear hrt
          go_wp2_with fail
          refine (unhide NM _ (by omega) (by omega)).mono ?_
          rintro e w5 ⟨rfl, b5⟩
          have hn := nameAns_len s (view + 1 + q.tdiv 3) ys
          have c5 := (unhide P4).2.1.grownNew (grown_of_below b5 rfl) (fun j e => by cases e)
          have g5 := grown_new (unhide P4).2.2 (grown_of_below b5 rfl) (fun j e => by cases e)
          have H5 := hide (And.intro c5 g5)
          clear NM P4 b5 c5 g5
          go_wp2
          go_roundw
          case rel => exact ⟨i + 1, _, _, by omega, by go_num, rfl, by omega, by omega, rfl, by assumption, (unhide H5).1, (unhide H5).2⟩
          case measure => simp [intOf]; omega
    · have hd : decide ((i : Int) < n) = false := by simpa using hin
      go_wp2
      go_ret
      exact ⟨_, rfl, hs, (unhide P1).1, (unhide P1).2⟩

set_option maxHeartbeats 8000000 in
set_option maxRecDepth 100000 in
theorem drawName (base g ca : Nat) (ao : Option Addr) (xs : List Int) (w : World) (hB : base ≤ w.heap.size) (h : Cur w base g ao ca xs) :
    Calls Try.prog 64 #[.pointer (some ⟨g, 0, none⟩)] w fun e w' => ∃ s : ByteArray, e = .returned (.string s) ∧ s.size ≤ 8001 ∧ Cur w' base g ao ca xs ∧ w.grownBy w' (some g) := by
  have hlt := h.lt
  have H0 := hide h
  clear h
  go_enter Try.func64, Try.ntmps64
  go_wp2_with fail
  refine (once_any base g ca ao xs 20 _ (by omega) (by omega) (by omega) (unhide H0)).mono ?_
  rintro e w1 ⟨b, rfl, c1, e1⟩
  have s1 := e1.size
  have P1 := hide (And.intro c1 e1)
  clear H0 c1 e1
  cases b with
  | true =>
    go_wp2
    go_loopw [3, 4] (fun sv iv wr => ∃ (i : Nat) (s : ByteArray), 1 ≤ i ∧ i ≤ 32 ∧ iv = .int .i64 i ∧ sv = .string s ∧ s.size ≤ i * 8 ∧ Cur wr base g ao ca xs ∧ w.grownBy wr (some g)) (fun _ iv _ => 33 - (intOf iv).toNat)
    case atStart => exact ⟨1, ⟨#[]⟩, by omega, by omega, by go_num, rfl, by decide, (unhide P1).1, (unhide P1).2⟩
    case round =>
      clear P1
      obtain ⟨i, s, hi1, hi2, rfl, rfl, hs, hc, hg⟩ := hrel
      have hsz := hg.size
      have P := hide (And.intro hc hg)
      clear hc hg
      go_wp2_with fail
      refine (below_any base g ca ao xs 2 _ (by omega) (by omega) (by omega) (unhide P).1).mono ?_
      rintro e w2 ⟨n, rfl, n0, n1, c2, e2⟩
      have s2 := e2.size
      have P2 := hide (And.intro c2 (grown_trans (unhide P).2 e2))
      clear P c2 e2
      by_cases hin : (i : Int) ≤ 30 + n
      · have DG := hide fun w => specDigits_any (i : Int) w (by omega) (by omega)
        have hd : (⟨(Lib.itoa (i : Int)).toArray⟩ : ByteArray).size ≤ 6 := dg_size (i : Int) (by omega) (by omega)
        generalize (⟨(Lib.itoa (i : Int)).toArray⟩ : ByteArray) = d at *
        obtain ⟨y1, hy1⟩ : ∃ y, y = s ++ (⟨#[47]⟩ : ByteArray) := ⟨_, rfl⟩
        obtain ⟨y2, hy2⟩ : ∃ y, y = y1 ++ d := ⟨_, rfl⟩
        obtain ⟨y3, hy3⟩ : ∃ y, y = y2 ++ (⟨#[124]⟩ : ByteArray) := ⟨_, rfl⟩
        have z1 : y1.size = s.size + 1 := by rw [hy1, ByteArray.size_append]; rfl
        have z2 : y2.size = y1.size + d.size := by rw [hy2, ByteArray.size_append]
        have z3 : y3.size = y2.size + 1 := by rw [hy3, ByteArray.size_append]; rfl
        have q1 : ∀ w', (Op.stringOp .add s (⟨#[47]⟩ : ByteArray)).run Try.prog w' = .ok (.string y1) w' := (fun w' => by rw [hy1]; exact run_string_add_sum w' _ _ (by show s.size + 1 ≤ _; omega))
        have q2 : ∀ w', (Op.stringOp .add y1 d).run Try.prog w' = .ok (.string y2) w' := (fun w' => by rw [hy2]; exact run_string_add_sum w' _ _ (by omega))
        have q3 : ∀ w', (Op.stringOp .add y2 (⟨#[124]⟩ : ByteArray)).run Try.prog w' = .ok (.string y3) w' := (fun w' => by rw [hy3]; exact run_string_add_sum w' _ _ (by show y2.size + 1 ≤ _; omega))
        clear hy1 hy2 hy3
        go_wp2_with fail
        refine (unhide DG _).mono ?_
        rintro e w3 ⟨rfl, b3⟩
        have c3 := (unhide P2).1.grownNew (grown_of_below b3 rfl) (fun j e => by cases e)
        have g3 := grown_new (unhide P2).2 (grown_of_below b3 rfl) (fun j e => by cases e)
        have H3 := hide (And.intro c3 g3)
        clear DG P2 b3 c3 g3
        go_wp2
        go_roundw
        case rel => exact ⟨i + 1, y3, by omega, by omega, by go_num, rfl, by omega, (unhide H3).1, (unhide H3).2⟩
        case measure => simp [intOf]; omega
      · have hd : decide ((i : Int) ≤ 30 + n) = false := by simpa using hin
        go_wp2
        go_ret
        exact ⟨_, rfl, by omega, (unhide P2).1, (unhide P2).2⟩
  | false =>
    go_wp2_with fail
    refine (drawNameR base g ca ao xs _ (by omega) (unhide P1).1).mono ?_
    rintro e w2 ⟨s, rfl, hs, c2, e2⟩
    have s2 := e2.size
    have P2 := hide (And.intro c2 (grown_trans (unhide P1).2 e2))
    clear P1 c2 e2
    go_wp2_with fail
    refine (dent_cur base g ca ao xs s _ (by omega) (by omega) (unhide P2).1).mono ?_
    rintro e w3 ⟨t, rfl, ht, c3, e3⟩
    have P3 := hide (And.intro c3 (grown_trans (unhide P2).2 e3))
    clear P2 c3 e3
    go_wp2
    go_ret
    exact ⟨_, rfl, ht, (unhide P3).1, (unhide P3).2⟩
end Go.Proofs.Ytehdchpolgihlaa

/- The cursor of the draws: spec.l1New, l1Byte, l1Below, l1Once, l1Pick, l1PickInt. -/
namespace Go.Proofs.Ytehdchpolgihlaa
open Go.RowKit

end Go.Proofs.Ytehdchpolgihlaa
