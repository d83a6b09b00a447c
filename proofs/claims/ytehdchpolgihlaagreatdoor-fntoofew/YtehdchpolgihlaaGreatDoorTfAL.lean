/- Texts that belong together: NamesPlain, NamesPlain2, NamesPlain3, SpecNames, QcSame, HeldBy, QcLater. -/
import Derived.Test.YtehdchpolgihlaaGreatDoorTfAJ
import Derived.Test.YtehdchpolgihlaaGreatDoorTfAK
import Derived.Test.YtehdchpolgihlaaGreatDoorTfAH
import Derived.Test.YtehdchpolgihlaaGreatDoorTfAB
import Derived.BigQuiet
import Derived.Deep.RegionHeld3
import Derived.Below
import Derived.Test.YtehdchpolgihlaaGreatDoorTfAA
import Derived.Deep.RegionWith
import Derived.Deep.RegionLaw
import Derived.Deep.DeepCutAuto
import Derived.Laws.CopyOwn
/- Names and their steps: a name is the texts of its steps, one behind the other. Nothing of the program. -/
namespace Go.Proofs.YtehdchpolgihlaaGreatDoor
open Go.RowKit
set_option linter.unusedSectionVars false
variable [∀ (a b c d : Int), Decidable (Ok4 a b c d)]
variable [∀ (a b c d : Nat), Decidable (okN a b c d)]
variable [∀ (last : Int) (s : St), Decidable (GoodSt last s)]
variable [∀ (x : T4), Decidable (OkT x)]

/-- Texts with a byte between. -/
def jb (b : UInt8) : List (List UInt8) → List UInt8
  | [] => []
  | [p] => p
  | p :: q :: r => p ++ b :: jb b (q :: r)
theorem jb_flat (b : UInt8) (p : List UInt8) (ps : List (List UInt8)) : jb b (p :: ps) = p ++ ps.flatMap (fun t => b :: t) := by
  induction ps generalizing p with
  | nil => simp [jb]
  | cons q ps ih => rw [jb, ih]; simp
theorem jb_snoc (b : UInt8) (ps : List (List UInt8)) (p : List UInt8) : jb b (ps ++ [p]) = (if 0 < ps.length then jb b ps ++ [b] else jb b ps) ++ p := by
  cases ps with
  | nil => simp [jb]
  | cons x ps => rw [List.cons_append, jb_flat, jb_flat]; simp
theorem jb_unique (b : UInt8) (ps qs : List (List UInt8)) (hp : ∀ p ∈ ps, b ∉ p) (hq : ∀ q ∈ qs, b ∉ q) (hn : ps ≠ []) (hm : qs ≠ []) (h : jb b ps = jb b qs) : ps = qs := by
  induction ps generalizing qs with
  | nil => exact absurd rfl hn
  | cons p ps ih =>
    cases qs with
    | nil => exact absurd rfl hm
    | cons q qs =>
      have hp0 := hp p (by simp)
      have hq0 := hq q (by simp)
      cases ps with
      | nil =>
        cases qs with
        | nil => simp [jb] at h; rw [h]
        | cons q' qs => simp only [jb] at h; rw [h] at hp0; simp at hp0
      | cons p' ps =>
        cases qs with
        | nil => simp only [jb] at h; rw [← h] at hq0; simp at hq0
        | cons q' qs =>
          simp only [jb] at h
          have e1 : p = q := by rw [← hd_some (y := jb b (p' :: ps)) hp0, h, hd_some hq0]
          have e2 : jb b (p' :: ps) = jb b (q' :: qs) := by rw [← tl_some (x := p) (y := jb b (p' :: ps)) hp0, h, tl_some hq0]
          rw [e1, ih (q' :: qs) (fun x hx => hp x (by simp at hx ⊢; exact .inr hx)) (fun x hx => hq x (by simp at hx ⊢; exact .inr hx)) (by simp) (by simp) e2]
theorem joinTo_jb (b : UInt8) (ps : List ByteArray) (k : Nat) (hk : k ≤ ps.length) : joinTo b ps k = jb b ((ps.take k).map fun s => s.data.toList) := by
  induction k with
  | zero => simp [joinTo, jb]
  | succ k ih =>
    rw [joinTo, ih (by omega), take_more ps k (by omega), List.map_append, List.map_singleton, jb_snoc]
    simp only [List.length_map, List.length_take]
    rw [show min k ps.length = k from by omega]
theorem pcs_cleanB (s : ByteArray) (b : UInt8) (k : Nat) (hk : k ≤ s.size) : (∀ p ∈ (pcs s b.toNat k).1, b ∉ p.data.toList) ∧ b ∉ (s.data.toList.drop (pcs s b.toNat k).2).take (k - (pcs s b.toNat k).2) := by
  induction k with
  | zero => simp [pcs]
  | succ k ih =>
    obtain ⟨h1, h2⟩ := ih (by omega)
    have hle := (pcs_le s b.toNat k).1
    by_cases hb : (s[k].toNat : Int) = b.toNat
    · rw [pcs_hit s b.toNat k (by omega) hb]
      refine ⟨fun p hp => ?_, by simp⟩
      rw [List.mem_append] at hp
      rcases hp with hp | hp
      · exact h1 p hp
      · simp at hp; rw [hp, ext_list]; exact h2
    · rw [pcs_miss s b.toNat k (by omega) hb]
      refine ⟨h1, ?_⟩
      exact not_mem_more (m := b) (l := s.data.toList) (n := (pcs s b.toNat k).2) (pos := k) (v := 1) hle h2 (fun j hj => by
        obtain rfl : j = 0 := by omega
        rw [Nat.add_zero, List.getElem?_eq_getElem (by simp; omega)]
        intro e
        have e' : s[k] = b := Option.some.inj e
        rw [e'] at hb; exact hb rfl)
theorem split_cleanB (s : ByteArray) (b : UInt8) : ∀ p ∈ splitAns s b.toNat, b ∉ p.data.toList := by
  intro p hp
  obtain ⟨h1, h2⟩ := pcs_cleanB s b s.size (Nat.le_refl _)
  unfold splitAns at hp
  rw [List.mem_append] at hp
  rcases hp with hp | hp
  · exact h1 p hp
  · simp at hp; rw [hp, ext_list]; exact h2
theorem split_jb (s : ByteArray) (b : UInt8) : jb b ((splitAns s b.toNat).map fun s => s.data.toList) = s.data.toList := by
  have := split_join s b
  rw [joinTo_jb b _ _ (Nat.le_refl _), List.take_of_length_le (Nat.le_refl _)] at this
  exact this
theorem split_neB (s : ByteArray) (b : Int) : splitAns s b ≠ [] := by unfold splitAns; simp
/-- What a text is split into, told from its parts. -/
theorem split_of (s : ByteArray) (b : UInt8) (ps : List (List UInt8)) (hn : ps ≠ []) (hp : ∀ p ∈ ps, b ∉ p) (h : s.data.toList = jb b ps) : (splitAns s b.toNat).map (fun s => s.data.toList) = ps := by
  refine jb_unique b _ _ (fun p hp' => ?_) hp (by simp [split_neB]) hn ((split_jb s b).trans h)
  obtain ⟨q, hq, rfl⟩ := List.mem_map.1 hp'
  exact split_cleanB s b q hq

/-- A step's text, and a name's. -/
def stText (s : St) : List UInt8 := Lib.decDigits s.1.toNat ++ 124 :: (txsT s.2).data.toList
def nm (ss : List St) : List UInt8 := ss.flatMap fun s => 47 :: stText s
/-- A step that may stand in a name. -/
def OkSt (s : St) : Prop := (1 ≤ s.1 ∧ s.1 ≤ 60) ∧ s.2.length ≤ 2 ∧ ∀ x ∈ s.2, OkT x
/-- Steps that make a name. -/
def OkSts (ss : List St) : Prop := ss.length ≤ 30 ∧ (∀ s ∈ ss, OkSt s) ∧ ss.Pairwise (fun a b => a.1 < b.1)
theorem txT_clean2 (x : T4) (m : UInt8) (h : m.toNat < 48 ∨ 57 < m.toNat) (h1 : m ≠ 62) (h2 : m ≠ 58) (h3 : m ≠ 35) : m ∉ (txT x).data.toList := by
  unfold txT txt
  obtain ⟨a, b, c, d⟩ := x
  by_cases ho : Ok4 a b c d
  · show m ∉ (if Ok4 a b c d then txs a b c d else (⟨#[]⟩ : ByteArray)).data.toList
    rw [if_pos ho]
    obtain ⟨a', b', c', d', rfl, rfl, rfl, rfl⟩ := ok_nat ho
    rw [txs_toB, toB_list]
    unfold txl
    have n := fun n => no_mark n m h
    simp [n, h1, h2, h3]
  · show m ∉ (if Ok4 a b c d then txs a b c d else (⟨#[]⟩ : ByteArray)).data.toList
    rw [if_neg ho]; simp
theorem txsT_clean (ts : List T4) (m : UInt8) (h : m.toNat < 48 ∨ 57 < m.toNat) (h1 : m ≠ 62) (h2 : m ≠ 58) (h3 : m ≠ 35) (h4 : m ≠ 44) : m ∉ (txsT ts).data.toList := by
  unfold txsT
  split
  · rw [toB_list]
    have : ∀ k, k ≤ ts.length → m ∉ accT ts k := by
      intro k
      induction k with
      | zero => intro _; simp [accT]
      | succ k ih =>
        intro hk
        have := ih (by omega)
        have c := txT_clean2 (ts.getD k (0, 0, 0, 0)) m h h1 h2 h3
        rw [accT]
        split <;> simp [this, h4] <;> simpa using c
    exact this ts.length (Nat.le_refl _)
  · simp
theorem stText_clean (s : St) : (47 : UInt8) ∉ stText s := by
  unfold stText
  have h1 := no_mark s.1.toNat 47 (by decide)
  have h2 := txsT_clean s.2 47 (by decide) (by decide) (by decide) (by decide) (by decide)
  simp [h1, h2]
theorem stepOf_some {p : ByteArray} {s : St} (h : stepOf p = some s) : p.data.toList = stText s ∧ (0 ≤ s.1) ∧ ∀ x ∈ s.2, OkT x := by
  unfold stepOf at h
  split at h
  · rename_i hm
    cases hn : numOf (hd 124 p.data.toList) with
    | none => rw [hn] at h; cases h
    | some n =>
      rw [hn] at h
      cases ht : txsAns (toB (tl 124 p.data.toList)) with
      | none => rw [ht] at h; cases h
      | some ts =>
        rw [ht] at h
        cases h
        obtain ⟨_, h2⟩ := numOf_some hn
        have h3 := txsAns_text ht
        have e : p.data.toList = hd 124 p.data.toList ++ 124 :: tl 124 p.data.toList := by
          unfold hd tl
          generalize p.data.toList = l at hm
          induction l with
          | nil => simp at hm
          | cons y l ih =>
            by_cases hy : y = 124
            · subst hy; simp
            · have hm' : (124 : UInt8) ∈ l := by rcases List.mem_cons.1 hm with e | e; exact absurd e.symm hy; exact e
              have := ih hm'
              simp only [List.takeWhile_cons, List.dropWhile_cons, bne_iff_ne, ne_eq, hy, not_false_eq_true, if_true]
              rw [List.cons_append, ← this]
        refine ⟨?_, by simp, ?_⟩
        · rw [e, ← h2]
          unfold stText
          rw [h3]
          simp [toB_list]
        · unfold txsAns at ht
          split at ht
          · cases ht; simp
          · exact (allTx_texts ht).2
  · cases h
theorem stepOf_text {p : ByteArray} {s : St} (h : OkSt s) (hp : p.data.toList = stText s) : stepOf p = some s := by
  obtain ⟨⟨h1, h2⟩, _, h3⟩ := h
  have c := no_mark s.1.toNat 124 (by decide)
  unfold stepOf
  rw [hp]
  have hm : (124 : UInt8) ∈ stText s := by unfold stText; simp
  rw [if_pos hm]
  have e1 : hd 124 (stText s) = Lib.decDigits s.1.toNat := by unfold stText; exact hd_some c
  have e2 : tl 124 (stText s) = (txsT s.2).data.toList := by unfold stText; exact tl_some c
  rw [e1, e2, numOf_of (by omega), toB_data, txsAns_of s.2 h3]
  obtain ⟨v, ts⟩ := s
  simp at h1 ⊢
  omega
/-- What the parts of a name say. -/
theorem run_texts (ps : List ByteArray) (q : Int × List St) (h : stepsRun ps = some q) : ps.map (fun p => p.data.toList) = q.2.map stText ∧ (∀ s ∈ q.2, OkSt s ∧ s.1 ≤ q.1) ∧ q.2.Pairwise (fun a b => a.1 < b.1) := by
  generalize hn : ps.length = n
  induction n generalizing ps q with
  | zero =>
    have : ps = [] := List.length_eq_zero_iff.1 hn
    subst this
    cases h
    simp
  | succ n ih =>
    obtain ⟨ps', p, rfl⟩ : ∃ ps' p, ps = ps' ++ [p] := ⟨ps.dropLast, ps.getLast (fun e => by rw [e] at hn; simp at hn), (List.dropLast_concat_getLast _).symm⟩
    rw [stepsRun_more] at h
    unfold stepAcc at h
    cases hr : stepsRun ps' with
    | none => rw [hr] at h; cases h
    | some q' =>
      rw [hr] at h
      cases hs : stepOf p with
      | none => rw [hs] at h; simp at h
      | some s =>
        rw [hs] at h
        simp only [Option.bind_some] at h
        split at h
        · rename_i hg
          cases h
          obtain ⟨i1, i2, i3⟩ := ih ps' q' hr (by simpa using hn)
          obtain ⟨_, o2, _, _⟩ := stepsRun_ok ps' q' hr
          obtain ⟨g1, g2, g3⟩ := hg
          obtain ⟨t1, t2, t3⟩ := stepOf_some hs
          refine ⟨by simp [i1, t1], fun y hy => ?_, ?_⟩
          · rcases List.mem_append.1 hy with hy | hy
            · exact ⟨(i2 y hy).1, by have := (i2 y hy).2; show y.1 ≤ s.1; omega⟩
            · simp at hy; subst hy
              exact ⟨⟨⟨by omega, g2⟩, g3, t3⟩, Int.le_refl _⟩
          · rw [List.pairwise_append]
            refine ⟨i3, by simp, fun a ha b hb => ?_⟩
            simp at hb; subst hb
            have := (i2 a ha).2
            omega
        · cases h
theorem run_of (ss : List St) (hok : ∀ s ∈ ss, OkSt s) (hpw : ss.Pairwise (fun a b => a.1 < b.1)) (ps : List ByteArray) (hp : ps.map (fun p => p.data.toList) = ss.map stText) : ∃ l, stepsRun ps = some (l, ss) ∧ ∀ x, (∀ s ∈ ss, s.1 < x) → 0 < x → l < x := by
  generalize hn : ss.length = n
  induction n generalizing ss ps with
  | zero =>
    have : ss = [] := List.length_eq_zero_iff.1 hn
    subst this
    have : ps = [] := by simpa using hp
    subst this
    exact ⟨0, rfl, fun x _ h => h⟩
  | succ n ih =>
    obtain ⟨ss', s, rfl⟩ : ∃ ss' s, ss = ss' ++ [s] := ⟨ss.dropLast, ss.getLast (fun e => by rw [e] at hn; simp at hn), (List.dropLast_concat_getLast _).symm⟩
    have hpl : ps.length = (ss' ++ [s]).length := by have := congrArg List.length hp; simpa using this
    obtain ⟨ps', p, rfl⟩ : ∃ ps' p, ps = ps' ++ [p] := ⟨ps.dropLast, ps.getLast (fun e => by rw [e] at hpl; simp at hpl), (List.dropLast_concat_getLast _).symm⟩
    rw [List.map_append, List.map_append] at hp
    obtain ⟨hp1, hp2⟩ := List.append_inj hp (by simp at hpl ⊢; exact hpl)
    rw [List.pairwise_append] at hpw
    obtain ⟨l, hl, hx⟩ := ih ss' (fun y hy => hok y (by simp [hy])) hpw.1 ps' hp1 (by simpa using hn)
    have hs := hok s (by simp)
    have hst := stepOf_text hs (p := p) (by simpa using hp2)
    have hlt : l < s.1 := hx s.1 (fun y hy => hpw.2.2 y hy s (by simp)) (by have := hs.1; omega)
    refine ⟨s.1, ?_, fun x h1 _ => h1 s (by simp)⟩
    rw [stepsRun_more, hl]
    unfold stepAcc
    simp only [Option.bind_some, hst]
    rw [if_pos (show GoodSt l s from ⟨hlt, hs.1.2, hs.2.1⟩)]
theorem nm_jb (ss : List St) : nm ss = jb 47 ([] :: ss.map stText) := by
  rw [jb_flat]; unfold nm; simp [List.flatMap_map]
/-- A text is a name just where it is the texts of right steps, and then these are its steps. -/
theorem names_iff (s : ByteArray) (ss : List St) : stepsAns s = some ss ↔ s.data.toList = nm ss ∧ OkSts ss := by
  unfold stepsAns
  by_cases hz : s = ⟨#[]⟩
  · rw [if_pos hz]
    subst hz
    constructor
    · intro h; cases h; exact ⟨rfl, by simp, by simp, by simp⟩
    · rintro ⟨h, _⟩
      cases ss with
      | nil => rfl
      | cons x ss => simp [nm] at h
  · rw [if_neg hz]
    have hj := split_jb s 47
    have e47 : ((47 : UInt8).toNat : Int) = 47 := rfl
    rw [e47] at hj
    constructor
    · intro h
      split at h
      · rename_i hc
        cases hr : stepsRun (splitAns s 47).tail with
        | none => rw [hr] at h; cases h
        | some q =>
          rw [hr] at h
          cases h
          obtain ⟨h1, h2, h3⟩ := run_texts _ q hr
          have hlen := (stepsRun_ok _ q hr).1
          cases hp : splitAns s 47 with
          | nil => exact absurd hp (split_neB s 47)
          | cons p ps =>
            rw [hp] at hc h1 hj hlen
            simp at hc
            refine ⟨?_, ?_, fun y hy => (h2 y hy).1, h3⟩
            · rw [← hj, nm_jb, List.map_cons, hc.1]
              simp only [List.tail_cons] at h1
              rw [h1]
            · show q.2.length ≤ 30
              simp at hlen
              omega
      · cases h
    · rintro ⟨h1, h2, h3, h4⟩
      have hne : ss ≠ [] := by
        rintro rfl
        apply hz
        apply ByteArray.ext
        apply Array.toList_inj.1
        rw [h1]; rfl
      have hsp := split_of s 47 ([] :: ss.map stText) (by simp) (fun p hp => by
        rcases List.mem_cons.1 hp with rfl | hp
        · simp
        · obtain ⟨y, _, rfl⟩ := List.mem_map.1 hp; exact stText_clean y) (by rw [h1, nm_jb])
      rw [e47] at hsp
      cases hp : splitAns s 47 with
      | nil => exact absurd hp (split_neB s 47)
      | cons p ps =>
        rw [hp] at hsp
        simp only [List.map_cons, List.cons.injEq] at hsp
        obtain ⟨l, hl, _⟩ := run_of ss h3 h4 ps hsp.2
        have hpl : ps.length = ss.length := by have := congrArg List.length hsp.2; simpa using this
        have hp0 : p = ⟨#[]⟩ := ByteArray.ext (Array.toList_inj.1 hsp.1)
        rw [if_pos ⟨by simpa using hp0, by simp; omega⟩, List.tail_cons, hl]
        rfl
end Go.Proofs.YtehdchpolgihlaaGreatDoor

/- What NameOf, UpOf, ViewOf, Height, Extends answer, told by steps. Nothing of the program. -/
namespace Go.Proofs.YtehdchpolgihlaaGreatDoor
open Go.RowKit
set_option linter.unusedSectionVars false
variable [∀ (a b c d : Int), Decidable (Ok4 a b c d)]
variable [∀ (a b c d : Nat), Decidable (okN a b c d)]
variable [∀ (last : Int) (s : St), Decidable (GoodSt last s)]
variable [∀ (x : T4), Decidable (OkT x)]

theorem nm_append (ss tt : List St) : nm (ss ++ tt) = nm ss ++ nm tt := by simp [nm]
theorem nm_snoc (ss : List St) (x : St) : nm (ss ++ [x]) = nm ss ++ 47 :: stText x := by simp [nm]
theorem OkSts.pre {ss tt : List St} (h : OkSts (ss ++ tt)) : OkSts ss := by
  obtain ⟨h1, h2, h3⟩ := h
  refine ⟨by simp at h1; omega, fun s hs => h2 s (by simp [hs]), ?_⟩
  rw [List.pairwise_append] at h3; exact h3.1
theorem names_nm {ss : List St} (h : OkSts ss) : stepsAns (toB (nm ss)) = some ss := (names_iff _ _).2 ⟨toB_list _, h⟩
theorem ba_ext {s t : ByteArray} (h : s.data.toList = t.data.toList) : s = t := ByteArray.ext (Array.toList_inj.1 h)
/-- Two texts that end behind their last '/'. -/
theorem last_slash {a b x y : List UInt8} (hx : (47 : UInt8) ∉ x) (hy : (47 : UInt8) ∉ y) (h : a ++ 47 :: x = b ++ 47 :: y) : a = b ∧ x = y := by
  have hr := congrArg List.reverse h
  simp only [List.reverse_append, List.reverse_cons, List.append_assoc, List.singleton_append] at hr
  have hx' : (47 : UInt8) ∉ x.reverse := by simpa using hx
  have hy' : (47 : UInt8) ∉ y.reverse := by simpa using hy
  have e1 : x.reverse = y.reverse := by rw [← hd_some (y := a.reverse) hx', hr, hd_some hy']
  have e2 : a.reverse = b.reverse := by rw [← tl_some (x := x.reverse) (y := a.reverse) hx', hr, tl_some hy']
  exact ⟨List.reverse_inj.1 e2, List.reverse_inj.1 e1⟩
theorem stText_inj {x y : St} (hx : OkSt x) (hy : OkSt y) (h : stText x = stText y) : x = y := by
  have h1 := stepOf_text hx (p := toB (stText x)) (toB_list _)
  have h2 := stepOf_text hy (p := toB (stText x)) ((toB_list _).trans h)
  rw [h1] at h2
  exact Option.some.inj h2

/-- What NameOf puts together. -/
def nmOut (up : ByteArray) (view : Int) (ts : List T4) : List UInt8 := up.data.toList ++ 47 :: (Lib.itoa view ++ 124 :: (txsT ts).data.toList)
/-- What NameOf answers. -/
def nameAns (up : ByteArray) (view : Int) (ts : List T4) : ByteArray := if (∀ x ∈ ts, OkT x) ∧ (stepsAns (toB (nmOut up view ts))).isSome then toB (nmOut up view ts) else ⟨#[]⟩
theorem itoa_clean (v : Int) (m : UInt8) (h : m.toNat < 48 ∨ 57 < m.toNat) (h1 : m ≠ 45) : m ∉ Lib.itoa v := by
  rw [Lib.itoa]
  split
  · have := no_mark v.natAbs m h
    simp [h1, this]
  · exact no_mark v.toNat m h
theorem name_parts {up : ByteArray} {view : Int} {ts : List T4} {ss : List St} (ht : ∀ x ∈ ts, OkT x) (h : stepsAns (toB (nmOut up view ts)) = some ss) : ∃ ss', ss = ss' ++ [(view, ts)] ∧ stepsAns up = some ss' ∧ OkSts (ss' ++ [(view, ts)]) := by
  obtain ⟨h1, h2⟩ := (names_iff _ _).1 h
  rw [toB_list] at h1
  have hne : ss ≠ [] := by
    rintro rfl
    unfold nmOut nm at h1
    simp at h1
  obtain ⟨ss', x, rfl⟩ : ∃ ss' x, ss = ss' ++ [x] := ⟨ss.dropLast, ss.getLast hne, (List.dropLast_concat_getLast _).symm⟩
  have hx := h2.2.1 x (by simp)
  rw [nm_snoc] at h1
  unfold nmOut at h1
  have hc : (47 : UInt8) ∉ Lib.itoa view ++ 124 :: (txsT ts).data.toList := by
    have a := itoa_clean view 47 (by decide) (by decide)
    have b := txsT_clean ts 47 (by decide) (by decide) (by decide) (by decide) (by decide)
    simp [a, b]
  obtain ⟨e1, e2⟩ := last_slash hc (stText_clean x) h1
  have c1 := itoa_clean view 124 (by decide) (by decide)
  have c2 := no_mark x.1.toNat 124 (by decide)
  unfold stText at e2
  have f1 : Lib.itoa view = Lib.decDigits x.1.toNat := by rw [← hd_some (y := (txsT ts).data.toList) c1, e2, hd_some c2]
  have f2 : (txsT ts).data.toList = (txsT x.2).data.toList := by rw [← tl_some (x := Lib.itoa view) (y := (txsT ts).data.toList) c1, e2, tl_some c2]
  have g2 : ts = x.2 := by
    have a := txsAns_of ts ht
    have b := txsAns_of x.2 hx.2.2
    rw [ba_ext f2, b] at a
    exact (Option.some.inj a).symm
  have g1 : view = x.1 := by
    have hx1 := hx.1
    rw [Lib.itoa] at f1
    split at f1
    · have := no_mark x.1.toNat 45 (by decide)
      rw [← f1] at this
      simp at this
    · have a := decFrom_digits view.toNat
      rw [f1, decFrom_digits] at a
      have := Option.some.inj a
      omega
  obtain ⟨xv, xt⟩ := x
  subst g1 g2
  exact ⟨ss', rfl, (names_iff _ _).2 ⟨e1, h2.pre⟩, h2⟩
theorem name_made {up : ByteArray} {ss : List St} {x : St} (hu : stepsAns up = some ss) (h : OkSts (ss ++ [x])) : nameAns up x.1 x.2 = toB (nm (ss ++ [x])) := by
  have hx := h.2.1 x (by simp)
  have e : nmOut up x.1 x.2 = nm (ss ++ [x]) := by
    rw [nm_snoc]
    unfold nmOut stText
    rw [((names_iff _ _).1 hu).1]
    have : Lib.itoa x.1 = Lib.decDigits x.1.toNat := by rw [Lib.itoa, if_neg (by have := hx.1; omega)]
    rw [this]
  unfold nameAns
  rw [e, names_nm h, if_pos ⟨hx.2.2, rfl⟩]
theorem toB_ne {l : List UInt8} (h : l ≠ []) : toB l ≠ ⟨#[]⟩ := fun e => h (by have := congrArg (fun s : ByteArray => s.data.toList) e; simpa [toB_list] using this)
theorem nmOut_ne (up : ByteArray) (view : Int) (ts : List T4) : toB (nmOut up view ts) ≠ ⟨#[]⟩ := toB_ne (by unfold nmOut; simp)
/-- Where NameOf tells a name: its steps are those of up and the new one. -/
theorem nameAns_some {up : ByteArray} {view : Int} {ts : List T4} (h : nameAns up view ts ≠ ⟨#[]⟩) : ∃ ss, stepsAns up = some ss ∧ OkSts (ss ++ [(view, ts)]) ∧ stepsAns (nameAns up view ts) = some (ss ++ [(view, ts)]) := by
  unfold nameAns at h ⊢
  by_cases hc : (∀ x ∈ ts, OkT x) ∧ (stepsAns (toB (nmOut up view ts))).isSome = true
  · rw [if_pos hc]
    obtain ⟨ss, hss⟩ := Option.isSome_iff_exists.1 hc.2
    obtain ⟨ss', rfl, h2, h3⟩ := name_parts hc.1 hss
    exact ⟨ss', h2, h3, hss⟩
  · rw [if_neg hc] at h; exact absurd rfl h

/-- What UpOf, ViewOf, TxsIn, Height answer. -/
def upAns (s : ByteArray) : ByteArray := toB (nm ((stepsAns s).getD []).dropLast)
def viewAns (s : ByteArray) : Int := (((stepsAns s).getD []).getLast?.map (·.1)).getD 0
def txsInAns (s : ByteArray) : List T4 := ((stepsAns s).getD []).flatMap (·.2)
def heightAns (s : ByteArray) : Int := match stepsAns s with | some ss => (ss.length : Int) | none => -1
/-- Extends: the steps of t are the first ones of s. -/
def Ext (s t : ByteArray) : Prop := ∃ ss tt, stepsAns s = some ss ∧ stepsAns t = some tt ∧ tt <+: ss
theorem up_steps {s : ByteArray} {ss : List St} (h : stepsAns s = some ss) : stepsAns (upAns s) = some ss.dropLast := by
  have h2 := ((names_iff _ _).1 h).2
  unfold upAns
  rw [h, Option.getD_some]
  refine names_nm ?_
  by_cases hne : ss = []
  · subst hne; exact h2
  · rw [← List.dropLast_concat_getLast hne] at h2
    exact h2.pre
theorem name_up {up : ByteArray} {view : Int} {ts : List T4} (h : nameAns up view ts ≠ ⟨#[]⟩) : upAns (nameAns up view ts) = up ∧ viewAns (nameAns up view ts) = view ∧ heightAns (nameAns up view ts) = heightAns up + 1 ∧ Ext (nameAns up view ts) up := by
  obtain ⟨ss, h1, h2, h3⟩ := nameAns_some h
  refine ⟨?_, ?_, ?_, ⟨_, _, h3, h1, by simp⟩⟩
  · unfold upAns
    rw [h3, Option.getD_some, List.dropLast_concat, ← ((names_iff _ _).1 h1).1, toB_data]
  · unfold viewAns; rw [h3]; simp
  · unfold heightAns; rw [h3, h1]; simp
theorem ext_views {s t : ByteArray} (h : Ext s t) : heightAns t ≤ heightAns s ∧ viewAns t ≤ viewAns s := by
  obtain ⟨ss, tt, h1, h2, r, rfl⟩ := h
  have ok := ((names_iff _ _).1 h1).2
  constructor
  · unfold heightAns; rw [h1, h2]; simp; omega
  · unfold viewAns
    rw [h1, h2, Option.getD_some, Option.getD_some]
    by_cases hr : r = []
    · subst hr; simp
    · obtain ⟨r', x, rfl⟩ : ∃ r' x, r = r' ++ [x] := ⟨r.dropLast, r.getLast hr, (List.dropLast_concat_getLast _).symm⟩
      have e : (tt ++ (r' ++ [x])).getLast? = some x := by rw [← List.append_assoc]; simp
      rw [e]
      have hx := ok.2.1 x (by simp)
      cases ht : tt.getLast? with
      | none => simp; have := hx.1; omega
      | some y =>
        simp
        have hy : y ∈ tt := List.mem_of_getLast? ht
        have hp := ok.2.2
        rw [List.pairwise_append] at hp
        have := hp.2.2 y hy x (by simp)
        omega
theorem ext_up {s : ByteArray} (h : (stepsAns s).isSome) : Ext s (upAns s) := by
  obtain ⟨ss, hs⟩ := Option.isSome_iff_exists.1 h
  exact ⟨ss, ss.dropLast, hs, up_steps hs, List.dropLast_prefix ss⟩
/-- How high a chain is: not above its last view. -/
theorem height_view {s : ByteArray} : heightAns s ≤ viewAns s ∧ heightAns s ≤ 30 ∧ viewAns s ≤ 60 := by
  unfold heightAns viewAns
  cases h : stepsAns s with
  | none => simp
  | some ss =>
    have ok := ((names_iff _ _).1 h).2
    simp only [Option.getD_some]
    refine ⟨?_, by have := ok.1; omega, ?_⟩
    · have key : ∀ ss : List St, (∀ s ∈ ss, OkSt s) → ss.Pairwise (fun a b => a.1 < b.1) → (ss.length : Int) ≤ (ss.getLast?.map (·.1)).getD 0 := by
        intro ss
        generalize hn : ss.length = n
        induction n generalizing ss with
        | zero => intro _ _; have : ss = [] := List.length_eq_zero_iff.1 hn; subst this; simp
        | succ n ih =>
          intro h1 h2
          obtain ⟨ss', x, rfl⟩ : ∃ ss' x, ss = ss' ++ [x] := ⟨ss.dropLast, ss.getLast (fun e => by rw [e] at hn; simp at hn), (List.dropLast_concat_getLast _).symm⟩
          rw [List.pairwise_append] at h2
          have := ih ss' (by simpa using hn) (fun s hs => h1 s (by simp [hs])) h2.1
          have hx := (h1 x (by simp)).1
          simp only [List.getLast?_append, List.getLast?_singleton, Option.some_or, Option.map_some, Option.getD_some]
          cases hl : ss'.getLast? with
          | none => rw [hl] at this; simp at this; omega
          | some y =>
            rw [hl] at this
            simp at this
            have := h2.2.2 y (List.mem_of_getLast? hl) x (by simp)
            omega
      exact key ss ok.2.1 ok.2.2
    · cases hl : ss.getLast? with
      | none => simp
      | some y => simp; exact (ok.2.1 y (List.mem_of_getLast? hl)).1.2
end Go.Proofs.YtehdchpolgihlaaGreatDoor

/- UpOf by the last '/', Extends by bytes, a name put together of its steps. Nothing of the program. -/
namespace Go.Proofs.YtehdchpolgihlaaGreatDoor
open Go.RowKit
set_option linter.unusedSectionVars false
variable [∀ (a b c d : Int), Decidable (Ok4 a b c d)]
variable [∀ (a b c d : Nat), Decidable (okN a b c d)]
variable [∀ (last : Int) (s : St), Decidable (GoodSt last s)]
variable [∀ (x : T4), Decidable (OkT x)]

/-- The place behind the last '/' tells UpOf. -/
theorem up_cut {s : ByteArray} {ss : List St} (h : stepsAns s = some ss) (k : Nat) (hk : k ≤ s.data.toList.length) (h1 : (47 : UInt8) ∉ s.data.toList.drop k) (h2 : k = 0 ∨ s.data.toList[k - 1]? = some 47) : toB (s.data.toList.take (k - 1)) = upAns s := by
  have hs := (names_iff _ _).1 h
  unfold upAns
  rw [h, Option.getD_some]
  by_cases hne : ss = []
  · subst hne
    have : s.data.toList = [] := hs.1
    rw [this]; simp [nm]
  · obtain ⟨ss', x, rfl⟩ : ∃ ss' x, ss = ss' ++ [x] := ⟨ss.dropLast, ss.getLast hne, (List.dropLast_concat_getLast _).symm⟩
    rw [List.dropLast_concat]
    have e := hs.1
    rw [nm_snoc] at e
    rcases h2 with rfl | h2
    · rw [List.drop_zero, e] at h1
      simp at h1
    · have hk0 : 0 < k := by
        cases k with
        | zero =>
          rw [List.drop_zero, e] at h1
          simp at h1
        | succ k => omega
      have hlt : k - 1 < s.data.toList.length := by omega
      have e3 : s.data.toList = s.data.toList.take (k - 1) ++ 47 :: s.data.toList.drop k := by
        conv => lhs; rw [← List.take_append_drop (k - 1) s.data.toList]
        congr 1
        rw [List.drop_eq_getElem_cons hlt, show k - 1 + 1 = k from by omega]
        congr 1
        rw [List.getElem?_eq_getElem hlt] at h2
        exact Option.some.inj h2
      have e4 := e3.symm.trans e
      rw [(last_slash h1 (stText_clean x) e4).1]
/-- The beginning of a list of steps, by the bytes of the names. -/
theorem nm_pre : ∀ (tt ss : List St), (∀ x ∈ tt, OkSt x) → (∀ x ∈ ss, OkSt x) → ∀ r, nm ss = nm tt ++ r → (r = [] ∨ ∃ q, r = 47 :: q) → tt <+: ss := by
  intro tt
  induction tt with
  | nil => intro ss _ _ r _ _; exact List.nil_prefix
  | cons x tt ih =>
    intro ss ht hs r h hr
    cases ss with
    | nil => simp [nm] at h
    | cons y ss =>
      have e : ∀ (z : St) (zs : List St), nm (z :: zs) = 47 :: (stText z ++ nm zs) := fun z zs => by simp [nm]
      rw [e, e, List.cons_append, List.append_assoc] at h
      have h' := List.tail_eq_of_cons_eq h
      have lead : ∀ (zs : List St) (q : List UInt8), (q = [] ∨ ∃ p, q = 47 :: p) → nm zs ++ q = [] ∨ ∃ p, nm zs ++ q = 47 :: p := fun zs q hq => by
        cases zs with
        | nil => simpa [nm] using hq
        | cons z zs => right; rw [e]; exact ⟨_, rfl⟩
      have cutAt : ∀ (a b p q : List UInt8), (47 : UInt8) ∉ a → (47 : UInt8) ∉ b → (p = [] ∨ ∃ p', p = 47 :: p') → (q = [] ∨ ∃ q', q = 47 :: q') → a ++ p = b ++ q → a = b ∧ p = q := by
        intro a b p q ha hb hp hq hab
        have f : ∀ (a p : List UInt8), (47 : UInt8) ∉ a → (p = [] ∨ ∃ p', p = 47 :: p') → hd 47 (a ++ p) = a := by
          intro a p ha hp
          rcases hp with rfl | ⟨p', rfl⟩
          · rw [List.append_nil]; exact hd_none ha
          · exact hd_some ha
        have e1 : a = b := by rw [← f a p ha hp, hab, f b q hb hq]
        subst e1
        exact ⟨rfl, List.append_cancel_left hab⟩
      have l1 := lead ss [] (.inl rfl)
      rw [List.append_nil] at l1
      obtain ⟨e1, e2⟩ := cutAt _ _ _ _ (stText_clean y) (stText_clean x) l1 (lead tt r hr) h'
      have exy : y = x := stText_inj (hs y (by simp)) (ht x (by simp)) e1
      subst exy
      exact (List.cons_prefix_cons).2 ⟨rfl, ih ss (fun z hz => ht z (by simp [hz])) (fun z hz => hs z (by simp [hz])) r e2 hr⟩
/-- Extends, as it is asked of the bytes. -/
def extL (l t : List UInt8) : Prop := t.length ≤ l.length ∧ l.take t.length = t ∧ (l.length = t.length ∨ l[t.length]? = some 47)
theorem ext_bytes {s t : ByteArray} {ss tt : List St} (hs : stepsAns s = some ss) (ht : stepsAns t = some tt) : extL s.data.toList t.data.toList ↔ tt <+: ss := by
  have a := (names_iff _ _).1 hs
  have b := (names_iff _ _).1 ht
  unfold extL
  rw [a.1, b.1]
  constructor
  · rintro ⟨h1, h2, h3⟩
    refine nm_pre tt ss b.2.2.1 a.2.2.1 ((nm ss).drop (nm tt).length) ?_ ?_
    · conv => lhs; rw [← List.take_append_drop (nm tt).length (nm ss)]
      rw [h2]
    · rcases h3 with h3 | h3
      · left; rw [List.drop_of_length_le (by omega)]
      · right
        have hlt : (nm tt).length < (nm ss).length := (List.getElem?_eq_some_iff.1 h3).1
        rw [List.drop_eq_getElem_cons hlt]
        rw [List.getElem?_eq_getElem hlt] at h3
        exact ⟨_, by rw [Option.some.inj h3]⟩
  · rintro ⟨r, rfl⟩
    rw [nm_append]
    refine ⟨by simp, by simp, ?_⟩
    cases r with
    | nil => left; simp [nm]
    | cons x r =>
      right
      rw [List.getElem?_append_right (Nat.le_refl _), Nat.sub_self]
      simp [nm]
/-- What Extends answers. -/
def extB (s t : ByteArray) : Bool := match stepsAns s, stepsAns t with
  | some ss, some tt => tt.isPrefixOf ss
  | _, _ => false
theorem extB_iff (s t : ByteArray) : extB s t = true ↔ Ext s t := by
  unfold extB Ext
  cases hs : stepsAns s with
  | none => simp
  | some ss =>
    cases ht : stepsAns t with
    | none => simp
    | some tt => simp
theorem extB_bytes (s t : ByteArray) : extB s t = true ↔ (stepsAns s).isSome = true ∧ (stepsAns t).isSome = true ∧ extL s.data.toList t.data.toList := by
  rw [extB_iff]
  constructor
  · rintro ⟨ss, tt, hs, ht, h⟩
    exact ⟨by rw [hs]; rfl, by rw [ht]; rfl, (ext_bytes hs ht).2 h⟩
  · rintro ⟨h1, h2, h3⟩
    obtain ⟨ss, hs⟩ := Option.isSome_iff_exists.1 h1
    obtain ⟨tt, ht⟩ := Option.isSome_iff_exists.1 h2
    exact ⟨ss, tt, hs, ht, (ext_bytes hs ht).1 h3⟩
/-- A name put together of its steps, one behind the other. -/
theorem name_back {s : ByteArray} {ss : List St} (h : stepsAns s = some ss) (k : Nat) (hk : k < ss.length) : nameAns (toB (nm (ss.take k))) (ss.getD k zst).1 (ss.getD k zst).2 = toB (nm (ss.take (k + 1))) := by
  have ok := ((names_iff _ _).1 h).2
  have e : ss.take (k + 1) = ss.take k ++ [ss.getD k zst] := by
    rw [List.take_succ_eq_append_getElem hk, List.getD_eq_getElem?_getD, List.getElem?_eq_getElem hk]; rfl
  have o1 : OkSts (ss.take (k + 1)) := by
    rw [← List.take_append_drop (k + 1) ss] at ok
    exact ok.pre
  have o0 : OkSts (ss.take k) := by rw [e] at o1; exact o1.pre
  rw [e] at o1 ⊢
  exact name_made (names_nm o0) o1
theorem name_whole {s : ByteArray} {ss : List St} (h : stepsAns s = some ss) : toB (nm (ss.take ss.length)) = s := by
  rw [List.take_of_length_le (Nat.le_refl _), ← ((names_iff _ _).1 h).1, toB_data]
/-- How long a name is at most. -/
theorem txsT_len2 (ts : List T4) (h : ts.length ≤ 2) : (txsT ts).size ≤ 56 := by
  unfold txsT
  split
  · rw [toB_size]
    have := accT_len ts ts.length
    omega
  · exact Nat.zero_le _
end Go.Proofs.YtehdchpolgihlaaGreatDoor

/- spec.NameOk, Height, ViewOf. -/
namespace Go.Proofs.YtehdchpolgihlaaGreatDoor
open Go.RowKit
set_option linter.unusedSectionVars false
variable [∀ (a b c d : Int), Decidable (Ok4 a b c d)]
variable [∀ (a b c d : Nat), Decidable (okN a b c d)]
variable [∀ (last : Int) (s : St), Decidable (GoodSt last s)]
variable [∀ (x : T4), Decidable (OkT x)]

set_option maxHeartbeats 8000000 in
set_option maxRecDepth 100000 in
theorem specNameOk (s : ByteArray) (w : World) (hs : s.size ≤ 33554432) :
    Calls Tryz.prog 88 #[.string s] w fun e w' => e = .returned (.bool (stepsAns s).isSome) ∧ Below w.heap.size w w' := by
  have ST := hide fun w => specSteps s w hs
  generalize stepsAns s = A at *
  go_enter Tryz.func88, Tryz.ntmps88
  go_wp2_with fail
  refine (unhide ST _).mono ?_
  rintro e w1 ⟨v, rfl, _, b1⟩
  go_wp2
  go_ret
  exact ⟨rfl, b1⟩

set_option maxHeartbeats 8000000 in
set_option maxRecDepth 100000 in
theorem specViewOf (s : ByteArray) (w : World) (hs : s.size ≤ 33554432) :
    Calls Tryz.prog 89 #[.string s] w fun e w' => e = .returned (.int .i64 (viewAns s)) ∧ Below w.heap.size w w' := by
  have ST := hide fun w => specSteps s w hs
  have hl : ∀ ss, stepsAns s = some ss → ss.length ≤ 30 ∧ ∀ x ∈ ss, OkSt x := fun ss h => ⟨((names_iff _ _).1 h).2.1, ((names_iff _ _).1 h).2.2.1⟩
  unfold viewAns
  generalize stepsAns s = A at *
  go_enter Tryz.func89, Tryz.ntmps89
  go_wp2_with fail
  refine (unhide ST _).mono ?_
  rintro e w1 ⟨v, rfl, o1, b1⟩
  cases A with
  | none =>
    obtain ⟨ao, ca, rfl⟩ := o1.form
    clear o1 ST hl
    go_wp2
    go_ret
    exact ⟨rfl, b1⟩
  | some ss =>
    obtain ⟨hl, hok⟩ := hl ss rfl
    obtain ⟨ao, ca, hv, r⟩ := o1.rst (fun x hx => by have := (hok x hx).2.1; omega)
    subst hv
    clear o1 ST hok
    simp only [Option.getD_some] at *
    rcases r with rfl | ⟨g, rfl, r⟩
    · go_wp2
      go_ret
      exact ⟨rfl, b1⟩
    · by_cases h0 : ss.length = 0
      · obtain rfl := List.length_eq_zero_iff.1 h0
        go_wp2
        go_ret
        exact ⟨rfl, b1⟩
      · obtain ⟨n, hn⟩ : ∃ n, ss.length = n + 1 := ⟨ss.length - 1, by omega⟩
        obtain ⟨u, c0, c1, _⟩ := r n (by omega)
        have hlast := hide (show (ss.getLast?.map (·.1)).getD 0 = (ss.getD n zst).1 by
          rw [List.getLast?_eq_getElem?, List.getD_eq_getElem?_getD, List.getElem?_eq_getElem (show ss.length - 1 < ss.length by omega), List.getElem?_eq_getElem (show n < ss.length by omega)]
          simp [hn])
        have hi : ((n + 1 : Nat) : Int) - 1 = n := by omega
        generalize (ss.getD n zst).1 = x at *
        clear r h0
        go_wp2
        go_ret
        exact ⟨by rw [show ((some ss).getD []) = ss from rfl, unhide hlast]; rfl, b1⟩

end Go.Proofs.YtehdchpolgihlaaGreatDoor

/- Two certificates held against each other, by the specification and by the program. -/
namespace Go.Proofs.YtehdchpolgihlaaGreatDoor
open Go.RowKit

theorem list_end {xs ys : List Int} {k : Nat} (h1 : k ≤ xs.length) (h2 : k ≤ ys.length) (h : ¬ (k < xs.length ∧ k < ys.length)) (he : ∀ j, j < k → xs.getD j 0 = ys.getD j 0) : xs.length = ys.length ↔ xs = ys := by
  constructor
  · intro e
    apply List.ext_getElem e
    intro i p q
    have := he i (by omega)
    simpa [List.getD_eq_getElem?_getD, p, q] using this
  · rintro rfl; rfl
theorem list_off {xs ys : List Int} {k : Nat} (h : xs.getD k 0 ≠ ys.getD k 0) : xs ≠ ys := fun e => h (e ▸ rfl)

set_option maxHeartbeats 1600000 in
set_option maxRecDepth 100000 in
theorem sEqual_any (va vb : Value) (xs ys : List Int) (w : World) (ha : RI w va xs) (hb : RI w vb ys) :
    Calls Tryz.prog 116 #[va, vb] w fun e w' => e = .returned (.bool (decide (xs = ys))) ∧ ∃ n, w' = w.drewN n := by
  obtain ⟨hl, ao, ca, rfl, ha⟩ := ha
  obtain ⟨hl', bo, cb, rfl, hb⟩ := hb
  have EN := hide fun k h1 h2 h he => list_end (xs := xs) (ys := ys) (k := k) h1 h2 h he
  have OF := hide fun k h => list_off (xs := xs) (ys := ys) (k := k) h
  have HE : Hid (∀ b, (xs = ys ↔ b = true) → decide (xs = ys) = b) := hide fun b h => by
    cases b
    · simpa using h
    · simpa using h
  have HL : Hid (xs = ys → xs.length = ys.length) := hide fun h => h ▸ rfl
  obtain ⟨n, hn⟩ : ∃ n, xs.length = n := ⟨_, rfl⟩
  obtain ⟨m, hm⟩ : ∃ m, ys.length = m := ⟨_, rfl⟩
  rw [hn] at ha EN hl HL ⊢
  rw [hm] at hb EN hl' HL ⊢
  have Hn : Hid (xs.length = n) := hn
  have Hm : Hid (ys.length = m) := hm
  clear hn hm
  generalize decide (xs = ys) = q at *
  by_cases hnm : n = m
  · subst hnm
    go_enter Tryz.func116, Tryz.ntmps116
    go_wp2
    go_loopw [13] (fun i wr => ∃ k : Nat, k ≤ n ∧ i = .int .i64 k ∧ (∀ j, j < k → xs.getD j 0 = ys.getD j 0) ∧ ∃ d, wr = w.drewN d) (fun i _ => n - (intOf i).toNat)
    case atStart => exact ⟨0, Nat.zero_le _, rfl, fun j hj => by omega, 0, rfl⟩
    case round =>
      obtain ⟨k, hk, rfl, he, d, rfl⟩ := hrel
      have he := hide he
      by_cases hlt : k < n
      · rcases ha with ha | ⟨b, off, rfl, ha⟩
        · subst ha; have := Hn.out; simp at this; omega
        rcases hb with hb | ⟨b', off', rfl, hb⟩
        · subst hb; have := Hm.out; simp at this; omega
        have ha' := ha k hlt
        have hb' := hb k hlt
        have ER := hide fun (e : xs.getD k 0 = ys.getD k 0) j (hj : j < k + 1) => (by
          by_cases h : j = k
          · subst h; exact e
          · exact unhide he j (by omega) : xs.getD j 0 = ys.getD j 0)
        have OK := hide fun h => unhide OF k h
        clear ha hb
        generalize xs.getD k 0 = x at *
        generalize ys.getD k 0 = y at *
        by_cases hxy : x = y
        · subst hxy
          replace ER := hide (unhide ER rfl)
          clear OK
          go_wp2_with fail
          go_quiet (fail)
          go_wp2
          go_roundw
          case rel => exact ⟨k + 1, by omega, by go_num, unhide ER, _, rfl⟩
          case measure => simp [intOf]; omega
        · have hq : q = false := unhide HE false (by simp; exact unhide OK hxy)
          subst hq
          have hx : (x == y) = false := by simpa using hxy
          go_wp2_with fail
          go_quiet (fail)
          go_wp2
          go_ret
          exact ⟨rfl, d + nq, by simp [World.drewN, Nat.add_assoc]⟩
      · have hnm := unhide EN k hk hk (by omega) (unhide he)
        have hq : q = true := unhide HE true (by simpa using hnm)
        have hc : decide ((k : Int) < (n : Int)) = false := by simp; omega
        subst hq
        clear ha hb
        go_wp2
        go_ret
        exact ⟨rfl, _, rfl⟩
  · have hq : q = false := unhide HE false (by simp; intro e; exact hnm (unhide HL e))
    have hd : ((n : Int) == (m : Int)) = false := by simp; omega
    subst hq
    clear ha hb
    go_enter Tryz.func116, Tryz.ntmps116
    go_wp2
    go_ret
    exact ⟨rfl, 0, rfl⟩

/-- Whether two certificates are alike. -/
def alikeB (n m : Int) (s t : ByteArray) (xs ys : List Int) : Bool := decide (n = m ∧ s = t ∧ xs = ys)

set_option maxHeartbeats 1600000 in
set_option maxRecDepth 100000 in
theorem qsame_any (g g' : Nat) (n m : Int) (s t : ByteArray) (va vb : Value) (xs ys : List Int) (w : World) (hg : Loc w g #[.int .i64 n, .string s, va]) (hg' : Loc w g' #[.int .i64 m, .string t, vb]) (ha : RI w va xs) (hb : RI w vb ys) :
    Calls Tryz.prog 71 #[.pointer (some ⟨g, 0, none⟩), .pointer (some ⟨g', 0, none⟩)] w fun e w' => e = .returned (.bool (alikeB n m s t xs ys)) ∧ ∃ d, w' = w.drewN d := by
  have EQ := hide fun d => sEqual_any va vb xs ys (w.drewN d) (ha) (hb)
  have x0 := hg.cell 0 rfl
  have x1 := hg.cell 1 rfl
  have x2 := hg.cell 2 rfl
  have y0 := hg'.cell 0 rfl
  have y1 := hg'.cell 1 rfl
  have y2 := hg'.cell 2 rfl
  clear ha hb hg hg'
  by_cases h1 : n = m
  · by_cases h2 : s = t
    · have hq : alikeB n m s t xs ys = decide (xs = ys) := by simp [alikeB, h1, h2]
      rw [hq]
      subst h1 h2
      clear hq
      go_enter Tryz.func71, Tryz.ntmps71
      go_wp2_with fail
      go_quiet (first | (go_at_call 116; exact Calls.quiet_of (unhide EQ _)))
      go_wp2
      go_ret
      exact ⟨rfl, _, rfl⟩
    · have hq : alikeB n m s t xs ys = false := by simp [alikeB, h2]
      rw [hq]
      subst h1
      have hd := str_ne h2
      clear hq
      go_enter Tryz.func71, Tryz.ntmps71
      go_wp2_with fail
      go_quiet (fail)
      go_wp2
      go_ret
      exact ⟨rfl, _, rfl⟩
  · have hq : alikeB n m s t xs ys = false := by simp [alikeB, h1]
    rw [hq]
    have hd : (n == m) = false := by simpa using h1
    clear hq
    go_enter Tryz.func71, Tryz.ntmps71
    go_wp2_with fail
    go_quiet (fail)
    go_wp2
    go_ret
    exact ⟨rfl, _, rfl⟩
end Go.Proofs.YtehdchpolgihlaaGreatDoor

/- An operation of a region that draws its order, taken first, its slot written out. -/
namespace Go.Proofs.YtehdchpolgihlaaGreatDoor
open Go Go.RowKit
section
variable {P : Program} {ops : Array Oper} {Q : Exit → Act → World → Prop} {md : Region.Mode} {S : World → Prop}
theorem take_at {i d : Nat} {oi : Oper} {v : Value} {fuel : Nat} {listed : Array Bool} {a : Act} {w : World} (hi : ops[i]? = some oi) (hd : oi.dst = some d)
    (hs : Region.noSelect ops = true) (hf : Region.free md ops listed i = true) (hr : (Region.ready md ops listed).contains i = true)
    (hQ : ∀ c a w, Q (.panic c) (a.put (some d) v) w → Q (.panic c) a w) (hy : YieldsIf P ops S oi v a) (hS : S w)
    (h : wpAnyH P md ops Q S fuel (listed.setIfInBounds i true) (a.put (some d) v) w) : wpAnyH P md ops Q S (fuel + 1) listed a w :=
  wpAnyH_take hi hs hf hr (by rw [hd]; exact hQ) hy hS (by rw [hd]; exact h)
theorem ready_at {i : Nat} {o : Oper} {fuel : Nat} {listed : Array Bool} {a : Act} {w : World} (ho : ops[i]? = some o) (hr : Region.ready md ops listed = [i])
    (h : ∀ K' : Act → World → Prop, Shut (∀ a w, S w → (S w → wpAnyH P md ops Q S fuel (listed.setIfInBounds i true) a w) → K' a w) → if Region.wanted o (yielded ops a.tmps) = true then Oper.wp P o a w K' Q else K' (a.put o.dst undef) w) :
    wpAnyH P md ops Q S (fuel + 1) listed a w :=
  wpAnyH_ready hr (by simp) (AllReadyH.cons ho h AllReadyH.nil)
end
theorem undrew {B : Nat} {w w' : World} (h : Below B w.drew w') : Below B w w' := ⟨h.os, h.tape, h.output, h.size, h.block⟩
end Go.Proofs.YtehdchpolgihlaaGreatDoor

/- The later of two certificates, copied. -/
namespace Go.Proofs.YtehdchpolgihlaaGreatDoor
open Go.RowKit

set_option maxHeartbeats 1600000 in
set_option maxRecDepth 100000 in
theorem implQcSame (n m : Int) (s t : ByteArray) (va vb : Value) (xs ys : List Int) (w : World) (ha : RI w va xs) (hb : RI w vb ys) :
    Calls Tryz.prog 24 #[qv n s va, qv m t vb] w fun e w' => e = .returned (.bool (alikeB n m s t xs ys)) ∧ Below w.heap.size w w' := by
  have B := hide (qalloc2 w (.cells #[.int .i64 n, .string s, va] 40) (.cells #[.int .i64 m, .string t, vb] 40))
  have SM := hide (qsame_any w.heap.size (w.heap.size + 1) n m s t va vb xs ys _ ((loc_at w #[.int .i64 n, .string s, va] 40 rfl).alloc _) (loc_at (w.alloc _) #[.int .i64 m, .string t, vb] 40 (by simp)) (ha.below (unhide B) (Nat.le_refl _)) (hb.below (unhide B) (Nat.le_refl _)))
  clear ha hb
  go_enter Tryz.func24, Tryz.ntmps24
  go_wp2_with fail
  refine (unhide SM).mono ?_
  rintro e w1 ⟨rfl, d, rfl⟩
  go_wp2
  go_ret
  exact ⟨rfl, below_drewN' (unhide B) _⟩

abbrev zq : Obj := .cells #[.int .i64 0, .string ⟨#[]⟩, .slice none 0 0] 40

set_option maxHeartbeats 4000000 in
set_option maxRecDepth 100000 in
theorem qtold_any (g : Nat) (n : Int) (s : ByteArray) (ao : Option Addr) (ca : Nat) (xs : List Int) (w : World) (hg : Loc w g #[.int .i64 n, .string s, .slice ao xs.length ca]) (ha : RI w (.slice ao xs.length ca) xs) (hs : s.size ≤ 281474976710656) :
    Calls Tryz.prog 66 #[.pointer (some ⟨g, 0, none⟩)] w fun e w' => ∃ u, e = .returned (qv n s u) ∧ OI w' w.heap.size u xs ∧ Below w.heap.size w w' := by
  have CL := hide fun w => clone_any s w hs
  have hgl := hg.lt
  obtain ⟨w0, hw0⟩ : ∃ w0, w.alloc zq = w0 := ⟨_, rfl⟩
  have B0 : Below w.heap.size w w0 := hw0 ▸ qalloc _ _
  have Z0 : Loc w0 w.heap.size #[.int .i64 0, .string ⟨#[]⟩, .slice none 0 0] := hw0 ▸ loc_at w _ _ rfl
  have s0 : w0.heap.size = w.heap.size + 1 := by rw [← hw0]; simp
  have G0 := hg.below B0 hgl
  have K : Hid (∀ w', Below w0.heap.size w0 w' → Below w0.heap.size w0 w' ∧ w'.cell? ⟨g, 0, none⟩ = some (.int .i64 n) ∧ w'.cell? ⟨g, 1, none⟩ = some (.string s)) := hide fun w' hb =>
    ⟨hb, (G0.below hb G0.lt).cell 0 rfl, (G0.below hb G0.lt).cell 1 rfl⟩
  have RA := hide ha
  have HZ := hide Z0
  have HG := hide G0
  clear ha hg Z0 G0
  go_enter Tryz.func66, Tryz.ntmps66
  go_upto_region 1 with fail
  clear hw0
  go_cut [3] (fun c wx => ∃ h, c = .pointer (some ⟨h, 0, none⟩) ∧ w0.heap.size ≤ h ∧ Loc wx h #[.int .i64 n, .string s, .slice none 0 0] ∧ Below w0.heap.size w0 wx)
  case first =>
    clear HZ HG RA
    refine wp_region_noPanic ?_
    refine wp_region_held_drew (S := fun w' => Below w0.heap.size w0 w' ∧ w'.cell? ⟨g, 0, none⟩ = some (.int .i64 n) ∧ w'.cell? ⟨g, 1, none⟩ = some (.string s)) (by kernel_rfl) (unhide K _ (Below.drew (Below.refl _ _))) (fun hHeld => ?_)
    obtain ⟨wd, hd⟩ : ∃ wd, w0.drew = wd := ⟨_, rfl⟩
    have bd : Below w0.heap.size w0 wd := hd ▸ Below.drew (Below.refl _ _)
    have szd := bd.size
    rw [hd] at hHeld ⊢
    clear hd
    refine take_at (i := 0) (d := 4) (v := ?_) rfl rfl (by kernel_rfl) (by kernel_rfl) (by kernel_rfl) (fun _ _ _ h => h) (Or.inl ⟨by rfl, ?_⟩) (by assumption) ?_
    rotate_left
    · intro w hSw
      try dsimp only at hSw
      go_simp
      try with_reducible rfl
    simp only [Act.put, List.setIfInBounds_toArray, List.set_cons_zero, List.set_cons_succ]
    refine take_at (i := 1) (d := 5) (v := ?_) rfl rfl (by kernel_rfl) (by kernel_rfl) (by kernel_rfl) (fun _ _ _ h => h) (Or.inl ⟨by rfl, ?_⟩) (by assumption) ?_
    rotate_left
    · intro w hSw
      try dsimp only at hSw
      go_simp
      try with_reducible rfl
    simp only [Act.put, List.setIfInBounds_toArray, List.set_cons_zero, List.set_cons_succ]
    refine take_at (i := 2) (d := 6) (v := ?_) rfl rfl (by kernel_rfl) (by kernel_rfl) (by kernel_rfl) (fun _ _ _ h => h) (Or.inl ⟨by rfl, ?_⟩) (by assumption) ?_
    rotate_left
    · intro w hSw
      try dsimp only at hSw
      go_simp
      try with_reducible rfl
    simp only [Act.put, List.setIfInBounds_toArray, List.set_cons_zero, List.set_cons_succ]
    refine take_at (i := 3) (d := 7) (v := ?_) rfl rfl (by kernel_rfl) (by kernel_rfl) (by kernel_rfl) (fun _ _ _ h => h) (Or.inl ⟨by rfl, ?_⟩) (by assumption) ?_
    rotate_left
    · intro w hSw
      try dsimp only at hSw
      go_simp
      try with_reducible rfl
    simp only [Act.put, List.setIfInBounds_toArray, List.set_cons_zero, List.set_cons_succ]
    refine take_at (i := 4) (d := 8) (v := ?_) rfl rfl (by kernel_rfl) (by kernel_rfl) (by kernel_rfl) (fun _ _ _ h => h) (Or.inl ⟨by rfl, ?_⟩) (by assumption) ?_
    rotate_left
    · intro w hSw
      try dsimp only at hSw
      go_simp
      try with_reducible rfl
    simp only [Act.put, List.setIfInBounds_toArray, List.set_cons_zero, List.set_cons_succ]
    refine take_at (i := 5) (d := 9) (v := ?_) rfl rfl (by kernel_rfl) (by kernel_rfl) (by kernel_rfl) (fun _ _ _ h => h) (Or.inl ⟨by rfl, ?_⟩) (by assumption) ?_
    rotate_left
    · intro w hSw
      try dsimp only at hSw
      go_simp
      try with_reducible rfl
    simp only [Act.put, List.setIfInBounds_toArray, List.set_cons_zero, List.set_cons_succ]
    refine take_at (i := 6) (d := 10) (v := ?_) rfl rfl (by kernel_rfl) (by kernel_rfl) (by kernel_rfl) (fun _ _ _ h => h) (Or.inl ⟨by rfl, ?_⟩) (by assumption) ?_
    rotate_left
    · intro w hSw
      try dsimp only at hSw
      go_simp
      try with_reducible rfl
    simp only [Act.put, List.setIfInBounds_toArray, List.set_cons_zero, List.set_cons_succ]
    refine take_at (i := 7) (d := 11) (v := ?_) rfl rfl (by kernel_rfl) (by kernel_rfl) (by kernel_rfl) (fun _ _ _ h => h) (Or.inl ⟨by rfl, ?_⟩) (by assumption) ?_
    rotate_left
    · intro w hSw
      try dsimp only at hSw
      go_simp
      try with_reducible rfl
    simp only [Act.put, List.setIfInBounds_toArray, List.set_cons_zero, List.set_cons_succ]
    refine wpAnyH_ready (rs := [8, 10]) (by kernel_rfl) (by simp) (AllReadyH.cons rfl (fun KK hKK => ?_) (AllReadyH.cons rfl (fun KK hKK => ?_) AllReadyH.nil))
    · go_simp
      refine (unhide CL _).mono ?_
      rintro e wc1 ⟨rfl, bnew⟩
      have bc1 : Below w0.heap.size w0 wc1 := bd.trans (bnew.mono bd.size)
      have zzwc1 := bnew.size
      clear hHeld bnew
      refine hKK.out _ _ (unhide K _ bc1) (fun hHeld => ?_)
      clear hKK KK
      refine take_at (i := 9) (d := 13) (v := ?_) rfl rfl (by kernel_rfl) (by kernel_rfl) (by kernel_rfl) (fun _ _ _ h => h) (Or.inl ⟨by rfl, ?_⟩) (by assumption) ?_
      rotate_left
      · intro w hSw
        try dsimp only at hSw
        go_simp
        try with_reducible rfl
      simp only [Act.put, List.setIfInBounds_toArray, List.set_cons_zero, List.set_cons_succ]
      refine ready_at (i := 10) rfl (by kernel_rfl) (fun KK hKK => ?_)
      go_simp
      obtain ⟨wl2, hwl2⟩ : ∃ x, wc1.alloc (.cells #[.int .i64 0, .string ⟨#[]⟩, .slice none 0 0] 40) = x := ⟨_, rfl⟩
      have bl2 : Below w0.heap.size w0 wl2 := hwl2 ▸ bc1.alloc bc1.size _
      have lg : Loc wl2 wc1.heap.size #[.int .i64 0, .string ⟨#[]⟩, .slice none 0 0] := hwl2 ▸ loc_at wc1 _ _ rfl
      rw [hwl2]
      clear hHeld hwl2
      refine hKK.out _ _ (unhide K _ bl2) (fun hHeld => ?_)
      clear hKK KK
      have q0 := lg.cell 0 rfl
      have q1 := lg.cell 1 rfl
      have q2 := lg.cell 2 rfl
      have FG := lg.frozen
      refine ready_at (i := 11) rfl (by kernel_rfl) (fun KK hKK => ?_)
      go_simp
      have bs : Below w0.heap.size w0 (((wl2.setCell ⟨wc1.heap.size, 0, none⟩ (.int .i64 n)).setCell ⟨wc1.heap.size, 1, none⟩ (.string s)).setCell ⟨wc1.heap.size, 2, none⟩ (.slice none 0 0)) := Below.set (Below.set (Below.set bl2 _ _ (by omega)) _ _ (by omega)) _ _ (by omega)
      clear hHeld
      refine hKK.out _ _ (unhide K _ bs) (fun hHeld => ?_)
      clear hKK KK
      clear hHeld
      refine wpAnyH_done (by kernel_rfl) ?_ _
      refine NoPanic.normal ?_
      go_wp2_with fail
      go_meet
      exact ⟨_, rfl, by omega, ((lg.set 0 _ rfl).set 1 _ rfl).set 2 _ rfl, bs⟩
    · go_simp
      obtain ⟨wl3, hwl3⟩ : ∃ x, wd.alloc (.cells #[.int .i64 0, .string ⟨#[]⟩, .slice none 0 0] 40) = x := ⟨_, rfl⟩
      have bl3 : Below w0.heap.size w0 wl3 := hwl3 ▸ bd.alloc bd.size _
      have lg : Loc wl3 wd.heap.size #[.int .i64 0, .string ⟨#[]⟩, .slice none 0 0] := hwl3 ▸ loc_at wd _ _ rfl
      rw [hwl3]
      clear hHeld hwl3
      refine hKK.out _ _ (unhide K _ bl3) (fun hHeld => ?_)
      clear hKK KK
      refine ready_at (i := 8) rfl (by kernel_rfl) (fun KK hKK => ?_)
      go_simp
      refine (unhide CL _).mono ?_
      rintro e wc4 ⟨rfl, bnew⟩
      have bc4 : Below w0.heap.size w0 wc4 := bl3.trans (bnew.mono bl3.size)
      have zzwc4 := bnew.size
      have lg := lg.below bnew lg.lt
      clear hHeld bnew
      refine hKK.out _ _ (unhide K _ bc4) (fun hHeld => ?_)
      clear hKK KK
      refine take_at (i := 9) (d := 13) (v := ?_) rfl rfl (by kernel_rfl) (by kernel_rfl) (by kernel_rfl) (fun _ _ _ h => h) (Or.inl ⟨by rfl, ?_⟩) (by assumption) ?_
      rotate_left
      · intro w hSw
        try dsimp only at hSw
        go_simp
        try with_reducible rfl
      simp only [Act.put, List.setIfInBounds_toArray, List.set_cons_zero, List.set_cons_succ]
      have q0 := lg.cell 0 rfl
      have q1 := lg.cell 1 rfl
      have q2 := lg.cell 2 rfl
      have FG := lg.frozen
      refine ready_at (i := 11) rfl (by kernel_rfl) (fun KK hKK => ?_)
      go_simp
      have bs : Below w0.heap.size w0 (((wc4.setCell ⟨wd.heap.size, 0, none⟩ (.int .i64 n)).setCell ⟨wd.heap.size, 1, none⟩ (.string s)).setCell ⟨wd.heap.size, 2, none⟩ (.slice none 0 0)) := Below.set (Below.set (Below.set bc4 _ _ (by omega)) _ _ (by omega)) _ _ (by omega)
      clear hHeld
      refine hKK.out _ _ (unhide K _ bs) (fun hHeld => ?_)
      clear hKK KK
      clear hHeld
      refine wpAnyH_done (by kernel_rfl) ?_ _
      refine NoPanic.normal ?_
      go_wp2_with fail
      go_meet
      exact ⟨_, rfl, by omega, ((lg.set 0 _ rfl).set 1 _ rfl).set 2 _ rfl, bs⟩
  case rest =>
    obtain ⟨h, rfl, hh, LH, bw⟩ := hcut
    have G1 := (unhide HG).below bw (unhide HG).lt
    have Z1 := (unhide HZ).below bw (unhide HZ).lt
    have R1 := unhide RA
    have B1 : Below w.heap.size w wc := B0.trans (bw.mono B0.size)
    have s1 := bw.size
    have l1 := LH.lt
    have x2 := G1.cell 2 rfl
    have y0 := Z1.cell 0 rfl
    have y1 := Z1.cell 1 rfl
    have y2 := Z1.cell 2 rfl
    have fy := Z1.frozen
    have h0 := LH.cell 0 rfl
    have h1 := LH.cell 1 rfl
    have h2 := LH.cell 2 rfl
    have fh := LH.frozen
    have hl := R1.1
    clear HG HZ RA K CL bw B0
    by_cases hx : xs = []
    · subst hx
      go_wp2
      refine bodyPost_ret (v := qv n s (.slice none 0 0)) (by simp [results, Tryz.results66, go_sem, y0, y1, y2]) rfl ?_
      exact ⟨_, rfl, World.ownsRow_nil _ _ _ _, Below.set (Below.set (Below.set B1 _ _ (Nat.le_refl _)) _ _ (Nat.le_refl _)) _ _ (Nat.le_refl _)⟩
    · have hp : 0 < xs.length := List.length_pos_iff.2 hx
      obtain ⟨cs, hcs⟩ : ∃ cs, xs.map (Value.int .i64) = cs := ⟨_, rfl⟩
      have hcl : cs.length = xs.length := by rw [← hcs]; simp
      have hone : ∀ v ∈ cs, v.oneCell' = true := by rw [← hcs]; exact ints_plain64 xs
      obtain ⟨ad, rfl, hcells⟩ : ∃ ad, ao = some ad ∧ ∀ j u, cs[j]? = some u → w.cell? (ad.add j) = some u := by
        obtain ⟨_, ao', ca', e, hr⟩ := R1
        cases e
        rcases hr with rfl | ⟨b, off, rfl, hr⟩
        · exact absurd rfl hx
        · exact ⟨_, rfl, hcs ▸ inews_cells hr⟩
      have hrows : ∀ w', Below w.heap.size w w' → ∀ j u, cs[j]? = some u → w'.cell? (ad.add j) = some u := fun w' hb j u hj => (hb.cell (cell_lt (hcells j u hj))).trans (hcells j u hj)
      have HR := hide hrows
      have HC := hide hcs
      obtain ⟨i0, hi, hz0, hz1, hz2⟩ := info_parts Tryz.info3
      obtain ⟨m, hm⟩ : ∃ m, xs.length = m := ⟨_, rfl⟩
      rw [hm] at hl hcl hp x2 G1
      have Hm := hide hm
      clear R1 hcells hrows hcs hm hx
      have hgt : decide ((0 : Int) < (m : Int)) = true := by simpa using hp
      go_upto_region 4 with (first | (at_make; refine wpList_make_full _ rfl _ _ 24 rfl wc.heap.size 3 i0 (.int .i64 0) 1 Tryz.underlying24 hi hz0 hz1 .i64 .i64 m m m rfl rfl rfl rfl (by rw [hz2]; omega) (by unfold maxLen; omega) (Nat.le_refl _) ?_; intro w2 ho2 hg2
                                      have b2 : Below wc.heap.size wc w2 := (Below.refl _ _).grown hg2 (Nat.le_refl _) (by simp)
                                      have L2 := LH.below b2 LH.lt
                                      have k2 := L2.cell 2 rfl
                                      have f2 := L2.frozen))
      obtain ⟨hlen, hrow⟩ := ho2
      rcases hrow with ⟨e, _⟩ | ⟨row, cap, cur, e, hrb, hrh, _, hcm, hcz, hct⟩
      · cases e
      cases e
      have hlt2 : wc.heap.size < w2.heap.size := (Array.getElem?_eq_some_iff.1 hrh).1
      obtain ⟨w3, hw3⟩ : ∃ w3, w2.setCell ⟨h, 2, none⟩ (.slice (some ⟨wc.heap.size, 0, none⟩) m m) = w3 := ⟨_, rfl⟩
      have B3 : Below w.heap.size w w3 := hw3 ▸ Below.set (B1.trans (b2.mono B1.size)) (g := h) 2 _ (by omega)
      have K3 : Kp w2 w3 (fun k => k = h) := hw3 ▸ set_kp w2 h 2 _
      have L3 : Loc w3 h #[.int .i64 n, .string s, .slice (some ⟨wc.heap.size, 0, none⟩) m m] := hw3 ▸ L2.set 2 _ rfl
      have Z3 := (Z1.below b2 Z1.lt).kp K3 (by omega)
      have G3 := (G1.below b2 G1.lt).kp K3 (by omega)
      have H3 : w3.heap[wc.heap.size]? = some (.cells cur.toList.toArray 3 (0, 0)) := by rw [K3.block _ hlt2 (by omega)]; simpa using hrh
      have c3 := unhide HR w3 B3
      have z3 := K3.size
      have p2 := L3.cell 2 rfl
      have q2 := G3.cell 2 rfl
      have hcz' : cur.toList.length = m := by simpa using hcz
      rw [hw3]
      clear hw3 k2 f2 h0 h1 h2 fh y0 y1 y2 fy x2
      have H3h := hide H3
      have C3 := hide c3
      go_region_law (refine step_copy_splice rfl (.tmp 28) (.tmp 32) 24 24 rfl 3 Tryz.underlying24 (by rw [hi]; simp [hz1]) (some ⟨wc.heap.size, 0, none⟩) (some ad) m m m ca (by simp [Act.eval]) (by simp [Act.eval]) wc.heap.size 0 cur.toList 3 (unhide H3h) cs (by rw [hcl]; simp) (fun _ => ⟨rfl, _, rfl, unhide C3⟩) (by omega) hone wc.heap.size w3 ⟨rfl, rfl, rfl, Nat.le_refl _, fun _ _ => rfl⟩ (Nat.le_refl _) ?_; intro w4 hg4 hb4)
      all_goals
        have L4 := L3.below hb4 l1
        have Z4 := Z3.below hb4 (by omega)
        have B4 : Below w.heap.size w w4 := B3.trans (hb4.mono (by omega))
        have h0 := L4.cell 0 rfl
        have h1 := L4.cell 1 rfl
        have h2 := L4.cell 2 rfl
        have y0 := Z4.cell 0 rfl
        have y1 := Z4.cell 1 rfl
        have y2 := Z4.cell 2 rfl
        have fy := Z4.frozen
        have O4 : OI w4 w.heap.size (.slice (some ⟨wc.heap.size, 0, none⟩) m m) xs := by
          refine ⟨by rw [unhide Hm]; simp [unhide Hm], .inr ⟨wc.heap.size, m, _, by rw [unhide Hm], by omega, hg4.out, by rw [unhide Hm]; exact Nat.le_refl _, hcm, ?_, ?_⟩⟩
          · rw [List.size_toArray, length_splice _ _ _ (by omega), hcz', Nat.mul_one]
          · rw [unhide HC]; simp [splice, unhide Hm, hcl]
        have HO := hide O4
        clear L3 Z3 G3 H3 c3 p2 q2 K3 L4 Z4 O4 hg4 hb4 LH Z1 G1 b2 L2 hlen hct hcz hrh
        go_wp2
        refine bodyPost_ret (v := qv n s (.slice (some ⟨wc.heap.size, 0, none⟩) m m)) (by simp [results, Tryz.results66, go_sem, y0, y1, y2]) rfl ?_
        have K5 : Kp w4 (((w4.setCell ⟨w.heap.size, 0, none⟩ (.int .i64 n)).setCell ⟨w.heap.size, 1, none⟩ (.string s)).setCell ⟨w.heap.size, 2, none⟩ (.slice (some ⟨wc.heap.size, 0, none⟩) m m)) (fun k => k = w.heap.size) := ((set_kp _ _ _ _).trans (set_kp _ _ _ _)).trans (set_kp _ _ _ _)
        exact ⟨_, rfl, (unhide HO).kp K5 (fun k hk => by simp [Value.ownBlock] at hk; omega), Below.set (Below.set (Below.set B4 _ _ (Nat.le_refl _)) _ _ (Nat.le_refl _)) _ _ (Nat.le_refl _)⟩
end Go.Proofs.YtehdchpolgihlaaGreatDoor
