/- Texts that belong together: NotePlain2, NotePut, NoteSpecPut. -/
import Derived.Test.YtcclbejpgiogaaaGreatDoorNBBE
import Derived.Test.YtcclbejpgiogaaaGreatDoorNBAV
import Derived.Test.YtcclbejpgiogaaaGreatDoorNBAP
import Derived.Deep.DeepCutAuto
import Derived.Laws.EntriesVeiled
set_option maxRecDepth 100000
set_option maxHeartbeats 16000000
namespace Go.Proofs.YtcclbejpgiogaaaGreatDoor
set_option linter.unusedSectionVars false
variable [∀ (a b c d : Int), Decidable (Ok4 a b c d)]
variable [∀ (a b c d : Nat), Decidable (okN a b c d)]
variable [∀ (last : Int) (s : St), Decidable (GoodSt last s)]
variable [∀ (x : T4), Decidable (OkT x)]
variable [∀ (n : Int) (s : List Int), Decidable (OkL n s)]
variable [∀ (n f : Int), Decidable (COk n f)]

def noteT (t : SafT) : List Int := putAns (rawT t).length ++ rawT t ++ [10]
def noteP (n f : Int) (xs : List Int) (p : Int) : Option (SafT × Int) := match getNum xs p with
 | none => none
 | some x => match getSafe 7 xs x.2 with
  | none => none
  | some y => if (sokT n f y.1 && (y.2 - x.2 == x.1)) = true then (match getNum xs y.2 with
   | none => none
   | some z => if z.1 = 10 then some (y.1, z.2) else none) else none
def noteS (n f : Int) (xs : List Int) (p : Int) : Option (SafT × Int) := match getNum xs p with
 | none => none
 | some x => if x.1 < (xs.length : Int) - x.2 ∧ xs.getD (x.2 + x.1).toNat 0 = 10 then (match safOfA 7 n f ((xs.drop x.2.toNat).take x.1.toNat) with
  | none => none
  | some t => some (t, x.2 + x.1 + 1)) else none
theorem put_ten : putAns 10 = [10] := by decide
theorem noteP_iff {xs : List Int} (hb : BytesL xs) (n f p : Int) (t : SafT) (q : Int) : noteP n f xs p = some (t, q) ↔ sokT n f t = true ∧ StandsAt xs p (noteT t) q := by
 unfold noteT
 rw [stands_app]
 constructor
 ·intro h
  unfold noteP at h
  cases hg : getNum xs p with
  | none => rw [hg] at h; cases h
  | some x =>
   rw [hg] at h
   obtain ⟨m, r⟩ := x
   simp only at h
   obtain ⟨hm, hs⟩ := (getNum_iff hb p m r).1 hg
   cases hg1 : getSafe 7 xs r with
   | none => rw [hg1] at h; cases h
   | some y =>
    rw [hg1] at h
    obtain ⟨u, r1⟩ := y
    simp only at h
    by_cases hq : (sokT n f u && (r1 - r == m)) = true
    ·rw [if_pos hq] at h
     simp only [Bool.and_eq_true, beq_iff_eq] at hq
     have hs1 := (getSafe_sok hb 7 (by omega) (by omega) n f r u r1 hq.1).1 hg1
     have hle := stands_le hs1
     cases hg2 : getNum xs r1 with
     | none => rw [hg2] at h; cases h
     | some z =>
      rw [hg2] at h
      obtain ⟨c, r2⟩ := z
      simp only at h
      by_cases hc : c = 10
      ·rw [if_pos hc] at h
       simp only [Option.some.injEq, Prod.mk.injEq] at h
       obtain ⟨rfl, rfl⟩ := h
       subst hc
       have hs2 := ((getNum_iff hb r1 10 r2).1 hg2).2
       rw [put_ten] at hs2
       refine ⟨hq.1, r1, stands_app.2 ⟨r, ?_, hs1⟩, hs2⟩
       rw [show ((rawT u).length : Int) = m from by omega]; exact hs
      ·rw [if_neg hc] at h; cases h
    ·rw [if_neg hq] at h; cases h
 ·rintro ⟨ht, r1, h01, hs2⟩
  obtain ⟨r, hs, hs1⟩ := stands_app.1 h01
  have hl := rawT_len ht
  have hle := stands_le hs1
  unfold noteP
  rw [(getNum_iff hb p _ r).2 ⟨⟨by omega, by omega⟩, hs⟩]
  simp only
  rw [(getSafe_sok hb 7 (by omega) (by omega) n f r t r1 ht).2 hs1]
  simp only
  rw [if_pos (by simp [ht]; omega), (getNum_iff hb r1 10 q).2 ⟨⟨by omega, by omega⟩, by rw [put_ten]; exact hs2⟩]
  simp
theorem BytesL.piece {xs : List Int} (hb : BytesL xs) (k m : Nat) : BytesL ((xs.drop k).take m) := fun y hy => hb y (List.mem_of_mem_drop (List.mem_of_mem_take hy))
theorem noteS_iff {xs : List Int} (hb : BytesL xs) (n f p : Int) (t : SafT) (q : Int) : noteS n f xs p = some (t, q) ↔ sokT n f t = true ∧ StandsAt xs p (noteT t) q := by
 unfold noteT
 rw [stands_app]
 constructor
 ·intro h
  unfold noteS at h
  cases hg : getNum xs p with
  | none => rw [hg] at h; cases h
  | some x =>
   rw [hg] at h
   obtain ⟨m, r⟩ := x
   simp only at h
   obtain ⟨hm, hs⟩ := (getNum_iff hb p m r).1 hg
   have hle := stands_le hs
   by_cases hc : m < (xs.length : Int) - r ∧ xs.getD (r + m).toNat 0 = 10
   ·rw [if_pos hc] at h
    obtain ⟨m, rfl⟩ := Int.eq_ofNat_of_zero_le hm.1
    obtain ⟨r, rfl⟩ := Int.eq_ofNat_of_zero_le (show 0 ≤ r by omega)
    rw [Int.toNat_natCast, Int.toNat_natCast] at h
    cases hg2 : safOfA 7 n f ((xs.drop r).take m) with
    | none => rw [hg2] at h; cases h
    | some u =>
     rw [hg2] at h
     simp only [Option.some.injEq, Prod.mk.injEq] at h
     obtain ⟨rfl, rfl⟩ := h
     obtain ⟨h1, h2⟩ := (safOf_iff (hb.piece r m) 7 (by omega) (by omega) n f u).1 hg2
     have hl : (rawT u).length = m := by rw [← h2]; exact win_len xs r m (by omega)
     refine ⟨h1, (r : Int) + m, stands_app.2 ⟨r, ?_, stands_mk (by omega) h2⟩, ?_⟩
     ·rw [hl]; exact hs
     ·have hk : r + m < xs.length := by omega
      have := stands_one (c := 10) hk (by rw [← hc.2]; congr 1)
      rwa [Int.natCast_add] at this
   ·rw [if_neg hc] at h; cases h
 ·rintro ⟨ht, r1, h01, hs2⟩
  obtain ⟨r, hs, hs1⟩ := stands_app.1 h01
  have hl := rawT_len ht
  have hle := stands_le hs1
  have hle2 := stands_le hs2
  simp only [List.length_cons, List.length_nil] at hle2
  obtain ⟨k, rfl, hk1, hk2, hk3⟩ := stands_cut hs1
  obtain ⟨j, rfl, hj1, hj2, hj3⟩ := stands_cut hs2
  have hj : j = k + (rawT t).length := by omega
  have hg : xs.getD j 0 = 10 := by
   have hlt : j < xs.length := by simp at hj2; omega
   rw [List.length_singleton, List.drop_eq_getElem_cons hlt, List.take_succ_cons, List.take_zero] at hj3
   rw [List.getD_eq_getElem?_getD, List.getElem?_eq_getElem hlt]
   simpa using hj3
  unfold noteS
  rw [(getNum_iff hb p _ k).2 ⟨⟨by omega, by omega⟩, hs⟩]
  simp only
  rw [if_pos ⟨by simp at hj2; omega, by rw [← hg]; congr 1; omega⟩, Int.toNat_natCast, Int.toNat_natCast, hk3, (safOf_iff (by rw [← hk3]; exact hb.piece _ _) 7 (by omega) (by omega) n f t).2 ⟨ht, rfl⟩]
  simp only [Option.some.injEq, Prod.mk.injEq, true_and]
  simp at hj1
  omega
theorem note_eq {xs : List Int} (hb : BytesL xs) (n f p : Int) : noteS n f xs p = noteP n f xs p := by
 apply Option.ext
 rintro ⟨t, q⟩
 rw [noteS_iff hb, noteP_iff hb]
theorem noteT_pos {n f : Int} {t : SafT} (h : sokT n f t = true) : 2 ≤ (noteT t).length := by
 unfold noteT
 have := rawT_pos h
 simp only [List.length_append, List.length_cons, List.length_nil]; omega
theorem noteP_step {xs : List Int} (hb : BytesL xs) {n f p : Int} {t : SafT} {q : Int} (h : noteP n f xs p = some (t, q)) : sokT n f t = true ∧ 0 ≤ p ∧ p < q ∧ q ≤ xs.length := by
 obtain ⟨h1, h2⟩ := (noteP_iff hb n f p t q).1 h
 have := stands_le h2
 have := noteT_pos h1
 exact ⟨h1, by omega, by omega, by omega⟩

def lastN (n f : Int) (xs : List Int) : Nat → Int → SafT → SafT × Int
 | 0, p, t => (t, p)
 | k + 1, p, t => match noteP n f xs p with
  | none => (t, p)
  | some x => lastN n f xs k x.2 x.1
def newT : SafT := (0, 0, (0, ⟨#[]⟩, []), ⟨#[]⟩)
def lastA (n f : Int) (xs : List Int) : SafT × Int := lastN n f xs (xs.length + 1) 0 newT
theorem lastN_none {n f : Int} {xs : List Int} {p : Int} (h : noteP n f xs p = none) (k : Nat) (t : SafT) : lastN n f xs k p t = (t, p) := by
 cases k with
 | zero => rfl
 | succ k => rw [lastN, h]
theorem lastN_some {n f : Int} {xs : List Int} {p : Int} {u : SafT} {q : Int} (h : noteP n f xs p = some (u, q)) (k : Nat) (t : SafT) : lastN n f xs (k + 1) p t = lastN n f xs k q u := by
 rw [lastN, h]
theorem lastN_more {xs : List Int} (hb : BytesL xs) (n f : Int) (k : Nat) (p : Int) (t : SafT) (h0 : 0 ≤ p) (h : (xs.length : Int) < p + k) : lastN n f xs (k + 1) p t = lastN n f xs k p t := by
 induction k generalizing p t with
 | zero =>
  cases hg : noteP n f xs p with
  | none => rw [lastN_none hg, lastN_none hg]
  | some x =>
   obtain ⟨u, q⟩ := x
   have := noteP_step hb hg
   omega
 | succ k ih =>
  cases hg : noteP n f xs p with
  | none => rw [lastN_none hg, lastN_none hg]
  | some x =>
   obtain ⟨u, q⟩ := x
   have := noteP_step hb hg
   rw [lastN_some hg, lastN_some hg, ih q u (by omega) (by omega)]
theorem lastN_end {xs : List Int} (hb : BytesL xs) (n f : Int) (k : Nat) (p : Int) (t : SafT) (h0 : 0 ≤ p) (h1 : p ≤ xs.length) (h : (xs.length : Int) < p + k) :
 0 ≤ (lastN n f xs k p t).2 ∧ p ≤ (lastN n f xs k p t).2 ∧ (lastN n f xs k p t).2 ≤ xs.length ∧ noteP n f xs (lastN n f xs k p t).2 = none ∧ ((lastN n f xs k p t).1 = t ∨ sokT n f (lastN n f xs k p t).1 = true) := by
 induction k generalizing p t with
 | zero => omega
 | succ k ih =>
  cases hg : noteP n f xs p with
  | none => rw [lastN_none hg]; exact ⟨h0, by simp, h1, hg, .inl rfl⟩
  | some x =>
   obtain ⟨u, q⟩ := x
   have st := noteP_step hb hg
   rw [lastN_some hg]
   obtain ⟨a, b, c, d, e⟩ := ih q u (by omega) (by omega) (by omega)
   refine ⟨a, by omega, c, d, ?_⟩
   rcases e with e | e
   ·right; rw [e]; exact st.1
   ·exact .inr e
theorem stands_take {xs : List Int} {p : Int} {a : List Int} {q : Int} (m : Nat) (hm : m ≤ xs.length) : StandsAt (xs.take m) p a q ↔ StandsAt xs p a q ∧ q ≤ m := by
 constructor
 ·intro h
  have hle := stands_le h
  refine ⟨?_, by simp at hle; omega⟩
  obtain ⟨pre, post, h, hp, hq⟩ := h
  refine ⟨pre, post ++ xs.drop m, ?_, hp, hq⟩
  rw [← List.append_assoc, ← h, List.take_append_drop]
 ·rintro ⟨h, hle⟩
  obtain ⟨pre, post, rfl, rfl, rfl⟩ := h
  refine ⟨pre, (post.take (m - (pre ++ a).length)), ?_, rfl, rfl⟩
  rw [List.take_append, List.take_of_length_le (l := pre ++ a) (by simp; omega)]
theorem noteP_take {xs : List Int} (hb : BytesL xs) (n f p : Int) (m : Nat) (hm : m ≤ xs.length) (t : SafT) (q : Int) : noteP n f (xs.take m) p = some (t, q) ↔ noteP n f xs p = some (t, q) ∧ q ≤ m := by
 have hb' : BytesL (xs.take m) := fun y hy => hb y (List.mem_of_mem_take hy)
 rw [noteP_iff hb', noteP_iff hb, stands_take m hm]
 constructor
 ·rintro ⟨a, b, c⟩; exact ⟨⟨a, b⟩, c⟩
 ·rintro ⟨⟨a, b⟩, c⟩; exact ⟨a, b, c⟩
theorem lastN_take {xs : List Int} (hb : BytesL xs) (n f : Int) (k : Nat) (p : Int) (t : SafT) (m : Nat) (hm : m ≤ xs.length) (he : (lastN n f xs k p t).2 = m) (h0 : 0 ≤ p) (h1 : p ≤ xs.length) (h : (xs.length : Int) < p + k) : lastN n f (xs.take m) k p t = lastN n f xs k p t := by
 induction k generalizing p t with
 | zero => rfl
 | succ k ih =>
  cases hg : noteP n f xs p with
  | none =>
   have hg2 : noteP n f (xs.take m) p = none := by
    cases hc : noteP n f (xs.take m) p with
    | none => rfl
    | some x =>
     obtain ⟨u, q⟩ := x
     have := (noteP_take hb n f p m hm u q).1 hc
     rw [hg] at this
     exact absurd this.1 (by simp)
   rw [lastN_none hg, lastN_none hg2]
  | some x =>
   obtain ⟨u, q⟩ := x
   have st := noteP_step hb hg
   rw [lastN_some hg] at he ⊢
   have en := lastN_end hb n f k q u (by omega) (by omega) (by omega)
   have hg2 := (noteP_take hb n f p m hm u q).2 ⟨hg, by omega⟩
   rw [lastN_some hg2]
   exact ih q u he (by omega) (by omega) (by omega)
theorem lastA_take {xs : List Int} (hb : BytesL xs) (n f : Int) (m : Nat) (hm : (m : Int) = (lastA n f xs).2) : lastA n f (xs.take m) = lastA n f xs := by
 have en := lastN_end hb n f (xs.length + 1) 0 newT (by omega) (by omega) (by omega)
 have hml : m ≤ xs.length := by unfold lastA at hm; omega
 have hb' : BytesL (xs.take m) := fun y hy => hb y (List.mem_of_mem_take hy)
 have h1 := lastN_take hb n f (xs.length + 1) 0 newT m hml hm.symm (by omega) (by omega) (by omega)
 have hl : (xs.take m).length = m := by simp; omega
 have h2 : ∀ j, lastN n f (xs.take m) (m + 1 + j) 0 newT = lastN n f (xs.take m) (m + 1) 0 newT := by
  intro j
  induction j with
  | zero => rfl
  | succ j ih => rw [← Nat.add_assoc, lastN_more hb' n f (m + 1 + j) 0 newT (by omega) (by rw [hl]; omega), ih]
 have h3 := h2 (xs.length - m)
 rw [show m + 1 + (xs.length - m) = xs.length + 1 from by omega] at h3
 show lastN n f (xs.take m) ((xs.take m).length + 1) 0 newT = lastN n f xs (xs.length + 1) 0 newT
 rw [hl, ← h3, h1]
theorem rawT_bytes {n f : Int} {t : SafT} (h : sokT n f t = true) : BytesL (rawT t) := by
 obtain ⟨h1, h2, ⟨h3, h4, h5, h6⟩, h7⟩ := sok_small h
 have hp : ∀ m : Int, 0 ≤ m ∧ m ≤ 2147483647 → BytesL (putAns m) := by
  rintro m ⟨a, b⟩
  obtain ⟨k, rfl⟩ := Int.eq_ofNat_of_zero_le a
  rw [putAns_yes k (by omega)]
  exact put_bytes 4 k (by omega)
 have ht : ∀ s : ByteArray, s.size ≤ 1920 → BytesL (textAns s) := by
  intro s hs
  unfold textAns
  exact (put_bytes 4 _ (by omega)).append (bs_bytes s)
 have hf : ∀ ys : List Int, Nums ys → BytesL (flatP ys) := by
  intro ys hy
  induction ys with
  | nil => exact bytes_nil
  | cons y ys ih => rw [flatP_cons]; exact (hp y (hy y (by simp))).append (ih fun z hz => hy z (by simp [hz]))
 unfold rawT safRaw qcRaw whoRaw
 exact (((hp _ (by omega)).append (hp _ (by omega))).append (((hp _ (by omega)).append (ht _ h4)).append ((hp _ (by omega)).append (hf _ h6)))).append (ht _ h7)
theorem noteT_bytes {n f : Int} {t : SafT} (h : sokT n f t = true) : BytesL (noteT t) := by
 have hl := rawT_len h
 unfold noteT
 have h1 : BytesL (putAns (rawT t).length) := by rw [putAns_yes _ (by omega)]; exact put_bytes 4 _ (by omega)
 exact (h1.append (rawT_bytes h)).append fun y hy => by simp at hy; omega
theorem lastA_note {n f : Int} {t : SafT} (h : sokT n f t = true) : lastA n f (noteT t) = (t, ((noteT t).length : Int)) := by
 have hb := noteT_bytes h
 have h1 := (noteP_iff hb n f 0 t (noteT t).length).2 ⟨h, stands_all.2 rfl⟩
 have hp := noteT_pos h
 have h2 : noteP n f (noteT t) (noteT t).length = none := by
  cases hc : noteP n f (noteT t) (noteT t).length with
  | none => rfl
  | some x =>
   obtain ⟨u, q⟩ := x
   have := noteP_step hb hc
   omega
 unfold lastA
 rw [lastN_some h1, lastN_none h2]
theorem lastA_torn {n f : Int} {t : SafT} (h : sokT n f t = true) : lastA n f ((noteT t).take ((noteT t).length - 1)) = (newT, 0) := by
 have hb := noteT_bytes h
 have h1 := (noteP_iff hb n f 0 t (noteT t).length).2 ⟨h, stands_all.2 rfl⟩
 have hp := noteT_pos h
 have h2 : noteP n f ((noteT t).take ((noteT t).length - 1)) 0 = none := by
  cases hc : noteP n f ((noteT t).take ((noteT t).length - 1)) 0 with
  | none => rfl
  | some x =>
   obtain ⟨u, q⟩ := x
   have := (noteP_take hb n f 0 _ (by omega) u q).1 hc
   rw [h1] at this
   simp only [Option.some.injEq, Prod.mk.injEq] at this
   omega
 unfold lastA
 rw [lastN_none h2]
theorem safOf_raw {n f : Int} {t : SafT} (h : sokT n f t = true) : safOfA 7 n f (rawT t) = some t := (safOf_iff (rawT_bytes h) 7 (by omega) (by omega) n f t).2 ⟨h, rfl⟩
end Go.Proofs.YtcclbejpgiogaaaGreatDoor
namespace Go.Proofs.YtcclbejpgiogaaaGreatDoor
open Go.RowKit
set_option linter.unusedSectionVars false
variable [∀ (a b c d : Int), Decidable (Ok4 a b c d)]
variable [∀ (a b c d : Nat), Decidable (okN a b c d)]
variable [∀ (last : Int) (s : St), Decidable (GoodSt last s)]
variable [∀ (x : T4), Decidable (OkT x)]
variable [∀ (n : Int) (s : List Int), Decidable (OkL n s)]
variable [∀ (n f : Int), Decidable (COk n f)]

def qcB (n f v : Int) (s : ByteArray) (ys : List Int) : List Int := if qokB n f v s ys = true then qcRaw v s ys else []
def safB (n f vo lo v : Int) (s : ByteArray) (ys : List Int) (d : ByteArray) : List Int := if sokB n f vo lo v s ys d = true then safRaw vo lo v s ys d else []
def notB (n f vo lo v : Int) (s : ByteArray) (ys : List Int) (d : ByteArray) : List Int := if sokB n f vo lo v s ys d = true then noteT (vo, lo, (v, s, ys), d) else []
theorem OB.nil (w : World) (base : Nat) : OB w base (.slice none 0 0) [] := World.ownsRow_nil _ _ _ _

theorem implPutWho (ao : Option Addr) (ca : Nat) (ys : List Int) (w : World) (hl : ys.length ≤ 1000) (ha : RI w (.slice ao ys.length ca) ys) :
 Calls Tryz.prog 55 #[.slice ao ys.length ca] w fun e w' => ∃ u, e = .returned u ∧ OB w' w.heap.size u (whoRaw ys) ∧ Below w.heap.size w w' := by
 have HA := hide ha
 obtain ⟨n, hn⟩ : ∃ n, ys.length = n := ⟨_, rfl⟩
 have PN := hide fun w => implPut (n : Int) w
 have hp5 := putAns_len (n : Int)
 have HW : Hid (whoRaw ys = putAns n ++ flatP ys) := by rw [← hn]; exact hide rfl
 have HF : Hid (∀ k, k < n → flatP (ys.take (k + 1)) = flatP (ys.take k) ++ putAns (ys.getD k 0)) := hide fun k hk => by
  rw [List.take_succ_eq_append_getElem (by omega), flatP_snoc, List.getD_eq_getElem?_getD, List.getElem?_eq_getElem (by omega)]; rfl
 have HL : Hid (∀ k, (flatP (ys.take k)).length ≤ 5000) := hide fun k => by have := flatP_len (ys.take k); simp at this; omega
 have HZ : Hid (flatP (ys.take 0) = []) := hide rfl
 have HT : Hid (ys.take n = ys) := hide (by rw [← hn]; simp)
 have HG : Hid (∀ k, k < n → ∃ b off, ao = some ⟨b, off, none⟩ ∧ w.cell? ⟨b, off + k, none⟩ = some (.int .i64 (ys.getD k 0))) := hide fun k hk => RI.at ha k (by omega)
 have hn1 : n ≤ 1000 := by omega
 rw [hn]
 clear ha hn HA hl
 generalize putAns (n : Int) = l0 at *
 go_enter Tryz.func55, Tryz.ntmps55
 go_wp2_with fail
 refine (PN.out _).mono ?_
 rintro e w1 ⟨u0, rfl, o0, b0⟩
 clear PN
 have O0 : OB w1 w.heap.size u0 (l0 ++ flatP (ys.take 0)) := by rw [HZ.out, List.append_nil]; exact o0
 clear o0
 go_wp2
 go_loopw [3, 11] (fun o i wr => ∃ k : Nat, k ≤ n ∧ i = .int .i64 (k : Int) ∧ OB wr w.heap.size o (l0 ++ flatP (ys.take k)) ∧ Below w.heap.size w wr) (fun _ i _ => n - (intOf i).toNat)
 case atStart => exact ⟨0, Nat.zero_le _, rfl, O0, b0⟩
 case round =>
  clear O0 b0
  obtain ⟨k, hk, rfl, ob, br⟩ := hrel
  obtain ⟨va, vc, rfl⟩ := ob.form
  have ltb := ob.lt
  have zr := br.size
  by_cases hlt : k < n
  ·obtain ⟨b, off, hao, hc⟩ := HG.out k hlt
   subst hao
   have hc' := (br.cell (cell_lt hc)).trans hc
   have hd : decide ((k : Int) < (n : Int)) = true := by simpa using hlt
   have FK := hide (HF.out k hlt)
   have lK := HL.out k
   have x5 := putAns_len (ys.getD k 0)
   have PX := hide (implPut (ys.getD k 0) wr)
   have OBh := hide ob
   obtain ⟨ln, hln⟩ : ∃ m, (l0 ++ flatP (ys.take k)).length = m := ⟨_, rfl⟩
   have l5 : ln ≤ 5005 := by rw [← hln, List.length_append]; omega
   rw [hln] at OBh ltb ⊢
   have HLN := hide hln
   clear hc ob hln lK
   generalize ys.getD k 0 = x at *
   go_wp2_with fail
   clear hc'
   refine PX.out.mono ?_
   rintro e w2 ⟨u1, rfl, o1, b1⟩
   clear PX
   have o1' : OB w2 wr.heap.size u1 (putAns x) := o1
   obtain ⟨ua, uc, rfl⟩ := o1'.form
   have P1 := hide (o1'.pb (by omega))
   have OA := hide (OBh.out.below b1)
   have B2 := bu br b1
   obtain ⟨l1, hl1⟩ : ∃ l, putAns x = l := ⟨_, rfl⟩
   rw [hl1] at P1 x5 FK ⊢
   clear o1 o1' b1 br hl1 OBh
   go_wp2_with (first | (at_builtin; refine append_bytes rfl _ _ rfl w.heap.size (.slice va ln vc) (.slice ua l1.length uc) (l0 ++ flatP (ys.take k)) l1 rfl rfl OA.out P1.out (by have := HLN.out; omega) B2.size ?_; intro v' w3 ho' hg' _; have HO := hide ho'; have B3 := hide (B2.grown hg' B2.size (fun j hj => (ltb j hj).1)); clear ho' hg'))
   go_roundw
   case rel => exact ⟨k + 1, by omega, by go_num, by rw [FK.out, ← List.append_assoc]; exact HO.out, B3.out⟩
   case measure => simp [intOf]; omega
  ·obtain rfl : k = n := by omega
   have hd : decide ((k : Int) < (k : Int)) = false := by simp
   have OF : OB wr w.heap.size (.slice va (l0 ++ flatP (ys.take k)).length vc) (whoRaw ys) := by rw [HW.out]; have := ob; rwa [HT.out] at this ⊢
   clear ob
   generalize (l0 ++ flatP (ys.take k)).length = ln at *
   go_wp2
   go_ret
   exact ⟨_, rfl, OF, br⟩

theorem implQcBytes (n f v : Int) (s : ByteArray) (ao : Option Addr) (ca : Nat) (ys : List Int) (w : World) (hs : s.size ≤ 33554432) (hE : Env w) (ha : RI w (.slice ao ys.length ca) ys) :
 Calls Tryz.prog 21 #[cv n f, qv v s (.slice ao ys.length ca)] w fun e w' => ∃ u, e = .returned u ∧ OB w' w.heap.size u (qcB n f v s ys) ∧ Below w.heap.size w w' := by
 have QO := hide fun w' (b : Below w.heap.size w w') => implQcOk n f v s ao ca ys w' hs (hE.below b) (ha.below b)
 have RW := hide fun w' (b : Below w.heap.size w w') => ha.below b
 have HQ := hide fun h => qok_small (n := n) (f := f) (v := v) (s := s) (ys := ys) h
 obtain ⟨res, hres⟩ : ∃ r, qcB n f v s ys = r := ⟨_, rfl⟩
 rw [hres]
 have HF : Hid (qokB n f v s ys = false → res = []) := hide fun h => by rw [← hres]; unfold qcB; rw [h]; rfl
 have HT : Hid (qokB n f v s ys = true → res = putAns v ++ textAns s ++ whoRaw ys) := hide fun h => by rw [← hres]; unfold qcB; rw [h]; rfl
 generalize qokB n f v s ys = bq at *
 clear hE ha hs hres
 obtain ⟨w0, hw0⟩ : ∃ w0, ((w.alloc (.cells #[.int .i64 n, .int .i64 f] 25)).alloc (.cells #[.int .i64 v, .string s, .slice ao ys.length ca] 28)) = w0 := ⟨_, rfl⟩
 have Bw0 : Below w.heap.size w w0 := hw0 ▸ ((Below.refl _ _).alloc (Nat.le_refl _) _).alloc (by simp) _
 have LC : Loc w0 (w.heap.size) #[.int .i64 n, .int .i64 f] := hw0 ▸ (loc_at (w) _ _ rfl).alloc _
 have LQ : Loc w0 (w.heap.size + 1) #[.int .i64 v, .string s, .slice ao ys.length ca] := hw0 ▸ loc_at (w.alloc _) _ _ (by simp)
 have zw0 : w.heap.size + 1 + 1 ≤ w0.heap.size := by rw [← hw0]; simp
 go_enter Tryz.func21, Tryz.ntmps21
 have cLC0 := LC.cell 0 rfl
 have cLC1 := LC.cell 1 rfl
 have cLQ0 := LQ.cell 0 rfl
 have cLQ1 := LQ.cell 1 rfl
 have cLQ2 := LQ.cell 2 rfl
 go_wp2_with fail
 clear hw0
 refine (QO.out _ Bw0).mono ?_
 rintro _ w1 ⟨rfl, bb⟩
 clear cLC0 cLC1 cLQ0 cLQ1 cLQ2
 have Bw1 := bu Bw0 bb
 have sw1 := bb.size
 replace LC := LC.up bb
 replace LQ := LQ.up bb
 clear Bw0
 clear bb
 clear QO
 cases bq with
 | false =>
  clear LC LQ
  go_wp2
  go_ret
  exact ⟨_, rfl, by rw [HF.out (by trivial)]; exact OB.nil _ _, Bw1⟩
 | true =>
  obtain ⟨hv, hs, h7, hN⟩ := HQ.out (by trivial)
  have T1 := hide fun w => implPut v w
  have T2 := hide fun w => implText s w (by omega)
  have T3 := hide fun w' (b : Below w1.heap.size w1 w') => implPutWho ao ca ys w' (by omega) (RW.out _ (bu Bw1 b))
  have l1 := putAns_len v
  have l2 := textAns_le s
  have l3 := whoRaw_len ys
  have p1 := putAns_pos v (by omega) (by omega)
  generalize putAns v = x1 at *
  generalize textAns s = x2 at *
  generalize whoRaw ys = x3 at *
  clear HQ RW hN hv
  have K : Hid (∀ w', Below w1.heap.size w1 w' → (fun w' => Below w1.heap.size w1 w' ∧ (w'.cell? ⟨w.heap.size, 0, none⟩ = some (.int .i64 n) ∧ w'.cell? ⟨w.heap.size, 1, none⟩ = some (.int .i64 f)) ∧ (w'.cell? ⟨w.heap.size + 1, 0, none⟩ = some (.int .i64 v) ∧ w'.cell? ⟨w.heap.size + 1, 1, none⟩ = some (.string s) ∧ w'.cell? ⟨w.heap.size + 1, 2, none⟩ = some (.slice ao ys.length ca))) w') := hide fun w' hb' => ⟨hb', ⟨(LC.up hb').cell 0 rfl, (LC.up hb').cell 1 rfl⟩, ⟨(LQ.up hb').cell 0 rfl, (LQ.up hb').cell 1 rfl, (LQ.up hb').cell 2 rfl⟩⟩
  go_upto_region 3 with fail
  have bA : Below w1.heap.size w1 w1.drew := Below.drew (Below.refl _ _)
  refine wrn K bA (fun hHeld => ?_)
  refine' tj 0 9 rfl ?_ ?_;rotate_left
  ·intro w h; (try dsimp only at h); go_simp; try with_reducible rfl
  simp only [pU]
  refine' tj 3 12 rfl ?_ ?_;rotate_left
  ·intro w h; (try dsimp only at h); go_simp; try with_reducible rfl
  simp only [pU]
  refine' tj 6 15 rfl ?_ ?_;rotate_left
  ·intro w h; (try dsimp only at h); go_simp; try with_reducible rfl
  simp only [pU]
  refine' tj 1 10 rfl ?_ ?_;rotate_left
  ·intro w h; (try dsimp only at h); go_simp; try with_reducible rfl
  simp only [pU]
  refine' tj 4 13 rfl ?_ ?_;rotate_left
  ·intro w h; (try dsimp only at h); go_simp; try with_reducible rfl
  simp only [pU]
  refine' tj 7 16 rfl ?_ ?_;rotate_left
  ·intro w h; (try dsimp only at h); go_simp; try with_reducible rfl
  simp only [pU]
  refine rd 2 rfl (fun KK hKK => ?_)
  go_simp
  have hgo := bA
  refine (T1.out _).mono ?_
  rintro e wz3_1 ⟨u1, rfl, (o1 : OB _ _ u1 x1), bb⟩
  have bz1 : Below w1.heap.size w1 wz3_1 := bu bA bb
  replace o1 := o1.mono hgo.size
  obtain ⟨ao1, ko1, rfl⟩ := o1.form
  clear bA hgo bb
  clear hHeld
  refine hKK.out _ _ (K.out _ bz1) (fun hHeld => ?_)
  clear hKK KK
  refine rd 5 rfl (fun KK hKK => ?_)
  go_simp
  have hgo := bz1
  refine (T2.out _).mono ?_
  rintro e wz3_2 ⟨u2, rfl, o2, bb⟩
  have bz2 : Below w1.heap.size w1 wz3_2 := bu bz1 bb
  replace o1 := o1.below bb
  replace o2 := o2.mono hgo.size
  obtain ⟨ao2, ko2, rfl⟩ := o2.form
  clear bz1 hgo bb
  clear hHeld
  refine hKK.out _ _ (K.out _ bz2) (fun hHeld => ?_)
  clear hKK KK
  refine rd 8 rfl (fun KK hKK => ?_)
  go_simp
  have hgo := bz2
  refine (T3.out _ hgo).mono ?_
  rintro e wz3_3 ⟨u3, rfl, o3, bb⟩
  have bz3 : Below w1.heap.size w1 wz3_3 := bu bz2 bb
  replace o1 := o1.below bb
  replace o2 := o2.below bb
  replace o3 := o3.mono hgo.size
  obtain ⟨ao3, ko3, rfl⟩ := o3.form
  clear bz2 hgo bb
  clear hHeld
  refine hKK.out _ _ (K.out _ bz3) (fun hHeld => ?_)
  clear hKK KK
  refine rd 9 rfl (fun KK hKK => ?_)
  go_simp
  obtain ⟨wz3_4, hwz3_4⟩ : ∃ x, (wz3_3).alloc (.cells #[.slice ao1 x1.length ko1, .slice ao2 x2.length ko2, .slice ao3 x3.length ko3] 22) = x := ⟨_, rfl⟩
  have bb : Below (wz3_3).heap.size (wz3_3) wz3_4 := hwz3_4 ▸ qalloc _ _
  have bz4 : Below w1.heap.size w1 wz3_4 := bu bz3 bb
  have LV : Loc wz3_4 (wz3_3).heap.size #[.slice ao1 x1.length ko1, .slice ao2 x2.length ko2, .slice ao3 x3.length ko3] := hwz3_4 ▸ loc_at (wz3_3) _ _ rfl
  replace o1 := o1.below bb
  replace o2 := o2.below bb
  replace o3 := o3.below bb
  rw [hwz3_4]
  clear bz3 hwz3_4 bb
  clear hHeld
  refine hKK.out _ _ (K.out _ bz4) (fun hHeld => ?_)
  clear hKK KK
  refine rd 10 rfl (fun KK hKK => ?_)
  go_simp
  have hgo := bz4
  refine (concatB3 _ _ _ _ x1 x2 x3 _ (LV.cell 0 rfl) (LV.cell 1 rfl) (LV.cell 2 rfl) (o1.pb (by omega)) (o2.pb (by omega)) (o3.pb (by omega)) (by omega) (by omega)).mono ?_
  rintro e wz3_5 ⟨u4, rfl, o4, bb⟩
  have bz5 : Below w1.heap.size w1 wz3_5 := bu bz4 bb
  replace LV := LV.up bb
  replace o1 := o1.below bb
  replace o2 := o2.below bb
  replace o3 := o3.below bb
  replace o4 := OB.mono o4 (Nat.le_trans Bw1.size hgo.size)
  clear bz4 hgo bb
  clear hHeld
  refine hKK.out _ _ (K.out _ bz5) (fun hHeld => ?_)
  clear hKK KK
  refine' tj 11 4 rfl ?_ ?_;rotate_left
  ·intro w h; (try dsimp only at h); go_simp; try with_reducible rfl
  simp only [pU]
  clear hHeld
  refine wdn ?_
  have bb := bz5
  have Bwz3_5 := bu Bw1 bb
  have swz3_5 := bb.size
  replace LC := LC.up bb
  replace LQ := LQ.up bb
  clear Bw1
  clear bb bz5 K
  go_wp2
  go_ret
  exact ⟨_, rfl, by rw [HT.out (by trivial)]; exact o4, Bwz3_5⟩

theorem OB.lit (w : World) (t : TypeId) (h : t = 5) : OB (w.alloc (.cells #[] t)) w.heap.size (.slice (some ⟨w.heap.size, 0, none⟩) 0 0) [] := by subst h; exact World.ownsRow_lit w #[] 0 (Nat.le_refl _) (by unfold maxLen; omega) rfl

theorem specQcBytes (n f v : Int) (s : ByteArray) (ao : Option Addr) (ca : Nat) (ys : List Int) (w : World) (hs : s.size ≤ 1048576) (ha : RI w (.slice ao ys.length ca) ys) :
 Calls Tryz.prog 22 #[cv n f, qv v s (.slice ao ys.length ca)] w fun e w' => ∃ u, e = .returned u ∧ OB w' w.heap.size u (qcB n f v s ys) ∧ Below w.heap.size w w' := by
 have QO := hide fun w' (b : Below w.heap.size w w') => specQcOk n f v s ao ca ys w' hs (ha.below b)
 have HG : Hid (∀ w', Below w.heap.size w w' → ∀ k, k < ys.length → ∃ b off, ao = some ⟨b, off, none⟩ ∧ w'.cell? ⟨b, off + k, none⟩ = some (.int .i64 (ys.getD k 0))) := hide fun w' b k hk => RI.at (ha.below b) k hk
 have HQ := hide fun h => qok_small (n := n) (f := f) (v := v) (s := s) (ys := ys) h
 obtain ⟨res, hres⟩ : ∃ r, qcB n f v s ys = r := ⟨_, rfl⟩
 rw [hres]
 have HF : Hid (qokB n f v s ys = false → res = []) := hide fun h => by rw [← hres]; unfold qcB; rw [h]; rfl
 have HT : Hid (qokB n f v s ys = true → res = putAns v ++ textAns s ++ putAns (ys.length : Int) ++ flatP ys) := hide fun h => by rw [← hres]; unfold qcB qcRaw whoRaw; rw [h, if_pos rfl]; simp only [List.append_assoc]
 generalize qokB n f v s ys = bq at *
 clear ha hs hres
 obtain ⟨w0, hw0⟩ : ∃ w0, ((w.alloc (.cells #[.int .i64 n, .int .i64 f] 25)).alloc (.cells #[.int .i64 v, .string s, .slice ao ys.length ca] 28)) = w0 := ⟨_, rfl⟩
 have Bw0 : Below w.heap.size w w0 := hw0 ▸ ((Below.refl _ _).alloc (Nat.le_refl _) _).alloc (by simp) _
 have LC : Loc w0 (w.heap.size) #[.int .i64 n, .int .i64 f] := hw0 ▸ (loc_at (w) _ _ rfl).alloc _
 have LQ : Loc w0 (w.heap.size + 1) #[.int .i64 v, .string s, .slice ao ys.length ca] := hw0 ▸ loc_at (w.alloc _) _ _ (by simp)
 have zw0 : w.heap.size + 1 + 1 ≤ w0.heap.size := by rw [← hw0]; simp
 go_enter Tryz.func22, Tryz.ntmps22
 have cLC0 := LC.cell 0 rfl
 have cLC1 := LC.cell 1 rfl
 have cLQ0 := LQ.cell 0 rfl
 have cLQ1 := LQ.cell 1 rfl
 have cLQ2 := LQ.cell 2 rfl
 go_wp2_with fail
 clear hw0
 refine (QO.out _ Bw0).mono ?_
 rintro _ w1 ⟨rfl, bb⟩
 clear cLC0 cLC1 cLQ0 cLQ1 cLQ2
 have Bw1 := bu Bw0 bb
 have sw1 := bb.size
 replace LC := LC.up bb
 replace LQ := LQ.up bb
 clear Bw0
 clear bb
 clear QO
 cases bq with
 | false =>
  clear LC LQ
  go_wp2
  go_ret
  exact ⟨_, rfl, by rw [HF.out (by trivial)]; exact OB.mono (OB.lit _ _ rfl) Bw1.size, Bw1.alloc Bw1.size _⟩
 | true =>
  obtain ⟨hv, hs, h7, hN⟩ := HQ.out (by trivial)
  have hres := hide (HT.out (by trivial))
  have T1 := hide fun w => specPut v w
  have T2 := hide fun w => specText s w (by omega)
  have T3 := hide fun w => specPut (ys.length : Int) w
  have l1 := putAns_len v
  have l2 := textAns_le s
  have l3 := putAns_len (ys.length : Int)
  have FS : Hid (∀ k, k < ys.length → flatP (ys.take (k + 1)) = flatP (ys.take k) ++ putAns (ys.getD k 0)) := hide fun k hk => by rw [List.take_succ_eq_append_getElem hk, flatP_snoc, List.getD_eq_getElem?_getD, List.getElem?_eq_getElem hk]; rfl
  have FL : Hid (∀ k, (flatP (ys.take k)).length ≤ 35) := hide fun k => by have := flatP_len (ys.take k); simp at this; omega
  have FZ : Hid (flatP (ys.take 0) = []) := hide rfl
  have FT : Hid (ys.take ys.length = ys) := hide (by simp)
  generalize putAns v = x1 at *
  generalize textAns s = x2 at *
  clear HQ HF HT hN hv
  have LQ0 := LQ
  have HGW := hide (HG.out w1 Bw1)
  have BW := hide Bw1
  have K : Hid (∀ w', Below w1.heap.size w1 w' → (fun w' => Below w1.heap.size w1 w' ∧ (w'.cell? ⟨w.heap.size, 0, none⟩ = some (.int .i64 n) ∧ w'.cell? ⟨w.heap.size, 1, none⟩ = some (.int .i64 f)) ∧ (w'.cell? ⟨w.heap.size + 1, 0, none⟩ = some (.int .i64 v) ∧ w'.cell? ⟨w.heap.size + 1, 1, none⟩ = some (.string s) ∧ w'.cell? ⟨w.heap.size + 1, 2, none⟩ = some (.slice ao ys.length ca))) w') := hide fun w' hb' => ⟨hb', ⟨(LC.up hb').cell 0 rfl, (LC.up hb').cell 1 rfl⟩, ⟨(LQ.up hb').cell 0 rfl, (LQ.up hb').cell 1 rfl, (LQ.up hb').cell 2 rfl⟩⟩
  go_upto_region 3 with fail
  have bA : Below w1.heap.size w1 w1.drew := Below.drew (Below.refl _ _)
  refine wrn K bA (fun hHeld => ?_)
  refine' tj 0 12 rfl ?_ ?_;rotate_left
  ·intro w h; (try dsimp only at h); go_simp; try with_reducible rfl
  simp only [pU]
  refine' tj 3 15 rfl ?_ ?_;rotate_left
  ·intro w h; (try dsimp only at h); go_simp; try with_reducible rfl
  simp only [pU]
  refine' tj 1 13 rfl ?_ ?_;rotate_left
  ·intro w h; (try dsimp only at h); go_simp; try with_reducible rfl
  simp only [pU]
  refine' tj 4 16 rfl ?_ ?_;rotate_left
  ·intro w h; (try dsimp only at h); go_simp; try with_reducible rfl
  simp only [pU]
  refine rd 2 rfl (fun KK hKK => ?_)
  go_simp
  have hgo := bA
  refine (T1.out _).mono ?_
  rintro e wz3_1 ⟨u1, rfl, (o1 : OB _ _ u1 x1), bb⟩
  have bz1 : Below w1.heap.size w1 wz3_1 := bu bA bb
  replace o1 := o1.mono hgo.size
  obtain ⟨ao1, ko1, rfl⟩ := o1.form
  clear bA hgo bb
  clear hHeld
  refine hKK.out _ _ (K.out _ bz1) (fun hHeld => ?_)
  clear hKK KK
  refine rd 5 rfl (fun KK hKK => ?_)
  go_simp
  have hgo := bz1
  refine (T2.out _).mono ?_
  rintro e wz3_2 ⟨u2, rfl, o2, bb⟩
  have bz2 : Below w1.heap.size w1 wz3_2 := bu bz1 bb
  replace o1 := o1.below bb
  replace o2 := o2.mono hgo.size
  obtain ⟨ao2, ko2, rfl⟩ := o2.form
  clear bz1 hgo bb
  clear hHeld
  refine hKK.out _ _ (K.out _ bz2) (fun hHeld => ?_)
  clear hKK KK
  refine rd 6 rfl (fun KK hKK => ?_)
  have to1 := World.ownsRow.lt o1
  refine step_append_bytes rfl (.tmp 14) (.tmp 17) rfl (w1.heap.size) (.slice ao1 x1.length ko1) (.slice ao2 x2.length ko2) (x1) (x2) rfl rfl o1 (o2.pb (by omega)) (by omega) bz2.size ?_
  intro u3 wz3_3 o3 hgA _
  have bz3 : Below w1.heap.size w1 wz3_3 := bz2.grown hgA bz2.size (fun j hj => (to1 j hj).1)
  clear bz2 hgA to1
  clear hHeld
  refine hKK.out _ _ (K.out _ bz3) (fun hHeld => ?_)
  clear hKK KK
  refine' tj 7 5 rfl ?_ ?_;rotate_left
  ·intro w h; (try dsimp only at h); go_simp; try with_reducible rfl
  simp only [Act.put, List.setIfInBounds_toArray]
  clear hHeld
  refine wdn ?_
  have bb := bz3
  have BB := bb
  have Bwz3_3 := bu Bw1 bb
  have swz3_3 := bb.size
  replace LC := LC.up bb
  replace LQ := LQ.up bb
  clear Bw1
  clear bb bz3 K
  have l0 : (x1 ++ x2).length ≤ 1930 := by rw [List.length_append]; omega
  generalize putAns (ys.length : Int) = x3 at *
  generalize x1 ++ x2 = x12 at *
  clear LC Bwz3_3 o1 o2 T1 T2 l1 l2
  obtain ⟨a3, k3, rfl⟩ := o3.form
  have cQ := LQ.cell 2 rfl
  have O3 := hide o3
  have t3 := o3.lt
  clear o3 LQ
  go_wp2_with fail
  clear cQ
  refine (T3.out _).mono ?_
  rintro e w5 ⟨u4, rfl, (o4 : OB _ _ u4 x3), b4⟩
  clear T3
  replace O3 := hide (O3.out.below b4)
  have B5 := bu BB b4
  obtain ⟨a4, k4, rfl⟩ := o4.form
  have P4 := hide (o4.pb (by omega))
  clear o4 b4 BB
  go_wp2_with (first | (at_builtin; refine append_bytes rfl _ _ rfl w1.heap.size (.slice a3 x12.length k3) (.slice a4 x3.length k4) x12 x3 rfl rfl O3.out P4.out (by omega) B5.size ?_; intro v6 w6 ho6 hg6 _; have O6 := hide ho6; have B6 := B5.grown hg6 B5.size (fun j hj => (t3 j hj).1); clear ho6 hg6))
  have l5 : (x12 ++ x3).length ≤ 1940 := by rw [List.length_append]; omega
  generalize x12 ++ x3 = x0 at *
  have O7 : OB w6 w1.heap.size v6 (x0 ++ flatP (ys.take 0)) := by rw [FZ.out, List.append_nil]; exact O6.out
  clear O6 B5 O3 P4 t3 l0 l3 FZ
  obtain ⟨m, hn⟩ : ∃ m, ys.length = m := ⟨_, rfl⟩
  rw [hn] at HGW FS FT h7 LQ0 ⊢
  have Hm := hide hn
  clear hn
  go_loopw [5, 6] (fun o i wr => ∃ k : Nat, k ≤ m ∧ i = .int .i64 (k : Int) ∧ OB wr w1.heap.size o (x0 ++ flatP (ys.take k)) ∧ Below w1.heap.size w1 wr) (fun _ i _ => m - (intOf i).toNat)
  case atStart => exact ⟨0, Nat.zero_le _, rfl, O7, B6⟩
  case round =>
   clear O7 B6
   obtain ⟨k, hk, rfl, ob, bR⟩ := hrel
   obtain ⟨va, vc, rfl⟩ := ob.form
   have ltb := ob.lt
   have zr := bR.size
   have cQ := (LQ0.up bR).cell 2 rfl
   by_cases hlt : k < m
   ·obtain ⟨b, off, hao, hc⟩ := HGW.out k hlt
    subst hao
    have hc' := (bR.cell (cell_lt hc)).trans hc
    have hd : decide ((k : Int) < (m : Int)) = true := by simpa using hlt
    have FK := hide (FS.out k hlt)
    have lK := FL.out k
    have x5 := putAns_len (ys.getD k 0)
    have PX := hide (specPut (ys.getD k 0) wr)
    have OBh := hide ob
    obtain ⟨ln, hln⟩ : ∃ m, (x0 ++ flatP (ys.take k)).length = m := ⟨_, rfl⟩
    have l8 : ln ≤ 2000 := by rw [← hln, List.length_append]; omega
    rw [hln] at OBh ltb ⊢
    have HLN := hide hln
    clear hc ob hln lK
    generalize ys.getD k 0 = x at *
    go_wp2_with fail
    clear hc' cQ
    refine PX.out.mono ?_
    rintro e w8 ⟨u1, rfl, (o1 : OB _ _ u1 (putAns x)), b1⟩
    clear PX
    obtain ⟨ua, uc, rfl⟩ := o1.form
    have P1 := hide (o1.pb (by omega))
    have OA := hide (OBh.out.below b1)
    have B8 := bu bR b1
    obtain ⟨l1, hl1⟩ : ∃ l, putAns x = l := ⟨_, rfl⟩
    rw [hl1] at P1 x5 FK ⊢
    clear o1 b1 bR hl1 OBh
    go_wp2_with (first | (at_builtin; refine append_bytes rfl _ _ rfl w1.heap.size (.slice va ln vc) (.slice ua l1.length uc) (x0 ++ flatP (ys.take k)) l1 rfl rfl OA.out P1.out (by have := HLN.out; omega) B8.size ?_; intro v' w9 ho' hg' _; have HO := hide ho'; have B9 := hide (B8.grown hg' B8.size (fun j hj => (ltb j hj).1)); clear ho' hg'))
    go_roundw
    case rel => exact ⟨k + 1, by omega, by go_num, by rw [FK.out, ← List.append_assoc]; exact HO.out, B9.out⟩
    case measure => simp [intOf]; omega
   ·obtain rfl : k = m := by omega
    have hd : decide ((k : Int) < (k : Int)) = false := by simp
    have OF : OB wr w1.heap.size (.slice va (x0 ++ flatP (ys.take k)).length vc) res := by rw [hres.out]; have := ob; rwa [FT.out] at this ⊢
    clear ob
    generalize (x0 ++ flatP (ys.take k)).length = ln at *
    go_wp2
    go_ret
    exact ⟨_, rfl, OB.mono OF BW.out.size, BW.out.trans (bR.mono BW.out.size)⟩
end Go.Proofs.YtcclbejpgiogaaaGreatDoor
