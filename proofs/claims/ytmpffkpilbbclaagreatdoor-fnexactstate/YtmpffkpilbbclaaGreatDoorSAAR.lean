/- Lemmas; their conditions stand in each statement. -/
import Derived.Test.YtmpffkpilbbclaaGreatDoorSAAQ
set_option linter.unusedSectionVars false
namespace Go.Proofs
open Go.Shelf
def Tryz.lays217_ren : Go.Shelf.Ren := ⟨fun | 217 => 228 | 266 => 241 | n => n, fun | 9 => 9 | 5 => 5 | 3 => 3 | n => n, fun | n => n⟩
theorem Tryz.lays217 : Go.Proofs.Lays.n217 Tryz.prog Tryz.lays217_ren := {
 mixed := by kernel_rfl
 f217 := Tryz.func228.trans (congrArg some (by kernel_rfl))
 f266 := Tryz.func241.trans (congrArg some (by kernel_rfl))
 t3 := Tryz.underlying3
 a3 := Tryz.isAgg3
 z3 := Tryz.sizeOf3
 v3 := Tryz.zeroValue3
 t5 := Tryz.underlying5
 a5 := Tryz.isAgg5
 z5 := Tryz.sizeOf5
 v5 := Tryz.zeroValue5
 t9 := Tryz.underlying9
 a9 := Tryz.isAgg9
 z9 := Tryz.sizeOf9
 v9 := Tryz.zeroValue9 }
open Go.RowKit Go.Lib in
theorem Tryz.stringslite_IndexByte (s : ByteArray) (c : Int) (w : World) :
 Calls Tryz.prog 228 #[.string s,.int .u8 c] w fun e w' => e = .returned (.int .i64 (Lib.indexByte s.data.toList c.toNat.toUInt8)) ∧ w' = w := Any.stringslite_IndexByte Tryz.lays217 s c w
def Tryz.lays222_ren : Go.Shelf.Ren := ⟨fun | 222 => 211 | n => n, fun | 9 => 9 | 5 => 5 | 3 => 3 | 4 => 4 | n => n, fun | n => n⟩
theorem Tryz.lays222 : Go.Proofs.Lays.n222 Tryz.prog Tryz.lays222_ren := {
 mixed := by kernel_rfl
 f222 := Tryz.func211.trans (congrArg some (by kernel_rfl))
 t3 := Tryz.underlying3
 a3 := Tryz.isAgg3
 z3 := Tryz.sizeOf3
 v3 := Tryz.zeroValue3
 t4 := Tryz.underlying4
 a4 := Tryz.isAgg4
 z4 := Tryz.sizeOf4
 v4 := Tryz.zeroValue4
 t5 := Tryz.underlying5
 a5 := Tryz.isAgg5
 z5 := Tryz.sizeOf5
 v5 := Tryz.zeroValue5
 t9 := Tryz.underlying9
 a9 := Tryz.isAgg9
 z9 := Tryz.sizeOf9
 v9 := Tryz.zeroValue9 }
open Go.RowKit Go.Lib in
theorem Tryz.bytealg_LastIndexByteString_nm (s : ByteArray) (c : Int) (hs : s.size < 4611686018427387904) (w : World) :
 Calls Tryz.prog 211 #[.string s,.int .u8 c] w fun e w' => e = .returned (.int .i64 (Lib.lastIndexByte s c)) ∧ w' = w := Any.bytealg_LastIndexByteString_nm Tryz.lays222 s c hs w
def Tryz.lays103_ren : Go.Shelf.Ren := ⟨fun | 103 => 205 | 210 => 217 | 206 => 232 | n => n, fun | 9 => 9 | 4 => 4 | 24 => 241 | 3 => 3 | n => n, fun | n => n⟩
theorem Tryz.lays103 : Go.Proofs.Lays.n103 Tryz.prog Tryz.lays103_ren := {
 mixed := by kernel_rfl
 f103 := Tryz.func205.trans (congrArg some (by kernel_rfl))
 f206 := Tryz.func232.trans (congrArg some (by kernel_rfl))
 f210 := Tryz.func217.trans (congrArg some (by kernel_rfl))
 t3 := Tryz.underlying3
 a3 := Tryz.isAgg3
 z3 := Tryz.sizeOf3
 v3 := Tryz.zeroValue3
 t4 := Tryz.underlying4
 a4 := Tryz.isAgg4
 z4 := Tryz.sizeOf4
 v4 := Tryz.zeroValue4
 t9 := Tryz.underlying9
 a9 := Tryz.isAgg9
 z9 := Tryz.sizeOf9
 v9 := Tryz.zeroValue9
 t24 := Tryz.underlying241
 a24 := Tryz.isAgg241
 z24 := Tryz.sizeOf241
 v24 := Tryz.zeroValue241 }
open Go.RowKit in
theorem Tryz.strings_CutPrefix (s p : ByteArray) (w : World) :
 Calls Tryz.prog 205 #[.string s,.string p] w fun e w' => e = .returned (.tuple #[.string ⟨(Lib.trimPrefix s.data.toList p.data.toList).toArray⟩,.bool (Lib.hasPrefix s.data.toList p.data.toList)]) ∧ w' = w := Any.strings_CutPrefix Tryz.lays103 s p w
end Go.Proofs
namespace Go.Proofs.YtmpffkpilbbclaaGreatDoor
section
open Go.RowKit
variable [∀ (a b c d : Int), Decidable (Ok4 a b c d)]
variable [∀ (a b c d : Nat), Decidable (okN a b c d)]
abbrev St := Int × List T4
abbrev zst : St := (0, [])
def stepOf (p : ByteArray) : Option St :=
 if (124 : UInt8) ∈ p.data.toList then (numOf (hd 124 p.data.toList)).bind fun n => (txsAns (toB (tl 124 p.data.toList))).map fun ts => ((n : Int), ts) else none
def GoodSt (last : Int) (s : St) : Prop := last < s.1 ∧ s.1 ≤ 60 ∧ s.2.length ≤ 2
variable [∀ (last : Int) (s : St), Decidable (GoodSt last s)]
def stepAcc (o : Option (Int × List St)) (p : ByteArray) : Option (Int × List St) := o.bind fun q => (stepOf p).bind fun s => if GoodSt q.1 s then some (s.1, q.2 ++ [s]) else none
def stepsRun (ps : List ByteArray) : Option (Int × List St) := ps.foldl stepAcc (some (0, []))
def stepsAns (s : ByteArray) : Option (List St) :=
 if s = ⟨#[]⟩ then some []
 else if (splitAns s 47).getD 0 ByteArray.empty = ⟨#[]⟩ ∧ (splitAns s 47).length ≤ 31 then (stepsRun (splitAns s 47).tail).map (·.2) else none
theorem stepsRun_more (ps : List ByteArray) (p : ByteArray) : stepsRun (ps ++ [p]) = stepAcc (stepsRun ps) p := by
 unfold stepsRun; rw [List.foldl_append]; rfl
theorem acc_none (ps : List ByteArray) : ps.foldl stepAcc none = none := by
 induction ps with
 | nil => rfl
 | cons p ps ih => rw [List.foldl_cons]; exact ih
theorem stepsRun_none {ps : List ByteArray} (k : Nat) (h : stepsRun (ps.take k) = none) : stepsRun ps = none := by
 have e : stepsRun ps = (ps.drop k).foldl stepAcc (stepsRun (ps.take k)):=by
  unfold stepsRun
  rw [← List.foldl_append, List.take_append_drop]
 rw [e, h]
 exact acc_none _
theorem stepsRun_ok (ps : List ByteArray) (q : Int × List St) (h : stepsRun ps = some q) : q.2.length = ps.length ∧ (0 ≤ q.1 ∧ q.1 ≤ 60) ∧ (ps.length : Int) ≤ q.1 ∧ ∀ s ∈ q.2, (1 ≤ s.1 ∧ s.1 ≤ q.1) ∧ s.2.length ≤ 2 := by
 generalize hn : ps.length = n
 induction n generalizing ps q with
 | zero =>
  have : ps = []:=List.length_eq_zero_iff.1 hn
  subst this
  cases h
  exact ⟨rfl, by simp, by simp, fun s hs => by simp at hs⟩
 | succ n ih =>
  obtain ⟨ps', p, rfl⟩ : ∃ ps' p, ps = ps' ++ [p]:=⟨ps.dropLast, ps.getLast (fun e => by rw [e] at hn; simp at hn), (List.dropLast_concat_getLast _).symm⟩
  rw [stepsRun_more] at h
  unfold stepAcc at h
  cases hr : stepsRun ps' with
  | none => rw [hr] at h; cases h
  | some q' =>
   rw [hr] at h
   cases hs : stepOf p with
   | none => rw [hs] at h; simp at h
   | some s =>
    rw [hs] at h
    simp only [Option.bind_some] at h
    split at h
    ·rename_i hg
     cases h
     obtain ⟨h1, h2, h3, h4⟩:=ih ps' q' hr (by simpa using hn)
     obtain ⟨g1, g2, g3⟩:=hg
     refine ⟨by simp [h1], ⟨by show 0 ≤ s.1; omega, g2⟩, by show (((n + 1 : Nat)) : Int) ≤ s.1; omega, fun y hy => ?_⟩
     rcases List.mem_append.1 hy with hy | hy
     ·obtain ⟨⟨a1, a2⟩, a3⟩:=h4 y hy
      exact ⟨⟨a1, by show y.1 ≤ s.1; omega⟩, a3⟩
     simp at hy
     subst hy
     exact ⟨⟨by omega, Int.le_refl _⟩, g3⟩
    cases h
end
section
variable [∀ (a b c d : Int), Decidable (Ok4 a b c d)]
variable [∀ (a b c d : Nat), Decidable (okN a b c d)]
variable [∀ (x : T4), Decidable (OkT x)]
def jn : List (List UInt8) → List UInt8
 | [] => []
 | [p] => p
 | p :: q :: r => p ++ 44 :: jn (q :: r)
theorem jn_snoc (ps : List (List UInt8)) (p : List UInt8) : jn (ps ++ [p]) = (if 0 < ps.length then jn ps ++ [44] else jn ps) ++ p := by
 induction ps with
 | nil => simp [jn]
 | cons x ps ih =>
  cases ps with
  | nil => simp [jn]
  | cons y ps =>
   rw [List.cons_append] at ih
   rw [List.cons_append, List.cons_append, jn, jn, ih]
   simp
theorem jn_unique (ps qs : List (List UInt8)) (hp : ∀ p ∈ ps, 44 ∉ p) (hq : ∀ q ∈ qs, 44 ∉ q) (hn : ps ≠ []) (hm : qs ≠ []) (h : jn ps = jn qs) : ps = qs := by
 induction ps generalizing qs with
 | nil => exact absurd rfl hn
 | cons p ps ih =>
  cases qs with
  | nil => exact absurd rfl hm
  | cons q qs =>
   have hp0:=hp p (by simp)
   have hq0:=hq q (by simp)
   cases ps with
   | nil =>
    cases qs with
    | nil => simp [jn] at h; rw [h]
    | cons q' qs => simp only [jn] at h; rw [h] at hp0; simp at hp0
   | cons p' ps =>
    cases qs with
    | nil => simp only [jn] at h; rw [← h] at hq0; simp at hq0
    | cons q' qs =>
     simp only [jn] at h
     have e1 : p = q:=by rw [← hd_some (y:=jn (p' :: ps)) hp0, h, hd_some hq0]
     have e2 : jn (p' :: ps) = jn (q' :: qs):=by rw [← tl_some (x:=p) (y:=jn (p' :: ps)) hp0, h, tl_some hq0]
     rw [e1, ih (q' :: qs) (fun x hx => hp x (by simp at hx ⊢; exact .inr hx)) (fun x hx => hq x (by simp at hx ⊢; exact .inr hx)) (by simp) (by simp) e2]
theorem joinTo_jn (ps : List ByteArray) (k : Nat) (hk : k ≤ ps.length) : joinTo 44 ps k = jn ((ps.take k).map fun s => s.data.toList) := by
 induction k with
 | zero => simp [joinTo, jn]
 | succ k ih =>
  rw [joinTo, ih (by omega), take_more ps k (by omega), List.map_append, List.map_singleton, jn_snoc]
  simp only [List.length_map, List.length_take]
  rw [show min k ps.length = k from by omega]
theorem accT_jn (xs : List T4) (k : Nat) (hk : k ≤ xs.length) : accT xs k = jn ((xs.take k).map fun x => (txT x).data.toList) := by
 induction k with
 | zero => simp [accT, jn]
 | succ k ih =>
  have e : xs.take (k + 1) = xs.take k ++ [xs.getD k (0, 0, 0, 0)]:=by
   rw [List.take_succ_eq_append_getElem (by omega), List.getD_eq_getElem?_getD, List.getElem?_eq_getElem (by omega)]; rfl
  rw [accT, ih (by omega), e, List.map_append, List.map_singleton, jn_snoc]
  simp only [List.length_map, List.length_take]
  rw [show min k xs.length = k from by omega]
theorem pcs_clean (s : ByteArray) (k : Nat) (hk : k ≤ s.size) : (∀ p ∈ (pcs s 44 k).1, (44 : UInt8) ∉ p.data.toList) ∧ (44 : UInt8) ∉ (s.data.toList.drop (pcs s 44 k).2).take (k - (pcs s 44 k).2) := by
 induction k with
 | zero => simp [pcs]
 | succ k ih =>
  obtain ⟨h1, h2⟩:=ih (by omega)
  have hle:=(pcs_le s 44 k).1
  by_cases hb : (s[k].toNat : Int) = 44
  ·rw [pcs_hit s 44 k (by omega) hb]
   refine ⟨fun p hp => ?_, by simp⟩
   rw [List.mem_append] at hp
   rcases hp with hp | hp
   ·exact h1 p hp
   simp at hp; rw [hp, ext_list]; exact h2
  rw [pcs_miss s 44 k (by omega) hb]
  refine ⟨h1, ?_⟩
  have e:=not_mem_more (m:=44) (l:=s.data.toList) (n:=(pcs s 44 k).2) (pos:=k) (v:=1) hle h2 (fun j hj => by
   obtain rfl : j = 0:=by omega
   rw [Nat.add_zero, List.getElem?_eq_getElem (by simp; omega)]
   intro e
   have e' : s[k] = 44:=Option.some.inj e
   rw [e'] at hb; exact hb rfl)
  exact e
theorem split_clean (s : ByteArray) : ∀ p ∈ splitAns s 44, (44 : UInt8) ∉ p.data.toList := by
 intro p hp
 obtain ⟨h1, h2⟩:=pcs_clean s s.size (Nat.le_refl _)
 unfold splitAns at hp
 rw [List.mem_append] at hp
 rcases hp with hp | hp
 ·exact h1 p hp
 simp at hp; rw [hp, ext_list]; exact h2
theorem split_ne (s : ByteArray) : splitAns s 44 ≠ [] := by unfold splitAns; simp
theorem txT_clean (x : T4) : (44 : UInt8) ∉ (txT x).data.toList := by
 unfold txT txt
 obtain ⟨a, b, c, d⟩:=x
 by_cases h : Ok4 a b c d
 ·show (44 : UInt8) ∉ (if Ok4 a b c d then txs a b c d else (⟨#[]⟩ : ByteArray)).data.toList
  rw [if_pos h]
  obtain ⟨a', b', c', d', rfl, rfl, rfl, rfl⟩:=ok_nat h
  rw [txs_toB, toB_list]
  unfold txl
  have n:=fun n => no_mark n 44 (by decide)
  simp [n]
 show (44 : UInt8) ∉ (if Ok4 a b c d then txs a b c d else (⟨#[]⟩ : ByteArray)).data.toList
 rw [if_neg h]; simp
theorem isTx_T {s : ByteArray} {q : Nat × Nat × Nat × Nat} (h : txAns s.data.toList = some q) : txT (toT q) = s ∧ OkT (toT q) := by
 obtain ⟨a, b, c, d⟩:=q
 have hi:=txAns_is h
 exact ⟨isTx_txt hi, ok_cast.2 hi.1⟩
theorem ok_T {x : T4} (h : OkT x) : ∃ q, toT q = x ∧ txAns (txT x).data.toList = some q := by
 obtain ⟨a, b, c, d⟩:=x
 obtain ⟨a', b', c', d', rfl, rfl, rfl, rfl⟩:=ok_nat h
 refine ⟨(a', b', c', d'), rfl, txAns_some ⟨ok_cast.1 h, ?_⟩⟩
 show _ = (if Ok4 (a' : Int) b' c' d' then txs a' b' c' d' else (⟨#[]⟩ : ByteArray)).data.toList
 rw [if_pos (show Ok4 (a' : Int) b' c' d' from h), txs_toB, toB_list]
theorem allTx_texts {ps : List ByteArray} {ys : List T4} (h : allTx ps = some ys) : ys.map txT = ps ∧ ∀ y ∈ ys, OkT y := by
 induction ps generalizing ys with
 | nil => simp [allTx] at h; subst h; simp
 | cons p ps ih =>
  rw [allTx] at h
  cases hp : txAns p.data.toList with
  | none => rw [hp] at h; cases h
  | some q =>
   rw [hp] at h
   cases hq : allTx ps with
   | none => rw [hq] at h; cases h
   | some zs =>
    rw [hq] at h; simp at h; subst h
    obtain ⟨i1, i2⟩:=ih hq
    obtain ⟨j1, j2⟩:=isTx_T hp
    refine ⟨by simp [i1, j1], fun y hy => ?_⟩
    simp at hy
    rcases hy with rfl | hy
    ·exact j2
    exact i2 y hy
theorem allTx_of (ys : List T4) (h : ∀ y ∈ ys, OkT y) : allTx (ys.map txT) = some ys := by
 induction ys with
 | nil => rfl
 | cons y ys ih =>
  obtain ⟨q, e, hq⟩:=ok_T (h y (by simp))
  rw [List.map_cons, allTx, hq, ih (fun z hz => h z (by simp [hz]))]
  simp [e]
theorem txsAns_text {s : ByteArray} {ys : List T4} (h : txsAns s = some ys) : txsT ys = s := by
 unfold txsAns at h
 split at h
 ·rename_i hz
  simp at h; subst h
  unfold txsT; simp [accT, toB, hz]
 obtain ⟨h1, h2⟩:=allTx_texts h
 unfold txsT
 rw [if_pos h2, accT_jn ys ys.length (Nat.le_refl _), List.take_of_length_le (Nat.le_refl _)]
 have hj:=split_join s 44
 have e44 : (((44 : UInt8).toNat : Nat) : Int) = 44:=rfl
 rw [e44, joinTo_jn _ _ (Nat.le_refl _), List.take_of_length_le (Nat.le_refl _), ← h1, List.map_map] at hj
 have hj' : jn (ys.map fun x => (txT x).data.toList) = s.data.toList:=hj
 rw [hj', toB_data]
theorem txsAns_of (ys : List T4) (h : ∀ y ∈ ys, OkT y) : txsAns (txsT ys) = some ys := by
 have e : txsT ys = toB (jn (ys.map fun x => (txT x).data.toList)):=by
  unfold txsT
  rw [if_pos h, accT_jn ys ys.length (Nat.le_refl _), List.take_of_length_le (Nat.le_refl _)]
 cases ys with
 | nil => rw [e]; unfold txsAns; simp [jn, toB]
 | cons y ys =>
  have hne : txsT (y :: ys) ≠ ⟨#[]⟩:=by
   rw [e]
   intro hz
   have hz':=congrArg (fun s : ByteArray => s.data.toList) hz
   have hy:=txT_ne (h y (by simp))
   cases ys with
   | nil => simp [jn, toB] at hz'; exact hy (ByteArray.ext hz')
   | cons y' ys => simp [jn, toB] at hz'
  unfold txsAns
  rw [if_neg hne]
  have hj:=split_join (txsT (y :: ys)) 44
  have e44 : (((44 : UInt8).toNat : Nat) : Int) = 44:=rfl
  rw [e44, joinTo_jn _ _ (Nat.le_refl _), List.take_of_length_le (Nat.le_refl _)] at hj
  have hl : (txsT (y :: ys)).data.toList = jn ((y :: ys).map fun x => (txT x).data.toList):=by rw [e]; rfl
  rw [hl] at hj
  have hu:=jn_unique _ _ (fun p hp => by
   obtain ⟨z, hz, rfl⟩:=List.mem_map.1 hp
   exact split_clean _ z hz) (fun q hq => by
   obtain ⟨z, _, rfl⟩:=List.mem_map.1 hq
   exact txT_clean z) (by simp [split_ne]) (by simp) hj
  have hs : splitAns (txsT (y :: ys)) 44 = (y :: ys).map txT:=by
   have inj : ∀ (a b : List ByteArray), a.map (fun s => s.data.toList) = b.map (fun s => s.data.toList) → a = b:=by
    intro a
    induction a with
    | nil => intro b hb; cases b with
     | nil => rfl
     | cons => simp at hb
    | cons x a ih =>
     intro b hb
     cases b with
     | nil => simp at hb
     | cons z b =>
      simp at hb
      rw [ih b hb.2, ByteArray.ext hb.1]
   apply inj
   rw [hu, List.map_map]; rfl
  rw [hs]
  exact allTx_of _ h
end
section
open Go.RowKit
variable [∀ (a b c d : Int), Decidable (Ok4 a b c d)]
variable [∀ (a b c d : Nat), Decidable (okN a b c d)]
variable [∀ (last : Int) (s : St), Decidable (GoodSt last s)]
variable [∀ (x : T4), Decidable (OkT x)]
def jb (b : UInt8) : List (List UInt8) → List UInt8
 | [] => []
 | [p] => p
 | p :: q :: r => p ++ b :: jb b (q :: r)
theorem jb_flat (b : UInt8) (p : List UInt8) (ps : List (List UInt8)) : jb b (p :: ps) = p ++ ps.flatMap (fun t => b :: t) := by
 induction ps generalizing p with
 | nil => simp [jb]
 | cons q ps ih => rw [jb, ih]; simp
theorem jb_snoc (b : UInt8) (ps : List (List UInt8)) (p : List UInt8) : jb b (ps ++ [p]) = (if 0 < ps.length then jb b ps ++ [b] else jb b ps) ++ p := by
 cases ps with
 | nil => simp [jb]
 | cons x ps => rw [List.cons_append, jb_flat, jb_flat]; simp
theorem jb_unique (b : UInt8) (ps qs : List (List UInt8)) (hp : ∀ p ∈ ps, b ∉ p) (hq : ∀ q ∈ qs, b ∉ q) (hn : ps ≠ []) (hm : qs ≠ []) (h : jb b ps = jb b qs) : ps = qs := by
 induction ps generalizing qs with
 | nil => exact absurd rfl hn
 | cons p ps ih =>
  cases qs with
  | nil => exact absurd rfl hm
  | cons q qs =>
   have hp0:=hp p (by simp)
   have hq0:=hq q (by simp)
   cases ps with
   | nil =>
    cases qs with
    | nil => simp [jb] at h; rw [h]
    | cons q' qs => simp only [jb] at h; rw [h] at hp0; simp at hp0
   | cons p' ps =>
    cases qs with
    | nil => simp only [jb] at h; rw [← h] at hq0; simp at hq0
    | cons q' qs =>
     simp only [jb] at h
     have e1 : p = q:=by rw [← hd_some (y:=jb b (p' :: ps)) hp0, h, hd_some hq0]
     have e2 : jb b (p' :: ps) = jb b (q' :: qs):=by rw [← tl_some (x:=p) (y:=jb b (p' :: ps)) hp0, h, tl_some hq0]
     rw [e1, ih (q' :: qs) (fun x hx => hp x (by simp at hx ⊢; exact .inr hx)) (fun x hx => hq x (by simp at hx ⊢; exact .inr hx)) (by simp) (by simp) e2]
theorem joinTo_jb (b : UInt8) (ps : List ByteArray) (k : Nat) (hk : k ≤ ps.length) : joinTo b ps k = jb b ((ps.take k).map fun s => s.data.toList) := by
 induction k with
 | zero => simp [joinTo, jb]
 | succ k ih =>
  rw [joinTo, ih (by omega), take_more ps k (by omega), List.map_append, List.map_singleton, jb_snoc]
  simp only [List.length_map, List.length_take]
  rw [show min k ps.length = k from by omega]
theorem pcs_cleanB (s : ByteArray) (b : UInt8) (k : Nat) (hk : k ≤ s.size) : (∀ p ∈ (pcs s b.toNat k).1, b ∉ p.data.toList) ∧ b ∉ (s.data.toList.drop (pcs s b.toNat k).2).take (k - (pcs s b.toNat k).2) := by
 induction k with
 | zero => simp [pcs]
 | succ k ih =>
  obtain ⟨h1, h2⟩:=ih (by omega)
  have hle:=(pcs_le s b.toNat k).1
  by_cases hb : (s[k].toNat : Int) = b.toNat
  ·rw [pcs_hit s b.toNat k (by omega) hb]
   refine ⟨fun p hp => ?_, by simp⟩
   rw [List.mem_append] at hp
   rcases hp with hp | hp
   ·exact h1 p hp
   simp at hp; rw [hp, ext_list]; exact h2
  rw [pcs_miss s b.toNat k (by omega) hb]
  refine ⟨h1, ?_⟩
  exact not_mem_more (m := b) (l := s.data.toList) (n := (pcs s b.toNat k).2) (pos := k) (v := 1) hle h2 (fun j hj => by
   obtain rfl : j = 0:=by omega
   rw [Nat.add_zero, List.getElem?_eq_getElem (by simp; omega)]
   intro e
   have e' : s[k] = b:=Option.some.inj e
   rw [e'] at hb; exact hb rfl)
theorem split_cleanB (s : ByteArray) (b : UInt8) : ∀ p ∈ splitAns s b.toNat, b ∉ p.data.toList := by
 intro p hp
 obtain ⟨h1, h2⟩:=pcs_cleanB s b s.size (Nat.le_refl _)
 unfold splitAns at hp
 rw [List.mem_append] at hp
 rcases hp with hp | hp
 ·exact h1 p hp
 simp at hp; rw [hp, ext_list]; exact h2
theorem split_jb (s : ByteArray) (b : UInt8) : jb b ((splitAns s b.toNat).map fun s => s.data.toList) = s.data.toList := by
 have:=split_join s b
 rw [joinTo_jb b _ _ (Nat.le_refl _), List.take_of_length_le (Nat.le_refl _)] at this
 exact this
theorem split_neB (s : ByteArray) (b : Int) : splitAns s b ≠ [] := by unfold splitAns; simp
theorem split_of (s : ByteArray) (b : UInt8) (ps : List (List UInt8)) (hn : ps ≠ []) (hp : ∀ p ∈ ps, b ∉ p) (h : s.data.toList = jb b ps) : (splitAns s b.toNat).map (fun s => s.data.toList) = ps := by
 refine jb_unique b _ _ (fun p hp' => ?_) hp (by simp [split_neB]) hn ((split_jb s b).trans h)
 obtain ⟨q, hq, rfl⟩:=List.mem_map.1 hp'
 exact split_cleanB s b q hq

def stText (s : St) : List UInt8 := Lib.decDigits s.1.toNat ++ 124 :: (txsT s.2).data.toList
def nm (ss : List St) : List UInt8 := ss.flatMap fun s => 47 :: stText s
def OkSt (s : St) : Prop := (1 ≤ s.1 ∧ s.1 ≤ 60) ∧ s.2.length ≤ 2 ∧ ∀ x ∈ s.2, OkT x
def OkSts (ss : List St) : Prop := ss.length ≤ 30 ∧ (∀ s ∈ ss, OkSt s) ∧ ss.Pairwise (fun a b => a.1 < b.1)
theorem txT_clean2 (x : T4) (m : UInt8) (h : m.toNat < 48 ∨ 57 < m.toNat) (h1 : m ≠ 62) (h2 : m ≠ 58) (h3 : m ≠ 35) : m ∉ (txT x).data.toList := by
 unfold txT txt
 obtain ⟨a, b, c, d⟩:=x
 by_cases ho : Ok4 a b c d
 ·show m ∉ (if Ok4 a b c d then txs a b c d else (⟨#[]⟩ : ByteArray)).data.toList
  rw [if_pos ho]
  obtain ⟨a', b', c', d', rfl, rfl, rfl, rfl⟩:=ok_nat ho
  rw [txs_toB, toB_list]
  unfold txl
  have n:=fun n => no_mark n m h
  simp [n, h1, h2, h3]
 show m ∉ (if Ok4 a b c d then txs a b c d else (⟨#[]⟩ : ByteArray)).data.toList
 rw [if_neg ho]; simp
theorem txsT_clean (ts : List T4) (m : UInt8) (h : m.toNat < 48 ∨ 57 < m.toNat) (h1 : m ≠ 62) (h2 : m ≠ 58) (h3 : m ≠ 35) (h4 : m ≠ 44) : m ∉ (txsT ts).data.toList := by
 unfold txsT
 split
 ·rw [toB_list]
  have : ∀ k, k ≤ ts.length → m ∉ accT ts k:=by
   intro k
   induction k with
   | zero => intro _; simp [accT]
   | succ k ih =>
    intro hk
    have:=ih (by omega)
    have c:=txT_clean2 (ts.getD k (0, 0, 0, 0)) m h h1 h2 h3
    rw [accT]
    split <;> simp [this, h4] <;> simpa using c
  exact this ts.length (Nat.le_refl _)
 simp
theorem stText_clean (s : St) : (47 : UInt8) ∉ stText s := by
 unfold stText
 have h1:=no_mark s.1.toNat 47 (by decide)
 have h2:=txsT_clean s.2 47 (by decide) (by decide) (by decide) (by decide) (by decide)
 simp [h1, h2]
theorem stepOf_some {p : ByteArray} {s : St} (h : stepOf p = some s) : p.data.toList = stText s ∧ (0 ≤ s.1) ∧ ∀ x ∈ s.2, OkT x := by
 unfold stepOf at h
 split at h
 ·rename_i hm
  cases hn : numOf (hd 124 p.data.toList) with
  | none => rw [hn] at h; cases h
  | some n =>
   rw [hn] at h
   cases ht : txsAns (toB (tl 124 p.data.toList)) with
   | none => rw [ht] at h; cases h
   | some ts =>
    rw [ht] at h
    cases h
    obtain ⟨_, h2⟩:=numOf_some hn
    have h3:=txsAns_text ht
    have e : p.data.toList = hd 124 p.data.toList ++ 124 :: tl 124 p.data.toList:=by
     unfold hd tl
     generalize p.data.toList = l at hm
     induction l with
     | nil => simp at hm
     | cons y l ih =>
      by_cases hy : y = 124
      ·subst hy; simp
      have hm' : (124 : UInt8) ∈ l:=by rcases List.mem_cons.1 hm with e | e; exact absurd e.symm hy; exact e
      have:=ih hm'
      simp only [List.takeWhile_cons, List.dropWhile_cons, bne_iff_ne, ne_eq, hy, not_false_eq_true, if_true]
      rw [List.cons_append, ← this]
    refine ⟨?_, by simp, ?_⟩
    ·rw [e, ← h2]
     unfold stText
     rw [h3]
     simp [toB_list]
    unfold txsAns at ht
    split at ht
    ·cases ht; simp
    exact (allTx_texts ht).2
 cases h
theorem stepOf_text {p : ByteArray} {s : St} (h : OkSt s) (hp : p.data.toList = stText s) : stepOf p = some s := by
 obtain ⟨⟨h1, h2⟩, _, h3⟩:=h
 have c:=no_mark s.1.toNat 124 (by decide)
 unfold stepOf
 rw [hp]
 have hm : (124 : UInt8) ∈ stText s:=by unfold stText; simp
 rw [if_pos hm]
 have e1 : hd 124 (stText s) = Lib.decDigits s.1.toNat:=by unfold stText; exact hd_some c
 have e2 : tl 124 (stText s) = (txsT s.2).data.toList:=by unfold stText; exact tl_some c
 rw [e1, e2, numOf_of (by omega), toB_data, txsAns_of s.2 h3]
 obtain ⟨v, ts⟩:=s
 simp at h1 ⊢
 omega
theorem run_texts (ps : List ByteArray) (q : Int × List St) (h : stepsRun ps = some q) : ps.map (fun p => p.data.toList) = q.2.map stText ∧ (∀ s ∈ q.2, OkSt s ∧ s.1 ≤ q.1) ∧ q.2.Pairwise (fun a b => a.1 < b.1) := by
 generalize hn : ps.length = n
 induction n generalizing ps q with
 | zero =>
  have : ps = []:=List.length_eq_zero_iff.1 hn
  subst this
  cases h
  simp
 | succ n ih =>
  obtain ⟨ps', p, rfl⟩ : ∃ ps' p, ps = ps' ++ [p]:=⟨ps.dropLast, ps.getLast (fun e => by rw [e] at hn; simp at hn), (List.dropLast_concat_getLast _).symm⟩
  rw [stepsRun_more] at h
  unfold stepAcc at h
  cases hr : stepsRun ps' with
  | none => rw [hr] at h; cases h
  | some q' =>
   rw [hr] at h
   cases hs : stepOf p with
   | none => rw [hs] at h; simp at h
   | some s =>
    rw [hs] at h
    simp only [Option.bind_some] at h
    split at h
    ·rename_i hg
     cases h
     obtain ⟨i1, i2, i3⟩:=ih ps' q' hr (by simpa using hn)
     obtain ⟨_, o2, _, _⟩:=stepsRun_ok ps' q' hr
     obtain ⟨g1, g2, g3⟩:=hg
     obtain ⟨t1, t2, t3⟩:=stepOf_some hs
     refine ⟨by simp [i1, t1], fun y hy => ?_, ?_⟩
     ·rcases List.mem_append.1 hy with hy | hy
      ·exact ⟨(i2 y hy).1, by have := (i2 y hy).2; show y.1 ≤ s.1; omega⟩
      simp at hy; subst hy
      exact ⟨⟨⟨by omega, g2⟩, g3, t3⟩, Int.le_refl _⟩
     rw [List.pairwise_append]
     refine ⟨i3, by simp, fun a ha b hb => ?_⟩
     simp at hb; subst hb
     have:=(i2 a ha).2
     omega
    cases h
theorem run_of (ss : List St) (hok : ∀ s ∈ ss, OkSt s) (hpw : ss.Pairwise (fun a b => a.1 < b.1)) (ps : List ByteArray) (hp : ps.map (fun p => p.data.toList) = ss.map stText) : ∃ l, stepsRun ps = some (l, ss) ∧ ∀ x, (∀ s ∈ ss, s.1 < x) → 0 < x → l < x := by
 generalize hn : ss.length = n
 induction n generalizing ss ps with
 | zero =>
  have : ss = []:=List.length_eq_zero_iff.1 hn
  subst this
  have : ps = []:=by simpa using hp
  subst this
  exact ⟨0, rfl, fun x _ h => h⟩
 | succ n ih =>
  obtain ⟨ss', s, rfl⟩ : ∃ ss' s, ss = ss' ++ [s]:=⟨ss.dropLast, ss.getLast (fun e => by rw [e] at hn; simp at hn), (List.dropLast_concat_getLast _).symm⟩
  have hpl : ps.length = (ss' ++ [s]).length:=by have:=congrArg List.length hp; simpa using this
  obtain ⟨ps', p, rfl⟩ : ∃ ps' p, ps = ps' ++ [p]:=⟨ps.dropLast, ps.getLast (fun e => by rw [e] at hpl; simp at hpl), (List.dropLast_concat_getLast _).symm⟩
  rw [List.map_append, List.map_append] at hp
  obtain ⟨hp1, hp2⟩:=List.append_inj hp (by simp at hpl ⊢; exact hpl)
  rw [List.pairwise_append] at hpw
  obtain ⟨l, hl, hx⟩:=ih ss' (fun y hy => hok y (by simp [hy])) hpw.1 ps' hp1 (by simpa using hn)
  have hs:=hok s (by simp)
  have hst:=stepOf_text hs (p:=p) (by simpa using hp2)
  have hlt : l < s.1:=hx s.1 (fun y hy => hpw.2.2 y hy s (by simp)) (by have:=hs.1; omega)
  refine ⟨s.1, ?_, fun x h1 _ => h1 s (by simp)⟩
  rw [stepsRun_more, hl]
  unfold stepAcc
  simp only [Option.bind_some, hst]
  rw [if_pos (show GoodSt l s from ⟨hlt, hs.1.2, hs.2.1⟩)]
theorem nm_jb (ss : List St) : nm ss = jb 47 ([] :: ss.map stText) := by
 rw [jb_flat]; unfold nm; simp [List.flatMap_map]
theorem names_iff (s : ByteArray) (ss : List St) : stepsAns s = some ss ↔ s.data.toList = nm ss ∧ OkSts ss := by
 unfold stepsAns
 by_cases hz : s = ⟨#[]⟩
 ·rw [if_pos hz]
  subst hz
  constructor
  ·intro h; cases h; exact ⟨rfl, by simp, by simp, by simp⟩
  rintro ⟨h, _⟩
  cases ss with
  | nil => rfl
  | cons x ss => simp [nm] at h
 rw [if_neg hz]
 have hj:=split_jb s 47
 have e47 : ((47 : UInt8).toNat : Int) = 47:=rfl
 rw [e47] at hj
 constructor
 ·intro h
  split at h
  ·rename_i hc
   cases hr : stepsRun (splitAns s 47).tail with
   | none => rw [hr] at h; cases h
   | some q =>
    rw [hr] at h
    cases h
    obtain ⟨h1, h2, h3⟩:=run_texts _ q hr
    have hlen:=(stepsRun_ok _ q hr).1
    cases hp : splitAns s 47 with
    | nil => exact absurd hp (split_neB s 47)
    | cons p ps =>
     rw [hp] at hc h1 hj hlen
     simp at hc
     refine ⟨?_, ?_, fun y hy => (h2 y hy).1, h3⟩
     ·rw [← hj, nm_jb, List.map_cons, hc.1]
      simp only [List.tail_cons] at h1
      rw [h1]
     show q.2.length ≤ 30
     simp at hlen
     omega
  cases h
 rintro ⟨h1, h2, h3, h4⟩
 have hne : ss ≠ []:=by
  rintro rfl
  apply hz
  apply ByteArray.ext
  apply Array.toList_inj.1
  rw [h1]; rfl
 have hsp:=split_of s 47 ([] :: ss.map stText) (by simp) (fun p hp => by
  rcases List.mem_cons.1 hp with rfl | hp
  ·simp
  obtain ⟨y, _, rfl⟩:=List.mem_map.1 hp; exact stText_clean y) (by rw [h1, nm_jb])
 rw [e47] at hsp
 cases hp : splitAns s 47 with
 | nil => exact absurd hp (split_neB s 47)
 | cons p ps =>
  rw [hp] at hsp
  simp only [List.map_cons, List.cons.injEq] at hsp
  obtain ⟨l, hl, _⟩:=run_of ss h3 h4 ps hsp.2
  have hpl : ps.length = ss.length:=by have:=congrArg List.length hsp.2; simpa using this
  have hp0 : p = ⟨#[]⟩:=ByteArray.ext (Array.toList_inj.1 hsp.1)
  rw [if_pos ⟨by simpa using hp0, by simp; omega⟩, List.tail_cons, hl]
  rfl
theorem nm_append (ss tt : List St) : nm (ss ++ tt) = nm ss ++ nm tt := by simp [nm]
theorem nm_snoc (ss : List St) (x : St) : nm (ss ++ [x]) = nm ss ++ 47 :: stText x := by simp [nm]
theorem OkSts.pre {ss tt : List St} (h : OkSts (ss ++ tt)) : OkSts ss := by
 obtain ⟨h1, h2, h3⟩:=h
 refine ⟨by simp at h1; omega, fun s hs => h2 s (by simp [hs]), ?_⟩
 rw [List.pairwise_append] at h3; exact h3.1
theorem ba_ext {s t : ByteArray} (h : s.data.toList = t.data.toList) : s = t := ByteArray.ext (Array.toList_inj.1 h)
theorem last_slash {a b x y : List UInt8} (hx : (47 : UInt8) ∉ x) (hy : (47 : UInt8) ∉ y) (h : a ++ 47 :: x = b ++ 47 :: y) : a = b ∧ x = y := by
 have hr:=congrArg List.reverse h
 simp only [List.reverse_append, List.reverse_cons, List.append_assoc, List.singleton_append] at hr
 have hx' : (47 : UInt8) ∉ x.reverse:=by simpa using hx
 have hy' : (47 : UInt8) ∉ y.reverse:=by simpa using hy
 have e1 : x.reverse = y.reverse:=by rw [← hd_some (y:=a.reverse) hx', hr, hd_some hy']
 have e2 : a.reverse = b.reverse:=by rw [← tl_some (x:=x.reverse) (y:=a.reverse) hx', hr, tl_some hy']
 exact ⟨List.reverse_inj.1 e2, List.reverse_inj.1 e1⟩
theorem stText_inj {x y : St} (hx : OkSt x) (hy : OkSt y) (h : stText x = stText y) : x = y := by
 have h1:=stepOf_text hx (p:=toB (stText x)) (toB_list _)
 have h2:=stepOf_text hy (p:=toB (stText x)) ((toB_list _).trans h)
 rw [h1] at h2
 exact Option.some.inj h2

theorem toB_ne {l : List UInt8} (h : l ≠ []) : toB l ≠ ⟨#[]⟩ := fun e => h (by have := congrArg (fun s : ByteArray => s.data.toList) e; simpa [toB_list] using this)
def upAns (s : ByteArray) : ByteArray := toB (nm ((stepsAns s).getD []).dropLast)
def viewAns (s : ByteArray) : Int := (((stepsAns s).getD []).getLast?.map (·.1)).getD 0
def txsInAns (s : ByteArray) : List T4 := ((stepsAns s).getD []).flatMap (·.2)
def heightAns (s : ByteArray) : Int := match stepsAns s with | some ss => (ss.length : Int) | none => -1
theorem height_view {s : ByteArray} : heightAns s ≤ viewAns s ∧ heightAns s ≤ 30 ∧ viewAns s ≤ 60 := by
 unfold heightAns viewAns
 cases h : stepsAns s with
 | none => simp
 | some ss =>
  have ok:=((names_iff _ _).1 h).2
  simp only [Option.getD_some]
  refine ⟨?_, by have := ok.1; omega, ?_⟩
  ·have key : ∀ ss : List St, (∀ s ∈ ss, OkSt s) → ss.Pairwise (fun a b => a.1 < b.1) → (ss.length : Int) ≤ (ss.getLast?.map (·.1)).getD 0:=by
    intro ss
    generalize hn : ss.length = n
    induction n generalizing ss with
    | zero => intro _ _; have : ss = [] := List.length_eq_zero_iff.1 hn; subst this; simp
    | succ n ih =>
     intro h1 h2
     obtain ⟨ss', x, rfl⟩ : ∃ ss' x, ss = ss' ++ [x]:=⟨ss.dropLast, ss.getLast (fun e => by rw [e] at hn; simp at hn), (List.dropLast_concat_getLast _).symm⟩
     rw [List.pairwise_append] at h2
     have:=ih ss' (by simpa using hn) (fun s hs => h1 s (by simp [hs])) h2.1
     have hx:=(h1 x (by simp)).1
     simp only [List.getLast?_append, List.getLast?_singleton, Option.some_or, Option.map_some, Option.getD_some]
     cases hl : ss'.getLast? with
     | none => rw [hl] at this; simp at this; omega
     | some y =>
      rw [hl] at this
      simp at this
      have:=h2.2.2 y (List.mem_of_getLast? hl) x (by simp)
      omega
   exact key ss ok.2.1 ok.2.2
  cases hl : ss.getLast? with
  | none => simp
  | some y => simp; exact (ok.2.1 y (List.mem_of_getLast? hl)).1.2
theorem up_cut {s : ByteArray} {ss : List St} (h : stepsAns s = some ss) (k : Nat) (hk : k ≤ s.data.toList.length) (h1 : (47 : UInt8) ∉ s.data.toList.drop k) (h2 : k = 0 ∨ s.data.toList[k - 1]? = some 47) : toB (s.data.toList.take (k - 1)) = upAns s := by
 have hs:=(names_iff _ _).1 h
 unfold upAns
 rw [h, Option.getD_some]
 by_cases hne : ss = []
 ·subst hne
  have : s.data.toList = []:=hs.1
  rw [this]; simp [nm]
 obtain ⟨ss', x, rfl⟩ : ∃ ss' x, ss = ss' ++ [x]:=⟨ss.dropLast, ss.getLast hne, (List.dropLast_concat_getLast _).symm⟩
 rw [List.dropLast_concat]
 have e:=hs.1
 rw [nm_snoc] at e
 rcases h2 with rfl | h2
 ·rw [List.drop_zero, e] at h1
  simp at h1
 have hk0 : 0 < k:=by
  cases k with
  | zero =>
   rw [List.drop_zero, e] at h1
   simp at h1
  | succ k => omega
 have hlt : k - 1 < s.data.toList.length:=by omega
 have e3 : s.data.toList = s.data.toList.take (k - 1) ++ 47 :: s.data.toList.drop k:=by
  conv => lhs; rw [← List.take_append_drop (k - 1) s.data.toList]
  congr 1
  rw [List.drop_eq_getElem_cons hlt, show k - 1 + 1 = k from by omega]
  congr 1
  rw [List.getElem?_eq_getElem hlt] at h2
  exact Option.some.inj h2
 have e4:=e3.symm.trans e
 rw [(last_slash h1 (stText_clean x) e4).1]
theorem nm_pre : ∀ (tt ss : List St), (∀ x ∈ tt, OkSt x) → (∀ x ∈ ss, OkSt x) → ∀ r, nm ss = nm tt ++ r → (r = [] ∨ ∃ q, r = 47 :: q) → tt <+: ss := by
 intro tt
 induction tt with
 | nil => intro ss _ _ r _ _; exact List.nil_prefix
 | cons x tt ih =>
  intro ss ht hs r h hr
  cases ss with
  | nil => simp [nm] at h
  | cons y ss =>
   have e : ∀ (z : St) (zs : List St), nm (z :: zs) = 47 :: (stText z ++ nm zs):=fun z zs => by simp [nm]
   rw [e, e, List.cons_append, List.append_assoc] at h
   have h':=List.tail_eq_of_cons_eq h
   have lead : ∀ (zs : List St) (q : List UInt8), (q = [] ∨ ∃ p, q = 47 :: p) → nm zs ++ q = [] ∨ ∃ p, nm zs ++ q = 47 :: p:=fun zs q hq => by
    cases zs with
    | nil => simpa [nm] using hq
    | cons z zs => right; rw [e]; exact ⟨_, rfl⟩
   have cutAt : ∀ (a b p q : List UInt8), (47 : UInt8) ∉ a → (47 : UInt8) ∉ b → (p = [] ∨ ∃ p', p = 47 :: p') → (q = [] ∨ ∃ q', q = 47 :: q') → a ++ p = b ++ q → a = b ∧ p = q:=by
    intro a b p q ha hb hp hq hab
    have f : ∀ (a p : List UInt8), (47 : UInt8) ∉ a → (p = [] ∨ ∃ p', p = 47 :: p') → hd 47 (a ++ p) = a:=by
     intro a p ha hp
     rcases hp with rfl | ⟨p', rfl⟩
     ·rw [List.append_nil]; exact hd_none ha
     exact hd_some ha
    have e1 : a = b:=by rw [← f a p ha hp, hab, f b q hb hq]
    subst e1
    exact ⟨rfl, List.append_cancel_left hab⟩
   have l1:=lead ss [] (.inl rfl)
   rw [List.append_nil] at l1
   obtain ⟨e1, e2⟩:=cutAt _ _ _ _ (stText_clean y) (stText_clean x) l1 (lead tt r hr) h'
   have exy : y = x:=stText_inj (hs y (by simp)) (ht x (by simp)) e1
   subst exy
   exact (List.cons_prefix_cons).2 ⟨rfl, ih ss (fun z hz => ht z (by simp [hz])) (fun z hz => hs z (by simp [hz])) r e2 hr⟩
def pc : List UInt8 → List UInt8
 | [] => []
 | c :: t => c :: t.takeWhile (· != 47)
def rs : List UInt8 → List UInt8
 | [] => []
 | _ :: t => t.dropWhile (· != 47)
theorem pc_rs (r : List UInt8) : pc r ++ rs r = r := by
 cases r with
 | nil => rfl
 | cons c t => simp [pc, rs, List.takeWhile_append_dropWhile]
theorem rs_lt {r : List UInt8} (h : r ≠ []) : (rs r).length < r.length := by
 cases r with
 | nil => exact absurd rfl h
 | cons c t =>
  have:=congrArg List.length (List.takeWhile_append_dropWhile (p:=(· != (47 : UInt8))) (l:=t))
  rw [List.length_append] at this
  simp only [rs, List.length_cons]; omega
theorem rs_head (r : List UInt8) : rs r = [] ∨ ∃ q, rs r = 47 :: q := by
 cases r with
 | nil => exact .inl rfl
 | cons c t =>
  show t.dropWhile _ = [] ∨ ∃ q, t.dropWhile _ = 47 :: q
  cases h : t.dropWhile (· != (47 : UInt8)) with
  | nil => exact .inl rfl
  | cons x q =>
   have hx:=List.head_dropWhile_not (p:=(· != (47 : UInt8))) (l:=t) (by rw [h]; simp)
   simp only [h, List.head_cons] at hx
   exact .inr ⟨q, by rw [show x = 47 by simpa using hx]⟩
def rsN (l : List UInt8) : Nat → List UInt8
 | 0 => l
 | k + 1 => rs (rsN l k)
theorem rsN_le (l : List UInt8) (k : Nat) : (rsN l k).length ≤ l.length := by
 induction k with
 | zero => exact Nat.le_refl _
 | succ k ih =>
  by_cases h : rsN l k = []
  ·show (rs (rsN l k)).length ≤ _; rw [h]; exact Nat.zero_le _
  have:=rs_lt h; show (rs (rsN l k)).length ≤ _; omega
theorem rounds (l : List UInt8) : ∃ m, rsN l m = [] ∧ ∀ k, k < m → rsN l k ≠ [] := by
 have key : ∀ n k, (rsN l k).length ≤ n → (∀ j, j < k → rsN l j ≠ []) → ∃ m, rsN l m = [] ∧ ∀ k, k < m → rsN l k ≠ []:=by
  intro n
  induction n with
  | zero => exact fun k h hk => ⟨k, List.length_eq_zero_iff.1 (Nat.le_zero.1 h), hk⟩
  | succ n ih =>
   intro k h hk
   by_cases e : rsN l k = []
   ·exact ⟨k, e, hk⟩
   have:=rs_lt e
   exact ih (k + 1) (by show (rs (rsN l k)).length ≤ n; omega) fun j hj => by
    by_cases e2 : j = k
    ·subst e2; exact e
    exact hk j (by omega)
 exact key _ 0 (Nat.le_refl _) fun j hj => by omega
def stepP (p : List UInt8) : Option St := if p.head? = some 47 then stepOf (toB p.tail) else none
def lastV (ss : List St) : Int := (ss.getLast?.map (·.1)).getD 0
theorem lastV_snoc (ss : List St) (x : St) : lastV (ss ++ [x]) = x.1 := by simp [lastV]
theorem lastV_ge {ss : List St} (h : OkSts ss) : 0 ≤ lastV ss ∧ lastV ss ≤ 60 := by
 unfold lastV
 cases e : ss.getLast? with
 | none => simp
 | some x =>
  have:=(h.2.1 x (List.mem_of_getLast? e)).1
  simp; omega
theorem views_le {ss : List St} (h : OkSts ss) : ∀ s ∈ ss, s.1 ≤ lastV ss := by
 intro s hs
 obtain ⟨ss', x, rfl⟩ : ∃ ss' x, ss = ss' ++ [x]:=⟨ss.dropLast, ss.getLast (List.ne_nil_of_mem hs), (List.dropLast_concat_getLast _).symm⟩
 rw [lastV_snoc]
 rcases List.mem_append.1 hs with h1 | h1
 ·have:=(List.pairwise_append.1 h.2.2).2.2 s h1 x (by simp)
  omega
 simp at h1; subst h1; exact Int.le_refl _
theorem piece_on {l r : List UInt8} {ss : List St} {x : St} (h : l = nm ss ++ r) (hk : OkSts ss) (hx : stepP (pc r) = some x) (hg : GoodSt (lastV ss) x) (hl : ss.length < 30) : l = nm (ss ++ [x]) ++ rs r ∧ OkSts (ss ++ [x]) := by
 unfold stepP at hx
 split at hx
 ·rename_i hh
  obtain ⟨h1, h2, h3⟩:=stepOf_some hx
  rw [toB_list] at h1
  have hp : pc r = 47 :: stText x:=by
   rw [← h1]
   cases hpc : pc r with
   | nil => rw [hpc] at hh; simp at hh
   | cons c t => rw [hpc] at hh; simp at hh; rw [hh]; rfl
  obtain ⟨g1, g2, g3⟩:=hg
  have hz:=lastV_ge hk
  have hx : OkSt x:=⟨⟨by omega, g2⟩, g3, h3⟩
  refine ⟨?_, by simp; omega, fun s hs => ?_, ?_⟩
  ·rw [nm_snoc, ← hp, List.append_assoc, pc_rs]; exact h
  ·rcases List.mem_append.1 hs with h4 | h4
   ·exact hk.2.1 s h4
   simp at h4; subst h4; exact hx
  refine List.pairwise_append.2 ⟨hk.2.2, by simp, fun s hs t ht => ?_⟩
  simp at ht; subst ht
  have:=views_le hk s hs
  omega
 cases hx
theorem nm_head : ∀ ss : List St, nm ss = [] ∨ ∃ q, nm ss = 47 :: q := fun ss => by
 cases ss with
 | nil => exact .inl rfl
 | cons s ss => exact .inr ⟨_, rfl⟩
theorem piece_no {s : ByteArray} {r : List UInt8} {ss : List St} (h : s.data.toList = nm ss ++ r) (hr : r ≠ []) (hk : OkSts ss) (hh : ss = [] ∨ ∃ q, r = 47 :: q)
 (hn : ∀ x, stepP (pc r) = some x → GoodSt (lastV ss) x → ss.length < 30 → False) : stepsAns s = none := by
 cases hs : stepsAns s with
 | none => rfl
 | some tt =>
  exfalso
  obtain ⟨h1, h2⟩:=(names_iff _ _).1 hs
  have hpre : ss <+: tt:=by
   rcases hh with rfl | hh
   ·exact List.nil_prefix
   exact nm_pre ss tt hk.2.1 h2.2.1 r (h1.symm.trans h) (.inr hh)
  obtain ⟨uu, rfl⟩:=hpre
  rw [h, nm_append] at h1
  have h1:=List.append_cancel_left h1
  cases uu with
  | nil => exact hr h1
  | cons x uu =>
   have hx : OkSt x:=h2.2.1 x (by simp)
   have e1 : r = 47 :: (stText x ++ nm uu):=by rw [h1]; simp [nm]
   have hc : ∀ y ∈ stText x, (y != (47 : UInt8)) = true:=fun y hy => by
    have:=stText_clean x
    simp; intro e; subst e; exact this hy
   have e2 : pc r = 47 :: stText x:=by
    rw [e1]
    show 47 :: (stText x ++ nm uu).takeWhile _ = _
    rw [List.takeWhile_append_of_pos hc]
    rcases nm_head uu with e | ⟨q, e⟩
    ·rw [e]; simp
    rw [e]; simp
   refine hn x ?_ ?_ ?_
   ·unfold stepP
    rw [e2]
    refine (if_pos rfl).trans ?_
    exact stepOf_text hx (toB_list _)
   ·have hv : lastV ss < x.1:=by
     unfold lastV
     cases e : ss.getLast? with
     | none => have := hx.1; simp; omega
     | some y =>
      have:=(List.pairwise_append.1 h2.2.2).2.2 y (List.mem_of_getLast? e) x (by simp)
      simpa using this
    exact ⟨hv, hx.1.2, hx.2.1⟩
   have:=h2.1; simp at this; omega
theorem piece_end {s : ByteArray} {ss : List St} (h : s.data.toList = nm ss ++ []) (hk : OkSts ss) : stepsAns s = some ss := (names_iff _ _).2 ⟨by simpa using h, hk⟩
end
end Go.Proofs.YtmpffkpilbbclaaGreatDoor
