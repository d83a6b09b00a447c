/- What is put is got, what is got was put: plain mathematics of numbers and texts as bytes. -/
import Derived.Test.YtnbiphlificliaaDoorTextRead
import Derived.Test.YtnbiphlificliaaDoorDrawList
import Derived.Test.YtnbiphlificliaaDoorSplitPlain
import Derived.Test.YtnbiphlificliaaDoorText
namespace Go.Proofs.YtnbiphlificliaaDoor
set_option linter.unusedSectionVars false

/-- A number that is put is got where it stands. -/
theorem getF_put (pre post : List Int) (f m i : Nat) (n : Int) (h0 : 0 ≤ n) (hm : m < 128 ^ (f + 1)) (hi : 0 < i → 0 < m) (hle : n + (m : Int) * 128 ^ i ≤ 2147483647) :
    getF (pre ++ put f m ++ post) (f + 1) i pre.length n = some (n + (m : Int) * 128 ^ i, (pre.length : Int) + (put f m).length) := by
  induction f generalizing pre m i n with
  | zero =>
    have hm' : m ≤ 127 := by simp at hm; omega
    have hp : pre.length < (pre ++ put 0 m ++ post).length := by simp [put]
    have hd : (pre ++ put 0 m ++ post).getD pre.length 0 = (m : Int) := by simp [put]
    have hmod : (m : Int) % 128 = m := by omega
    rw [getF_end _ 0 i pre.length n hp (by rw [hd]; omega) (by rw [hd, hmod]; omega), hd, hmod]
    simp [put]
  | succ f ih =>
    by_cases hs : m ≤ 127
    · have hpt : put (f + 1) m = [(m : Int)] := put_small (f + 1) m hs
      rw [hpt]
      have hp : pre.length < (pre ++ [(m : Int)] ++ post).length := by simp
      have hd : (pre ++ [(m : Int)] ++ post).getD pre.length 0 = (m : Int) := by simp
      have hmod : (m : Int) % 128 = m := by omega
      rw [getF_end _ (f + 1) i pre.length n hp (by rw [hd]; omega) (by rw [hd, hmod]; omega), hd, hmod]
      simp
    · have hpt : put (f + 1) m = ((m : Int) % 128 + 128) :: put f (m / 128) := put_great f m (by omega)
      rw [hpt]
      have hp : pre.length < (pre ++ (((m : Int) % 128 + 128) :: put f (m / 128)) ++ post).length := by simp
      have hd : (pre ++ (((m : Int) % 128 + 128) :: put f (m / 128)) ++ post).getD pre.length 0 = (m : Int) % 128 + 128 := by simp
      have hmod : ((m : Int) % 128 + 128) % 128 = (m : Int) % 128 := by omega
      rw [getF_more _ (f + 1) i pre.length n hp (by rw [hd]; omega), hd, hmod]
      have hl : pre ++ (((m : Int) % 128 + 128) :: put f (m / 128)) ++ post = (pre ++ [(m : Int) % 128 + 128]) ++ put f (m / 128) ++ post := by simp
      have hpow : (128 : Int) ^ (i + 1) = 128 ^ i * 128 := Int.pow_succ 128 i
      have h128 : (0 : Int) ≤ 128 ^ i := Int.pow_nonneg (by omega)
      have hval : n + (m : Int) % 128 * 128 ^ i + ((m / 128 : Nat) : Int) * 128 ^ (i + 1) = n + (m : Int) * 128 ^ i := by
        rw [hpow]
        have hdm : (m : Int) = (m : Int) % 128 + 128 * ((m / 128 : Nat) : Int) := by omega
        have : (m : Int) * 128 ^ i = ((m : Int) % 128 + 128 * ((m / 128 : Nat) : Int)) * 128 ^ i := by rw [← hdm]
        rw [this, Int.add_mul, Int.mul_comm (128 ^ i) 128, ← Int.mul_assoc, Int.mul_comm ((m / 128 : Nat) : Int) 128]
        omega
      have hge : 0 ≤ (m : Int) % 128 * 128 ^ i := Int.mul_nonneg (by omega) h128
      have := ih (pre ++ [(m : Int) % 128 + 128]) (m / 128) (i + 1) (n + (m : Int) % 128 * 128 ^ i) (by omega) (by rw [Nat.pow_succ] at hm; exact Nat.div_lt_of_lt_mul (by rw [Nat.mul_comm]; exact hm)) (by omega) (by rw [hval]; exact hle)
      rw [hl]
      rw [show (pre ++ [(m : Int) % 128 + 128]).length = pre.length + 1 from by simp] at this
      rw [this, hval]
      simp; omega

theorem getNum_put (n : Nat) (post : List Int) (h : n ≤ 2147483647) : getNum (put 4 n ++ post) 0 = some ((n : Int), ((put 4 n).length : Int)) := by
  have := getF_put [] post 4 n 0 0 (by omega) (by omega) (by omega) (by simp; omega)
  rw [show (0 : Int) = ((0 : Nat) : Int) from rfl, getNum_nat]
  simpa using this

/-- What is got was put there, in its shortest form. -/
theorem getF_back (xs : List Int) (hb : ∀ k, k < xs.length → 0 ≤ xs.getD k 0 ∧ xs.getD k 0 ≤ 255) (f i p : Nat) (n m q : Int) (h : getF xs (f + 1) i p n = some (m, q)) :
    ∃ (r e : Nat), m = n + (r : Int) * 128 ^ i ∧ r < 128 ^ (f + 1) ∧ (0 < i → 0 < r) ∧ q = (p : Int) + e ∧ p + e ≤ xs.length ∧ (xs.drop p).take e = put f r := by
  induction f generalizing i p n with
  | zero =>
    by_cases hp : p < xs.length
    · have hx := hb p hp
      by_cases hd : 128 ≤ xs.getD p 0
      · rw [getF_more xs 0 i p n hp hd] at h; simp [getF] at h
      · by_cases hbad : 2147483647 < n + xs.getD p 0 % 128 * 128 ^ i ∨ (xs.getD p 0 = 0 ∧ 0 < i)
        · rw [getF_bad xs 0 i p n hp hd hbad] at h; cases h
        · rw [getF_end xs 0 i p n hp hd hbad] at h
          simp only [Option.some.injEq, Prod.mk.injEq] at h
          obtain ⟨d, hdd⟩ := Int.eq_ofNat_of_zero_le hx.1
          have hdrop : (xs.drop p).take 1 = [xs.getD p 0] := by
            rw [List.drop_eq_getElem_cons hp, List.take_succ_cons, List.take_zero, List.getD_eq_getElem?_getD, List.getElem?_eq_getElem hp]; rfl
          refine ⟨d, 1, ?_, by simp; omega, by omega, by omega, by omega, ?_⟩
          · rw [← h.1, hdd, show ((d : Int) % 128) = d from by omega]
          · rw [hdrop, hdd]; simp [put]
    · rw [getF_out xs _ i p n hp] at h; cases h
  | succ f ih =>
    by_cases hp : p < xs.length
    · have hx := hb p hp
      have hdrop : xs.drop p = xs.getD p 0 :: xs.drop (p + 1) := by
        rw [List.drop_eq_getElem_cons hp, List.getD_eq_getElem?_getD, List.getElem?_eq_getElem hp]; rfl
      obtain ⟨d, hdd⟩ := Int.eq_ofNat_of_zero_le hx.1
      by_cases hd : 128 ≤ xs.getD p 0
      · rw [getF_more xs (f + 1) i p n hp hd] at h
        obtain ⟨r, e, h1, h2, h3, h4, h5, h6⟩ := ih (i + 1) (p + 1) _ h
        have hr := h3 (by omega)
        refine ⟨d % 128 + 128 * r, e + 1, ?_, ?_, by omega, by omega, by omega, ?_⟩
        · rw [h1, hdd, Int.pow_succ, Int.natCast_add, Int.natCast_mul, Int.add_mul, Int.natCast_emod]
          have e1 : ((128 : Nat) : Int) * (r : Int) * 128 ^ i = (r : Int) * (128 ^ i * 128) := by
            rw [Int.mul_comm ((128 : Nat) : Int) (r : Int), Int.mul_assoc, Int.mul_comm ((128 : Nat) : Int) (128 ^ i)]; rfl
          rw [e1]
          have e2 : ((128 : Nat) : Int) = 128 := rfl
          rw [e2]; omega
        · rw [Nat.pow_succ]; omega
        · rw [hdrop, List.take_succ_cons, h6, put_great f _ (by omega)]
          rw [show (d % 128 + 128 * r) / 128 = r from by omega, hdd]
          congr 1; omega
      · by_cases hbad : 2147483647 < n + xs.getD p 0 % 128 * 128 ^ i ∨ (xs.getD p 0 = 0 ∧ 0 < i)
        · rw [getF_bad xs (f + 1) i p n hp hd hbad] at h; cases h
        · rw [getF_end xs (f + 1) i p n hp hd hbad] at h
          simp only [Option.some.injEq, Prod.mk.injEq] at h
          refine ⟨d, 1, ?_, ?_, by omega, by omega, by omega, ?_⟩
          · rw [← h.1, hdd, show ((d : Int) % 128) = d from by omega]
          · have : (128 : Nat) ≤ 128 ^ (f + 1 + 1) := by
              rw [Nat.pow_succ]; have : 0 < 128 ^ (f + 1) := Nat.pow_pos (by omega); omega
            omega
          · rw [hdrop, hdd, put_small (f + 1) d (by omega)]; simp
    · rw [getF_out xs _ i p n hp] at h; cases h

theorem getNum_back (xs : List Int) (hb : BytesL xs) (p m q : Int) (h : getNum xs p = some (m, q)) :
    ∃ (k e : Nat), p = k ∧ q = (k : Int) + e ∧ k + e ≤ xs.length ∧ 0 ≤ m ∧ m ≤ 2147483647 ∧ (xs.drop k).take e = putAns m := by
  have bd := getNum_bd xs hb.get p m q h
  by_cases hp : p < 0
  · rw [getNum_neg xs p hp] at h; cases h
  · obtain ⟨k, rfl⟩ := Int.eq_ofNat_of_zero_le (Int.not_lt.1 hp)
    rw [getNum_nat] at h
    obtain ⟨r, e, h1, h2, _, h4, h5, h6⟩ := getF_back xs hb.get 4 0 k 0 m q h
    have hm : m = (r : Int) := by rw [h1]; simp
    subst hm
    exact ⟨k, e, rfl, h4, h5, by omega, by omega, by rw [h6, putAns_yes r (by omega)]⟩

theorem bs_str (l : List Int) (h : BytesL l) : bs (strOfNums l) = l := by
  unfold bs
  rw [strOfNums_data, List.map_map]
  conv => rhs; rw [← List.map_id l]
  apply List.map_congr_left
  intro x hx
  have := h x hx
  simp; omega
theorem str_bs (s : ByteArray) : strOfNums (bs s) = s := by
  apply ByteArray.ext
  apply Array.toList_inj.1
  rw [strOfNums_data, bs, List.map_map]
  conv => rhs; rw [← List.map_id s.data.toList]
  apply List.map_congr_left
  intro x _
  simp

theorem getText_put (s : ByteArray) (h : s.size ≤ 1048576) : getText (textAns s) 0 = some (s, ((textAns s).length : Int)) := by
  unfold getText textAns
  rw [getNum_put s.size (bs s) (by omega)]
  simp only
  rw [if_pos (by rw [List.length_append, bs_len]; omega)]
  congr 1
  refine Prod.ext ?_ ?_
  · show textAt _ _ _ = s
    unfold textAt
    rw [Int.toNat_natCast, Int.toNat_natCast, List.drop_left, List.take_of_length_le (by rw [bs_len]; omega), str_bs]
  · show _ = _
    rw [List.length_append, bs_len]; omega

theorem getText_back (xs : List Int) (hb : BytesL xs) (p q : Int) (s : ByteArray) (h : getText xs p = some (s, q)) (hl : xs.length ≤ 1000) :
    ∃ (k e : Nat), p = k ∧ q = (k : Int) + e ∧ k + e ≤ xs.length ∧ s.size ≤ 1000 ∧ (xs.drop k).take e = textAns s := by
  unfold getText at h
  cases hg : getNum xs p with
  | none => rw [hg] at h; cases h
  | some x =>
    obtain ⟨n, r⟩ := x
    rw [hg] at h
    obtain ⟨k, e, rfl, rfl, h5, h0, h1, h6⟩ := getNum_back xs hb p n r hg
    obtain ⟨n, rfl⟩ := Int.eq_ofNat_of_zero_le h0
    by_cases hn : (n : Int) ≤ (xs.length : Int) - ((k : Int) + e)
    · simp only [if_pos hn, Option.some.injEq, Prod.mk.injEq] at h
      obtain ⟨rfl, rfl⟩ := h
      have e1 : ((k : Int) + e).toNat = k + e := by omega
      have hw : ((xs.drop (k + e)).take n).length = n := win_len xs (k + e) n (by omega)
      have hbw : BytesL ((xs.drop (k + e)).take n) := fun y hy => hb y (List.mem_of_mem_drop (List.mem_of_mem_take hy))
      have hsz : (textAt xs ((k : Int) + e).toNat ((n : Int)).toNat).size = n := by
        unfold textAt; rw [strOfNums_size, e1, Int.toNat_natCast, hw]
      refine ⟨k, e + n, rfl, by omega, by omega, by rw [hsz]; omega, ?_⟩
      unfold textAns
      rw [hsz]
      unfold textAt
      rw [e1, Int.toNat_natCast, bs_str _ hbw, List.take_add, h6, putAns_yes n (by omega), List.drop_drop]
    · simp [if_neg hn] at h

/-- Parts with a byte between, of the first j. -/
def joinTo (b : UInt8) (ps : List ByteArray) : Nat → List UInt8
  | 0 => []
  | j + 1 => (if 0 < j then joinTo b ps j ++ [b] else joinTo b ps j) ++ (ps.getD j ByteArray.empty).data.toList
theorem joinTo_pre (b : UInt8) (ps qs : List ByteArray) (j : Nat) (h : j ≤ ps.length) : joinTo b (ps ++ qs) j = joinTo b ps j := by
  induction j with
  | zero => rfl
  | succ j ih =>
    have e : (ps ++ qs).getD j ByteArray.empty = ps.getD j ByteArray.empty := by
      rw [List.getD_eq_getElem?_getD, List.getD_eq_getElem?_getD, List.getElem?_append_left (by omega)]
    rw [joinTo, joinTo, ih (by omega), e]
theorem joinTo_snoc (b : UInt8) (ps : List ByteArray) (x : ByteArray) : joinTo b (ps ++ [x]) (ps.length + 1) = (if 0 < ps.length then joinTo b ps ps.length ++ [b] else joinTo b ps ps.length) ++ x.data.toList := by
  have e : (ps ++ [x]).getD ps.length ByteArray.empty = x := by simp
  rw [joinTo, joinTo_pre b ps [x] ps.length (Nat.le_refl _), e]
theorem joinTo_le (b : UInt8) (ps : List ByteArray) (i j : Nat) (h : i ≤ j) : (joinTo b ps i).length ≤ (joinTo b ps j).length := by
  induction j with
  | zero => obtain rfl : i = 0 := by omega
            exact Nat.le_refl _
  | succ j ih =>
    by_cases hij : i = j + 1
    · subst hij; exact Nat.le_refl _
    · have := ih (by omega)
      rw [joinTo]
      by_cases h0 : 0 < j
      · rw [if_pos h0]; simp; omega
      · rw [if_neg h0]; simp; omega
theorem ext_cut (s : ByteArray) (i j : Nat) : (s.extract i j).data.toList = (s.data.toList.drop i).take (j - i) := by
  rw [ByteArray.data_extract, Array.toList_extract]
theorem split_inv (s : ByteArray) (b : UInt8) (k : Nat) (hk : k ≤ s.size) :
    ((pcs s b.toNat k).1 = [] ∧ (pcs s b.toNat k).2 = 0) ∨ (0 < (pcs s b.toNat k).1.length ∧ joinTo b (pcs s b.toNat k).1 (pcs s b.toNat k).1.length ++ [b] = s.data.toList.take (pcs s b.toNat k).2) := by
  induction k with
  | zero => left; simp [pcs]
  | succ k ih =>
    have ih := ih (by omega)
    have hks : k < s.size := by omega
    by_cases hb : (s[k].toNat : Int) = b.toNat
    · rw [pcs_hit s _ k hks hb]
      right
      have hle := (pcs_le s b.toNat k).1
      have hbb : s[k] = b := by
        apply UInt8.toNat_inj.1; omega
      have htk : s.data.toList.take (k + 1) = s.data.toList.take k ++ [b] := by
        rw [List.take_succ_eq_append_getElem (by simpa using hks)]
        congr 1
        rw [← hbb]; rfl
      refine ⟨by simp, ?_⟩
      simp only [List.length_append, List.length_cons, List.length_nil, Nat.zero_add]
      rw [joinTo_snoc, ext_cut, htk]
      congr 1
      rcases ih with ⟨h1, h2⟩ | ⟨h1, h2⟩
      · rw [h1, h2]; simp [joinTo]
      · rw [if_pos h1, h2]
        rw [← List.take_add]
        congr 1; omega
    · rw [pcs_miss s _ k hks hb]; exact ih
theorem split_join (s : ByteArray) (b : UInt8) : joinTo b (splitAns s b.toNat) (splitAns s b.toNat).length = s.data.toList := by
  have hle := (pcs_le s b.toNat s.size).1
  have hinv := split_inv s b s.size (Nat.le_refl _)
  have hlen : s.data.toList.length = s.size := by simp
  unfold splitAns
  simp only [List.length_append, List.length_cons, List.length_nil, Nat.zero_add]
  rw [joinTo_snoc, ext_cut]
  rcases hinv with ⟨h1, h2⟩ | ⟨h1, h2⟩
  · rw [h1, h2]
    simp only [List.length_nil, joinTo, List.drop_zero, Nat.sub_zero]
    rw [List.take_of_length_le (by omega)]; simp
  · rw [if_pos h1, h2, ← List.take_add, List.take_of_length_le (by omega)]
end Go.Proofs.YtnbiphlificliaaDoor
