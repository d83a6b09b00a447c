/- strings.Join of short texts with a comma between, at this program. -/
import Derived.Test.YtihaecmlfmfbfaaDoorGrowStr
namespace Go.Proofs.YtihaecmlfmfbfaaDoor
open Go.RowKit

theorem jnC_take (ps : List (List UInt8)) (k : Nat) : (jnC (ps.take k)).length ≤ (jnC ps).length := by
  have h : ∀ (qs : List (List UInt8)) j, (jnT (qs.take j)).length ≤ (jnT qs).length := fun qs j => by
    unfold jnT
    conv => rhs; rw [← List.take_append_drop j qs, List.flatMap_append, List.length_append]
    omega
  cases ps with
  | nil => simp
  | cons p ps =>
    cases k with
    | zero => simp [jnC]
    | succ k => simp only [List.take_succ_cons, jnC, List.length_append]; have := h ps k; omega
/-- One text more. -/
theorem jnC_snoc (ps : List (List UInt8)) (k : Nat) (h : k + 1 < ps.length) : jnC (ps.take (k + 2)) = jnC (ps.take (k + 1)) ++ 44 :: ps.getD (k + 1) [] := by
  cases ps with
  | nil => simp at h
  | cons p ps =>
    simp only [List.take_succ_cons, jnC]
    rw [jnT_take ps k (by simpa using h), List.append_assoc]
    rfl

set_option maxHeartbeats 4000000 in
set_option maxRecDepth 100000 in
theorem join_none (a : Option Addr) (c : Nat) (w : World) :
    Calls Tryd.prog 35 #[.slice a 0 c, .string ⟨#[44]⟩] w fun e w' => e = .returned (.string ⟨#[]⟩) ∧ Below w.heap.size w w' := by
  go_enter Tryd.func35, Tryd.ntmps35
  go_wp2
  go_ret
  exact ⟨rfl, Below.refl _ _⟩
set_option maxHeartbeats 4000000 in
set_option maxRecDepth 100000 in
theorem join_one (b c : Nat) (s : ByteArray) (w : World) (h : w.cell? ⟨b, 0, none⟩ = some (.string s)) :
    Calls Tryd.prog 35 #[.slice (some ⟨b, 0, none⟩) 1 c, .string ⟨#[44]⟩] w fun e w' => e = .returned (.string s) ∧ Below w.heap.size w w' := by
  go_enter Tryd.func35, Tryd.ntmps35
  go_wp2
  go_ret
  exact ⟨rfl, Below.refl _ _⟩

set_option maxHeartbeats 8000000 in
set_option maxRecDepth 100000 in
theorem join_many (b c n : Nat) (ss : List ByteArray) (w : World) (hn : ss.length = n) (h2 : 2 ≤ n) (hl : n ≤ 4194304) (hc : n ≤ c) (hs : ∀ s ∈ ss, 0 < s.size ∧ s.size ≤ 21)
    (h : ∀ k, k < n → w.cell? ⟨b, k, none⟩ = some (.string (ss.getD k ⟨#[]⟩))) :
    Calls Tryd.prog 35 #[.slice (some ⟨b, 0, none⟩) n c, .string ⟨#[44]⟩] w fun e w' => e = .returned (.string ⟨(jnC (ss.map (·.data.toList))).toArray⟩) ∧ Below w.heap.size w w' := by
  have hb : b < w.heap.size := cell_lt (h 0 (by omega))
  have hsz : ∀ k, k < n → 0 < (ss.getD k ⟨#[]⟩).size ∧ (ss.getD k ⟨#[]⟩).size ≤ 21 := fun k hk => by
    have hk' : k < ss.length := by omega
    rw [List.getD_eq_getElem?_getD, List.getElem?_eq_getElem hk']
    exact hs _ (List.getElem_mem hk')
  have hlen : (jnC (ss.map (·.data.toList))).length ≤ n * 22 + 21 := by
    cases ss with
    | nil => simp [jnC]
    | cons s ss =>
      have h1 := (hs s (by simp)).2
      have h3 := jn_len (ss.map (·.data.toList)) (fun p hp => by obtain ⟨t, ht, rfl⟩ := List.mem_map.1 hp; have h5 := (hs t (by simp [ht])).2; have h6 : t.data.toList.length = t.size := Array.length_toList; omega)
      simp only [List.map_cons, jnC, List.length_append, List.length_map, List.length_cons] at *
      have h6 : s.data.toList.length = s.size := Array.length_toList
      omega
  have HS := hide hsz
  have HC := hide h
  have HL := hide fun k => jnC_take (ss.map (·.data.toList)) k
  have HN := hide fun k (hk : k + 1 < n) => jnC_snoc (ss.map (·.data.toList)) k (by simpa [hn] using hk)
  have HG : Hid (∀ k, k < n → (ss.map (·.data.toList)).getD k [] = (ss.getD k ⟨#[]⟩).data.toList) := hide fun k hk => by
    have hk' : k < ss.length := by omega
    simp [List.getD_eq_getElem?_getD, hk']
  have HA : Hid ((ss.map (·.data.toList)).take n = ss.map (·.data.toList)) := hide (List.take_of_length_le (by simp [hn]))
  have H1 : Hid (jnC ((ss.map (·.data.toList)).take 1) = (ss.getD 0 ⟨#[]⟩).data.toList) := hide (by
    cases ss with
    | nil => simp at hn; omega
    | cons s ss => simp [jnC, jnT])
  generalize ss.map (·.data.toList) = ps at *
  have hne0 : ((n : Int) == 0) = false := beq_eq_false_iff_ne.2 (by omega)
  have hne1 : ((n : Int) == 1) = false := beq_eq_false_iff_ne.2 (by omega)
  have hq : ¬ (9223372036854775807 / ((n : Int) - 1) ≤ 1) := by
    have h1 : (2 : Int) * ((n : Int) - 1) ≤ 9223372036854775807 := by omega
    have := Int.le_ediv_of_mul_le (show (0 : Int) < (n : Int) - 1 by omega) h1
    omega
  clear h hs hsz hn
  go_enter Tryd.func35, Tryd.ntmps35
  go_wp2_with fail
  go_loopw [5, 41] (fun a i wr => ∃ k t : Nat, k ≤ n ∧ i = .int .i64 k ∧ a = .int .i64 t ∧ t ≤ n + 21 * k ∧ wr = w) (fun _ i _ => n - (intOf i).toNat)
  case atStart => exact ⟨0, n - 1, Nat.zero_le _, rfl, by congr 1; omega, by omega, rfl⟩
  case round =>
    obtain ⟨k, t, hk, rfl, rfl, ht, hw⟩ := hrel
    have hw' := hw.symm
    subst hw'
    clear hw
    by_cases hlt : k < n
    · have hcell := unhide HC k hlt
      have hss := unhide HS k hlt
      generalize ss.getD k ⟨#[]⟩ = s at *
      have hd : decide (9223372036854775807 - (t : Int) < (s.size : Int)) = false := by simp; omega
      go_wp2
      go_roundw
      case rel => exact ⟨k + 1, t + s.size, by omega, by go_num, by go_num, by omega, trivial⟩
      case measure => simp [intOf]; omega
    · have hke : k = n := by omega
      subst hke
      clear hlt hk
      go_wp2_with fail
      refine (grow_any w.heap.size w.heap.size t _ (Nat.le_refl _) (heap_alloc_new w _) (by simp) (by omega)).mono ?_
      rintro e w1 ⟨rfl, G1, b1⟩
      have B1 : Below w.heap.size w w1 := ((Below.refl _ w).alloc (Nat.le_refl _) _).trans b1
      have hcell := (B1.cell (p := ⟨b, 0, none⟩) hb).trans (unhide HC 0 (by omega))
      have hss := unhide HS 0 (by omega)
      have HI := hide G1
      have s1 := B1.size
      clear b1 G1
      generalize ss.getD 0 ⟨#[]⟩ = s0 at *
      go_wp2_with fail
      refine (writeString _ _ _ s0 _ (.inr (unhide HI)) (by simp) (by omega) (by omega) (by omega)).mono ?_
      rintro e w2 ⟨rfl, G2, b2⟩
      have B2 : Below w.heap.size w w2 := B1.trans b2
      have HI2 : Hid (Lib.IsBuilder 69 5 w.heap.size w.heap.size (Lib.byteCells (jnC (ps.take 1))) w2) := by
        show Lib.IsBuilder _ _ _ _ _ _
        rw [unhide H1, ← bytes_str]
        exact .inr (by simpa using G2)
      have s2 := B2.size
      clear G2 b2 HI B1 s1 hcell hss
      go_wp2_with fail
      go_loopw [65] (fun i wx => ∃ j : Nat, j ≤ k - 1 ∧ i = .int .i64 j ∧ Hid (Lib.IsBuilder 69 5 w.heap.size w.heap.size (Lib.byteCells (jnC (ps.take (j + 1)))) wx) ∧ Below w.heap.size w wx) (fun i _ => k - 1 - (intOf i).toNat)
      case atStart => exact ⟨0, Nat.zero_le _, rfl, HI2, B2⟩
      case round =>
        clear HI2 B2 s2
        obtain ⟨j, hj, rfl, HB, Bx⟩ := hrel
        have sx := Bx.size
        by_cases hlt : j < k - 1
        · have hcell : wr.cell? ⟨b, 1 + j, none⟩ = some (.string (ss.getD (1 + j) ⟨#[]⟩)) := (Bx.cell (p := ⟨b, 1 + j, none⟩) hb).trans (unhide HC (1 + j) (by omega))
          have hss := unhide HS (1 + j) (by omega)
          have HE : Hid (jnC (ps.take (j + 2)) = jnC (ps.take (j + 1)) ++ 44 :: (ss.getD (1 + j) ⟨#[]⟩).data.toList) := hide (by rw [unhide HN j (by omega), unhide HG (j + 1) (by omega), show 1 + j = j + 1 from Nat.add_comm 1 j])
          have hlj := Nat.le_trans (unhide HL (j + 1)) hlen
          generalize ss.getD (1 + j) ⟨#[]⟩ = s at *
          go_wp2_with fail
          refine (writeString _ _ _ ⟨#[44]⟩ _ HB.out (by rw [bytes_len]; omega) (by decide) (by decide) (by omega)).mono ?_
          rintro e w3 ⟨rfl, G3, b3⟩
          have B3 : Below w.heap.size w w3 := Bx.trans b3
          replace hcell := (b3.cell (p := ⟨b, 1 + j, none⟩) hb).trans hcell
          have HI3 := hide G3
          have s3 := B3.size
          clear G3 b3
          go_wp2_with fail
          refine (writeString _ _ _ s _ (.inr (unhide HI3)) (by simp only [List.length_append, bytes_len, Lib.strCells_length]; have : (⟨#[44]⟩ : ByteArray).size = 1 := rfl; omega) (by omega) (by omega) (by omega)).mono ?_
          rintro e w4 ⟨rfl, G4, b4⟩
          have B4 : Below w.heap.size w w4 := B3.trans b4
          have HI4 : Hid (Lib.IsBuilder 69 5 w.heap.size w.heap.size (Lib.byteCells (jnC (ps.take (j + 2)))) w4) := by
            show Lib.IsBuilder _ _ _ _ _ _
            rw [unhide HE, show ∀ (x : List UInt8) (y : List UInt8), x ++ 44 :: y = x ++ ((⟨#[44]⟩ : ByteArray).data.toList ++ y) from fun _ _ => rfl, ← bytes_app, ← bytes_app, ← bytes_str, ← bytes_str, ← List.append_assoc]
            exact .inr G4
          clear G4 b4 HI3 HE
          go_wp2
          go_roundw
          case rel => exact ⟨j + 1, by omega, by go_num, HI4, B4⟩
          case measure => simp [intOf]; omega
        · have hje : j + 1 = k := by omega
          have hB' := HB.out
          rw [hje, unhide HA] at hB'
          have HB' := hide hB'
          clear HB hB' hje
          go_wp2_with fail
          refine (Tryd.Builder_String_any w.heap.size w.heap.size _ _ (unhide HB') (by omega)).mono ?_
          rintro e w5 ⟨rfl, b5⟩
          have B5 := Bx.trans b5
          go_wp2
          go_ret
          exact ⟨rfl, B5⟩
/-- What digitsOf's texts come to. -/
theorem join_any (b c : Nat) (ss : List ByteArray) (w : World) (hl : ss.length ≤ 4194304) (hc : ss.length ≤ c) (hs : ∀ s ∈ ss, 0 < s.size ∧ s.size ≤ 21)
    (h : ∀ k, k < ss.length → w.cell? ⟨b, k, none⟩ = some (.string (ss.getD k ⟨#[]⟩))) :
    Calls Tryd.prog 35 #[.slice (some ⟨b, 0, none⟩) ss.length c, .string ⟨#[44]⟩] w fun e w' => e = .returned (.string ⟨(jnC (ss.map (·.data.toList))).toArray⟩) ∧ Below w.heap.size w w' := by
  by_cases h2 : 2 ≤ ss.length
  · exact join_many b c ss.length ss w rfl h2 hl hc hs h
  · match ss, h with
    | [], _ => exact join_none _ _ w
    | [s], h =>
      have := join_one b c s w (h 0 (by simp))
      simpa [jnC, jnT] using this
    | s :: t :: r, _ => simp at h2
end Go.Proofs.YtihaecmlfmfbfaaDoor
