/- TxsText of the program and of the specification. -/
import Derived.Test.YtnbiphlificliaaDoorTxList
import Derived.Test.YtnbiphlificliaaDoorSpecTxOf
import Derived.Test.YtnbiphlificliaaDoorShelfBuilder
namespace Go.Proofs.YtnbiphlificliaaDoor
open Go.RowKit
set_option linter.unusedSectionVars false
variable [∀ (a b c d : Int), Decidable (Ok4 a b c d)]
variable [∀ (a b c d : Nat), Decidable (okN a b c d)]

def OkT (x : T4) : Prop := Ok4 x.1 x.2.1 x.2.2.1 x.2.2.2
variable [∀ (x : T4), Decidable (OkT x)]
def txT (x : T4) : ByteArray := txt x.1 x.2.1 x.2.2.1 x.2.2.2
/-- The text of the first k payments. -/
def accT (xs : List T4) : Nat → List UInt8
  | 0 => []
  | k + 1 => (if 0 < k then accT xs k ++ [44] else accT xs k) ++ (txT (xs.getD k (0, 0, 0, 0))).data.toList
/-- What TxsText answers. -/
def txsT (xs : List T4) : ByteArray := if ∀ x ∈ xs, OkT x then toB (accT xs xs.length) else ⟨#[]⟩
theorem ok_nat {a b c d : Int} (h : Ok4 a b c d) : ∃ a' b' c' d' : Nat, a = a' ∧ b = b' ∧ c = c' ∧ d = d' := by
  obtain ⟨⟨a1, _⟩, ⟨b1, _⟩, ⟨c1, _⟩, ⟨d1, _⟩⟩ := h
  exact ⟨a.toNat, b.toNat, c.toNat, d.toNat, by omega, by omega, by omega, by omega⟩
theorem txT_size (x : T4) : (txT x).size ≤ 27 := by
  unfold txT txt
  split
  · rename_i h
    obtain ⟨a, b, c, d⟩ := x
    obtain ⟨⟨a1, a2⟩, ⟨b1, b2⟩, ⟨c1, c2⟩, ⟨d1, d2⟩⟩ := h
    simp only at *
    have za := dg_size a (by omega) (by omega)
    have zb := dg_size b (by omega) (by omega)
    have zc := dg_size c (by omega) (by omega)
    have zd := dg_size d (by omega) (by omega)
    have o : ∀ c : UInt8, (⟨#[c]⟩ : ByteArray).size = 1 := fun _ => rfl
    unfold txs dg
    rw [ByteArray.size_append, ByteArray.size_append, ByteArray.size_append, ByteArray.size_append, ByteArray.size_append, ByteArray.size_append, o, o, o]
    omega
  · exact Nat.zero_le _
theorem txT_ne {x : T4} (h : OkT x) : txT x ≠ ⟨#[]⟩ := by
  unfold txT txt
  obtain ⟨a, b, c, d⟩ := x
  show (if Ok4 a b c d then txs a b c d else (⟨#[]⟩ : ByteArray)) ≠ _
  rw [if_pos (show Ok4 a b c d from h)]
  obtain ⟨a', b', c', d', rfl, rfl, rfl, rfl⟩ := ok_nat h
  rw [txs_toB]
  intro e
  have := congrArg (fun s : ByteArray => s.data.toList) e
  exact txl_ne a' b' c' d' this
theorem txT_no {x : T4} (h : ¬ OkT x) : txT x = ⟨#[]⟩ := by unfold txT txt; exact if_neg h
theorem size_len (s : ByteArray) : s.data.toList.length = s.size := by simp
theorem accT_len (xs : List T4) (k : Nat) : (accT xs k).length ≤ k * 28 := by
  induction k with
  | zero => simp [accT]
  | succ k ih =>
    have := txT_size (xs.getD k (0, 0, 0, 0))
    have e := size_len (txT (xs.getD k (0, 0, 0, 0)))
    rw [accT]
    split <;> simp only [List.length_append, List.length_cons, List.length_nil, e] <;> omega
theorem txsT_no {xs : List T4} {k : Nat} (hk : k < xs.length) (h : ¬ OkT (xs.getD k (0, 0, 0, 0))) : txsT xs = ⟨#[]⟩ := by
  unfold txsT
  rw [if_neg]
  intro ha
  exact h (ha _ (by rw [List.getD_eq_getElem?_getD, List.getElem?_eq_getElem hk]; exact List.getElem_mem hk))
theorem txsT_yes {xs : List T4} (h : ∀ k, k < xs.length → OkT (xs.getD k (0, 0, 0, 0))) : txsT xs = toB (accT xs xs.length) := by
  unfold txsT
  rw [if_pos]
  intro x hx
  obtain ⟨k, hk, rfl⟩ := List.mem_iff_getElem.1 hx
  have := h k hk
  rwa [List.getD_eq_getElem?_getD, List.getElem?_eq_getElem hk] at this
theorem toB_append (x y : List UInt8) : toB x ++ toB y = toB (x ++ y) := by
  apply ByteArray.ext; apply Array.toList_inj.1; simp [toB]
theorem ne2 {s : ByteArray} (hz : s ≠ ⟨#[]⟩) : (s.toList == []) = false := by
  rw [beq_eq_false_iff_ne]; intro e; apply hz; apply ByteArray.ext; apply Array.toList_inj.1; rw [ByteArray.toList_eq] at e; exact e

set_option maxHeartbeats 4000000 in
set_option maxRecDepth 100000 in
theorem specTxsText (v : Value) (xs : List T4) (w : World) (hx : xs.length ≤ 1048577) (h : RT w v xs) :
    Calls Tryd.prog 22 #[v] w fun e w' => e = .returned (.string (txsT xs)) ∧ Below w.heap.size w w' := by
  obtain ⟨hl, ao, ca, rfl, ha⟩ := h
  go_enter Tryd.func22, Tryd.ntmps22
  go_wp2
  go_loopw [3, 4] (fun o i wr => ∃ k : Nat, k ≤ xs.length ∧ i = .int .i64 k ∧ o = .string (toB (accT xs k)) ∧ Hid (∀ j, j < k → OkT (xs.getD j (0, 0, 0, 0))) ∧ Below w.heap.size w wr) (fun _ i _ => xs.length - (intOf i).toNat)
  case atStart => exact ⟨0, Nat.zero_le _, rfl, rfl, hide (fun j hj => by omega), Below.refl _ _⟩
  case round =>
    obtain ⟨k, hk, rfl, rfl, HK, br⟩ := hrel
    have hsr := br.size
    by_cases hlt : k < xs.length
    · rcases ha with ha | ⟨g, rfl, ha⟩
      · subst ha; simp at hlt
      obtain ⟨a0, a1, a2, a3⟩ := ha k hlt
      have hg : g < w.heap.size := cell_lt a0
      have c0 := (br.cell (p := ⟨g, k * 4, none⟩) hg).trans a0
      have c1 := (br.cell (p := ⟨g, k * 4 + 1, none⟩) hg).trans a1
      have c2 := (br.cell (p := ⟨g, k * 4 + 2, none⟩) hg).trans a2
      have c3 := (br.cell (p := ⟨g, k * 4 + 3, none⟩) hg).trans a3
      have hal := accT_len xs k
      have hts := txT_size (xs.getD k (0, 0, 0, 0))
      have HS : Hid (accT xs (k + 1) = (if 0 < k then accT xs k ++ [44] else accT xs k) ++ (txT (xs.getD k (0, 0, 0, 0))).data.toList) := rfl
      have HNO := hide (fun h => txsT_no hlt h)
      clear ha
      generalize hxk : xs.getD k (0, 0, 0, 0) = x at *
      obtain ⟨xa, xb, xc, xd⟩ := x
      simp only at c0 c1 c2 c3 a0 a1 a2 a3
      by_cases hok : OkT (xa, xb, xc, xd)
      · have CK := hide fun w => specTxOk_yes xa xb xc xd w hok
        have CT := hide fun w => specTxText xa xb xc xd w
        have HK' : Hid (∀ j, j < k + 1 → OkT (xs.getD j (0, 0, 0, 0))) := fun j hj => by
          by_cases e : j = k
          · subst e; rw [hxk]; exact hok
          · exact HK.out j (by omega)
        have htx : txT (xa, xb, xc, xd) = txt xa xb xc xd := rfl
        rw [htx] at HS hts
        clear htx HK HNO hok hxk
        generalize txt xa xb xc xd = t at *
        go_wp2_with fail
        refine (unhide CK _).mono ?_
        rintro e w1 ⟨rfl, b1⟩
        have b1' := br.trans (b1.mono hsr)
        have s1 := b1.size
        have d0 := (b1'.cell (p := ⟨g, k * 4, none⟩) hg).trans a0
        have d1 := (b1'.cell (p := ⟨g, k * 4 + 1, none⟩) hg).trans a1
        have d2 := (b1'.cell (p := ⟨g, k * 4 + 2, none⟩) hg).trans a2
        have d3 := (b1'.cell (p := ⟨g, k * 4 + 3, none⟩) hg).trans a3
        clear a0 a1 a2 a3 c0 c1 c2 c3
        by_cases hk0 : 0 < k
        · obtain ⟨u, hu⟩ : ∃ u, u = toB (accT xs k ++ [44]) := ⟨_, rfl⟩
          have us : u.size ≤ k * 28 + 1 := by rw [hu, toB_size]; simp; omega
          have q1 : ∀ w, (Op.stringOp .add (toB (accT xs k)) (⟨#[44]⟩ : ByteArray)).run Tryd.prog w = .ok (.string u) w := fun w => by
            rw [run_string_add_sum w _ _ (by rw [toB_size]; show _ + 1 ≤ _; omega), hu, ← toB_append]; rfl
          have q2 : ∀ w, (Op.stringOp .add u t).run Tryd.prog w = .ok (.string (toB (accT xs (k + 1)))) w := fun w => by
            rw [run_string_add_sum w _ _ (by omega), unhide HS, if_pos hk0, hu]
            rw [← toB_data t, toB_append, toB_data t]
          clear hu us HS
          generalize toB (accT xs k) = ok at *
          generalize hnx : toB (accT xs (k + 1)) = ok' at *
          go_wp2_with fail
          refine (unhide CT _).mono ?_
          rintro e w2 ⟨rfl, b2⟩
          have b2' := b1'.trans (b2.mono (by omega))
          go_wp2
          go_roundw
          case rel => exact ⟨k + 1, by omega, by go_num, by rw [hnx], HK', b2'⟩
          case measure => simp [intOf]; omega
        · have q2 : ∀ w, (Op.stringOp .add (toB (accT xs k)) t).run Tryd.prog w = .ok (.string (toB (accT xs (k + 1)))) w := fun w => by
            rw [run_string_add_sum w _ _ (by rw [toB_size]; omega), unhide HS, if_neg hk0]
            rw [← toB_data t, toB_append, toB_data t]
          clear HS
          generalize toB (accT xs k) = ok at *
          generalize hnx : toB (accT xs (k + 1)) = ok' at *
          go_wp2_with fail
          refine (unhide CT _).mono ?_
          rintro e w2 ⟨rfl, b2⟩
          have b2' := b1'.trans (b2.mono (by omega))
          go_wp2
          go_roundw
          case rel => exact ⟨k + 1, by omega, by go_num, by rw [hnx], HK', b2'⟩
          case measure => simp [intOf]; omega
      · have CK := hide fun w => specTxOk_no xa xb xc xd w hok
        have HN := hide ((unhide HNO) hok)
        clear HNO HK HS hok
        generalize toB (accT xs k) = ok at *
        go_wp2_with fail
        refine (unhide CK _).mono ?_
        rintro e w1 ⟨rfl, b1⟩
        go_wp2
        go_ret
        exact ⟨by rw [unhide HN]; rfl, br.trans (b1.mono hsr)⟩
    · have hkn : k = xs.length := by omega
      have HY : Hid (txsT xs = toB (accT xs k)) := by rw [hkn]; rw [hkn] at HK; exact txsT_yes HK.out
      clear HK ha
      generalize toB (accT xs k) = ok at *
      go_wp2
      go_ret
      exact ⟨by rw [HY.out]; rfl, br⟩
end Go.Proofs.YtnbiphlificliaaDoor
