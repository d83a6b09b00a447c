/- impl.TxsText: what it answers. -/
import Derived.Test.YtnbiphlificliaaDoorTxsText
import Derived.Test.YtnbiphlificliaaDoorBuilder
namespace Go.Proofs.YtnbiphlificliaaDoor
open Go.RowKit
set_option linter.unusedSectionVars false
variable [∀ (a b c d : Int), Decidable (Ok4 a b c d)]
variable [∀ (a b c d : Nat), Decidable (okN a b c d)]
variable [∀ (x : T4), Decidable (OkT x)]

theorem strCells_bytes (s : ByteArray) : Lib.strCells s = Lib.byteCells s.data.toList := by simp [Lib.strCells, Lib.byteCells]
theorem byteCells_app (x y : List UInt8) : Lib.byteCells x ++ Lib.byteCells y = Lib.byteCells (x ++ y) := by simp [Lib.byteCells]
theorem byteCells_len (x : List UInt8) : (Lib.byteCells x).length = x.length := by simp [Lib.byteCells]

set_option maxHeartbeats 4000000 in
set_option maxRecDepth 100000 in
theorem implTxsText (v : Value) (xs : List T4) (w : World) (hx : xs.length ≤ 1048577) (h : RT w v xs) (ht : Pow w) :
    Calls Tryd.prog 16 #[v] w fun e w' => e = .returned (.string (txsT xs)) ∧ Below w.heap.size w w' := by
  obtain ⟨hl, ao, ca, rfl, ha⟩ := h
  have HT := hide ht
  clear ht
  go_enter Tryd.func16, Tryd.ntmps16
  go_wp2
  go_loopw [9] (fun i wr => ∃ k : Nat, k ≤ xs.length ∧ i = .int .i64 k ∧ Hid (Lib.IsBuilder 76 5 w.heap.size w.heap.size (Lib.byteCells (accT xs k)) wr) ∧ Hid (∀ j, j < k → OkT (xs.getD j (0, 0, 0, 0))) ∧ Below w.heap.size w wr ∧ w.heap.size + 1 ≤ wr.heap.size) (fun i _ => xs.length - (intOf i).toNat)
  case atStart => exact ⟨0, Nat.zero_le _, rfl, hide (isb_new w), hide (fun j hj => by omega), (Below.refl _ _).alloc (Nat.le_refl _) _, by simp⟩
  case round =>
    obtain ⟨k, hk, rfl, HB, HK, br, hsz⟩ := hrel
    by_cases hlt : k < xs.length
    · rcases ha with ha | ⟨g, rfl, ha⟩
      · subst ha; simp at hlt
      obtain ⟨a0, a1, a2, a3⟩ := ha k hlt
      have hg : g < w.heap.size := cell_lt a0
      have c0 := (br.cell (p := ⟨g, k * 4, none⟩) hg).trans a0
      have c1 := (br.cell (p := ⟨g, k * 4 + 1, none⟩) hg).trans a1
      have c2 := (br.cell (p := ⟨g, k * 4 + 2, none⟩) hg).trans a2
      have c3 := (br.cell (p := ⟨g, k * 4 + 3, none⟩) hg).trans a3
      have hal := accT_len xs k
      have hts := txT_size (xs.getD k (0, 0, 0, 0))
      have HS : Hid (accT xs (k + 1) = (if 0 < k then accT xs k ++ [44] else accT xs k) ++ (txT (xs.getD k (0, 0, 0, 0))).data.toList) := rfl
      have HNO := hide (fun h => txsT_no hlt h)
      clear ha a0 a1 a2 a3
      generalize hxk : xs.getD k (0, 0, 0, 0) = x at *
      obtain ⟨xa, xb, xc, xd⟩ := x
      simp only at c0 c1 c2 c3
      have CT := hide fun w ht => implTxText xa xb xc xd w ht
      have htx : txT (xa, xb, xc, xd) = txt xa xb xc xd := rfl
      have ba : Below w.heap.size w (wr.alloc (.cells #[.int .i64 xa, .int .i64 xb, .int .i64 xc, .int .i64 xd] 25)) := br.alloc (by omega) _
      have bA : Below wr.heap.size wr (wr.alloc (.cells #[.int .i64 xa, .int .i64 xb, .int .i64 xc, .int .i64 xd] 25)) := (Below.refl _ _).alloc (Nat.le_refl _) _
      by_cases hok : OkT (xa, xb, xc, xd)
      · have hne := txT_ne hok
        rw [htx] at hne HS hts
        have HK' : Hid (∀ j, j < k + 1 → OkT (xs.getD j (0, 0, 0, 0))) := fun j hj => by
          by_cases e : j = k
          · subst e; rw [hxk]; exact hok
          · exact HK.out j (by omega)
        clear htx HK HNO hok hxk
        generalize txt xa xb xc xd = t at *
        have hn1 := str_ne hne
        have hn2 := ne2 hne
        have hts0 : 0 < t.size := by
          rcases Nat.eq_zero_or_pos t.size with h0 | h0
          · exact absurd (ByteArray.ext (Array.eq_empty_of_size_eq_zero h0)) hne
          · exact h0
        go_wp2_with fail
        refine (unhide CT _ ((unhide HT).below ba)).mono ?_
        rintro e w1 ⟨rfl, b1⟩
        have b1' := ba.trans (b1.mono ba.size)
        have s1 := b1.size
        have bw : Below wr.heap.size wr w1 := bA.trans (b1.mono bA.size)
        have B1 := hide (isb_below HB.out bw)
        have hs1 : w.heap.size + 1 ≤ w1.heap.size := by have := bw.size; omega
        by_cases hk0 : 0 < k
        · go_wp2_with fail
          refine (writeByte _ _ _ 44 _ (unhide B1) (by rw [byteCells_len]; omega) (by omega)).mono ?_
          rintro e w2 ⟨rfl, B2, b2⟩
          have s2 := b2.size
          have b2' := b1'.trans b2
          have B2' := hide B2
          clear B2
          go_wp2_with fail
          refine (writeString _ _ _ t _ (.inr (unhide B2')) (by simp only [List.length_append, byteCells_len, List.length_cons, List.length_nil]; omega) (by omega) hts0 (by omega)).mono ?_
          rintro e w3 ⟨rfl, B3, b3⟩
          have s3 := b3.size
          have b3' := b2'.trans b3
          have B3' : Hid (Lib.IsBuilder 76 5 w.heap.size w.heap.size (Lib.byteCells (accT xs (k + 1))) w3) := by
            show Lib.IsBuilder _ _ _ _ _ _
            rw [unhide HS, if_pos hk0, ← byteCells_app, ← byteCells_app, ← strCells_bytes]
            exact .inr B3
          clear B3 HS
          go_wp2
          go_roundw
          case rel => exact ⟨k + 1, by omega, by go_num, B3', HK', b3', by omega⟩
          case measure => simp [intOf]; omega
        · go_wp2_with fail
          refine (writeString _ _ _ t _ (unhide B1) (by rw [byteCells_len]; omega) (by omega) hts0 (by omega)).mono ?_
          rintro e w3 ⟨rfl, B3, b3⟩
          have s3 := b3.size
          have b3' := b1'.trans b3
          have B3' : Hid (Lib.IsBuilder 76 5 w.heap.size w.heap.size (Lib.byteCells (accT xs (k + 1))) w3) := by
            show Lib.IsBuilder _ _ _ _ _ _
            rw [unhide HS, if_neg hk0, ← byteCells_app, ← strCells_bytes]
            exact .inr B3
          clear B3 HS
          go_wp2
          go_roundw
          case rel => exact ⟨k + 1, by omega, by go_num, B3', HK', b3', by omega⟩
          case measure => simp [intOf]; omega
      · have HN := hide ((unhide HNO) hok)
        have hte := txT_no hok
        rw [htx] at hte
        rw [hte] at CT
        clear HNO HK HS hok hte htx
        go_wp2_with fail
        refine (unhide CT _ ((unhide HT).below ba)).mono ?_
        rintro e w1 ⟨rfl, b1⟩
        go_wp2
        go_ret
        exact ⟨by rw [unhide HN]; rfl, ba.trans (b1.mono ba.size)⟩
    · have hkn : k = xs.length := by omega
      have HY : Hid (txsT xs = toB (accT xs k)) := by rw [hkn]; rw [hkn] at HK; exact txsT_yes HK.out
      clear HK ha
      go_wp2_with fail
      refine (Tryd.Builder_String_any _ _ _ _ HB.out (by omega)).mono ?_
      rintro e w1 ⟨rfl, b1⟩
      have b1' := br.trans b1
      have HY' : Hid (txsT xs = (⟨(accT xs k).toArray⟩ : ByteArray)) := HY
      generalize (⟨(accT xs k).toArray⟩ : ByteArray) = ok at *
      go_wp2
      go_ret
      exact ⟨by rw [HY'.out]; rfl, b1'⟩
end Go.Proofs.YtnbiphlificliaaDoor
