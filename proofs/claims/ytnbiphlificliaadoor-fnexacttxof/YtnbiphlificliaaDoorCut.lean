/- impl.cutAtMarks: what it answers. -/
import Derived.Test.YtnbiphlificliaaDoorCutWorld
namespace Go.Proofs.YtnbiphlificliaaDoor
open Go.RowKit
set_option linter.unusedSectionVars false

set_option maxHeartbeats 4000000 in
set_option maxRecDepth 100000 in
theorem cut_any (s : ByteArray) (w : World) (hs : s.size ≤ 1048576) :
    Calls Tryd.prog 57 #[.string s] w fun e w' => e = .returned (.agg #[.string (toB (f0 s.data.toList)), .string (toB (f1 s.data.toList)), .string (toB (f2 s.data.toList)), .string (toB (f3 s.data.toList))]) ∧ Below w.heap.size w w' := by
  go_enter Tryd.func57, Tryd.ntmps57
  go_wp2
  go_loopw [5, 6] (fun a f wr => CRel s w a f wr) (fun _ _ wr => s.size - wr.iterPos (w.heap.size + 1 + 1 + 1))
  case atStart => exact ⟨0, 0, 0, by omega, by omega, by omega, rfl, rfl, cat_start s, rfl⟩
  case round =>
    obtain ⟨pos, k, n, hk, hnp, hns, rfl, rfl, hc, rfl⟩ := hrel
    by_cases hp : pos < s.size
    · have hps : pos ≤ s.size := by omega
      have hwd : 1 ≤ (Utf8.decode s pos).2 := by
        by_cases ha : s[pos].toNat < 128
        · rw [decode_ascii s pos hp ha]; exact Nat.le_refl _
        · exact (decode_high s pos hp (by omega)).2
      have hm0 := fun g0 g1 g2 g3 p => (cw_marks w s g0 g1 g2 g3 p).1
      have hm1 := fun g0 g1 g2 g3 p => (cw_marks w s g0 g1 g2 g3 p).2.1
      have hm2 := fun g0 g1 g2 g3 p => (cw_marks w s g0 g1 g2 g3 p).2.2
      have hc0 := fun g0 g1 g2 g3 p => (cw_cells w s g0 g1 g2 g3 p).1
      have hc1 := fun g0 g1 g2 g3 p => (cw_cells w s g0 g1 g2 g3 p).2.1
      have hc2 := fun g0 g1 g2 g3 p => (cw_cells w s g0 g1 g2 g3 p).2.2.1
      have hz := cw_free w s
      have hs0 := cw_set0 w s
      have hs1 := cw_set1 w s
      have hs2 := cw_set2 w s
      have hmp := cw_pos w s
      have hcase : k = 0 ∨ k = 1 ∨ k = 2 ∨ k = 3 := by omega
      rcases hcase with rfl | rfl | rfl | rfl
      · by_cases hb : s[pos] = mrk 0
        · have hnx := fun g0 g1 g2 g3 ty => cw_next w s g0 g1 g2 g3 pos hp ty
          have hde : Utf8.decode s pos = (62, 1) := by rw [decode_ascii s pos hp (by rw [hb]; decide), hb]; rfl
          rw [hde] at hnx
          have HH := hide (cat_hit hc hp (by omega) hb)
          have hint : ((62 : Nat) : Int) = 62 := rfl
          simp only [hint] at hnx
          simp only [gs]
          clear hc hb hde hwd
          go_wp2
          go_roundw
          case rel =>
            refine ⟨pos + 1, 1, pos + 1, by omega, by omega, by omega, by go_num, by go_num, (unhide HH).2, ?_⟩
            rw [(unhide HH).1]; rfl
          case measure => rw [hmp, hmp]; omega
        · have hnx := fun g0 g1 g2 g3 ty => cw_next w s g0 g1 g2 g3 pos hp ty
          have HM := hide (cat_miss hc hp (fun _ => hb))
          have hne : (((Utf8.decode s pos).1 : Int) == 62) = false := by
            by_cases ha : s[pos].toNat < 128
            · rw [decode_ascii s pos hp ha]
              have : s[pos].toNat ≠ 62 := fun e => hb (UInt8.toNat_inj.1 e)
              simp; omega
            · have := (decode_high s pos hp (by omega)).1
              simp; omega
          have hle : (Utf8.decode s pos).1 ≤ 2147483647 := decode_le s pos
          simp only [gs]
          generalize (Utf8.decode s pos).1 = r at *
          generalize (Utf8.decode s pos).2 = v at *
          clear hc hb
          go_wp2
          go_roundw
          case rel => exact ⟨pos + v, 0, n, by omega, by omega, by omega, by go_num, rfl, unhide HM, rfl⟩
          case measure => rw [hmp, hmp]; omega
      · by_cases hb : s[pos] = mrk 1
        · have hnx := fun g0 g1 g2 g3 ty => cw_next w s g0 g1 g2 g3 pos hp ty
          have hde : Utf8.decode s pos = (58, 1) := by rw [decode_ascii s pos hp (by rw [hb]; decide), hb]; rfl
          rw [hde] at hnx
          have HH := hide (cat_hit hc hp (by omega) hb)
          have hint : ((58 : Nat) : Int) = 58 := rfl
          simp only [hint] at hnx
          simp only [gs]
          clear hc hb hde hwd
          go_wp2
          go_roundw
          case rel =>
            refine ⟨pos + 1, 2, pos + 1, by omega, by omega, by omega, by go_num, by go_num, (unhide HH).2, ?_⟩
            rw [(unhide HH).1]; rfl
          case measure => rw [hmp, hmp]; omega
        · have hnx := fun g0 g1 g2 g3 ty => cw_next w s g0 g1 g2 g3 pos hp ty
          have HM := hide (cat_miss hc hp (fun _ => hb))
          have hne : (((Utf8.decode s pos).1 : Int) == 58) = false := by
            by_cases ha : s[pos].toNat < 128
            · rw [decode_ascii s pos hp ha]
              have : s[pos].toNat ≠ 58 := fun e => hb (UInt8.toNat_inj.1 e)
              simp; omega
            · have := (decode_high s pos hp (by omega)).1
              simp; omega
          have hle : (Utf8.decode s pos).1 ≤ 2147483647 := decode_le s pos
          simp only [gs]
          generalize (Utf8.decode s pos).1 = r at *
          generalize (Utf8.decode s pos).2 = v at *
          clear hc hb
          go_wp2
          go_roundw
          case rel => exact ⟨pos + v, 1, n, by omega, by omega, by omega, by go_num, rfl, unhide HM, rfl⟩
          case measure => rw [hmp, hmp]; omega
      · by_cases hb : s[pos] = mrk 2
        · have hnx := fun g0 g1 g2 g3 ty => cw_next w s g0 g1 g2 g3 pos hp ty
          have hde : Utf8.decode s pos = (35, 1) := by rw [decode_ascii s pos hp (by rw [hb]; decide), hb]; rfl
          rw [hde] at hnx
          have HH := hide (cat_hit hc hp (by omega) hb)
          have hint : ((35 : Nat) : Int) = 35 := rfl
          simp only [hint] at hnx
          simp only [gs]
          clear hc hb hde hwd
          go_wp2
          go_roundw
          case rel =>
            refine ⟨pos + 1, 3, pos + 1, by omega, by omega, by omega, by go_num, by go_num, (unhide HH).2, ?_⟩
            rw [(unhide HH).1]; rfl
          case measure => rw [hmp, hmp]; omega
        · have hnx := fun g0 g1 g2 g3 ty => cw_next w s g0 g1 g2 g3 pos hp ty
          have HM := hide (cat_miss hc hp (fun _ => hb))
          have hne : (((Utf8.decode s pos).1 : Int) == 35) = false := by
            by_cases ha : s[pos].toNat < 128
            · rw [decode_ascii s pos hp ha]
              have : s[pos].toNat ≠ 35 := fun e => hb (UInt8.toNat_inj.1 e)
              simp; omega
            · have := (decode_high s pos hp (by omega)).1
              simp; omega
          have hle : (Utf8.decode s pos).1 ≤ 2147483647 := decode_le s pos
          simp only [gs]
          generalize (Utf8.decode s pos).1 = r at *
          generalize (Utf8.decode s pos).2 = v at *
          clear hc hb
          go_wp2
          go_roundw
          case rel => exact ⟨pos + v, 2, n, by omega, by omega, by omega, by go_num, rfl, unhide HM, rfl⟩
          case measure => rw [hmp, hmp]; omega
      · have hnx := fun g0 g1 g2 g3 ty => cw_next w s g0 g1 g2 g3 pos hp ty
        have HM := hide (cat_miss hc hp (fun h => by omega))
        simp only [gs]
        generalize (Utf8.decode s pos).1 = r at *
        generalize (Utf8.decode s pos).2 = v at *
        clear hc
        go_wp2
        go_roundw
        case rel => exact ⟨pos + v, 3, n, by omega, by omega, by omega, by go_num, rfl, unhide HM, rfl⟩
        case measure => rw [hmp, hmp]; omega
    · have HE := hide (cat_end hc hp)
      have hnx := fun g0 g1 g2 g3 ty => cw_end w s g0 g1 g2 g3 pos hp ty
      have hcase : k = 0 ∨ k = 1 ∨ k = 2 ∨ k = 3 := by omega
      rcases hcase with rfl | rfl | rfl | rfl
      · simp only [gs]
        unfold cw World.iter
        unfold cw World.iter at hnx
        clear hc
        go_wp2
        refine bodyPost_ret (v := .agg #[.string (s.extract n s.size), .string ⟨#[]⟩, .string ⟨#[]⟩, .string ⟨#[]⟩]) (by simp [results, Tryd.results57, go_sem]) rfl ?_
        refine ⟨?_, ((((Below.refl _ _).alloc (Nat.le_refl _) _).alloc (by simp) _).alloc (by simp; omega) _).alloc (by simp; omega) _⟩
        obtain ⟨x0, x1⟩ := unhide HE
        rw [x0]
        obtain ⟨x2, x3⟩ := x1 (by omega)
        simp only [rst, mrk] at x2 x3
        simp only [rst, f0, f1, f2, f3, x2, x3, tl_nil, hd_nil]
        rfl
      · simp only [gs]
        unfold cw World.iter
        unfold cw World.iter at hnx
        clear hc
        go_wp2
        refine bodyPost_ret (v := .agg #[.string (toB (f0 s.data.toList)), .string (s.extract n s.size), .string ⟨#[]⟩, .string ⟨#[]⟩]) (by simp [results, Tryd.results57, go_sem]) rfl ?_
        refine ⟨?_, ((((Below.refl _ _).alloc (Nat.le_refl _) _).alloc (by simp) _).alloc (by simp; omega) _).alloc (by simp; omega) _⟩
        obtain ⟨x0, x1⟩ := unhide HE
        rw [x0]
        obtain ⟨x2, x3⟩ := x1 (by omega)
        simp only [rst, mrk] at x2 x3
        simp only [rst, f0, f1, f2, f3, x2, x3, tl_nil, hd_nil]
        rfl
      · simp only [gs]
        unfold cw World.iter
        unfold cw World.iter at hnx
        clear hc
        go_wp2
        refine bodyPost_ret (v := .agg #[.string (toB (f0 s.data.toList)), .string (toB (f1 s.data.toList)), .string (s.extract n s.size), .string ⟨#[]⟩]) (by simp [results, Tryd.results57, go_sem]) rfl ?_
        refine ⟨?_, ((((Below.refl _ _).alloc (Nat.le_refl _) _).alloc (by simp) _).alloc (by simp; omega) _).alloc (by simp; omega) _⟩
        obtain ⟨x0, x1⟩ := unhide HE
        rw [x0]
        obtain ⟨x2, x3⟩ := x1 (by omega)
        simp only [rst, mrk] at x2 x3
        simp only [rst, f0, f1, f2, f3, x2, x3]
        rfl
      · simp only [gs]
        unfold cw World.iter
        unfold cw World.iter at hnx
        clear hc
        go_wp2
        refine bodyPost_ret (v := .agg #[.string (toB (f0 s.data.toList)), .string (toB (f1 s.data.toList)), .string (toB (f2 s.data.toList)), .string (s.extract n s.size)]) (by simp [results, Tryd.results57, go_sem]) rfl ?_
        refine ⟨?_, ((((Below.refl _ _).alloc (Nat.le_refl _) _).alloc (by simp) _).alloc (by simp; omega) _).alloc (by simp; omega) _⟩
        obtain ⟨x0, x1⟩ := unhide HE
        rw [x0]
        clear x1
        rfl
end Go.Proofs.YtnbiphlificliaaDoor
