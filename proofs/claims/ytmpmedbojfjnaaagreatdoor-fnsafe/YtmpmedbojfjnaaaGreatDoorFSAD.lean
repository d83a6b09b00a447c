/- Texts that belong together: Cut, In, TxOk, ToTx, OneStr, DigPlain, SpecDigits. -/
import Derived.Test.YtmpmedbojfjnaaaGreatDoorFSAC
import Derived.Test.YtmpmedbojfjnaaaGreatDoorFSAA
import Derived.Laws.BytesArg
import Derived.WalkKit
import Derived.Lib.ItoaNum
namespace Go.Proofs.YtmpmedbojfjnaaaGreatDoor
open Go.RowKit

set_option maxHeartbeats 4000000 in
set_option maxRecDepth 100000 in
theorem cut_any (s : ByteArray) (w : World) (hs : s.size ≤ 33554432) :
 Calls Tryz.prog 194 #[.string s] w fun e w' => e = .returned (.agg #[.string (toB (f0 s.data.toList)), .string (toB (f1 s.data.toList)), .string (toB (f2 s.data.toList)), .string (toB (f3 s.data.toList))]) ∧ Below w.heap.size w w' := by
 go_enter Tryz.func194, Tryz.ntmps194
 go_wp2
 go_loopw [5, 6] (fun a f wr => CRel s w a f wr) (fun _ _ wr => s.size - wr.iterPos (w.heap.size + 1 + 1 + 1))
 case atStart => exact ⟨0, 0, 0, by omega, by omega, by omega, rfl, rfl, cat_start s, rfl⟩
 case round =>
  obtain ⟨pos, k, n, hk, hnp, hns, rfl, rfl, hc, rfl⟩ := hrel
  by_cases hp : pos < s.size
  ·have hps : pos ≤ s.size := by omega
   have hwd : 1 ≤ (Utf8.decode s pos).2 := by
    by_cases ha : s[pos].toNat < 128
    ·rw [decode_ascii s pos hp ha]; exact Nat.le_refl _
    ·exact (decode_high s pos hp (by omega)).2
   have hm0 := fun g0 g1 g2 g3 p => (cw_marks w s g0 g1 g2 g3 p).1
   have hm1 := fun g0 g1 g2 g3 p => (cw_marks w s g0 g1 g2 g3 p).2.1
   have hm2 := fun g0 g1 g2 g3 p => (cw_marks w s g0 g1 g2 g3 p).2.2
   have hc0 := fun g0 g1 g2 g3 p => (cw_cells w s g0 g1 g2 g3 p).1
   have hc1 := fun g0 g1 g2 g3 p => (cw_cells w s g0 g1 g2 g3 p).2.1
   have hc2 := fun g0 g1 g2 g3 p => (cw_cells w s g0 g1 g2 g3 p).2.2.1
   have hz := cw_free w s
   have hs0 := cw_set0 w s
   have hs1 := cw_set1 w s
   have hs2 := cw_set2 w s
   have hmp := cw_pos w s
   have hcase : k = 0 ∨ k = 1 ∨ k = 2 ∨ k = 3 := by omega
   rcases hcase with rfl | rfl | rfl | rfl
   ·by_cases hb : s[pos] = mrk 0
    ·have hnx := fun g0 g1 g2 g3 ty => cw_next w s g0 g1 g2 g3 pos hp ty
     have hde : Utf8.decode s pos = (62, 1) := by rw [decode_ascii s pos hp (by rw [hb]; decide), hb]; rfl
     rw [hde] at hnx
     have HH := hide (cat_hit hc hp (by omega) hb)
     have hint : ((62 : Nat) : Int) = 62 := rfl
     simp only [hint] at hnx
     simp only [gs]
     clear hc hb hde hwd
     go_wp2
     go_roundw
     case rel =>
      refine ⟨pos + 1, 1, pos + 1, by omega, by omega, by omega, by go_num, by go_num, (unhide HH).2, ?_⟩
      rw [(unhide HH).1]; rfl
     case measure => rw [hmp, hmp]; omega
    ·have hnx := fun g0 g1 g2 g3 ty => cw_next w s g0 g1 g2 g3 pos hp ty
     have HM := hide (cat_miss hc hp (fun _ => hb))
     have hne : (((Utf8.decode s pos).1 : Int) == 62) = false := by
      by_cases ha : s[pos].toNat < 128
      ·rw [decode_ascii s pos hp ha]
       have : s[pos].toNat ≠ 62 := fun e => hb (UInt8.toNat_inj.1 e)
       simp; omega
      ·have := (decode_high s pos hp (by omega)).1
       simp; omega
     have hle : (Utf8.decode s pos).1 ≤ 2147483647 := decode_le s pos
     simp only [gs]
     generalize (Utf8.decode s pos).1 = r at *
     generalize (Utf8.decode s pos).2 = v at *
     clear hc hb
     go_wp2
     go_roundw
     case rel => exact ⟨pos + v, 0, n, by omega, by omega, by omega, by go_num, rfl, unhide HM, rfl⟩
     case measure => rw [hmp, hmp]; omega
   ·by_cases hb : s[pos] = mrk 1
    ·have hnx := fun g0 g1 g2 g3 ty => cw_next w s g0 g1 g2 g3 pos hp ty
     have hde : Utf8.decode s pos = (58, 1) := by rw [decode_ascii s pos hp (by rw [hb]; decide), hb]; rfl
     rw [hde] at hnx
     have HH := hide (cat_hit hc hp (by omega) hb)
     have hint : ((58 : Nat) : Int) = 58 := rfl
     simp only [hint] at hnx
     simp only [gs]
     clear hc hb hde hwd
     go_wp2
     go_roundw
     case rel =>
      refine ⟨pos + 1, 2, pos + 1, by omega, by omega, by omega, by go_num, by go_num, (unhide HH).2, ?_⟩
      rw [(unhide HH).1]; rfl
     case measure => rw [hmp, hmp]; omega
    ·have hnx := fun g0 g1 g2 g3 ty => cw_next w s g0 g1 g2 g3 pos hp ty
     have HM := hide (cat_miss hc hp (fun _ => hb))
     have hne : (((Utf8.decode s pos).1 : Int) == 58) = false := by
      by_cases ha : s[pos].toNat < 128
      ·rw [decode_ascii s pos hp ha]
       have : s[pos].toNat ≠ 58 := fun e => hb (UInt8.toNat_inj.1 e)
       simp; omega
      ·have := (decode_high s pos hp (by omega)).1
       simp; omega
     have hle : (Utf8.decode s pos).1 ≤ 2147483647 := decode_le s pos
     simp only [gs]
     generalize (Utf8.decode s pos).1 = r at *
     generalize (Utf8.decode s pos).2 = v at *
     clear hc hb
     go_wp2
     go_roundw
     case rel => exact ⟨pos + v, 1, n, by omega, by omega, by omega, by go_num, rfl, unhide HM, rfl⟩
     case measure => rw [hmp, hmp]; omega
   ·by_cases hb : s[pos] = mrk 2
    ·have hnx := fun g0 g1 g2 g3 ty => cw_next w s g0 g1 g2 g3 pos hp ty
     have hde : Utf8.decode s pos = (35, 1) := by rw [decode_ascii s pos hp (by rw [hb]; decide), hb]; rfl
     rw [hde] at hnx
     have HH := hide (cat_hit hc hp (by omega) hb)
     have hint : ((35 : Nat) : Int) = 35 := rfl
     simp only [hint] at hnx
     simp only [gs]
     clear hc hb hde hwd
     go_wp2
     go_roundw
     case rel =>
      refine ⟨pos + 1, 3, pos + 1, by omega, by omega, by omega, by go_num, by go_num, (unhide HH).2, ?_⟩
      rw [(unhide HH).1]; rfl
     case measure => rw [hmp, hmp]; omega
    ·have hnx := fun g0 g1 g2 g3 ty => cw_next w s g0 g1 g2 g3 pos hp ty
     have HM := hide (cat_miss hc hp (fun _ => hb))
     have hne : (((Utf8.decode s pos).1 : Int) == 35) = false := by
      by_cases ha : s[pos].toNat < 128
      ·rw [decode_ascii s pos hp ha]
       have : s[pos].toNat ≠ 35 := fun e => hb (UInt8.toNat_inj.1 e)
       simp; omega
      ·have := (decode_high s pos hp (by omega)).1
       simp; omega
     have hle : (Utf8.decode s pos).1 ≤ 2147483647 := decode_le s pos
     simp only [gs]
     generalize (Utf8.decode s pos).1 = r at *
     generalize (Utf8.decode s pos).2 = v at *
     clear hc hb
     go_wp2
     go_roundw
     case rel => exact ⟨pos + v, 2, n, by omega, by omega, by omega, by go_num, rfl, unhide HM, rfl⟩
     case measure => rw [hmp, hmp]; omega
   ·have hnx := fun g0 g1 g2 g3 ty => cw_next w s g0 g1 g2 g3 pos hp ty
    have HM := hide (cat_miss hc hp (fun h => by omega))
    simp only [gs]
    generalize (Utf8.decode s pos).1 = r at *
    generalize (Utf8.decode s pos).2 = v at *
    clear hc
    go_wp2
    go_roundw
    case rel => exact ⟨pos + v, 3, n, by omega, by omega, by omega, by go_num, rfl, unhide HM, rfl⟩
    case measure => rw [hmp, hmp]; omega
  ·have HE := hide (cat_end hc hp)
   have hnx := fun g0 g1 g2 g3 ty => cw_end w s g0 g1 g2 g3 pos hp ty
   have hcase : k = 0 ∨ k = 1 ∨ k = 2 ∨ k = 3 := by omega
   rcases hcase with rfl | rfl | rfl | rfl
   ·simp only [gs]
    unfold cw World.iter
    unfold cw World.iter at hnx
    clear hc
    go_wp2
    refine bodyPost_ret (v := .agg #[.string (s.extract n s.size), .string ⟨#[]⟩, .string ⟨#[]⟩, .string ⟨#[]⟩]) (by simp [results, Tryz.results194, go_sem]) rfl ?_
    refine ⟨?_, ((((Below.refl _ _).alloc (Nat.le_refl _) _).alloc (by simp) _).alloc (by simp; omega) _).alloc (by simp; omega) _⟩
    obtain ⟨x0, x1⟩ := unhide HE
    rw [x0]
    obtain ⟨x2, x3⟩ := x1 (by omega)
    simp only [rst, mrk] at x2 x3
    simp only [rst, f0, f1, f2, f3, x2, x3, tl_nil, hd_nil]
    rfl
   ·simp only [gs]
    unfold cw World.iter
    unfold cw World.iter at hnx
    clear hc
    go_wp2
    refine bodyPost_ret (v := .agg #[.string (toB (f0 s.data.toList)), .string (s.extract n s.size), .string ⟨#[]⟩, .string ⟨#[]⟩]) (by simp [results, Tryz.results194, go_sem]) rfl ?_
    refine ⟨?_, ((((Below.refl _ _).alloc (Nat.le_refl _) _).alloc (by simp) _).alloc (by simp; omega) _).alloc (by simp; omega) _⟩
    obtain ⟨x0, x1⟩ := unhide HE
    rw [x0]
    obtain ⟨x2, x3⟩ := x1 (by omega)
    simp only [rst, mrk] at x2 x3
    simp only [rst, f0, f1, f2, f3, x2, x3, tl_nil, hd_nil]
    rfl
   ·simp only [gs]
    unfold cw World.iter
    unfold cw World.iter at hnx
    clear hc
    go_wp2
    refine bodyPost_ret (v := .agg #[.string (toB (f0 s.data.toList)), .string (toB (f1 s.data.toList)), .string (s.extract n s.size), .string ⟨#[]⟩]) (by simp [results, Tryz.results194, go_sem]) rfl ?_
    refine ⟨?_, ((((Below.refl _ _).alloc (Nat.le_refl _) _).alloc (by simp) _).alloc (by simp; omega) _).alloc (by simp; omega) _⟩
    obtain ⟨x0, x1⟩ := unhide HE
    rw [x0]
    obtain ⟨x2, x3⟩ := x1 (by omega)
    simp only [rst, mrk] at x2 x3
    simp only [rst, f0, f1, f2, f3, x2, x3]
    rfl
   ·simp only [gs]
    unfold cw World.iter
    unfold cw World.iter at hnx
    clear hc
    go_wp2
    refine bodyPost_ret (v := .agg #[.string (toB (f0 s.data.toList)), .string (toB (f1 s.data.toList)), .string (toB (f2 s.data.toList)), .string (s.extract n s.size)]) (by simp [results, Tryz.results194, go_sem]) rfl ?_
    refine ⟨?_, ((((Below.refl _ _).alloc (Nat.le_refl _) _).alloc (by simp) _).alloc (by simp; omega) _).alloc (by simp; omega) _⟩
    obtain ⟨x0, x1⟩ := unhide HE
    rw [x0]
    clear x1
    rfl

set_option maxHeartbeats 800000 in
set_option maxRecDepth 100000 in
theorem in_yes (x lo hi : Int) (w : World) (h1 : lo ≤ x) (h2 : x ≤ hi) : Calls Tryz.prog 77 #[.int .i64 x, .int .i64 lo, .int .i64 hi] w fun e w' => e = .returned (.bool true) ∧ w' = w := by
 go_enter Tryz.func77, Tryz.ntmps77
 go_wp2
 go_ret
 exact ⟨rfl, rfl⟩

set_option maxHeartbeats 800000 in
set_option maxRecDepth 100000 in
theorem in_no (x lo hi : Int) (w : World) (h : x < lo ∨ hi < x) : Calls Tryz.prog 77 #[.int .i64 x, .int .i64 lo, .int .i64 hi] w fun e w' => e = .returned (.bool false) ∧ w' = w := by
 by_cases h1 : lo ≤ x
 ·have h2 : ¬ x ≤ hi := by omega
  clear h
  go_enter Tryz.func77, Tryz.ntmps77
  go_wp2
  go_ret
  exact ⟨rfl, rfl⟩
 ·have hd : decide (lo ≤ x) = false := by simpa using h1
  clear h
  go_enter Tryz.func77, Tryz.ntmps77
  go_wp2
  go_ret
  exact ⟨rfl, rfl⟩
end Go.Proofs.YtmpmedbojfjnaaaGreatDoor
namespace Go.Proofs.YtmpmedbojfjnaaaGreatDoor
open Go.RowKit
set_option linter.unusedSectionVars false

set_option maxHeartbeats 800000 in
set_option maxRecDepth 100000 in
theorem within_yes (x lo hi : Int) (w : World) (h1 : lo ≤ x) (h2 : x ≤ hi) : Calls Tryz.prog 75 #[.int .i64 x, .int .i64 lo, .int .i64 hi] w fun e w' => e = .returned (.bool true) ∧ w' = w := by
 go_enter Tryz.func75, Tryz.ntmps75
 go_wp2
 go_ret
 exact ⟨rfl, rfl⟩

set_option maxHeartbeats 800000 in
set_option maxRecDepth 100000 in
theorem within_no (x lo hi : Int) (w : World) (h : x < lo ∨ hi < x) : Calls Tryz.prog 75 #[.int .i64 x, .int .i64 lo, .int .i64 hi] w fun e w' => e = .returned (.bool false) ∧ w' = w := by
 by_cases h1 : lo ≤ x
 ·have h2 : ¬ x ≤ hi := by omega
  clear h
  go_enter Tryz.func75, Tryz.ntmps75
  go_wp2
  go_ret
  exact ⟨rfl, rfl⟩
 ·have hd : decide (lo ≤ x) = false := by simpa using h1
  clear h
  go_enter Tryz.func75, Tryz.ntmps75
  go_wp2
  go_ret
  exact ⟨rfl, rfl⟩

def Ok4 (a b c d : Int) : Prop := (0 ≤ a ∧ a ≤ 3) ∧ (0 ≤ b ∧ b ≤ 3) ∧ (0 ≤ c ∧ c ≤ 1000) ∧ (0 ≤ d ∧ d ≤ 99)
variable [∀ (a b c d : Int), Decidable (Ok4 a b c d)]
abbrev txv (a b c d : Int) : Value := .agg #[.int .i64 a, .int .i64 b, .int .i64 c, .int .i64 d]

set_option maxHeartbeats 1600000 in
set_option maxRecDepth 100000 in
theorem implTxOk_yes (a b c d : Int) (w : World) (h : Ok4 a b c d) :
 Calls Tryz.prog 195 #[txv a b c d] w fun e w' => e = .returned (.bool true) ∧ Below w.heap.size w w' := by
 obtain ⟨⟨a1, a2⟩, ⟨b1, b2⟩, ⟨c1, c2⟩, ⟨d1, d2⟩⟩ := h
 go_enter Tryz.func195, Tryz.ntmps195
 go_wp2_with (first | (go_at_call 75; refine (within_yes _ _ _ _ (by omega) (by omega)).mono ?_; rintro e w' ⟨rfl, rfl⟩))
 go_ret
 exact ⟨rfl, (Below.refl _ _).alloc (Nat.le_refl _) _⟩

set_option maxHeartbeats 1600000 in
set_option maxRecDepth 100000 in
theorem specTxOk_yes (a b c d : Int) (w : World) (h : Ok4 a b c d) :
 Calls Tryz.prog 163 #[txv a b c d] w fun e w' => e = .returned (.bool true) ∧ Below w.heap.size w w' := by
 obtain ⟨⟨a1, a2⟩, ⟨b1, b2⟩, ⟨c1, c2⟩, ⟨d1, d2⟩⟩ := h
 go_enter Tryz.func163, Tryz.ntmps163
 go_wp2_with (first | (go_at_call 77; refine (in_yes _ _ _ _ (by omega) (by omega)).mono ?_; rintro e w' ⟨rfl, rfl⟩))
 go_ret
 exact ⟨rfl, (Below.refl _ _).alloc (Nat.le_refl _) _⟩

set_option maxHeartbeats 1600000 in
set_option maxRecDepth 100000 in
theorem implTxOk_no (a b c d : Int) (w : World) (h : ¬ Ok4 a b c d) :
 Calls Tryz.prog 195 #[txv a b c d] w fun e w' => e = .returned (.bool false) ∧ Below w.heap.size w w' := by
 by_cases ha : 0 ≤ a ∧ a ≤ 3
 ·obtain ⟨a1, a2⟩ := ha
  by_cases hb : 0 ≤ b ∧ b ≤ 3
  ·obtain ⟨b1, b2⟩ := hb
   by_cases hc : 0 ≤ c ∧ c ≤ 1000
   ·obtain ⟨c1, c2⟩ := hc
    have hd : d < 0 ∨ 99 < d := by unfold Ok4 at h; omega
    clear h
    go_enter Tryz.func195, Tryz.ntmps195
    go_wp2_with (first | (go_at_call 75; refine (within_yes _ _ _ _ (by omega) (by omega)).mono ?_; rintro e w' ⟨rfl, rfl⟩) | (go_at_call 75; refine (within_no _ _ _ _ (by omega)).mono ?_; rintro e w' ⟨rfl, rfl⟩))
    go_ret
    exact ⟨rfl, (Below.refl _ _).alloc (Nat.le_refl _) _⟩
   ·have hc' : c < 0 ∨ 1000 < c := by omega
    clear h hc
    go_enter Tryz.func195, Tryz.ntmps195
    go_wp2_with (first | (go_at_call 75; refine (within_yes _ _ _ _ (by omega) (by omega)).mono ?_; rintro e w' ⟨rfl, rfl⟩) | (go_at_call 75; refine (within_no _ _ _ _ (by omega)).mono ?_; rintro e w' ⟨rfl, rfl⟩))
    go_ret
    exact ⟨rfl, (Below.refl _ _).alloc (Nat.le_refl _) _⟩
  ·have hb' : b < 0 ∨ 3 < b := by omega
   clear h hb
   go_enter Tryz.func195, Tryz.ntmps195
   go_wp2_with (first | (go_at_call 75; refine (within_yes _ _ _ _ (by omega) (by omega)).mono ?_; rintro e w' ⟨rfl, rfl⟩) | (go_at_call 75; refine (within_no _ _ _ _ (by omega)).mono ?_; rintro e w' ⟨rfl, rfl⟩))
   go_ret
   exact ⟨rfl, (Below.refl _ _).alloc (Nat.le_refl _) _⟩
 ·have ha' : a < 0 ∨ 3 < a := by omega
  clear h ha
  go_enter Tryz.func195, Tryz.ntmps195
  go_wp2_with (first | (go_at_call 75; refine (within_yes _ _ _ _ (by omega) (by omega)).mono ?_; rintro e w' ⟨rfl, rfl⟩) | (go_at_call 75; refine (within_no _ _ _ _ (by omega)).mono ?_; rintro e w' ⟨rfl, rfl⟩))
  go_ret
  exact ⟨rfl, (Below.refl _ _).alloc (Nat.le_refl _) _⟩

set_option maxHeartbeats 1600000 in
set_option maxRecDepth 100000 in
theorem specTxOk_no (a b c d : Int) (w : World) (h : ¬ Ok4 a b c d) :
 Calls Tryz.prog 163 #[txv a b c d] w fun e w' => e = .returned (.bool false) ∧ Below w.heap.size w w' := by
 by_cases ha : 0 ≤ a ∧ a ≤ 3
 ·obtain ⟨a1, a2⟩ := ha
  by_cases hb : 0 ≤ b ∧ b ≤ 3
  ·obtain ⟨b1, b2⟩ := hb
   by_cases hc : 0 ≤ c ∧ c ≤ 1000
   ·obtain ⟨c1, c2⟩ := hc
    have hd : d < 0 ∨ 99 < d := by unfold Ok4 at h; omega
    clear h
    go_enter Tryz.func163, Tryz.ntmps163
    go_wp2_with (first | (go_at_call 77; refine (in_yes _ _ _ _ (by omega) (by omega)).mono ?_; rintro e w' ⟨rfl, rfl⟩) | (go_at_call 77; refine (in_no _ _ _ _ (by omega)).mono ?_; rintro e w' ⟨rfl, rfl⟩))
    go_ret
    exact ⟨rfl, (Below.refl _ _).alloc (Nat.le_refl _) _⟩
   ·have hc' : c < 0 ∨ 1000 < c := by omega
    clear h hc
    go_enter Tryz.func163, Tryz.ntmps163
    go_wp2_with (first | (go_at_call 77; refine (in_yes _ _ _ _ (by omega) (by omega)).mono ?_; rintro e w' ⟨rfl, rfl⟩) | (go_at_call 77; refine (in_no _ _ _ _ (by omega)).mono ?_; rintro e w' ⟨rfl, rfl⟩))
    go_ret
    exact ⟨rfl, (Below.refl _ _).alloc (Nat.le_refl _) _⟩
  ·have hb' : b < 0 ∨ 3 < b := by omega
   clear h hb
   go_enter Tryz.func163, Tryz.ntmps163
   go_wp2_with (first | (go_at_call 77; refine (in_yes _ _ _ _ (by omega) (by omega)).mono ?_; rintro e w' ⟨rfl, rfl⟩) | (go_at_call 77; refine (in_no _ _ _ _ (by omega)).mono ?_; rintro e w' ⟨rfl, rfl⟩))
   go_ret
   exact ⟨rfl, (Below.refl _ _).alloc (Nat.le_refl _) _⟩
 ·have ha' : a < 0 ∨ 3 < a := by omega
  clear h ha
  go_enter Tryz.func163, Tryz.ntmps163
  go_wp2_with (first | (go_at_call 77; refine (in_yes _ _ _ _ (by omega) (by omega)).mono ?_; rintro e w' ⟨rfl, rfl⟩) | (go_at_call 77; refine (in_no _ _ _ _ (by omega)).mono ?_; rintro e w' ⟨rfl, rfl⟩))
  go_ret
  exact ⟨rfl, (Below.refl _ _).alloc (Nat.le_refl _) _⟩

end Go.Proofs.YtmpmedbojfjnaaaGreatDoor
namespace Go.Proofs.YtmpmedbojfjnaaaGreatDoor
open Go.RowKit
set_option linter.unusedSectionVars false
variable [∀ (a b c d : Int), Decidable (Ok4 a b c d)]

def Cells4 (w : World) (g : Nat) (a b c d : Int) : Prop := w.cell? ⟨g, 0, none⟩ = some (.int .i64 a) ∧ w.cell? ⟨g, 1, none⟩ = some (.int .i64 b) ∧ w.cell? ⟨g, 2, none⟩ = some (.int .i64 c) ∧ w.cell? ⟨g, 3, none⟩ = some (.int .i64 d)
theorem cells4_new (w : World) (a b c d : Int) (t : TypeId) : Cells4 (w.alloc (.cells #[.int .i64 a, .int .i64 b, .int .i64 c, .int .i64 d] t)) w.heap.size a b c d := by
 refine ⟨?_, ?_, ?_, ?_⟩ <;> simp
theorem Cells4.below {w w' : World} {g B : Nat} {a b c d : Int} (h : Cells4 w g a b c d) (hb : Below B w w') (hg : g < B) : Cells4 w' g a b c d :=
 ⟨(hb.cell (p := ⟨g, 0, none⟩) hg).trans h.1, (hb.cell (p := ⟨g, 1, none⟩) hg).trans h.2.1, (hb.cell (p := ⟨g, 2, none⟩) hg).trans h.2.2.1, (hb.cell (p := ⟨g, 3, none⟩) hg).trans h.2.2.2⟩
end Go.Proofs.YtmpmedbojfjnaaaGreatDoor
namespace Go.Proofs.YtmpmedbojfjnaaaGreatDoor
open Go.RowKit

theorem one_str (w : World) (c : Int) : (convert 22 9 (.slice (some ⟨w.heap.size, 0, none⟩) 1 1)).run Tryz.prog (w.alloc (.cells #[.int .u8 c] 5)) = .ok (.string (strOfNums [c])) (w.alloc (.cells #[.int .u8 c] 5)) := by
 refine run_convert_bytes_arg (P := Tryz.prog) _ 22 5 Tryz.underlying22 Tryz.underlying5 w.heap.size 0 1 1 [c] rfl (fun i hi => ?_) 9 Tryz.underlying9
 obtain rfl : i = 0 := by omega
 simp
end Go.Proofs.YtmpmedbojfjnaaaGreatDoor
namespace Go.Proofs.YtmpmedbojfjnaaaGreatDoor

def rest (m : Nat) : List UInt8 := if m = 0 then [] else Lib.decDigits m
theorem rest_step (m : Nat) (h : m ≠ 0) : rest m = rest (m / 10) ++ [UInt8.ofNat (48 + m % 10)] := by
 by_cases h10 : m < 10
 ·have e : m / 10 = 0 := by omega
  rw [rest, if_neg h, Lib.decDigits, dif_pos h10, e, rest, if_pos rfl, Nat.mod_eq_of_lt h10]; rfl
 ·have e : m / 10 ≠ 0 := by omega
  rw [rest, if_neg h, Lib.decDigits, dif_neg h10, rest, if_neg e]
def DAt (n m : Nat) (t : List UInt8) : Prop := rest m ++ t = rest n ∧ t.length ≤ 20 ∧ m < 10 ^ (20 - t.length)
theorem dat_start (n : Nat) (h : n ≤ 9223372036854775808) : DAt n n [] := ⟨by simp, by simp, by simp; omega⟩
theorem dat_step {n m : Nat} {t : List UInt8} (h : DAt n m t) (h0 : m ≠ 0) : DAt n (m / 10) (UInt8.ofNat (48 + m % 10) :: t) ∧ t.length ≤ 19 := by
 obtain ⟨h1, h2, h3⟩ := h
 have hl : t.length ≤ 19 := by
  by_cases e : t.length = 20
  ·rw [e] at h3; simp at h3; omega
  ·omega
 refine ⟨⟨?_, by simp; omega, ?_⟩, hl⟩
 ·rw [rest_step m h0] at h1; simpa using h1
 ·have e : 20 - t.length = (20 - (t.length + 1)) + 1 := by omega
  rw [e, Nat.pow_succ] at h3
  simp only [List.length_cons]
  exact Nat.div_lt_of_lt_mul (by rw [Nat.mul_comm]; exact h3)
theorem dat_end {n : Nat} {t : List UInt8} (h : DAt n 0 t) (hn : n ≠ 0) : t = Lib.decDigits n := by
 have := h.1
 rwa [rest, if_pos rfl, List.nil_append, rest, if_neg hn] at this

theorem one_more (k : Nat) (t : List UInt8) (h : k < 10) : strOfNums [48 + (k : Int)] ++ (⟨t.toArray⟩ : ByteArray) = ⟨(UInt8.ofNat (48 + k) :: t).toArray⟩ := by
 have e : (48 + (k : Int)).toNat = 48 + k := by omega
 apply ByteArray.ext
 apply Array.toList_inj.1
 simp [strOfNums, e]
theorem one_size (c : Int) : (strOfNums [c]).size = 1 := rfl
end Go.Proofs.YtmpmedbojfjnaaaGreatDoor
namespace Go.Proofs.YtmpmedbojfjnaaaGreatDoor
open Go.RowKit

set_option maxHeartbeats 800000 in
set_option maxRecDepth 100000 in
theorem specDigits_pos (n : Nat) (w : World) (hn : 0 < n) (hm : n ≤ 9223372036854775807) :
 Calls Tryz.prog 127 #[.int .i64 n] w fun e w' => e = .returned (.string ⟨(Lib.decDigits n).toArray⟩) ∧ Below w.heap.size w w' := by
 have hcv := one_str
 have hsz := one_size
 have hne : ((n : Int) == 0) = false := by simp; omega
 have hlt : decide ((n : Int) < 0) = false := by simp
 go_enter Tryz.func127, Tryz.ntmps127
 go_wp2
 go_loopw [0, 4] (fun x s wr => ∃ (m : Nat) (t : List UInt8), m ≤ 9223372036854775807 ∧ DAt n m t ∧ x = .int .i64 m ∧ s = .string ⟨t.toArray⟩ ∧ Below w.heap.size w wr) (fun x _ _ => (intOf x).toNat)
 case atStart => exact ⟨n, [], hm, dat_start n (by omega), rfl, rfl, Below.refl _ _⟩
 case round =>
  obtain ⟨m, t, hm', hd, rfl, rfl, hb⟩ := hrel
  by_cases h0 : m = 0
  ·subst h0
   have HE := hide (dat_end hd (by omega))
   clear hd
   go_wp2
   go_ret
   have HE' := unhide HE
   subst HE'
   exact ⟨rfl, hb⟩
  ·have hne' : ((m : Int) != 0) = true := by simp [h0]
   obtain ⟨hd', hl⟩ := dat_step hd h0
   have HD := hide hd'
   clear hd hd'
   have hs0 := hb.size
   have hmo := one_more (m % 10) t (by omega)
   have hbl : Below w.heap.size w (wr.alloc (.cells #[.int .u8 (48 + (m : Int) % 10)] 5)) := hb.alloc hs0 _
   go_wp2
   go_roundw
   case rel => exact ⟨m / 10, _, by omega, unhide HD, by go_num, by rw [← hmo]; rfl, hbl⟩
   case measure => simp [intOf]; omega

set_option maxHeartbeats 800000 in
set_option maxRecDepth 100000 in
theorem specDigits_neg (n : Nat) (w : World) (hn : 0 < n) (hm : n ≤ 9223372036854775808) :
 Calls Tryz.prog 127 #[.int .i64 (-(n : Int))] w fun e w' => e = .returned (.string ⟨(45 :: Lib.decDigits n).toArray⟩) ∧ Below w.heap.size w w' := by
 have hcv := one_str
 have hsz := one_size
 have hne : ((-(n : Int)) == 0) = false := by simp; omega
 have hlt : decide (-(n : Int) < 0) = true := by simp; omega
 go_enter Tryz.func127, Tryz.ntmps127
 go_wp2
 go_loopw [0, 4] (fun x s wr => ∃ (m : Nat) (t : List UInt8), m ≤ 9223372036854775808 ∧ DAt n m t ∧ x = .int .i64 (-(m : Int)) ∧ s = .string ⟨t.toArray⟩ ∧ Below w.heap.size w wr) (fun x _ _ => (-(intOf x)).toNat)
 case atStart => exact ⟨n, [], hm, dat_start n hm, rfl, rfl, Below.refl _ _⟩
 case round =>
  obtain ⟨m, t, hm', hd, rfl, rfl, hb⟩ := hrel
  by_cases h0 : m = 0
  ·subst h0
   have HE := hide (dat_end hd (by omega))
   have hl := hd.2.1
   clear hd
   go_wp2
   go_ret
   have HE' := unhide HE
   subst HE'
   exact ⟨by apply congrArg Ending.returned; apply congrArg Value.string; apply ByteArray.ext; apply Array.toList_inj.1; simp, hb⟩
  ·have hne' : ((-(m : Int)) != 0) = true := by simp [h0]
   obtain ⟨hd', hl⟩ := dat_step hd h0
   have HD := hide hd'
   clear hd hd'
   have hs0 := hb.size
   have hmo := one_more (m % 10) t (by omega)
   have ht : (-(m : Int)).tmod 10 = -((m % 10 : Nat) : Int) := by rw [Int.neg_tmod]; rfl
   have hq : (-(m : Int)).tdiv 10 = -((m / 10 : Nat) : Int) := by rw [Int.neg_tdiv]; rfl
   by_cases hz : m % 10 = 0
   ·have hbl : Below w.heap.size w (wr.alloc (.cells #[.int .u8 48] 5)) := hb.alloc hs0 _
    go_wp2
    go_roundw
    case rel => exact ⟨m / 10, _, by omega, unhide HD, by go_num, by rw [← hmo, hz]; rfl, hbl⟩
    case measure => simp [intOf]; omega
   ·have hbl : Below w.heap.size w (wr.alloc (.cells #[.int .u8 (48 + (m : Int) % 10)] 5)) := hb.alloc hs0 _
    go_wp2
    go_roundw
    case rel => exact ⟨m / 10, _, by omega, unhide HD, by go_num, by rw [← hmo]; rfl, hbl⟩
    case measure => simp [intOf]; omega

set_option maxHeartbeats 400000 in
set_option maxRecDepth 100000 in
theorem specDigits_zero (w : World) :
 Calls Tryz.prog 127 #[.int .i64 0] w fun e w' => e = .returned (.string ⟨(Lib.decDigits 0).toArray⟩) ∧ Below w.heap.size w w' := by
 go_enter Tryz.func127, Tryz.ntmps127
 go_wp2
 go_ret
 exact ⟨by rw [Lib.decDigits]; rfl, Below.refl _ _⟩

theorem specDigits_any (n : Int) (w : World) (h0 : -9223372036854775808 ≤ n) (h1 : n ≤ 9223372036854775807) :
 Calls Tryz.prog 127 #[.int .i64 n] w fun e w' => e = .returned (.string ⟨(Lib.itoa n).toArray⟩) ∧ Below w.heap.size w w' := by
 unfold Lib.itoa
 by_cases hn : n < 0
 ·obtain ⟨m, rfl⟩ : ∃ m : Nat, n = -(m : Int) := ⟨n.natAbs, by omega⟩
  rw [if_pos hn, show (-(m : Int)).natAbs = m from by omega]
  exact specDigits_neg m w (by omega) (by omega)
 ·obtain ⟨m, rfl⟩ := Int.eq_ofNat_of_zero_le (Int.not_lt.1 hn)
  rw [if_neg hn, Int.toNat_natCast]
  by_cases hm : m = 0
  ·subst hm; exact specDigits_zero w
  ·exact specDigits_pos m w (by omega) (by omega)
end Go.Proofs.YtmpmedbojfjnaaaGreatDoor
