/- Settles of the program and of the specification. -/
import Derived.Test.YtmpmedbojfjnaaaGreatDoorFSBA
import Derived.Test.YtmpmedbojfjnaaaGreatDoorFSAR
import Derived.Test.YtmpmedbojfjnaaaGreatDoorFSAP
import Derived.Test.YtmpmedbojfjnaaaGreatDoorFSAS
import Derived.Test.YtmpmedbojfjnaaaGreatDoorFSBB
import Derived.Deep.DeepCutAuto
namespace Go.Proofs.YtmpmedbojfjnaaaGreatDoor
open Go.RowKit
set_option linter.unusedSectionVars false
variable [∀ (a b c d : Int), Decidable (Ok4 a b c d)]
variable [∀ (a b c d : Nat), Decidable (okN a b c d)]
variable [∀ (last : Int) (s : St), Decidable (GoodSt last s)]
variable [∀ (x : T4), Decidable (OkT x)]
variable [∀ (n : Int) (s : List Int), Decidable (OkL n s)]
variable [∀ (n f : Int), Decidable (COk n f)]

def upN : Nat → ByteArray → ByteArray
 | 0, s => s
 | k + 1, s => upAns (upN k s)
theorem upN_size (k : Nat) (s : ByteArray) (hs : s.size ≤ 33554432) : (upN k s).size ≤ 33554432 := by
 cases k with
 | zero => exact hs
 | succ k => exact Nat.le_trans up_size (by omega)

set_option maxHeartbeats 1600000 in
set_option maxRecDepth 100000 in
theorem sight_in (j : Nat) (hj : j ≤ 2) (s : ByteArray) (w : World) (hs : s.size ≤ 33554432) (hE : Env w) :
 Calls Tryz.prog 65 #[.int .i64 (j : Int), .string s] w fun e w' => e = .returned (.string (upN j s)) ∧ Below w.heap.size w w' := by
 have UP := hide fun k w' (b : Below w.heap.size w w') => implUpOf (upN k s) w' (upN_size k s hs) (hE.below b)
 have U0 : Hid (upN 0 s = s) := hide rfl
 have US : Hid (∀ k, upAns (upN k s) = upN (k + 1) s) := hide fun _ => rfl
 clear hE
 go_enter Tryz.func65, Tryz.ntmps65
 go_wp2
 go_loopw [1, 5] (fun nv i wr => ∃ k : Nat, k ≤ j ∧ i = .int .i64 (k : Int) ∧ nv = .string (upN k s) ∧ Below w.heap.size w wr) (fun _ i _ => j - (intOf i).toNat)
 case atStart => exact ⟨0, Nat.zero_le _, rfl, by rw [unhide U0], Below.refl _ _⟩
 case round =>
  obtain ⟨k, hk, rfl, rfl, bw⟩ := hrel
  by_cases hlt : k < j
  ·have UK := hide (unhide UP k _ bw)
   have UE := hide (unhide US k)
   have hlt' : decide ((k : Int) < (j : Int)) = true := by simpa using hlt
   generalize upAns (upN k s) = x at *
   generalize upN k s = y at *
   go_wp2_with fail
   refine (unhide UK).mono ?_
   rintro e w1 ⟨rfl, b1⟩
   go_wp2
   go_roundw
   case rel => exact ⟨k + 1, by omega, by go_num, by rw [unhide UE], bw.trans (b1.mono bw.size)⟩
   case measure => simp [intOf]; omega
  ·have hd : decide ((k : Int) < (j : Int)) = false := by simpa using hlt
   obtain rfl : k = j := by omega
   go_wp2
   go_ret
   exact ⟨rfl, bw⟩
theorem sight_in1 (s : ByteArray) (w : World) (hs : s.size ≤ 33554432) (hE : Env w) :
 Calls Tryz.prog 65 #[.int .i64 1, .string s] w fun e w' => e = .returned (.string (upAns s)) ∧ Below w.heap.size w w' := sight_in 1 (by omega) s w hs hE
theorem sight_in2 (s : ByteArray) (w : World) (hs : s.size ≤ 33554432) (hE : Env w) :
 Calls Tryz.prog 65 #[.int .i64 2, .string s] w fun e w' => e = .returned (.string (up2 s)) ∧ Below w.heap.size w w' := sight_in 2 (by omega) s w hs hE

set_option maxHeartbeats 16000000 in
set_option maxRecDepth 100000 in
theorem implSettles (s : ByteArray) (w : World) (hs : s.size ≤ 33554432) (hE : Env w) :
 Calls Tryz.prog 13 #[.string s] w fun e w' => e = .returned (.tuple #[.string (stN s), .bool (stB s)]) ∧ Below w.heap.size w w' := by
 have IN := hide fun w' (b : Below w.heap.size w w') => sight_in2 s w' hs (hE.below b)
 have V1 := hide fun w' (b : Below w.heap.size w w') => implViewOf s w' hs (hE.below b)
 have V2 := hide fun w' (b : Below w.heap.size w w') => implViewOf (up2 s) w' (by have := up2_size (s := s); omega) (hE.below b)
 have h1 := view_le s
 have h2 := view_le (up2 s)
 have HN : Hid (stN s = if stB s = true then up2 s else ⟨#[]⟩) := hide rfl
 have HB : Hid (stB s = (decide (up2 s ≠ ⟨#[]⟩) && (viewAns s - viewAns (up2 s) == 2))) := hide rfl
 generalize stN s = nn at *
 generalize stB s = bb at *
 generalize viewAns s = a at *
 generalize viewAns (up2 s) = c at *
 generalize up2 s = u at *
 clear hE
 have Bw : Below w.heap.size w w := Below.refl _ _
 go_enter Tryz.func13, Tryz.ntmps13
 go_wp2_with fail
 refine (unhide IN _ Bw).mono ?_
 rintro _ w1 ⟨rfl, bb⟩
 have Bw1 := Bw.trans (bb.mono Bw.size)
 have sw1 := bb.size
 clear Bw
 clear bb
 by_cases he : u = ⟨#[]⟩
 ·have hb : bb = false := by rw [unhide HB]; simp [he]
  have hn : nn = ⟨#[]⟩ := by rw [unhide HN, hb]; rfl
  have hy : (u.toList == []) = true := by rw [he, ByteArray.toList_eq]; rfl
  subst hb hn
  clear he HB HN
  go_wp2
  go_ret2
  exact ⟨rfl, Bw1⟩
 ·have hy := ne2 he
  have hbb : bb = (a - c == 2) := by rw [unhide HB]; simp [he]
  have hw : IntKind.i64.wrap (a - c) = a - c := by rw [IntKind.wrap_i64]; omega
  go_wp2_with fail
  refine (unhide V1 _ Bw1).mono ?_
  rintro _ w2 ⟨rfl, bb⟩
  have Bw2 := Bw1.trans (bb.mono Bw1.size)
  have sw2 := bb.size
  clear Bw1
  clear bb
  go_wp2_with fail
  refine (unhide V2 _ Bw2).mono ?_
  rintro _ w3 ⟨rfl, bb⟩
  have Bw3 := Bw2.trans (bb.mono Bw2.size)
  have sw3 := bb.size
  clear Bw2
  clear bb
  by_cases h3 : a - c = 2
  ·have hb : bb = true := by rw [hbb]; simp [h3]
   have hn : nn = u := by rw [unhide HN, hb]; rfl
   have hne : (a - c != 2) = false := by simp [h3]
   subst hb hn
   clear h3 he HB HN hbb
   go_wp2
   go_ret2
   exact ⟨rfl, Bw3⟩
  ·have hb : bb = false := by rw [hbb]; simp [h3]
   have hn : nn = ⟨#[]⟩ := by rw [unhide HN, hb]; rfl
   have hne : (a - c != 2) = true := by simp [h3]
   subst hb hn
   clear h3 he HB HN hbb
   go_wp2
   go_ret2
   exact ⟨rfl, Bw3⟩

theorem st_mem {ss : List St} {k : Nat} (h : k < ss.length) : ss.getD k zst ∈ ss := by
 rw [List.getD_eq_getElem?_getD, List.getElem?_eq_getElem h]; exact List.getElem_mem h
set_option maxHeartbeats 16000000 in
set_option maxRecDepth 100000 in
theorem specSettles (s : ByteArray) (w : World) (hs : s.size ≤ 1048576) :
 Calls Tryz.prog 14 #[.string s] w fun e w' => e = .returned (.tuple #[.string (stN s), .bool (stB s)]) ∧ Below w.heap.size w w' := by
 have SS := hide fun w' => specSteps s w' (by omega)
 have U1 := hide fun w' => specUpOf s w' (by omega)
 have U2 := hide fun w' => specUpOf (upAns s) w' (by have := up_size (s := s); omega)
 have HO : Hid (∀ ss, stepsAns s = some ss → ss.length ≤ 30 ∧ ∀ x ∈ ss, OkSt x) := hide fun ss h => ⟨((names_iff _ _).1 h).2.1, ((names_iff _ _).1 h).2.2.1⟩
 have HN : Hid (stN s = if stB s = true then up2 s else ⟨#[]⟩) := hide rfl
 have H0 := hide fun h => st_none (s := s) h
 have H1 := hide fun ss h hl => st_few (s := s) (ss := ss) h hl
 have H2 := hide fun ss h hl => st_last (s := s) (ss := ss) h hl
 have UU : Hid (upAns (upAns s) = up2 s) := hide rfl
 rw [unhide UU] at U2
 clear UU
 generalize stN s = nn at *
 generalize stB s = bb at *
 generalize stepsAns s = A at *
 generalize up2 s = u at *
 generalize upAns s = u1 at *
 have Bw : Below w.heap.size w w := Below.refl _ _
 go_enter Tryz.func14, Tryz.ntmps14
 go_wp2_with fail
 refine (unhide SS _).mono ?_
 rintro e w1 ⟨lv, rfl, o1, Bw1⟩
 clear Bw SS
 cases A with
 | none =>
  have hb : bb = false := unhide H0 rfl
  have hn : nn = ⟨#[]⟩ := by rw [unhide HN, hb]; rfl
  subst hb hn
  obtain ⟨la, lc, rfl⟩ := o1.form
  clear o1 H0 H1 H2 HO HN U1 U2
  have K : Hid (∀ w', Below w1.heap.size w1 w' → (fun w' => Below w1.heap.size w1 w') w') := hide fun w' hb' => hb'
  go_upto_region 3 with fail
  have bA : Below w1.heap.size w1 w1.drew := Below.drew (Below.refl _ _)
  refine wp_region_noPanic ?_
  refine wp_region_held_drew (S := fun w' => Below w1.heap.size w1 w') (by kernel_rfl) (unhide K _ bA) (fun hHeld => ?_)
  refine tk 0 14 (v := ?_) rfl (hy := .inl ⟨by rfl, ?_⟩) (h := ?_); rotate_left
  ·intro w hSw; (try dsimp only at hSw); go_simp; (try with_reducible rfl)
  simp only [ps]
  refine tk 1 15 (v := ?_) rfl (hy := .inl ⟨by rfl, ?_⟩) (h := ?_); rotate_left
  ·intro w hSw; (try dsimp only at hSw); go_simp; (try with_reducible rfl)
  simp only [ps]
  refine tk 2 16 (v := ?_) rfl (hy := .inl ⟨by rfl, ?_⟩) (h := ?_); rotate_left
  ·intro w hSw; (try dsimp only at hSw); go_simp; (try with_reducible rfl)
  simp only [ps]
  refine sk 3 17 rfl (h := ?_)
  simp only [ps]
  refine sk 4 18 rfl (h := ?_)
  simp only [ps]
  refine tk 5 19 (v := ?_) rfl (hy := .inl ⟨by rfl, ?_⟩) (h := ?_); rotate_left
  ·intro w hSw; (try dsimp only at hSw); go_simp; (try with_reducible rfl)
  simp only [ps]
  refine tk 6 20 (v := ?_) rfl (hy := .inl ⟨by rfl, ?_⟩) (h := ?_); rotate_left
  ·intro w hSw; (try dsimp only at hSw); go_simp; (try with_reducible rfl)
  simp only [ps]
  refine sk 7 21 rfl (h := ?_)
  simp only [ps]
  refine sk 8 22 rfl (h := ?_)
  simp only [ps]
  refine sk 13 27 rfl (h := ?_)
  simp only [ps]
  refine sk 14 28 rfl (h := ?_)
  simp only [ps]
  refine sk 9 23 rfl (h := ?_)
  simp only [ps]
  refine sk 15 29 rfl (h := ?_)
  simp only [ps]
  refine sk 10 24 rfl (h := ?_)
  simp only [ps]
  refine sk 16 30 rfl (h := ?_)
  simp only [ps]
  refine sk 11 25 rfl (h := ?_)
  simp only [ps]
  refine sk 17 31 rfl (h := ?_)
  simp only [ps]
  refine sk 12 26 rfl (h := ?_)
  simp only [ps]
  refine sk 18 32 rfl (h := ?_)
  simp only [ps]
  refine sk 19 33 rfl (h := ?_)
  simp only [ps]
  refine sk 20 34 rfl (h := ?_)
  simp only [ps]
  refine tk 21 35 (v := ?_) rfl (hy := .inl ⟨by rfl, ?_⟩) (h := ?_); rotate_left
  ·intro w hSw; (try dsimp only at hSw); go_simp; (try with_reducible rfl)
  simp only [ps]
  refine tk 22 36 (v := ?_) rfl (hy := .inl ⟨by rfl, ?_⟩) (h := ?_); rotate_left
  ·intro w hSw; (try dsimp only at hSw); go_simp; (try with_reducible rfl)
  simp only [ps]
  refine sk 23 37 rfl (h := ?_)
  simp only [ps]
  refine sk 24 38 rfl (h := ?_)
  simp only [ps]
  refine sk 29 43 rfl (h := ?_)
  simp only [ps]
  refine sk 30 44 rfl (h := ?_)
  simp only [ps]
  refine sk 25 39 rfl (h := ?_)
  simp only [ps]
  refine sk 31 45 rfl (h := ?_)
  simp only [ps]
  refine sk 26 40 rfl (h := ?_)
  simp only [ps]
  refine sk 32 46 rfl (h := ?_)
  simp only [ps]
  refine sk 27 41 rfl (h := ?_)
  simp only [ps]
  refine sk 33 47 rfl (h := ?_)
  simp only [ps]
  refine sk 28 42 rfl (h := ?_)
  simp only [ps]
  refine sk 34 48 rfl (h := ?_)
  simp only [ps]
  refine sk 35 49 rfl (h := ?_)
  simp only [ps]
  refine sk 36 50 rfl (h := ?_)
  simp only [ps]
  refine tk 37 51 (v := ?_) rfl (hy := .inl ⟨by rfl, ?_⟩) (h := ?_); rotate_left
  ·intro w hSw; (try dsimp only at hSw); go_simp; (try with_reducible rfl)
  simp only [ps]
  clear hHeld
  refine wpAnyH_done (by kernel_rfl) ?_ _
  refine NoPanic.normal ?_
  obtain ⟨wd3, hwd⟩ : ∃ y, w1.drew = y := ⟨_, rfl⟩
  rw [hwd] at bA ⊢
  clear hwd
  have bb := bA
  have Bwd3 := Bw1.trans (bb.mono Bw1.size)
  have swd3 := bb.size
  clear Bw1
  clear bb bA K
  go_wp2
  go_ret2
  exact ⟨rfl, Bwd3⟩
 | some ss =>
  obtain ⟨hl, hok⟩ := unhide HO ss rfl
  obtain ⟨la, lc, hv, r⟩ := o1.rst (fun x hx => by have := (hok x hx).2.1; omega)
  subst hv
  clear o1 HO H0
  simp only [Option.getD_some] at *
  by_cases h3 : ss.length < 3
  ·have hb : bb = false := unhide H1 ss rfl h3
   have hn : nn = ⟨#[]⟩ := by rw [unhide HN, hb]; rfl
   subst hb hn
   obtain ⟨l, hlen⟩ : ∃ l, ss.length = l := ⟨_, rfl⟩
   rw [hlen] at h3 hl ⊢
   have d3 : decide ((l : Int) < 3) = true := by simp; omega
   clear r hok H1 H2 HN U1 U2 hlen
   have K : Hid (∀ w', Below w1.heap.size w1 w' → (fun w' => Below w1.heap.size w1 w') w') := hide fun w' hb' => hb'
   go_upto_region 3 with fail
   have bA : Below w1.heap.size w1 w1.drew := Below.drew (Below.refl _ _)
   refine wp_region_noPanic ?_
   refine wp_region_held_drew (S := fun w' => Below w1.heap.size w1 w') (by kernel_rfl) (unhide K _ bA) (fun hHeld => ?_)
   refine tk 0 14 (v := ?_) rfl (hy := .inl ⟨by rfl, ?_⟩) (h := ?_); rotate_left
   ·intro w hSw; (try dsimp only at hSw); go_simp; (try with_reducible rfl)
   simp only [ps]
   refine tk 1 15 (v := ?_) rfl (hy := .inl ⟨by rfl, ?_⟩) (h := ?_); rotate_left
   ·intro w hSw; (try dsimp only at hSw); go_simp; (try with_reducible rfl)
   simp only [ps]
   refine tk 2 16 (v := ?_) rfl (hy := .inl ⟨by rfl, ?_⟩) (h := ?_); rotate_left
   ·intro w hSw; (try dsimp only at hSw); go_simp; (try with_reducible rfl)
   simp only [ps]
   refine tk 3 17 (v := ?_) rfl (hy := .inl ⟨by rfl, ?_⟩) (h := ?_); rotate_left
   ·intro w hSw; (try dsimp only at hSw); go_simp; (try with_reducible rfl)
   simp only [ps]
   refine tk 4 18 (v := ?_) rfl (hy := .inl ⟨by rfl, ?_⟩) (h := ?_); rotate_left
   ·intro w hSw; (try dsimp only at hSw); go_simp; (try with_reducible rfl)
   simp only [ps]
   refine tk 5 19 (v := ?_) rfl (hy := .inl ⟨by rfl, ?_⟩) (h := ?_); rotate_left
   ·intro w hSw; (try dsimp only at hSw); go_simp; (try with_reducible rfl)
   simp only [ps]
   refine tk 6 20 (v := ?_) rfl (hy := .inl ⟨by rfl, ?_⟩) (h := ?_); rotate_left
   ·intro w hSw; (try dsimp only at hSw); go_simp; (try with_reducible rfl)
   simp only [ps]
   refine sk 7 21 rfl (h := ?_)
   simp only [ps]
   refine sk 8 22 rfl (h := ?_)
   simp only [ps]
   refine sk 13 27 rfl (h := ?_)
   simp only [ps]
   refine sk 14 28 rfl (h := ?_)
   simp only [ps]
   refine sk 9 23 rfl (h := ?_)
   simp only [ps]
   refine sk 15 29 rfl (h := ?_)
   simp only [ps]
   refine sk 10 24 rfl (h := ?_)
   simp only [ps]
   refine sk 16 30 rfl (h := ?_)
   simp only [ps]
   refine sk 11 25 rfl (h := ?_)
   simp only [ps]
   refine sk 17 31 rfl (h := ?_)
   simp only [ps]
   refine sk 12 26 rfl (h := ?_)
   simp only [ps]
   refine sk 18 32 rfl (h := ?_)
   simp only [ps]
   refine sk 19 33 rfl (h := ?_)
   simp only [ps]
   refine sk 20 34 rfl (h := ?_)
   simp only [ps]
   refine tk 21 35 (v := ?_) rfl (hy := .inl ⟨by rfl, ?_⟩) (h := ?_); rotate_left
   ·intro w hSw; (try dsimp only at hSw); go_simp; (try with_reducible rfl)
   simp only [ps]
   refine tk 22 36 (v := ?_) rfl (hy := .inl ⟨by rfl, ?_⟩) (h := ?_); rotate_left
   ·intro w hSw; (try dsimp only at hSw); go_simp; (try with_reducible rfl)
   simp only [ps]
   refine sk 23 37 rfl (h := ?_)
   simp only [ps]
   refine sk 24 38 rfl (h := ?_)
   simp only [ps]
   refine sk 29 43 rfl (h := ?_)
   simp only [ps]
   refine sk 30 44 rfl (h := ?_)
   simp only [ps]
   refine sk 25 39 rfl (h := ?_)
   simp only [ps]
   refine sk 31 45 rfl (h := ?_)
   simp only [ps]
   refine sk 26 40 rfl (h := ?_)
   simp only [ps]
   refine sk 32 46 rfl (h := ?_)
   simp only [ps]
   refine sk 27 41 rfl (h := ?_)
   simp only [ps]
   refine sk 33 47 rfl (h := ?_)
   simp only [ps]
   refine sk 28 42 rfl (h := ?_)
   simp only [ps]
   refine sk 34 48 rfl (h := ?_)
   simp only [ps]
   refine sk 35 49 rfl (h := ?_)
   simp only [ps]
   refine sk 36 50 rfl (h := ?_)
   simp only [ps]
   refine tk 37 51 (v := ?_) rfl (hy := .inl ⟨by rfl, ?_⟩) (h := ?_); rotate_left
   ·intro w hSw; (try dsimp only at hSw); go_simp; (try with_reducible rfl)
   simp only [ps]
   clear hHeld
   refine wpAnyH_done (by kernel_rfl) ?_ _
   refine NoPanic.normal ?_
   obtain ⟨wd3, hwd⟩ : ∃ y, w1.drew = y := ⟨_, rfl⟩
   rw [hwd] at bA ⊢
   clear hwd
   have bb := bA
   have Bwd3 := Bw1.trans (bb.mono Bw1.size)
   have swd3 := bb.size
   clear Bw1
   clear bb bA K
   go_wp2
   go_ret2
   exact ⟨rfl, Bwd3⟩
  ·have hB := hide (unhide H2 ss rfl (by omega))
   rcases r with rfl | ⟨g, rfl, r⟩
   ·simp at h3
   ·obtain ⟨l, hlen⟩ : ∃ l, ss.length = l := ⟨_, rfl⟩
    rw [hlen] at h3 hl hB r ⊢
    obtain ⟨a1, k1⟩ : ∃ a1, l - 1 = a1 := ⟨_, rfl⟩
    obtain ⟨a2, k2⟩ : ∃ a2, l - 2 = a2 := ⟨_, rfl⟩
    obtain ⟨a3, k3⟩ : ∃ a3, l - 3 = a3 := ⟨_, rfl⟩
    rw [k1, k2, k3] at hB
    obtain ⟨_, c1, _, _⟩ := r a1 (by omega)
    obtain ⟨_, c2, _, _⟩ := r a2 (by omega)
    obtain ⟨_, c3, _, _⟩ := r a3 (by omega)
    have v1 : 1 ≤ (ss.getD a1 zst).1 ∧ (ss.getD a1 zst).1 ≤ 60 := (hok _ (st_mem (by omega))).1
    have v2 : 1 ≤ (ss.getD a2 zst).1 ∧ (ss.getD a2 zst).1 ≤ 60 := (hok _ (st_mem (by omega))).1
    have v3 : 1 ≤ (ss.getD a3 zst).1 ∧ (ss.getD a3 zst).1 ≤ 60 := (hok _ (st_mem (by omega))).1
    generalize (ss.getD a1 zst).1 = x1 at *
    generalize (ss.getD a2 zst).1 = x2 at *
    generalize (ss.getD a3 zst).1 = x3 at *
    have i1 : (l : Int) - 1 = (a1 : Int) := by omega
    have i2 : (l : Int) - 2 = (a2 : Int) := by omega
    have i3 : (l : Int) - 3 = (a3 : Int) := by omega
    have j1 : IntKind.i64.wrap (a1 : Int) = (a1 : Int) := by rw [IntKind.wrap_i64]; omega
    have j2 : IntKind.i64.wrap (a2 : Int) = (a2 : Int) := by rw [IntKind.wrap_i64]; omega
    have j3 : IntKind.i64.wrap (a3 : Int) = (a3 : Int) := by rw [IntKind.wrap_i64]; omega
    have m1 : a1 < l := by omega
    have m2 : a2 < l := by omega
    have m3 : a3 < l := by omega
    have w2' : IntKind.i64.wrap (x2 + 1) = x2 + 1 := by rw [IntKind.wrap_i64]; omega
    have w3' : IntKind.i64.wrap (x3 + 1) = x3 + 1 := by rw [IntKind.wrap_i64]; omega
    have d3 : decide ((l : Int) < 3) = false := by simp; omega
    clear r hok H1 H2 hlen k1 k2 k3 h3 v1 v2 v3
    by_cases g1 : x1 = x2 + 1
    ·have n1 : (x1 != x2 + 1) = false := by simp [g1]
     have e1 : (x1 == x2 + 1) = true := by simp [g1]
     rw [e1] at hB
     clear g1 e1
     by_cases g2 : x2 = x3 + 1
     ·have n2 : (x2 != x3 + 1) = false := by simp [g2]
      have hb : bb = true := by rw [unhide hB]; simp [g2]
      have hn : nn = u := by rw [unhide HN, hb]; rfl
      subst hb hn
      clear g2 hB HN
      have K : Hid (∀ w', Below w1.heap.size w1 w' → (fun w' => Below w1.heap.size w1 w' ∧ w'.cell? ⟨g, a1 * 2, none⟩ = some (.int .i64 x1) ∧ w'.cell? ⟨g, a2 * 2, none⟩ = some (.int .i64 x2) ∧ w'.cell? ⟨g, a3 * 2, none⟩ = some (.int .i64 x3)) w') := hide fun w' hb' => ⟨hb', (hb'.cell (p := ⟨g, a1 * 2, none⟩) (cell_lt c1)).trans c1, (hb'.cell (p := ⟨g, a2 * 2, none⟩) (cell_lt c2)).trans c2, (hb'.cell (p := ⟨g, a3 * 2, none⟩) (cell_lt c3)).trans c3⟩
      go_upto_region 3 with fail
      have bA : Below w1.heap.size w1 w1.drew := Below.drew (Below.refl _ _)
      refine wp_region_noPanic ?_
      refine wp_region_held_drew (S := fun w' => Below w1.heap.size w1 w' ∧ w'.cell? ⟨g, a1 * 2, none⟩ = some (.int .i64 x1) ∧ w'.cell? ⟨g, a2 * 2, none⟩ = some (.int .i64 x2) ∧ w'.cell? ⟨g, a3 * 2, none⟩ = some (.int .i64 x3)) (by kernel_rfl) (unhide K _ bA) (fun hHeld => ?_)
      refine tk 0 14 (v := ?_) rfl (hy := .inl ⟨by rfl, ?_⟩) (h := ?_); rotate_left
      ·intro w hSw; (try dsimp only at hSw); go_simp; (try with_reducible rfl)
      simp only [ps]
      refine tk 1 15 (v := ?_) rfl (hy := .inl ⟨by rfl, ?_⟩) (h := ?_); rotate_left
      ·intro w hSw; (try dsimp only at hSw); go_simp; (try with_reducible rfl)
      simp only [ps]
      refine tk 2 16 (v := ?_) rfl (hy := .inl ⟨by rfl, ?_⟩) (h := ?_); rotate_left
      ·intro w hSw; (try dsimp only at hSw); go_simp; (try with_reducible rfl)
      simp only [ps]
      refine tk 3 17 (v := ?_) rfl (hy := .inl ⟨by rfl, ?_⟩) (h := ?_); rotate_left
      ·intro w hSw; (try dsimp only at hSw); go_simp; (try with_reducible rfl)
      simp only [ps]
      refine tk 4 18 (v := ?_) rfl (hy := .inl ⟨by rfl, ?_⟩) (h := ?_); rotate_left
      ·intro w hSw; (try dsimp only at hSw); go_simp; (try with_reducible rfl)
      simp only [ps]
      refine tk 5 19 (v := ?_) rfl (hy := .inl ⟨by rfl, ?_⟩) (h := ?_); rotate_left
      ·intro w hSw; (try dsimp only at hSw); go_simp; (try with_reducible rfl)
      simp only [ps]
      refine tk 6 20 (v := ?_) rfl (hy := .inl ⟨by rfl, ?_⟩) (h := ?_); rotate_left
      ·intro w hSw; (try dsimp only at hSw); go_simp; (try with_reducible rfl)
      simp only [ps]
      refine tk 7 21 (v := ?_) rfl (hy := .inl ⟨by rfl, ?_⟩) (h := ?_); rotate_left
      ·intro w hSw; (try dsimp only at hSw); go_simp; (try with_reducible rfl)
      simp only [ps]
      refine tk 8 22 (v := ?_) rfl (hy := .inl ⟨by rfl, ?_⟩) (h := ?_); rotate_left
      ·intro w hSw; (try dsimp only at hSw); go_simp; (try with_reducible rfl)
      simp only [ps]
      refine tk 13 27 (v := ?_) rfl (hy := .inl ⟨by rfl, ?_⟩) (h := ?_); rotate_left
      ·intro w hSw; (try dsimp only at hSw); go_simp; (try with_reducible rfl)
      simp only [ps]
      refine tk 14 28 (v := ?_) rfl (hy := .inl ⟨by rfl, ?_⟩) (h := ?_); rotate_left
      ·intro w hSw; (try dsimp only at hSw); go_simp; (try with_reducible rfl)
      simp only [ps]
      refine tk 9 23 (v := ?_) rfl (hy := .inl ⟨by rfl, ?_⟩) (h := ?_); rotate_left
      ·intro w hSw; (try dsimp only at hSw); go_simp; (try with_reducible rfl)
      simp only [ps]
      refine tk 15 29 (v := ?_) rfl (hy := .inl ⟨by rfl, ?_⟩) (h := ?_); rotate_left
      ·intro w hSw; (try dsimp only at hSw); go_simp; (try with_reducible rfl)
      simp only [ps]
      refine tk 10 24 (v := ?_) rfl (hy := .inl ⟨by rfl, ?_⟩) (h := ?_); rotate_left
      ·intro w hSw; (try dsimp only at hSw); go_simp; (try with_reducible rfl)
      simp only [ps]
      refine tk 16 30 (v := ?_) rfl (hy := .inl ⟨by rfl, ?_⟩) (h := ?_); rotate_left
      ·intro w hSw; (try dsimp only at hSw); go_simp; (try with_reducible rfl)
      simp only [ps]
      refine tk 11 25 (v := ?_) rfl (hy := .inl ⟨by rfl, ?_⟩) (h := ?_); rotate_left
      ·intro w hSw; (try dsimp only at hSw); go_simp; (try with_reducible rfl)
      simp only [ps]
      refine tk 17 31 (v := ?_) rfl (hy := .inl ⟨by rfl, ?_⟩) (h := ?_); rotate_left
      ·intro w hSw; (try dsimp only at hSw); go_simp; (try with_reducible rfl)
      simp only [ps]
      refine tk 12 26 (v := ?_) rfl (hy := .inl ⟨by rfl, ?_⟩) (h := ?_); rotate_left
      ·intro w hSw; (try dsimp only at hSw); go_simp; (try with_reducible rfl)
      simp only [ps]
      refine tk 18 32 (v := ?_) rfl (hy := .inl ⟨by rfl, ?_⟩) (h := ?_); rotate_left
      ·intro w hSw; (try dsimp only at hSw); go_simp; (try with_reducible rfl)
      simp only [ps]
      refine tk 19 33 (v := ?_) rfl (hy := .inl ⟨by rfl, ?_⟩) (h := ?_); rotate_left
      ·intro w hSw; (try dsimp only at hSw); go_simp; (try with_reducible rfl)
      simp only [ps]
      refine tk 20 34 (v := ?_) rfl (hy := .inl ⟨by rfl, ?_⟩) (h := ?_); rotate_left
      ·intro w hSw; (try dsimp only at hSw); go_simp; (try with_reducible rfl)
      simp only [ps]
      refine tk 21 35 (v := ?_) rfl (hy := .inl ⟨by rfl, ?_⟩) (h := ?_); rotate_left
      ·intro w hSw; (try dsimp only at hSw); go_simp; (try with_reducible rfl)
      simp only [ps]
      refine tk 22 36 (v := ?_) rfl (hy := .inl ⟨by rfl, ?_⟩) (h := ?_); rotate_left
      ·intro w hSw; (try dsimp only at hSw); go_simp; (try with_reducible rfl)
      simp only [ps]
      refine tk 23 37 (v := ?_) rfl (hy := .inl ⟨by rfl, ?_⟩) (h := ?_); rotate_left
      ·intro w hSw; (try dsimp only at hSw); go_simp; (try with_reducible rfl)
      simp only [ps]
      refine tk 24 38 (v := ?_) rfl (hy := .inl ⟨by rfl, ?_⟩) (h := ?_); rotate_left
      ·intro w hSw; (try dsimp only at hSw); go_simp; (try with_reducible rfl)
      simp only [ps]
      refine tk 29 43 (v := ?_) rfl (hy := .inl ⟨by rfl, ?_⟩) (h := ?_); rotate_left
      ·intro w hSw; (try dsimp only at hSw); go_simp; (try with_reducible rfl)
      simp only [ps]
      refine tk 30 44 (v := ?_) rfl (hy := .inl ⟨by rfl, ?_⟩) (h := ?_); rotate_left
      ·intro w hSw; (try dsimp only at hSw); go_simp; (try with_reducible rfl)
      simp only [ps]
      refine tk 25 39 (v := ?_) rfl (hy := .inl ⟨by rfl, ?_⟩) (h := ?_); rotate_left
      ·intro w hSw; (try dsimp only at hSw); go_simp; (try with_reducible rfl)
      simp only [ps]
      refine tk 31 45 (v := ?_) rfl (hy := .inl ⟨by rfl, ?_⟩) (h := ?_); rotate_left
      ·intro w hSw; (try dsimp only at hSw); go_simp; (try with_reducible rfl)
      simp only [ps]
      refine tk 26 40 (v := ?_) rfl (hy := .inl ⟨by rfl, ?_⟩) (h := ?_); rotate_left
      ·intro w hSw; (try dsimp only at hSw); go_simp; (try with_reducible rfl)
      simp only [ps]
      refine tk 32 46 (v := ?_) rfl (hy := .inl ⟨by rfl, ?_⟩) (h := ?_); rotate_left
      ·intro w hSw; (try dsimp only at hSw); go_simp; (try with_reducible rfl)
      simp only [ps]
      refine tk 27 41 (v := ?_) rfl (hy := .inl ⟨by rfl, ?_⟩) (h := ?_); rotate_left
      ·intro w hSw; (try dsimp only at hSw); go_simp; (try with_reducible rfl)
      simp only [ps]
      refine tk 33 47 (v := ?_) rfl (hy := .inl ⟨by rfl, ?_⟩) (h := ?_); rotate_left
      ·intro w hSw; (try dsimp only at hSw); go_simp; (try with_reducible rfl)
      simp only [ps]
      refine tk 28 42 (v := ?_) rfl (hy := .inl ⟨by rfl, ?_⟩) (h := ?_); rotate_left
      ·intro w hSw; (try dsimp only at hSw); go_simp; (try with_reducible rfl)
      simp only [ps]
      refine tk 34 48 (v := ?_) rfl (hy := .inl ⟨by rfl, ?_⟩) (h := ?_); rotate_left
      ·intro w hSw; (try dsimp only at hSw); go_simp; (try with_reducible rfl)
      simp only [ps]
      refine tk 35 49 (v := ?_) rfl (hy := .inl ⟨by rfl, ?_⟩) (h := ?_); rotate_left
      ·intro w hSw; (try dsimp only at hSw); go_simp; (try with_reducible rfl)
      simp only [ps]
      refine tk 36 50 (v := ?_) rfl (hy := .inl ⟨by rfl, ?_⟩) (h := ?_); rotate_left
      ·intro w hSw; (try dsimp only at hSw); go_simp; (try with_reducible rfl)
      simp only [ps]
      refine tk 37 51 (v := ?_) rfl (hy := .inl ⟨by rfl, ?_⟩) (h := ?_); rotate_left
      ·intro w hSw; (try dsimp only at hSw); go_simp; (try with_reducible rfl)
      simp only [ps]
      clear hHeld
      refine wpAnyH_done (by kernel_rfl) ?_ _
      refine NoPanic.normal ?_
      obtain ⟨wd3, hwd⟩ : ∃ y, w1.drew = y := ⟨_, rfl⟩
      rw [hwd] at bA ⊢
      clear hwd
      have bb := bA
      have Bwd3 := Bw1.trans (bb.mono Bw1.size)
      have swd3 := bb.size
      clear Bw1
      clear bb bA K
      clear c1 c2 c3
      go_wp2_with fail
      refine (unhide U1 _).mono ?_
      rintro _ w2 ⟨rfl, bb⟩
      have Bw2 := Bwd3.trans (bb.mono Bwd3.size)
      have sw2 := bb.size
      clear Bwd3
      clear bb
      go_wp2_with fail
      refine (unhide U2 _).mono ?_
      rintro _ w3 ⟨rfl, bb⟩
      have Bw3 := Bw2.trans (bb.mono Bw2.size)
      have sw3 := bb.size
      clear Bw2
      clear bb
      go_wp2
      go_ret2
      exact ⟨rfl, Bw3⟩
     ·have n2 : (x2 != x3 + 1) = true := by simp [g2]
      have hb : bb = false := by rw [unhide hB]; simp [g2]
      have hn : nn = ⟨#[]⟩ := by rw [unhide HN, hb]; rfl
      subst hb hn
      clear g2 hB HN
      have K : Hid (∀ w', Below w1.heap.size w1 w' → (fun w' => Below w1.heap.size w1 w' ∧ w'.cell? ⟨g, a1 * 2, none⟩ = some (.int .i64 x1) ∧ w'.cell? ⟨g, a2 * 2, none⟩ = some (.int .i64 x2) ∧ w'.cell? ⟨g, a3 * 2, none⟩ = some (.int .i64 x3)) w') := hide fun w' hb' => ⟨hb', (hb'.cell (p := ⟨g, a1 * 2, none⟩) (cell_lt c1)).trans c1, (hb'.cell (p := ⟨g, a2 * 2, none⟩) (cell_lt c2)).trans c2, (hb'.cell (p := ⟨g, a3 * 2, none⟩) (cell_lt c3)).trans c3⟩
      go_upto_region 3 with fail
      have bA : Below w1.heap.size w1 w1.drew := Below.drew (Below.refl _ _)
      refine wp_region_noPanic ?_
      refine wp_region_held_drew (S := fun w' => Below w1.heap.size w1 w' ∧ w'.cell? ⟨g, a1 * 2, none⟩ = some (.int .i64 x1) ∧ w'.cell? ⟨g, a2 * 2, none⟩ = some (.int .i64 x2) ∧ w'.cell? ⟨g, a3 * 2, none⟩ = some (.int .i64 x3)) (by kernel_rfl) (unhide K _ bA) (fun hHeld => ?_)
      refine tk 0 14 (v := ?_) rfl (hy := .inl ⟨by rfl, ?_⟩) (h := ?_); rotate_left
      ·intro w hSw; (try dsimp only at hSw); go_simp; (try with_reducible rfl)
      simp only [ps]
      refine tk 1 15 (v := ?_) rfl (hy := .inl ⟨by rfl, ?_⟩) (h := ?_); rotate_left
      ·intro w hSw; (try dsimp only at hSw); go_simp; (try with_reducible rfl)
      simp only [ps]
      refine tk 2 16 (v := ?_) rfl (hy := .inl ⟨by rfl, ?_⟩) (h := ?_); rotate_left
      ·intro w hSw; (try dsimp only at hSw); go_simp; (try with_reducible rfl)
      simp only [ps]
      refine tk 3 17 (v := ?_) rfl (hy := .inl ⟨by rfl, ?_⟩) (h := ?_); rotate_left
      ·intro w hSw; (try dsimp only at hSw); go_simp; (try with_reducible rfl)
      simp only [ps]
      refine tk 4 18 (v := ?_) rfl (hy := .inl ⟨by rfl, ?_⟩) (h := ?_); rotate_left
      ·intro w hSw; (try dsimp only at hSw); go_simp; (try with_reducible rfl)
      simp only [ps]
      refine tk 5 19 (v := ?_) rfl (hy := .inl ⟨by rfl, ?_⟩) (h := ?_); rotate_left
      ·intro w hSw; (try dsimp only at hSw); go_simp; (try with_reducible rfl)
      simp only [ps]
      refine tk 6 20 (v := ?_) rfl (hy := .inl ⟨by rfl, ?_⟩) (h := ?_); rotate_left
      ·intro w hSw; (try dsimp only at hSw); go_simp; (try with_reducible rfl)
      simp only [ps]
      refine tk 7 21 (v := ?_) rfl (hy := .inl ⟨by rfl, ?_⟩) (h := ?_); rotate_left
      ·intro w hSw; (try dsimp only at hSw); go_simp; (try with_reducible rfl)
      simp only [ps]
      refine tk 8 22 (v := ?_) rfl (hy := .inl ⟨by rfl, ?_⟩) (h := ?_); rotate_left
      ·intro w hSw; (try dsimp only at hSw); go_simp; (try with_reducible rfl)
      simp only [ps]
      refine tk 13 27 (v := ?_) rfl (hy := .inl ⟨by rfl, ?_⟩) (h := ?_); rotate_left
      ·intro w hSw; (try dsimp only at hSw); go_simp; (try with_reducible rfl)
      simp only [ps]
      refine tk 14 28 (v := ?_) rfl (hy := .inl ⟨by rfl, ?_⟩) (h := ?_); rotate_left
      ·intro w hSw; (try dsimp only at hSw); go_simp; (try with_reducible rfl)
      simp only [ps]
      refine tk 9 23 (v := ?_) rfl (hy := .inl ⟨by rfl, ?_⟩) (h := ?_); rotate_left
      ·intro w hSw; (try dsimp only at hSw); go_simp; (try with_reducible rfl)
      simp only [ps]
      refine tk 15 29 (v := ?_) rfl (hy := .inl ⟨by rfl, ?_⟩) (h := ?_); rotate_left
      ·intro w hSw; (try dsimp only at hSw); go_simp; (try with_reducible rfl)
      simp only [ps]
      refine tk 10 24 (v := ?_) rfl (hy := .inl ⟨by rfl, ?_⟩) (h := ?_); rotate_left
      ·intro w hSw; (try dsimp only at hSw); go_simp; (try with_reducible rfl)
      simp only [ps]
      refine tk 16 30 (v := ?_) rfl (hy := .inl ⟨by rfl, ?_⟩) (h := ?_); rotate_left
      ·intro w hSw; (try dsimp only at hSw); go_simp; (try with_reducible rfl)
      simp only [ps]
      refine tk 11 25 (v := ?_) rfl (hy := .inl ⟨by rfl, ?_⟩) (h := ?_); rotate_left
      ·intro w hSw; (try dsimp only at hSw); go_simp; (try with_reducible rfl)
      simp only [ps]
      refine tk 17 31 (v := ?_) rfl (hy := .inl ⟨by rfl, ?_⟩) (h := ?_); rotate_left
      ·intro w hSw; (try dsimp only at hSw); go_simp; (try with_reducible rfl)
      simp only [ps]
      refine tk 12 26 (v := ?_) rfl (hy := .inl ⟨by rfl, ?_⟩) (h := ?_); rotate_left
      ·intro w hSw; (try dsimp only at hSw); go_simp; (try with_reducible rfl)
      simp only [ps]
      refine tk 18 32 (v := ?_) rfl (hy := .inl ⟨by rfl, ?_⟩) (h := ?_); rotate_left
      ·intro w hSw; (try dsimp only at hSw); go_simp; (try with_reducible rfl)
      simp only [ps]
      refine tk 19 33 (v := ?_) rfl (hy := .inl ⟨by rfl, ?_⟩) (h := ?_); rotate_left
      ·intro w hSw; (try dsimp only at hSw); go_simp; (try with_reducible rfl)
      simp only [ps]
      refine tk 20 34 (v := ?_) rfl (hy := .inl ⟨by rfl, ?_⟩) (h := ?_); rotate_left
      ·intro w hSw; (try dsimp only at hSw); go_simp; (try with_reducible rfl)
      simp only [ps]
      refine tk 21 35 (v := ?_) rfl (hy := .inl ⟨by rfl, ?_⟩) (h := ?_); rotate_left
      ·intro w hSw; (try dsimp only at hSw); go_simp; (try with_reducible rfl)
      simp only [ps]
      refine tk 22 36 (v := ?_) rfl (hy := .inl ⟨by rfl, ?_⟩) (h := ?_); rotate_left
      ·intro w hSw; (try dsimp only at hSw); go_simp; (try with_reducible rfl)
      simp only [ps]
      refine tk 23 37 (v := ?_) rfl (hy := .inl ⟨by rfl, ?_⟩) (h := ?_); rotate_left
      ·intro w hSw; (try dsimp only at hSw); go_simp; (try with_reducible rfl)
      simp only [ps]
      refine tk 24 38 (v := ?_) rfl (hy := .inl ⟨by rfl, ?_⟩) (h := ?_); rotate_left
      ·intro w hSw; (try dsimp only at hSw); go_simp; (try with_reducible rfl)
      simp only [ps]
      refine tk 29 43 (v := ?_) rfl (hy := .inl ⟨by rfl, ?_⟩) (h := ?_); rotate_left
      ·intro w hSw; (try dsimp only at hSw); go_simp; (try with_reducible rfl)
      simp only [ps]
      refine tk 30 44 (v := ?_) rfl (hy := .inl ⟨by rfl, ?_⟩) (h := ?_); rotate_left
      ·intro w hSw; (try dsimp only at hSw); go_simp; (try with_reducible rfl)
      simp only [ps]
      refine tk 25 39 (v := ?_) rfl (hy := .inl ⟨by rfl, ?_⟩) (h := ?_); rotate_left
      ·intro w hSw; (try dsimp only at hSw); go_simp; (try with_reducible rfl)
      simp only [ps]
      refine tk 31 45 (v := ?_) rfl (hy := .inl ⟨by rfl, ?_⟩) (h := ?_); rotate_left
      ·intro w hSw; (try dsimp only at hSw); go_simp; (try with_reducible rfl)
      simp only [ps]
      refine tk 26 40 (v := ?_) rfl (hy := .inl ⟨by rfl, ?_⟩) (h := ?_); rotate_left
      ·intro w hSw; (try dsimp only at hSw); go_simp; (try with_reducible rfl)
      simp only [ps]
      refine tk 32 46 (v := ?_) rfl (hy := .inl ⟨by rfl, ?_⟩) (h := ?_); rotate_left
      ·intro w hSw; (try dsimp only at hSw); go_simp; (try with_reducible rfl)
      simp only [ps]
      refine tk 27 41 (v := ?_) rfl (hy := .inl ⟨by rfl, ?_⟩) (h := ?_); rotate_left
      ·intro w hSw; (try dsimp only at hSw); go_simp; (try with_reducible rfl)
      simp only [ps]
      refine tk 33 47 (v := ?_) rfl (hy := .inl ⟨by rfl, ?_⟩) (h := ?_); rotate_left
      ·intro w hSw; (try dsimp only at hSw); go_simp; (try with_reducible rfl)
      simp only [ps]
      refine tk 28 42 (v := ?_) rfl (hy := .inl ⟨by rfl, ?_⟩) (h := ?_); rotate_left
      ·intro w hSw; (try dsimp only at hSw); go_simp; (try with_reducible rfl)
      simp only [ps]
      refine tk 34 48 (v := ?_) rfl (hy := .inl ⟨by rfl, ?_⟩) (h := ?_); rotate_left
      ·intro w hSw; (try dsimp only at hSw); go_simp; (try with_reducible rfl)
      simp only [ps]
      refine tk 35 49 (v := ?_) rfl (hy := .inl ⟨by rfl, ?_⟩) (h := ?_); rotate_left
      ·intro w hSw; (try dsimp only at hSw); go_simp; (try with_reducible rfl)
      simp only [ps]
      refine tk 36 50 (v := ?_) rfl (hy := .inl ⟨by rfl, ?_⟩) (h := ?_); rotate_left
      ·intro w hSw; (try dsimp only at hSw); go_simp; (try with_reducible rfl)
      simp only [ps]
      refine tk 37 51 (v := ?_) rfl (hy := .inl ⟨by rfl, ?_⟩) (h := ?_); rotate_left
      ·intro w hSw; (try dsimp only at hSw); go_simp; (try with_reducible rfl)
      simp only [ps]
      clear hHeld
      refine wpAnyH_done (by kernel_rfl) ?_ _
      refine NoPanic.normal ?_
      obtain ⟨wd3, hwd⟩ : ∃ y, w1.drew = y := ⟨_, rfl⟩
      rw [hwd] at bA ⊢
      clear hwd
      have bb := bA
      have Bwd3 := Bw1.trans (bb.mono Bw1.size)
      have swd3 := bb.size
      clear Bw1
      clear bb bA K
      go_wp2
      go_ret2
      exact ⟨rfl, Bwd3⟩
    ·have n1 : (x1 != x2 + 1) = true := by simp [g1]
     have hb : bb = false := by rw [unhide hB]; simp [g1]
     have hn : nn = ⟨#[]⟩ := by rw [unhide HN, hb]; rfl
     subst hb hn
     clear g1 hB HN
     have K : Hid (∀ w', Below w1.heap.size w1 w' → (fun w' => Below w1.heap.size w1 w' ∧ w'.cell? ⟨g, a1 * 2, none⟩ = some (.int .i64 x1) ∧ w'.cell? ⟨g, a2 * 2, none⟩ = some (.int .i64 x2) ∧ w'.cell? ⟨g, a3 * 2, none⟩ = some (.int .i64 x3)) w') := hide fun w' hb' => ⟨hb', (hb'.cell (p := ⟨g, a1 * 2, none⟩) (cell_lt c1)).trans c1, (hb'.cell (p := ⟨g, a2 * 2, none⟩) (cell_lt c2)).trans c2, (hb'.cell (p := ⟨g, a3 * 2, none⟩) (cell_lt c3)).trans c3⟩
     go_upto_region 3 with fail
     have bA : Below w1.heap.size w1 w1.drew := Below.drew (Below.refl _ _)
     refine wp_region_noPanic ?_
     refine wp_region_held_drew (S := fun w' => Below w1.heap.size w1 w' ∧ w'.cell? ⟨g, a1 * 2, none⟩ = some (.int .i64 x1) ∧ w'.cell? ⟨g, a2 * 2, none⟩ = some (.int .i64 x2) ∧ w'.cell? ⟨g, a3 * 2, none⟩ = some (.int .i64 x3)) (by kernel_rfl) (unhide K _ bA) (fun hHeld => ?_)
     refine tk 0 14 (v := ?_) rfl (hy := .inl ⟨by rfl, ?_⟩) (h := ?_); rotate_left
     ·intro w hSw; (try dsimp only at hSw); go_simp; (try with_reducible rfl)
     simp only [ps]
     refine tk 1 15 (v := ?_) rfl (hy := .inl ⟨by rfl, ?_⟩) (h := ?_); rotate_left
     ·intro w hSw; (try dsimp only at hSw); go_simp; (try with_reducible rfl)
     simp only [ps]
     refine tk 2 16 (v := ?_) rfl (hy := .inl ⟨by rfl, ?_⟩) (h := ?_); rotate_left
     ·intro w hSw; (try dsimp only at hSw); go_simp; (try with_reducible rfl)
     simp only [ps]
     refine tk 3 17 (v := ?_) rfl (hy := .inl ⟨by rfl, ?_⟩) (h := ?_); rotate_left
     ·intro w hSw; (try dsimp only at hSw); go_simp; (try with_reducible rfl)
     simp only [ps]
     refine tk 4 18 (v := ?_) rfl (hy := .inl ⟨by rfl, ?_⟩) (h := ?_); rotate_left
     ·intro w hSw; (try dsimp only at hSw); go_simp; (try with_reducible rfl)
     simp only [ps]
     refine tk 5 19 (v := ?_) rfl (hy := .inl ⟨by rfl, ?_⟩) (h := ?_); rotate_left
     ·intro w hSw; (try dsimp only at hSw); go_simp; (try with_reducible rfl)
     simp only [ps]
     refine tk 6 20 (v := ?_) rfl (hy := .inl ⟨by rfl, ?_⟩) (h := ?_); rotate_left
     ·intro w hSw; (try dsimp only at hSw); go_simp; (try with_reducible rfl)
     simp only [ps]
     refine tk 7 21 (v := ?_) rfl (hy := .inl ⟨by rfl, ?_⟩) (h := ?_); rotate_left
     ·intro w hSw; (try dsimp only at hSw); go_simp; (try with_reducible rfl)
     simp only [ps]
     refine tk 8 22 (v := ?_) rfl (hy := .inl ⟨by rfl, ?_⟩) (h := ?_); rotate_left
     ·intro w hSw; (try dsimp only at hSw); go_simp; (try with_reducible rfl)
     simp only [ps]
     refine tk 13 27 (v := ?_) rfl (hy := .inl ⟨by rfl, ?_⟩) (h := ?_); rotate_left
     ·intro w hSw; (try dsimp only at hSw); go_simp; (try with_reducible rfl)
     simp only [ps]
     refine tk 14 28 (v := ?_) rfl (hy := .inl ⟨by rfl, ?_⟩) (h := ?_); rotate_left
     ·intro w hSw; (try dsimp only at hSw); go_simp; (try with_reducible rfl)
     simp only [ps]
     refine tk 9 23 (v := ?_) rfl (hy := .inl ⟨by rfl, ?_⟩) (h := ?_); rotate_left
     ·intro w hSw; (try dsimp only at hSw); go_simp; (try with_reducible rfl)
     simp only [ps]
     refine tk 15 29 (v := ?_) rfl (hy := .inl ⟨by rfl, ?_⟩) (h := ?_); rotate_left
     ·intro w hSw; (try dsimp only at hSw); go_simp; (try with_reducible rfl)
     simp only [ps]
     refine tk 10 24 (v := ?_) rfl (hy := .inl ⟨by rfl, ?_⟩) (h := ?_); rotate_left
     ·intro w hSw; (try dsimp only at hSw); go_simp; (try with_reducible rfl)
     simp only [ps]
     refine tk 16 30 (v := ?_) rfl (hy := .inl ⟨by rfl, ?_⟩) (h := ?_); rotate_left
     ·intro w hSw; (try dsimp only at hSw); go_simp; (try with_reducible rfl)
     simp only [ps]
     refine tk 11 25 (v := ?_) rfl (hy := .inl ⟨by rfl, ?_⟩) (h := ?_); rotate_left
     ·intro w hSw; (try dsimp only at hSw); go_simp; (try with_reducible rfl)
     simp only [ps]
     refine tk 17 31 (v := ?_) rfl (hy := .inl ⟨by rfl, ?_⟩) (h := ?_); rotate_left
     ·intro w hSw; (try dsimp only at hSw); go_simp; (try with_reducible rfl)
     simp only [ps]
     refine tk 12 26 (v := ?_) rfl (hy := .inl ⟨by rfl, ?_⟩) (h := ?_); rotate_left
     ·intro w hSw; (try dsimp only at hSw); go_simp; (try with_reducible rfl)
     simp only [ps]
     refine tk 18 32 (v := ?_) rfl (hy := .inl ⟨by rfl, ?_⟩) (h := ?_); rotate_left
     ·intro w hSw; (try dsimp only at hSw); go_simp; (try with_reducible rfl)
     simp only [ps]
     refine tk 19 33 (v := ?_) rfl (hy := .inl ⟨by rfl, ?_⟩) (h := ?_); rotate_left
     ·intro w hSw; (try dsimp only at hSw); go_simp; (try with_reducible rfl)
     simp only [ps]
     refine tk 20 34 (v := ?_) rfl (hy := .inl ⟨by rfl, ?_⟩) (h := ?_); rotate_left
     ·intro w hSw; (try dsimp only at hSw); go_simp; (try with_reducible rfl)
     simp only [ps]
     refine tk 21 35 (v := ?_) rfl (hy := .inl ⟨by rfl, ?_⟩) (h := ?_); rotate_left
     ·intro w hSw; (try dsimp only at hSw); go_simp; (try with_reducible rfl)
     simp only [ps]
     refine tk 22 36 (v := ?_) rfl (hy := .inl ⟨by rfl, ?_⟩) (h := ?_); rotate_left
     ·intro w hSw; (try dsimp only at hSw); go_simp; (try with_reducible rfl)
     simp only [ps]
     refine sk 23 37 rfl (h := ?_)
     simp only [ps]
     refine sk 24 38 rfl (h := ?_)
     simp only [ps]
     refine sk 29 43 rfl (h := ?_)
     simp only [ps]
     refine sk 30 44 rfl (h := ?_)
     simp only [ps]
     refine sk 25 39 rfl (h := ?_)
     simp only [ps]
     refine sk 31 45 rfl (h := ?_)
     simp only [ps]
     refine sk 26 40 rfl (h := ?_)
     simp only [ps]
     refine sk 32 46 rfl (h := ?_)
     simp only [ps]
     refine sk 27 41 rfl (h := ?_)
     simp only [ps]
     refine sk 33 47 rfl (h := ?_)
     simp only [ps]
     refine sk 28 42 rfl (h := ?_)
     simp only [ps]
     refine sk 34 48 rfl (h := ?_)
     simp only [ps]
     refine sk 35 49 rfl (h := ?_)
     simp only [ps]
     refine sk 36 50 rfl (h := ?_)
     simp only [ps]
     refine tk 37 51 (v := ?_) rfl (hy := .inl ⟨by rfl, ?_⟩) (h := ?_); rotate_left
     ·intro w hSw; (try dsimp only at hSw); go_simp; (try with_reducible rfl)
     simp only [ps]
     clear hHeld
     refine wpAnyH_done (by kernel_rfl) ?_ _
     refine NoPanic.normal ?_
     obtain ⟨wd3, hwd⟩ : ∃ y, w1.drew = y := ⟨_, rfl⟩
     rw [hwd] at bA ⊢
     clear hwd
     have bb := bA
     have Bwd3 := Bw1.trans (bb.mono Bw1.size)
     have swd3 := bb.size
     clear Bw1
     clear bb bA K
     go_wp2
     go_ret2
     exact ⟨rfl, Bwd3⟩
end Go.Proofs.YtmpmedbojfjnaaaGreatDoor
