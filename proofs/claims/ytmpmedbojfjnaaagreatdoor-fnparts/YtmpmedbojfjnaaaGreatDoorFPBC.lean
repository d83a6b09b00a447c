/- Texts that belong together: PartCmpP, PartCmp0, PartCmp, PartIs, SetMap, PlacesOf. -/
import Derived.Test.YtmpmedbojfjnaaaGreatDoorFPBB
import Derived.Test.YtmpmedbojfjnaaaGreatDoorFPAV
import Derived.Test.YtmpmedbojfjnaaaGreatDoorFPAE
import Derived.Test.YtmpmedbojfjnaaaGreatDoorFPAN
import Derived.Laws.EntriesVeiled
import Derived.Laws.Cover1
import Derived.Deep.RegionHeld3
import Derived.Deep.DeepCutAuto
import Derived.LaidEql
import Derived.RowKitTokens
import Derived.Test.YtmpmedbojfjnaaaGreatDoorFPAD
import Derived.Maps.OwnSet
import Derived.Maps.RangeWalk
namespace Go.Proofs.YtmpmedbojfjnaaaGreatDoor
open Go.RowKit
set_option linter.unusedSectionVars false
variable [∀ (n : Int) (s : List Int), Decidable (OkL n s)]

def cmpS (s t : ByteArray) : Int := if Op.bytesLess s.toList t.toList = true then -1 else if Op.bytesLess t.toList s.toList = true then 1 else 0
def cmpP (a b : Pt) : Int := if cmpI a.1 b.1 ≠ 0 then cmpI a.1 b.1 else cmpS a.2.1 b.2.1
theorem cmpS_lt (s t : ByteArray) : cmpS s t < 0 ↔ Op.bytesLess s.toList t.toList = true := by
 unfold cmpS
 split
 ·simp_all
 ·split <;> simp_all
theorem cmpS_eq (s t : ByteArray) : cmpS s t = 0 ↔ s.toList = t.toList := by
 unfold cmpS
 constructor
 ·intro h
  split at h
  ·simp at h
  ·split at h
   ·simp at h
   ·rename_i h1 h2
    exact Classical.byContradiction fun hn => h2 (less_total (by simpa using h1) hn)
 ·intro h
  rw [h]
  simp [less_irrefl]
theorem cmpS_in (s t : ByteArray) : -1 ≤ cmpS s t ∧ cmpS s t ≤ 1 := by
 unfold cmpS
 repeat' split
 all_goals omega
theorem cmpP_lt (a b : Pt) : cmpP a b < 0 ↔ befP a b = true := by
 have hs := cmpS_lt a.2.1 b.2.1
 unfold cmpP cmpI
 simp only [befP, Bool.or_eq_true, decide_eq_true_eq, Bool.and_eq_true]
 rcases Int.lt_trichotomy a.1 b.1 with h | h | h
 ·simp [h]
 ·simp [h, hs]
 ·have h1 : ¬ a.1 < b.1 := by omega
  have h2 : ¬ a.1 = b.1 := by omega
  simp [h, h1, h2]
theorem cmpP_eq (a b : Pt) : cmpP a b = 0 ↔ samP a b = true := by
 have hs := cmpS_eq a.2.1 b.2.1
 unfold cmpP cmpI
 simp only [samP, decide_eq_true_eq, Bool.and_eq_true, beq_iff_eq]
 rcases Int.lt_trichotomy a.1 b.1 with h | h | h
 ·have h2 : ¬ a.1 = b.1 := by omega
  simp [h, h2]
 ·simp [h, hs]
 ·have h1 : ¬ a.1 < b.1 := by omega
  have h2 : ¬ a.1 = b.1 := by omega
  simp [h, h1, h2]
theorem cmpP_in (a b : Pt) : -1 ≤ cmpP a b ∧ cmpP a b ≤ 1 := by
 have hs := cmpS_in a.2.1 b.2.1
 unfold cmpP cmpI
 repeat' split
 all_goals omega
def putP (p : Pt) : List Pt → List Pt
 | [] => [p]
 | x :: xs => if samP x p = true then joinP x p :: xs else p :: x :: xs
theorem putP_cons (p x : Pt) (xs : List Pt) : putP p (x :: xs) = if samP x p = true then joinP x p :: xs else p :: x :: xs := rfl
def insP (ps : List Pt) (p : Pt) (k : Nat) : List Pt := ps.take k ++ putP p (ps.drop k)
def PlaceP (ps : List Pt) (p : Pt) (k : Nat) : Prop := k ≤ ps.length ∧ (∀ i, k = i + 1 → befP (ps.getD i zpt) p = true) ∧ (k < ps.length → befP (ps.getD k zpt) p = false)
def Bf (a b : Pt) : Prop := befP a b = true
theorem row_pair (ps : List Pt) : rowP ps = true ↔ ps.Pairwise Bf := by
 induction ps with
 | nil => simp [rowP]
 | cons t ts ih =>
  cases ts with
  | nil => simp [rowP]
  | cons u ts =>
   rw [rowP, Bool.and_eq_true, ih]
   constructor
   ·rintro ⟨h1, h2⟩
    refine List.Pairwise.cons ?_ h2
    intro v hv
    rcases List.mem_cons.1 hv with rfl | hv
    ·exact h1
    ·exact bef_trans h1 ((List.pairwise_cons.1 h2).1 v hv)
   ·intro h
    obtain ⟨h1, h2⟩ := List.pairwise_cons.1 h
    exact ⟨h1 u (by simp), h2⟩
theorem put_pair {ps qs : List Pt} {p : Pt} (h : (qs ++ putP p ps).Pairwise Bf) : (qs ++ ps).Pairwise Bf := by
 cases ps with
 | nil =>
  rw [List.append_nil]
  exact (List.pairwise_append.1 h).1
 | cons x xs =>
  rw [putP_cons] at h
  split at h
  ·obtain ⟨h1, h2, h3⟩ := List.pairwise_append.1 h
   obtain ⟨h4, h5⟩ := List.pairwise_cons.1 h2
   refine List.pairwise_append.2 ⟨h1, List.pairwise_cons.2 ⟨fun y hy => h4 y hy, h5⟩, fun a ha b hb => ?_⟩
   rcases List.mem_cons.1 hb with rfl | hb
   ·exact h3 a ha (joinP b p) (by simp)
   ·exact h3 a ha b (by simp [hb])
  ·exact h.sublist (List.sublist_append_right [p] (x :: xs) |>.append_left qs)
theorem ins_pair {ps : List Pt} {p : Pt} {k : Nat} (h : (insP ps p k).Pairwise Bf) : ps.Pairwise Bf := by
 have := put_pair h
 rwa [List.take_append_drop] at this
theorem add_ins (ps : List Pt) (p : Pt) : ∃ k, addP ps p = insP ps p k := by
 induction ps with
 | nil => exact ⟨0, rfl⟩
 | cons x xs ih =>
  unfold addP
  split
  ·obtain ⟨k, hk⟩ := ih
   exact ⟨k + 1, by rw [hk]; simp [insP]⟩
  ·exact ⟨0, by simp [insP, putP]⟩
theorem ins_add {ps : List Pt} {p : Pt} {k : Nat} (hp : ps.Pairwise Bf) (h : PlaceP ps p k) : insP ps p k = addP ps p := by
 induction ps generalizing k with
 | nil =>
  obtain rfl : k = 0 := by have := h.1; simp at this; exact this
  rfl
 | cons x xs ih =>
  obtain ⟨h1, h2, h3⟩ := h
  obtain ⟨p1, p2⟩ := List.pairwise_cons.1 hp
  cases k with
  | zero =>
   have h3 : befP x p = false := by simpa using h3 (by simp)
   simp [insP, putP, addP, h3]
  | succ k =>
   have hk : k ≤ xs.length := by simpa using h1
   have hx : befP x p = true := by
    have := h2 k rfl
    cases k with
    | zero => simpa using this
    | succ j =>
     have hj : j < xs.length := by omega
     have hm : xs.getD j zpt ∈ xs := pt_mem hj
     exact bef_trans (p1 _ hm) (by simpa using this)
   have := ih p2 (k := k) ⟨hk, fun i hi => by have := h2 (i + 1) (by omega); simpa using this, fun hl => by have := h3 (by simpa using hl); simpa using this⟩
   rw [addP, if_pos hx, ← this]
   simp [insP]
theorem ins_mem {ps : List Pt} {p q : Pt} {k : Nat} (h : q ∈ insP ps p k) : q ∈ ps ∨ q = p ∨ ∃ x ∈ ps, samP x p = true ∧ q = joinP x p := by
 unfold insP at h
 rcases List.mem_append.1 h with h | h
 ·exact .inl (List.mem_of_mem_take h)
 ·have hd : ∀ y ∈ ps.drop k, y ∈ ps := fun y hy => List.mem_of_mem_drop hy
  generalize ps.drop k = ds at *
  cases ds with
  | nil => simp [putP] at h; exact .inr (.inl h)
  | cons x xs =>
   rw [putP_cons] at h
   split at h
   ·rename_i hs
    rcases List.mem_cons.1 h with rfl | h
    ·exact .inr (.inr ⟨x, hd x (by simp), hs, rfl⟩)
    ·exact .inl (hd q (by simp [h]))
   ·rcases List.mem_cons.1 h with rfl | h
    ·exact .inr (.inl rfl)
    ·exact .inl (hd q h)

set_option maxHeartbeats 800000 in
set_option maxRecDepth 100000 in
theorem isNaN_i (x : Int) (w : World) : Calls Tryz.prog 151 #[.int .i64 x] w fun e w' => e = .returned (.bool false) ∧ w' = w := by
 go_enter Tryz.func151, Tryz.ntmps151
 go_wp2
 go_ret
 exact ⟨by simp, rfl⟩

set_option maxHeartbeats 1600000 in
set_option maxRecDepth 100000 in
theorem compare_i (x y : Int) (w : World) : Calls Tryz.prog 115 #[.int .i64 x, .int .i64 y] w fun e w' => e = .returned (.int .i64 (cmpI x y)) ∧ w' = w := by
 have NN := hide isNaN_i
 unfold cmpI
 by_cases h1 : x < y
 ·rw [if_pos h1]
  go_enter Tryz.func115, Tryz.ntmps115
  go_wp2_with (first | (go_at_call 151; refine (unhide NN _ _).mono ?_; rintro e w' ⟨rfl, rfl⟩))
  go_ret
  exact ⟨rfl, rfl⟩
 ·rw [if_neg h1]
  by_cases h2 : y < x
  ·rw [if_pos h2]
   go_enter Tryz.func115, Tryz.ntmps115
   go_wp2_with (first | (go_at_call 151; refine (unhide NN _ _).mono ?_; rintro e w' ⟨rfl, rfl⟩))
   go_ret
   exact ⟨rfl, rfl⟩
  ·rw [if_neg h2]
   go_enter Tryz.func115, Tryz.ntmps115
   go_wp2_with (first | (go_at_call 151; refine (unhide NN _ _).mono ?_; rintro e w' ⟨rfl, rfl⟩))
   go_ret
   exact ⟨rfl, rfl⟩

set_option maxHeartbeats 800000 in
set_option maxRecDepth 100000 in
theorem isNaN_s (s : ByteArray) (w : World) : Calls Tryz.prog 165 #[.string s] w fun e w' => e = .returned (.bool false) ∧ w' = w := by
 go_enter Tryz.func165, Tryz.ntmps165
 go_wp2
 go_ret
 exact ⟨by simp, rfl⟩

set_option maxHeartbeats 1600000 in
set_option maxRecDepth 100000 in
theorem compare_s (s t : ByteArray) (w : World) : Calls Tryz.prog 150 #[.string s, .string t] w fun e w' => e = .returned (.int .i64 (cmpS s t)) ∧ w' = w := by
 have NN := hide isNaN_s
 unfold cmpS
 by_cases h1 : Op.bytesLess s.toList t.toList = true
 ·rw [if_pos h1]
  go_enter Tryz.func150, Tryz.ntmps150
  go_wp2_with (first | (go_at_call 165; refine (unhide NN _ _).mono ?_; rintro e w' ⟨rfl, rfl⟩))
  go_ret
  exact ⟨rfl, rfl⟩
 ·rw [if_neg h1]
  have h1 : Op.bytesLess s.toList t.toList = false := by simpa using h1
  by_cases h2 : Op.bytesLess t.toList s.toList = true
  ·rw [if_pos h2]
   have h3 : (s.toList == t.toList) = false := by
    simp only [beq_eq_false_iff_ne]; intro e; rw [e, less_irrefl] at h2; cases h2
   go_enter Tryz.func150, Tryz.ntmps150
   go_wp2_with (first | (go_at_call 165; refine (unhide NN _ _).mono ?_; rintro e w' ⟨rfl, rfl⟩))
   go_ret
   exact ⟨rfl, rfl⟩
  ·rw [if_neg h2]
   have h2 : Op.bytesLess t.toList s.toList = false := by simpa using h2
   have h3 : (s.toList == t.toList) = true := by
    rw [beq_iff_eq]; exact Classical.byContradiction fun e => by have := less_total h1 e; rw [h2] at this; cases this
   go_enter Tryz.func150, Tryz.ntmps150
   go_wp2_with (first | (go_at_call 165; refine (unhide NN _ _).mono ?_; rintro e w' ⟨rfl, rfl⟩))
   go_ret
   exact ⟨rfl, rfl⟩

set_option maxHeartbeats 1600000 in
set_option maxRecDepth 100000 in
theorem or_two (a b : Int) (g : Nat) (w : World) (h0 : w.cell? ⟨g, 0, none⟩ = some (.int .i64 a)) (h1 : w.cell? ⟨g, 1, none⟩ = some (.int .i64 b)) :
 Calls Tryz.prog 149 #[.slice (some ⟨g, 0, none⟩) 2 2] w fun e w' => e = .returned (.int .i64 (if a ≠ 0 then a else b)) ∧ w' = w := by
 by_cases ha : a = 0
 ·have e : (if a ≠ 0 then a else b) = b := by simp [ha]
  rw [e]
  subst ha
  clear e
  by_cases hb : b = 0
  ·subst hb
   go_enter Tryz.func149, Tryz.ntmps149
   go_wp2
   refine wp_loop_rounds 3 ?_
   rw [rounds_succ]
   go_wp2
   rw [rounds_succ]
   go_wp2
   rw [rounds_succ]
   go_wp2
   go_ret
   exact ⟨rfl, rfl⟩
  ·go_enter Tryz.func149, Tryz.ntmps149
   go_wp2
   refine wp_loop_rounds 2 ?_
   rw [rounds_succ]
   go_wp2
   rw [rounds_succ]
   go_wp2
   go_ret
   exact ⟨rfl, rfl⟩
 ·have e : (if a ≠ 0 then a else b) = a := by simp [ha]
  rw [e]
  clear e
  go_enter Tryz.func149, Tryz.ntmps149
  go_wp2
  refine wp_loop_rounds 1 ?_
  rw [rounds_succ]
  go_wp2
  go_ret
  exact ⟨rfl, rfl⟩

theorem compare_i' (x y : Int) (w : World) : Calls Tryz.prog 115 #[.int .i64 x, .int .i64 y] w fun e w' => e = .returned (.int .i64 (cmpI x y)) ∧ Below w.heap.size w w' :=
 (compare_i x y w).mono fun _ _ h => ⟨h.1, h.2 ▸ Below.refl _ _⟩
theorem compare_s' (s t : ByteArray) (w : World) : Calls Tryz.prog 150 #[.string s, .string t] w fun e w' => e = .returned (.int .i64 (cmpS s t)) ∧ Below w.heap.size w w' :=
 (compare_s s t w).mono fun _ _ h => ⟨h.1, h.2 ▸ Below.refl _ _⟩
set_option maxHeartbeats 8000000 in
set_option maxRecDepth 100000 in
theorem compareParts_any (m n : Int) (s t : ByteArray) (u v : Value) (xs ys : List Int) (w : World) :
 Calls Tryz.prog 104 #[qv m s u, qv n t v] w fun e w' => e = .returned (.int .i64 (cmpP (m, s, xs) (n, t, ys))) ∧ Below w.heap.size w w' := by
 have OR : Hid (∀ g w, w.cell? ⟨g, 0, none⟩ = some (.int .i64 (cmpI m n)) → w.cell? ⟨g, 1, none⟩ = some (.int .i64 (cmpS s t)) → Calls Tryz.prog 149 #[.slice (some ⟨g, 0, none⟩) 2 2] w fun e w' => e = .returned (.int .i64 (cmpP (m, s, xs) (n, t, ys))) ∧ Below w.heap.size w w') :=
  hide fun g w h0 h1 => (or_two (cmpI m n) (cmpS s t) g w h0 h1).mono fun _ _ h => ⟨h.1, h.2 ▸ Below.refl _ _⟩
 generalize cmpP (m, s, xs) (n, t, ys) = q at *
 obtain ⟨w0, hw0⟩ : ∃ y, (w.alloc (.cells #[.int .i64 m, .string s, u] 52)).alloc (.cells #[.int .i64 n, .string t, v] 52) = y := ⟨_, rfl⟩
 have Bw0 : Below w.heap.size w w0 := hw0 ▸ qalloc2 _ _ _
 have LX : Loc w0 w.heap.size #[.int .i64 m, .string s, u] := hw0 ▸ (loc_at w _ _ rfl).alloc _
 have LY : Loc w0 (w.heap.size + 1) #[.int .i64 n, .string t, v] := hw0 ▸ loc_at (w.alloc _) _ _ (by simp)
 go_enter Tryz.func104, Tryz.ntmps104
 have K : Hid (∀ w', Below w0.heap.size w0 w' → (fun w' => Below w0.heap.size w0 w' ∧ (w'.cell? ⟨w.heap.size, 0, none⟩ = some (.int .i64 m) ∧ w'.cell? ⟨w.heap.size, 1, none⟩ = some (.string s) ∧ w'.cell? ⟨w.heap.size, 2, none⟩ = some (u)) ∧ (w'.cell? ⟨w.heap.size + 1, 0, none⟩ = some (.int .i64 n) ∧ w'.cell? ⟨w.heap.size + 1, 1, none⟩ = some (.string t) ∧ w'.cell? ⟨w.heap.size + 1, 2, none⟩ = some (v))) w') := hide fun w' hb' => ⟨hb', ⟨(LX.below hb' LX.lt).cell 0 rfl, (LX.below hb' LX.lt).cell 1 rfl, (LX.below hb' LX.lt).cell 2 rfl⟩, ⟨(LY.below hb' LY.lt).cell 0 rfl, (LY.below hb' LY.lt).cell 1 rfl, (LY.below hb' LY.lt).cell 2 rfl⟩⟩
 go_upto_region 1 with fail
 clear hw0
 have bA : Below w0.heap.size w0 w0.drew := Below.drew (Below.refl _ _)
 refine wp_region_noPanic ?_
 refine wp_region_held_drew (S := fun w' => Below w0.heap.size w0 w' ∧ (w'.cell? ⟨w.heap.size, 0, none⟩ = some (.int .i64 m) ∧ w'.cell? ⟨w.heap.size, 1, none⟩ = some (.string s) ∧ w'.cell? ⟨w.heap.size, 2, none⟩ = some (u)) ∧ (w'.cell? ⟨w.heap.size + 1, 0, none⟩ = some (.int .i64 n) ∧ w'.cell? ⟨w.heap.size + 1, 1, none⟩ = some (.string t) ∧ w'.cell? ⟨w.heap.size + 1, 2, none⟩ = some (v))) (by kernel_rfl) (unhide K _ bA) (fun hHeld => ?_)
 refine tk 0 5 (v := ?_) rfl (hy := .inl ⟨by rfl, ?_⟩) (h := ?_); rotate_left
 ·intro w hSw; (try dsimp only at hSw); go_simp; (try with_reducible rfl)
 simp only [pU]
 refine tk 2 7 (v := ?_) rfl (hy := .inl ⟨by rfl, ?_⟩) (h := ?_); rotate_left
 ·intro w hSw; (try dsimp only at hSw); go_simp; (try with_reducible rfl)
 simp only [pU]
 refine tk 5 10 (v := ?_) rfl (hy := .inl ⟨by rfl, ?_⟩) (h := ?_); rotate_left
 ·intro w hSw; (try dsimp only at hSw); go_simp; (try with_reducible rfl)
 simp only [pU]
 refine tk 7 12 (v := ?_) rfl (hy := .inl ⟨by rfl, ?_⟩) (h := ?_); rotate_left
 ·intro w hSw; (try dsimp only at hSw); go_simp; (try with_reducible rfl)
 simp only [pU]
 refine tk 1 6 (v := ?_) rfl (hy := .inl ⟨by rfl, ?_⟩) (h := ?_); rotate_left
 ·intro w hSw; (try dsimp only at hSw); go_simp; (try with_reducible rfl)
 simp only [pU]
 refine tk 3 8 (v := ?_) rfl (hy := .inl ⟨by rfl, ?_⟩) (h := ?_); rotate_left
 ·intro w hSw; (try dsimp only at hSw); go_simp; (try with_reducible rfl)
 simp only [pU]
 refine tk 6 11 (v := ?_) rfl (hy := .inl ⟨by rfl, ?_⟩) (h := ?_); rotate_left
 ·intro w hSw; (try dsimp only at hSw); go_simp; (try with_reducible rfl)
 simp only [pU]
 refine tk 8 13 (v := ?_) rfl (hy := .inl ⟨by rfl, ?_⟩) (h := ?_); rotate_left
 ·intro w hSw; (try dsimp only at hSw); go_simp; (try with_reducible rfl)
 simp only [pU]
 refine ready_at (i := 4) rfl (by kernel_rfl) (fun KK hKK => ?_)
 go_simp
 have hgo := bA
 refine (compare_i' m n _).mono ?_
 rintro e wz1_1 ⟨rfl, bb⟩
 have bz1 : Below w0.heap.size w0 wz1_1 := bA.trans (bb.mono bA.size)
 clear bA hgo bb
 clear hHeld
 refine hKK.out _ _ (unhide K _ bz1) (fun hHeld => ?_)
 clear hKK KK
 refine ready_at (i := 9) rfl (by kernel_rfl) (fun KK hKK => ?_)
 go_simp
 have hgo := bz1
 refine (compare_s' s t _).mono ?_
 rintro e wz1_2 ⟨rfl, bb⟩
 have bz2 : Below w0.heap.size w0 wz1_2 := bz1.trans (bb.mono bz1.size)
 clear bz1 hgo bb
 clear hHeld
 refine hKK.out _ _ (unhide K _ bz2) (fun hHeld => ?_)
 clear hKK KK
 refine ready_at (i := 10) rfl (by kernel_rfl) (fun KK hKK => ?_)
 go_simp
 obtain ⟨wz1_3, hwz1_3⟩ : ∃ x, (wz1_2).alloc (.cells #[.int .i64 (cmpI m n), .int .i64 (cmpS s t)] 3) = x := ⟨_, rfl⟩
 have bz3 : Below w0.heap.size w0 wz1_3 := hwz1_3 ▸ bz2.alloc bz2.size _
 have LE : Loc wz1_3 (wz1_2).heap.size #[.int .i64 (cmpI m n), .int .i64 (cmpS s t)] := hwz1_3 ▸ loc_at (wz1_2) _ _ rfl
 rw [hwz1_3]
 clear bz2 hwz1_3
 clear hHeld
 refine hKK.out _ _ (unhide K _ bz3) (fun hHeld => ?_)
 clear hKK KK
 refine ready_at (i := 11) rfl (by kernel_rfl) (fun KK hKK => ?_)
 go_simp
 have hgo := bz3
 refine (unhide OR _ _ (LE.cell 0 rfl) (LE.cell 1 rfl)).mono ?_
 rintro e wz1_4 ⟨rfl, bb⟩
 have bz4 : Below w0.heap.size w0 wz1_4 := bz3.trans (bb.mono bz3.size)
 replace LE := LE.below bb LE.lt
 clear bz3 hgo bb
 clear hHeld
 refine hKK.out _ _ (unhide K _ bz4) (fun hHeld => ?_)
 clear hKK KK
 refine tk 12 4 (v := ?_) rfl (hy := .inl ⟨by rfl, ?_⟩) (h := ?_); rotate_left
 ·intro w hSw; (try dsimp only at hSw); go_simp; (try with_reducible rfl)
 simp only [pU]
 clear hHeld
 refine wpAnyH_done (by kernel_rfl) ?_ _
 refine NoPanic.normal ?_
 have bb := bz4
 have Bwz1_4 := Bw0.trans (bb.mono Bw0.size)
 have swz1_4 := bb.size
 replace LX := LX.below bb LX.lt
 replace LY := LY.below bb LY.lt
 clear Bw0
 clear bb bz4 K
 go_wp2
 go_ret
 exact ⟨rfl, Bwz1_4⟩
end Go.Proofs.YtmpmedbojfjnaaaGreatDoor
namespace Go.Proofs.YtmpmedbojfjnaaaGreatDoor
open Go.RowKit Go.Extern

theorem Tryz.isTypeOf (v : Value) (w : World) : (Extern.ReflectliteType.typeOf #[.iface 254 v]).run Tryz.prog w = .ok (.iface 185 (.agg #[.pointer (some ⟨8, 254, none⟩)])) w := by kernel_rfl
theorem Tryz.isComparable (w : World) : ((Extern.ReflectliteType.method fun t => do Go.Extern.Rtype.noPackHeld "Comparable" t; pure (.bool (← typeInfo t).comparable)) #[.agg #[.pointer (some ⟨8, 254, none⟩)]]).run Tryz.prog w = .ok (.bool true) w := by kernel_rfl
theorem Tryz.isMethodComparable (v : Value) (w : World) : (Go.method 407 185 v "Comparable").run Tryz.prog w = .ok (260, v) w := by kernel_rfl
theorem Tryz.isComp : (Tryz.prog.info? 254).map (·.comparable) = some true := by kernel_rfl
theorem Tryz.isSize : (Tryz.prog.info? 256).map (·.size) = some 1 := by kernel_rfl

set_option maxHeartbeats 1600000 in
set_option maxRecDepth 100000 in
theorem is_same0 (a : Addr) (w : World) :
 Calls Tryz.prog 142 #[.iface 254 (.pointer (some a)), .iface 254 (.pointer (some a)), .bool true] w fun e w' => e = .returned (.bool true) ∧ w' = w := by
 obtain ⟨i, hi, hcmp⟩ := Option.map_eq_some_iff.1 Tryz.isComp
 obtain ⟨j, hj, hjs⟩ := Option.map_eq_some_iff.1 Tryz.isSize
 have heq := run_eql_iface_ptr_same (P := Tryz.prog) w a Tryz.underlying110 Tryz.underlying254 hi hcmp hj
 go_enter Tryz.func142, Tryz.ntmps142
 go_wp2
 refine wp_loop_rounds 1 ?_
 rw [rounds_succ]
 go_wp2
 go_ret
 exact ⟨rfl, rfl⟩

set_option maxHeartbeats 1600000 in
set_option maxRecDepth 100000 in
theorem is_same (a : Addr) (w : World) :
 Calls Tryz.prog 88 #[.iface 254 (.pointer (some a)), .iface 254 (.pointer (some a))] w fun e w' => e = .returned (.bool true) ∧ w' = w := by
 have h8 := @run_callFunc_extern Tryz.prog 141 _ Extern.ReflectliteType.typeOf Tryz.func141 (by kernel_rfl) (by kernel_rfl) (by kernel_rfl) (by kernel_rfl)
 have h32 := @run_callFunc_extern Tryz.prog 260 _ (Extern.ReflectliteType.method fun t => do Go.Extern.Rtype.noPackHeld "Comparable" t; pure (.bool (← typeInfo t).comparable)) Tryz.func260 (by kernel_rfl) (by kernel_rfl) (by kernel_rfl) (by kernel_rfl)
 have tT := Tryz.isTypeOf
 have cT := Tryz.isComparable
 have mR := Tryz.isMethodComparable
 generalize (Extern.ReflectliteType.method fun t => do Go.Extern.Rtype.noPackHeld "Comparable" t; pure (.bool (← typeInfo t).comparable)) = CE at h32 cT
 have IS := hide (is_same0 a)
 go_enter Tryz.func88, Tryz.ntmps88
 go_wp2_with (first | (go_at_call 142; refine (unhide IS _).mono ?_; rintro e w' ⟨rfl, rfl⟩))
 go_ret
 exact ⟨rfl, rfl⟩

set_option maxHeartbeats 1600000 in
set_option maxRecDepth 100000 in
theorem is_nil (b : Addr) (w : World) :
 Calls Tryz.prog 88 #[.nilIface, .iface 254 (.pointer (some b))] w fun e w' => e = .returned (.bool false) ∧ w' = w := by
 have hn := run_eql_iface_nil_left (P := Tryz.prog) w 254 (.pointer (some b)) Tryz.underlying110
 go_enter Tryz.func88, Tryz.ntmps88
 go_wp2
 go_ret
 exact ⟨rfl, rfl⟩
end Go.Proofs.YtmpmedbojfjnaaaGreatDoor
namespace Go.Proofs.YtmpmedbojfjnaaaGreatDoor
open Go.RowKit

abbrev kl (x : Int) : Lit := .int .i64 x
abbrev nl (x : Int) : DataW Unit := .lit (.int .i64 x)
theorem kl_key (x : Int) : WideAt.IsKeyLit (kl x) := trivial
theorem kl_ne {x y : Int} (h : y ≠ x) : kl y ≠ kl x := fun e => h (by injection e)
theorem kl_same (x y : Int) : (kl y).sameKey (kl x) = decide (y = x) := by
 by_cases h : y = x
 ·subst h; simp [Lit.sameKey]
 ·simp [Lit.sameKey, h]
def Counts (D : DataW Unit) (L : List Int) : Prop :=
 Maps.IsMap D ∧ ∀ x : Int, Maps.has D (kl x) = decide (x ∈ L) ∧ D.atKey (kl x) (nl 0) = nl ((L.count x : Nat) : Int)
theorem Counts.start : Counts (.map []) [] := ⟨Maps.isMap_empty, fun x => ⟨by simp [Maps.has], by simp [DataW.atKey]⟩⟩
theorem Counts.put {D : DataW Unit} {L : List Int} (h : Counts D L) (x : Int) : Counts (D.put (kl x) (nl (((L.count x : Nat) : Int) + 1))) (L ++ [x]) := by
 refine ⟨h.1.put _ _, fun y => ?_⟩
 by_cases hy : y = x
 ·subst hy
  rw [Maps.has_put_same h.1 (kl_key _), Maps.atKey_put_same h.1 (kl_key _)]
  simp [List.count_append]
 ·rw [Maps.has_put_other (kl_ne hy), Maps.atKey_put_other (kl_ne hy), (h.2 y).1, (h.2 y).2]
  have hyx : ¬ x = y := fun e => hy e.symm
  simp [List.count_append, hy, hyx]
theorem Counts.del {D : DataW Unit} {L : List Int} (h : Counts D L) (x : Int) : Counts (D.del (kl x)) (L.filter fun y => decide (y ≠ x)) := by
 refine ⟨h.1.del _, fun y => ?_⟩
 by_cases hy : y = x
 ·subst hy
  rw [Maps.has_del_same, Maps.atKey_del_same]
  have hc : (L.filter fun z => decide (z ≠ y)).count y = 0 := List.count_eq_zero.2 (by simp)
  rw [hc]
  exact ⟨by simp, rfl⟩
 ·rw [Maps.has_del_other (kl_ne hy), Maps.atKey_del_other (kl_ne hy), (h.2 y).1, (h.2 y).2]
  have hc : (L.filter fun z => decide (z ≠ x)).count y = L.count y := List.count_filter (by simpa using hy)
  rw [hc]
  exact ⟨by simp [hy], rfl⟩
def loneL (a b : List Int) : List Int := a.filter fun x => decide (x ∉ b)
theorem lone_nil (a : List Int) : loneL a [] = a := by unfold loneL; simp
theorem lone_snoc (a b : List Int) (x : Int) : (loneL a b).filter (fun y => decide (y ≠ x)) = loneL a (b ++ [x]) := by
 unfold loneL
 rw [List.filter_filter]
 congr 1
 funext y
 by_cases h1 : y ∈ b <;> by_cases h2 : y = x <;> simp [h1, h2]
theorem lone_len (a b : List Int) : (a.length : Int) - ((loneL a b).length : Int) = (comL a b : Int) := by
 have := com_split a b
 unfold loneL
 omega
def cameL (L : List Int) (left : Lit → Bool) : Nat := (L.filter fun y => !left (kl y)).length
theorem came_start {D : DataW Unit} {L : List Int} (h : Counts D L) : cameL L (Maps.has D) = 0 := by
 unfold cameL
 rw [List.length_eq_zero_iff, List.filter_eq_nil_iff]
 intro y hy
 simp [(h.2 y).1, hy]
theorem came_step (L : List Int) (left : Lit → Bool) (x : Int) (hx : left (kl x) = true) : cameL L (fun z => left z && !z.sameKey (kl x)) = cameL L left + L.count x := by
 unfold cameL
 induction L with
 | nil => rfl
 | cons c L ih =>
  rw [List.filter_cons, List.filter_cons, List.count_cons]
  by_cases hc : c = x
  ·subst hc
   simp only [kl_same, hx, beq_self_eq_true]
   simp
   simp [kl_same] at ih
   omega
  ·simp only [kl_same, decide_eq_false hc, Bool.not_false, Bool.and_true]
   have : (c == x) = false := by simpa using hc
   simp only [this]
   simp only [kl_same] at ih
   split <;> simp_all <;> omega
theorem came_end (L : List Int) (left : Lit → Bool) (h : ∀ z, left z = false) : cameL L left = L.length := by
 unfold cameL
 simp [h]
theorem came_le (L : List Int) (left : Lit → Bool) : cameL L left ≤ L.length := List.length_filter_le _ _
theorem Counts.count {D : DataW Unit} {L : List Int} (h : Counts D L) {x c : Int} (hat : ∀ zd, D.atKey (kl x) zd = nl c) : c = ((L.count x : Nat) : Int) := by
 have := (h.2 x).2
 rw [hat] at this
 simpa using this
def Coll (D : DataW Unit) (left : Lit → Bool) (ss : List Int) : Prop := ss.Nodup ∧ ∀ x, x ∈ ss ↔ (Maps.has D (kl x) = true ∧ left (kl x) = false)
theorem Coll.start (D : DataW Unit) : Coll D (Maps.has D) [] := ⟨List.nodup_nil, fun x => by cases Maps.has D (kl x) <;> simp⟩
theorem Coll.step {D : DataW Unit} {left : Lit → Bool} {ss : List Int} (h : Coll D left ss) {x c : Int} (hlk : left (kl x) = true) (hat : ∀ zd, D.atKey (kl x) zd = nl c) : Coll D (fun z => left z && !z.sameKey (kl x)) (ss ++ [x]) := by
 have hhas : Maps.has D (kl x) = true := Maps.has_true_of_atKey hat
 have hnew : x ∉ ss := fun hx => by have := ((h.2 x).1 hx).2; rw [hlk] at this; cases this
 refine ⟨List.nodup_append.2 ⟨h.1, by simp, fun a ha b hb => by simp at hb; subst hb; exact fun e => hnew (e ▸ ha)⟩, fun y => ?_⟩
 by_cases hy : y = x
 ·subst hy; simp [hhas, kl_same]
 ·simp [h.2 y, hy, kl_same]
theorem sorted_asc {ss : List Int} (h : ss.Nodup) : (ss.mergeSort fun x y => decide (x ≤ y)).Pairwise (· < ·) := by
 have p1 : (ss.mergeSort fun x y => decide (x ≤ y)).Pairwise (fun x y => decide (x ≤ y) = true) := List.pairwise_mergeSort (fun a b c h1 h2 => by simp at *; omega) (fun a b => by simp; omega) ss
 have p2 : (ss.mergeSort fun x y => decide (x ≤ y)).Nodup := ((List.mergeSort_perm ss _).nodup_iff).2 h
 have := List.Pairwise.and p1 p2
 exact this.imp fun {a b} hh => by
  have h1 := hh.1
  have h2 := hh.2
  simp at h1
  omega
theorem Coll.joined {D : DataW Unit} {left : Lit → Bool} {ss a b : List Int} (h : Coll D left ss) (hc : Counts D (a ++ b)) (hl : ∀ z, left z = false) : (ss.mergeSort fun x y => decide (x ≤ y)) = joinL a b := by
 refine join_is (sorted_asc h.1) fun x => ?_
 rw [(List.mergeSort_perm ss _).mem_iff, h.2 x, (hc.2 x).1, hl]
 simp

theorem klaw : Maps.Keyed Tryz.prog 3 := Maps.int_keyed Tryz.underlying3
theorem kzero (w : World) : (zeroValue 3).run Tryz.prog w = .ok (.int .i64 0) w := by kernel_rfl
def MC (w : World) (b : Nat) (L : List Int) : Prop := ∃ D, w.ownsMap Tryz.prog 3 (plainElem (H := Unit) Tryz.prog 3) b L.length D ∧ Counts D L
theorem MC.kept {w w' : World} {b : Nat} {row : Option Nat} {L : List Int} (h : MC w b L) (hg : w.grownBy w' row) (hne : some b ≠ row) : MC w' b L := by
 obtain ⟨D, h1, h2⟩ := h; exact ⟨D, h1.kept hg hne, h2⟩
def catL (ls : Nat → List Int) : Nat → List Int
 | 0 => []
 | k + 1 => catL ls k ++ ls k
theorem cat_le (ls : Nat → List Int) {k n : Nat} (h : k ≤ n) : (catL ls k).length ≤ (catL ls n).length := by
 induction n with
 | zero => obtain rfl : k = 0 := by omega
           exact Nat.le_refl _
 | succ n ih =>
  by_cases e : k = n + 1
  ·subst e; exact Nat.le_refl _
  ·have := ih (by omega)
   show _ ≤ (catL ls n ++ ls n).length
   rw [List.length_append]; omega
theorem cat_step (ls : Nat → List Int) {k n : Nat} (h : k < n) : (catL ls k).length + (ls k).length ≤ (catL ls n).length := by
 have := cat_le ls (show k + 1 ≤ n from h)
 have e : (catL ls (k + 1)).length = (catL ls k).length + (ls k).length := by show (catL ls k ++ ls k).length = _; rw [List.length_append]
 omega

set_option maxHeartbeats 4000000 in
set_option maxRecDepth 100000 in
theorem placesOf_any (g n : Nat) (vs : Nat → Value) (ls : Nat → List Int) (w : World) (hc : ∀ k, k < n → w.cell? ⟨g, k, none⟩ = some (vs k)) (hr : ∀ k, k < n → RI w (vs k) (ls k)) (hw : ∀ k, k < n → WfL (ls k)) (hn : n ≤ 4) (hl : (catL ls n).length ≤ 8388608) :
 Calls Tryz.prog 117 #[.slice (some ⟨g, 0, none⟩) n n] w fun e w' => e = .returned (.map (some w.heap.size)) ∧ MC w' w.heap.size (catL ls n) ∧ Below w.heap.size w w' := by
 have hmm := @run_makeMap Tryz.prog
 have HC := hide hc
 have HR := hide hr
 have HW := hide hw
 have M0 : MC (w.alloc (.map #[] 0)) w.heap.size [] := ⟨_, World.ownsMap_made _ _ _ _, Counts.start⟩
 have B0 : Below w.heap.size w (w.alloc (.map #[] 0)) := (Below.refl _ _).alloc (Nat.le_refl _) _
 clear hc hr hw
 go_enter Tryz.func117, Tryz.ntmps117
 go_wp2
 go_loopw [11] (fun j wr => ∃ k : Nat, k ≤ n ∧ j = .int .i64 k ∧ MC wr w.heap.size (catL ls k) ∧ Below w.heap.size w wr) (fun j _ => n - (intOf j).toNat)
 case atStart => exact ⟨0, Nat.zero_le _, rfl, M0, B0⟩
 case round =>
  clear M0 B0
  obtain ⟨k, hk, rfl, M, br⟩ := hrel
  by_cases hlt : k < n
  ·have cg := unhide HC k hlt
   have HV := hide (unhide HR k hlt)
   have HX := hide (unhide HW k hlt)
   have hst := cat_step ls hlt
   have cgr := br.cell (p := ⟨g, k, none⟩) (cell_lt cg)
   rw [cg] at cgr
   have HE : Hid (catL ls (k + 1) = catL ls k ++ ls k) := hide rfl
   obtain ⟨ao, ca, hv⟩ := (unhide HV).form
   rw [hv] at cgr HV
   clear cg hv
   generalize catL ls k = L0 at *
   generalize ls k = xs at *
   have HM := hide M
   have HB := hide br
   obtain ⟨m, hm⟩ : ∃ m, xs.length = m := ⟨_, rfl⟩
   have Hm := hide hm
   rw [hm] at HV hst cgr
   clear hm M
   go_wp2
   go_loopw [17] (fun j wq => ∃ q : Nat, q ≤ m ∧ j = .int .i64 q ∧ MC wq w.heap.size (L0 ++ xs.take q) ∧ Below w.heap.size w wq) (fun j _ => m - (intOf j).toNat)
   case atStart => exact ⟨0, Nat.zero_le _, rfl, by simpa using unhide HM, unhide HB⟩
   case round =>
    clear HM br cgr
    obtain ⟨q, hq, rfl, M, bq⟩ := hrel
    by_cases hlt2 : q < m
    ·have hqx : q < xs.length := by have := unhide Hm; omega
     obtain ⟨b, off, rfl, c⟩ := ((unhide HV).below bq (Nat.le_refl _)).at q hqx
     have hkey : keyOf Tryz.prog 3 (.int .i64 (xs.getD q 0)) = some (.int .i64 (xs.getD q 0)) := Maps.keyOf_int_mk Tryz.underlying3 ((unhide HX).at q hqx)
     have HT := hide (show L0 ++ xs.take (q + 1) = (L0 ++ xs.take q) ++ [xs.getD q 0] by rw [itake_more xs q hqx, List.append_assoc])
     have hql : (L0 ++ xs.take q).length ≤ 8388607 := by rw [List.length_append, List.length_take]; have := unhide Hm; omega
     generalize xs.getD q 0 = x at *
     generalize L0 ++ xs.take q = L at *
     obtain ⟨D, hown, hcnt⟩ := M
     have CN := hide hcnt
     clear hcnt
     go_wp2_with (first
      | (at_lookup; refine wpList_lookup_own_int _ rfl _ _ 136 rfl 3 3 .i64 klaw Tryz.underlying136 Tryz.underlying3 (kzero _) w.heap.size L.length D rfl hown _ _ rfl hkey ?_; intro c hat hwc)
      | (at_mapUpdate; refine wpList_mapUpdate_own _ rfl _ _ _ 136 rfl 3 3 klaw Tryz.underlying136 _ w.heap.size L.length D rfl hown (by unfold maxLen; omega) _ _ _ rfl rfl hkey _ [] (plainElem_int Tryz.underlying3 (wrap64_wf _)) ?_; intro w1 hown1 hgrow1)
      | go_in)
     have hcl : L.count x ≤ L.length := List.count_le_length
     have hce : c = ((L.count x : Nat) : Int) := by have := (unhide CN).2 x; have h2 := this.2.symm.trans hat; simpa using h2.symm
     have hwr : wrap64 (c + 1) = ((L.count x : Nat) : Int) + 1 := by unfold wrap64; omega
     have M1 : MC w1 w.heap.size (L ++ [x]) := ⟨_, by rw [List.length_append, List.length_singleton]; exact hwr ▸ hown1, (unhide CN).put x⟩
     have BQ := bq.grown hgrow1 bq.size (fun j hj => by cases hj; exact Nat.le_refl _)
     clear hown1 hgrow1 hown
     go_roundw
     case rel => exact ⟨q + 1, by omega, by go_num, by rw [unhide HT]; exact M1, BQ⟩
     case measure => simp [intOf]; omega
    ·have hqm : q = xs.length := by have := unhide Hm; omega
     have M1 : MC wr w.heap.size (catL ls (k + 1)) := by rw [unhide HE]; rw [hqm, List.take_length] at M; exact M
     have hd2 : decide ((q : Int) < (m : Int)) = false := by simp; omega
     clear M hqm
     go_wp2
     go_roundw
     case rel => exact ⟨k + 1, by omega, by go_num, M1, bq⟩
     case measure => simp [intOf]; omega
  ·have hkn : k = n := by omega
   rw [hkn] at M
   have hd2 : decide ((k : Int) < (n : Int)) = false := by simp; omega
   clear hkn
   go_wp2
   go_ret
   exact ⟨rfl, M, br⟩
end Go.Proofs.YtmpmedbojfjnaaaGreatDoor
