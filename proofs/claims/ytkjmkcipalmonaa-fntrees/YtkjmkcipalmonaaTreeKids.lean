/- TreeKids: replicasOf with each of its two questions; Kids and Under of the program. -/
import Derived.Test.YtkjmkcipalmonaaTreeWay
import Derived.Test.YtkjmkcipalmonaaSetHasImpl
namespace Go.Proofs.Ytkjmkcipalmonaa
open Go.RowKit
set_option linter.unusedSectionVars false
variable [∀ (a b c d : Int), Decidable (Ok4 a b c d)]
variable [∀ (n f : Int), Decidable (COk n f)]

theorem WS.below {w w' : World} {B g : Nat} {n f v x : Int} (h : WS w g n f v x) (hb : Below B w w') (hB : g + 2 < B) : WS w' g n f v x :=
  ⟨h.1.below hb (by omega), h.2.1.below hb (by omega), h.2.2.below hb hB⟩

set_option maxHeartbeats 800000 in
set_option maxRecDepth 100000 in
theorem kidFits (g : Nat) (n f v i k : Int) (w : World) (h : WS w g n f v i) :
    Calls Try.prog 46 #[.int .i64 k, .pointer (some ⟨g, 0, none⟩), .pointer (some ⟨g + 1, 0, none⟩), .pointer (some ⟨g + 2, 0, none⟩)] w fun e w' =>
      e = .returned (.bool (decide (upI n f v k = i))) ∧ Below w.heap.size w w' := by
  have UP := hide fun w => implUp n f v k w
  obtain ⟨y, hy⟩ : ∃ y, upI n f v k = y := ⟨_, rfl⟩
  rw [hy] at UP ⊢
  clear hy
  obtain ⟨L0, L1, L2⟩ := h
  have K : Hid (∀ w', Below w.heap.size w w' → Below w.heap.size w w' ∧ (w'.cell? ⟨g, 0, none⟩ = some (.int .i64 n) ∧ w'.cell? ⟨g, 1, none⟩ = some (.int .i64 f)) ∧ w'.cell? ⟨g + 1, 0, none⟩ = some (.int .i64 v) ∧ w'.cell? ⟨g + 2, 0, none⟩ = some (.int .i64 i)) := hide fun w' hb' =>
    ⟨hb', ⟨(L0.below hb' L0.lt).cell 0 rfl, (L0.below hb' L0.lt).cell 1 rfl⟩, (L1.below hb' L1.lt).cell 0 rfl, (L2.below hb' L2.lt).cell 0 rfl⟩
  have bA : Below w.heap.size w w.drew := Below.drew (Below.refl _ _)
  have hKeep := unhide K _ bA
  clear L0 L1 L2
  go_enter Try.func46, Try.ntmps46
  go_upto_region 1 with fail
  first | go_region_held3 (fun w' => Below w.heap.size w w' ∧ (w'.cell? ⟨g, 0, none⟩ = some (.int .i64 n) ∧ w'.cell? ⟨g, 1, none⟩ = some (.int .i64 f)) ∧ w'.cell? ⟨g + 1, 0, none⟩ = some (.int .i64 v) ∧ w'.cell? ⟨g + 2, 0, none⟩ = some (.int .i64 i)) (exact hKeep) (first
    | (go_at_call 27; have hgo := bA; refine (unhide UP _).mono ?_; rintro e wa ⟨rfl, ba⟩
       have bB : Below w.heap.size w wa := bA.trans (ba.mono bA.size)
       have hKeep := unhide K _ bB; clear bA hgo ba)) | fail
  all_goals
    go_wp2
    go_ret
    exact ⟨rfl, bB⟩

set_option maxHeartbeats 800000 in
set_option maxRecDepth 100000 in
theorem underFits (g : Nat) (n f v i k : Int) (w : World) (h : WS w g n f v i) :
    Calls Try.prog 44 #[.int .i64 k, .pointer (some ⟨g, 0, none⟩), .pointer (some ⟨g + 1, 0, none⟩), .pointer (some ⟨g + 2, 0, none⟩)] w fun e w' =>
      e = .returned (.bool (decide (i ∈ wayI n f v k))) ∧ Below w.heap.size w w' := by
  have WY := hide fun w => implWay n f v k w
  have hlen : (wayI n f v k).length ≤ 7 := way_len n f v 7 k
  generalize wayI n f v k = xs at *
  have SH := hide fun u w h => implSetHas u xs i w h
  generalize decide (i ∈ xs) = q at *
  obtain ⟨L0, L1, L2⟩ := h
  have K : Hid (∀ w', Below w.heap.size w w' → Below w.heap.size w w' ∧ (w'.cell? ⟨g, 0, none⟩ = some (.int .i64 n) ∧ w'.cell? ⟨g, 1, none⟩ = some (.int .i64 f)) ∧ w'.cell? ⟨g + 1, 0, none⟩ = some (.int .i64 v) ∧ w'.cell? ⟨g + 2, 0, none⟩ = some (.int .i64 i)) := hide fun w' hb' =>
    ⟨hb', ⟨(L0.below hb' L0.lt).cell 0 rfl, (L0.below hb' L0.lt).cell 1 rfl⟩, (L1.below hb' L1.lt).cell 0 rfl, (L2.below hb' L2.lt).cell 0 rfl⟩
  have bA : Below w.heap.size w w.drew := Below.drew (Below.refl _ _)
  have hKeep := unhide K _ bA
  clear L0 L1 L2
  go_enter Try.func44, Try.ntmps44
  go_upto_region 1 with fail
  first | go_region_held3 (fun w' => Below w.heap.size w w' ∧ (w'.cell? ⟨g, 0, none⟩ = some (.int .i64 n) ∧ w'.cell? ⟨g, 1, none⟩ = some (.int .i64 f)) ∧ w'.cell? ⟨g + 1, 0, none⟩ = some (.int .i64 v) ∧ w'.cell? ⟨g + 2, 0, none⟩ = some (.int .i64 i)) (exact hKeep) (first
    | (go_at_call 15; have hgo := bA; refine (unhide WY _).mono ?_; rintro e wa ⟨u, rfl, oa, ba⟩
       have bB : Below w.heap.size w wa := bA.trans (ba.mono bA.size)
       have RA := hide (oa.ri (by omega))
       have hKeep := unhide K _ bB; clear bA hgo ba oa)
    | (go_at_call 45; have hgo := bB; refine (unhide SH _ _ (unhide RA)).mono ?_; rintro e wb ⟨rfl, bb⟩
       have bC : Below w.heap.size w wb := bB.trans (bb.mono bB.size)
       have hKeep := unhide K _ bC; clear bB hgo bb)) | fail
  all_goals
    go_wp2
    go_ret
    exact ⟨rfl, bC⟩

set_option maxHeartbeats 1600000 in
set_option maxRecDepth 100000 in
theorem replicasK (g : Nat) (n f v i : Int) (w : World) (h : WS w g n f v i) :
    Calls Try.prog 43 #[cv n f, .int .i64 v, .int .i64 i, .func (.func 46) #[] #[.pointer (some ⟨g, 0, none⟩), .pointer (some ⟨g + 1, 0, none⟩), .pointer (some ⟨g + 2, 0, none⟩)]] w fun e w' =>
      ∃ u, e = .returned u ∧ OI w' w.heap.size u (if HP n f v i then picked (fun k => decide (upI n f v k = i)) n.toNat else []) ∧ Below w.heap.size w w' := by
  have OK := hide fun w => implHas n f v i w
  have FIT := hide fun k w h => kidFits g n f v i k w h
  have L0 := loc_at w #[.int .i64 n, .int .i64 f] 25 rfl
  by_cases hp : HP n f v i
  · rw [hp] at OK
    rw [if_pos hp]
    obtain ⟨hc, _⟩ := hp.of
    have h1 := hc.1.1
    have h2 := hc.1.2
    have hg := h.2.2.lt
    have HW := hide h
    clear hp hc h
    obtain ⟨p, hpd⟩ : ∃ p : Int → Bool, (fun k => decide (upI n f v k = i)) = p := ⟨_, rfl⟩
    have FIT2 : Hid (∀ k w, WS w g n f v i → Calls Try.prog 46 #[.int .i64 k, .pointer (some ⟨g, 0, none⟩), .pointer (some ⟨g + 1, 0, none⟩), .pointer (some ⟨g + 2, 0, none⟩)] w fun e w' => e = .returned (.bool (p k)) ∧ Below w.heap.size w w') := hpd ▸ FIT
    rw [hpd]
    clear hpd FIT
    go_enter Try.func43, Try.ntmps43
    go_wp2_with fail
    refine (unhide OK _).mono ?_
    rintro e w1 ⟨rfl, b1⟩
    have L1 := L0.below b1 L0.lt
    have B1 := (conf_below _ _).trans (b1.mono (by simp))
    have p0 := L1.cell 0 rfl
    have p1 := L1.cell 1 rfl
    clear L0 b1 OK
    go_wp2
    go_loopw [9, 18] (fun a b wr => ∃ (k : Nat) (ao : Option Addr) (ca : Nat), (k : Int) ≤ n ∧ b = .int .i64 k ∧ a = .slice ao (picked p k).length ca ∧ OI wr w1.heap.size (.slice ao (picked p k).length ca) (picked p k) ∧ w1.heap.size ≤ wr.heap.size ∧ Below w.heap.size w wr) (fun _ b _ => n.toNat - (intOf b).toNat)
    case atStart => exact ⟨0, none, 0, by omega, rfl, rfl, World.ownsRow_nil _ _ _ _, Nat.le_refl _, B1⟩
    case round =>
      clear p0 p1 L1
      obtain ⟨k, ao, ca, hk, rfl, rfl, O, sz, B⟩ := hrel
      by_cases hlt : (k : Int) < n
      · have HS := hide (picked_succ p k)
        have hl := picked_len p k
        have WR := (unhide HW).below B hg
        by_cases hq : p k = true
        · have FK := hide ((unhide FIT2) k wr WR)
          rw [hq] at FK HS
          rw [if_pos rfl] at HS
          have Op := hide O
          clear O WR hq
          generalize picked p k = ds at *
          go_wp2_with fail
          refine (unhide FK).mono ?_
          rintro _ w2 ⟨rfl, b2⟩
          have O2 := (unhide Op).below b2
          have B2 := B.trans (b2.mono B.size)
          have s2 := b2.size
          obtain ⟨w3, hw3⟩ : ∃ y, w2.alloc (.cells #[.int .i64 (k : Int)] 3) = y := ⟨_, rfl⟩
          have b3 : Below w2.heap.size w2 w3 := hw3 ▸ (Below.refl _ _).alloc (Nat.le_refl _) _
          have O3 := hide (O2.below b3)
          have B3 := B2.trans (b3.mono B2.size)
          have P3 : Hid (PI w3 (.slice (some ⟨w2.heap.size, 0, none⟩) 1 1) [(k : Int)]) := hide (hw3 ▸ ⟨_, _, rfl, .inr ⟨_, rfl, cell_one_new _ _ _⟩⟩)
          have s3 := b3.size
          clear O2 Op b2 b3 B2 FK FIT2
          go_wp2_with (first
            | (at_builtin; clear hw3; refine append_ints rfl _ _ rfl w1.heap.size (.slice ao ds.length ca) (.slice (some ⟨w2.heap.size, 0, none⟩) 1 1) ds [(k : Int)] rfl rfl (unhide O3) (unhide P3) (by simp; omega) (by omega) ?_; intro v4 w4 ho4 hg4 _
               have l3 := World.ownsRow.lt (unhide O3)
               have B4 := B3.grown hg4 B3.size (fun j e => by have := (l3 j e).1; have := B1.size; omega)
               obtain ⟨a4, c4, hv4⟩ := ho4.form
               rw [← unhide HS] at hv4 ho4
               subst hv4
               have O4 := hide ho4
               have s4 := hg4.size
               clear O3 P3 B3 ho4 hg4 l3))
          go_roundw
          case rel => exact ⟨k + 1, a4, c4, by omega, by go_num, rfl, unhide O4, by omega, B4⟩
          case measure => simp [intOf]; omega
        · have FK := hide ((unhide FIT2) k wr WR)
          have hq' : p k = false := by simpa using hq
          rw [hq'] at FK HS
          rw [if_neg (by simp), List.append_nil] at HS
          have Op := hide O
          clear O WR hq hq' FIT2
          go_wp2_with fail
          refine (unhide FK).mono ?_
          rintro _ w2 ⟨rfl, b2⟩
          have O2 := hide ((unhide Op).below b2)
          have B2 := B.trans (b2.mono B.size)
          have s2 := b2.size
          clear Op b2 FK
          go_wp2
          go_roundw
          case rel => exact ⟨k + 1, ao, ca, by omega, by go_num, by rw [unhide HS], by rw [unhide HS]; exact unhide O2, by omega, B2⟩
          case measure => simp [intOf]; omega
      · have hkn : n.toNat = k := by omega
        have O' : Hid (OI wr w.heap.size (.slice ao (picked p k).length ca) (picked p n.toNat)) := hide (by rw [hkn]; exact OI.mono O B1.size)
        clear O hkn
        go_wp2
        go_ret
        exact ⟨_, rfl, unhide O', B⟩
  · rw [Bool.eq_false_iff.2 hp] at OK
    rw [if_neg hp]
    clear hp h FIT
    go_enter Try.func43, Try.ntmps43
    go_wp2_with fail
    refine (unhide OK _).mono ?_
    rintro e w1 ⟨rfl, b1⟩
    have B1 := (conf_below _ _).trans (b1.mono (by simp))
    clear L0 b1 OK
    go_wp2
    go_ret
    exact ⟨_, rfl, World.ownsRow_nil _ _ _ _, B1⟩

set_option maxHeartbeats 1600000 in
set_option maxRecDepth 100000 in
theorem replicasU (g : Nat) (n f v i : Int) (w : World) (h : WS w g n f v i) :
    Calls Try.prog 43 #[cv n f, .int .i64 v, .int .i64 i, .func (.func 44) #[] #[.pointer (some ⟨g, 0, none⟩), .pointer (some ⟨g + 1, 0, none⟩), .pointer (some ⟨g + 2, 0, none⟩)]] w fun e w' =>
      ∃ u, e = .returned u ∧ OI w' w.heap.size u (if HP n f v i then picked (fun k => decide (i ∈ wayI n f v k)) n.toNat else []) ∧ Below w.heap.size w w' := by
  have OK := hide fun w => implHas n f v i w
  have FIT := hide fun k w h => underFits g n f v i k w h
  have L0 := loc_at w #[.int .i64 n, .int .i64 f] 25 rfl
  by_cases hp : HP n f v i
  · rw [hp] at OK
    rw [if_pos hp]
    obtain ⟨hc, _⟩ := hp.of
    have h1 := hc.1.1
    have h2 := hc.1.2
    have hg := h.2.2.lt
    have HW := hide h
    clear hp hc h
    obtain ⟨p, hpd⟩ : ∃ p : Int → Bool, (fun k => decide (i ∈ wayI n f v k)) = p := ⟨_, rfl⟩
    have FIT2 : Hid (∀ k w, WS w g n f v i → Calls Try.prog 44 #[.int .i64 k, .pointer (some ⟨g, 0, none⟩), .pointer (some ⟨g + 1, 0, none⟩), .pointer (some ⟨g + 2, 0, none⟩)] w fun e w' => e = .returned (.bool (p k)) ∧ Below w.heap.size w w') := hpd ▸ FIT
    rw [hpd]
    clear hpd FIT
    go_enter Try.func43, Try.ntmps43
    go_wp2_with fail
    refine (unhide OK _).mono ?_
    rintro e w1 ⟨rfl, b1⟩
    have L1 := L0.below b1 L0.lt
    have B1 := (conf_below _ _).trans (b1.mono (by simp))
    have p0 := L1.cell 0 rfl
    have p1 := L1.cell 1 rfl
    clear L0 b1 OK
    go_wp2
    go_loopw [9, 18] (fun a b wr => ∃ (k : Nat) (ao : Option Addr) (ca : Nat), (k : Int) ≤ n ∧ b = .int .i64 k ∧ a = .slice ao (picked p k).length ca ∧ OI wr w1.heap.size (.slice ao (picked p k).length ca) (picked p k) ∧ w1.heap.size ≤ wr.heap.size ∧ Below w.heap.size w wr) (fun _ b _ => n.toNat - (intOf b).toNat)
    case atStart => exact ⟨0, none, 0, by omega, rfl, rfl, World.ownsRow_nil _ _ _ _, Nat.le_refl _, B1⟩
    case round =>
      clear p0 p1 L1
      obtain ⟨k, ao, ca, hk, rfl, rfl, O, sz, B⟩ := hrel
      by_cases hlt : (k : Int) < n
      · have HS := hide (picked_succ p k)
        have hl := picked_len p k
        have WR := (unhide HW).below B hg
        by_cases hq : p k = true
        · have FK := hide ((unhide FIT2) k wr WR)
          rw [hq] at FK HS
          rw [if_pos rfl] at HS
          have Op := hide O
          clear O WR hq
          generalize picked p k = ds at *
          go_wp2_with fail
          refine (unhide FK).mono ?_
          rintro _ w2 ⟨rfl, b2⟩
          have O2 := (unhide Op).below b2
          have B2 := B.trans (b2.mono B.size)
          have s2 := b2.size
          obtain ⟨w3, hw3⟩ : ∃ y, w2.alloc (.cells #[.int .i64 (k : Int)] 3) = y := ⟨_, rfl⟩
          have b3 : Below w2.heap.size w2 w3 := hw3 ▸ (Below.refl _ _).alloc (Nat.le_refl _) _
          have O3 := hide (O2.below b3)
          have B3 := B2.trans (b3.mono B2.size)
          have P3 : Hid (PI w3 (.slice (some ⟨w2.heap.size, 0, none⟩) 1 1) [(k : Int)]) := hide (hw3 ▸ ⟨_, _, rfl, .inr ⟨_, rfl, cell_one_new _ _ _⟩⟩)
          have s3 := b3.size
          clear O2 Op b2 b3 B2 FK FIT2
          go_wp2_with (first
            | (at_builtin; clear hw3; refine append_ints rfl _ _ rfl w1.heap.size (.slice ao ds.length ca) (.slice (some ⟨w2.heap.size, 0, none⟩) 1 1) ds [(k : Int)] rfl rfl (unhide O3) (unhide P3) (by simp; omega) (by omega) ?_; intro v4 w4 ho4 hg4 _
               have l3 := World.ownsRow.lt (unhide O3)
               have B4 := B3.grown hg4 B3.size (fun j e => by have := (l3 j e).1; have := B1.size; omega)
               obtain ⟨a4, c4, hv4⟩ := ho4.form
               rw [← unhide HS] at hv4 ho4
               subst hv4
               have O4 := hide ho4
               have s4 := hg4.size
               clear O3 P3 B3 ho4 hg4 l3))
          go_roundw
          case rel => exact ⟨k + 1, a4, c4, by omega, by go_num, rfl, unhide O4, by omega, B4⟩
          case measure => simp [intOf]; omega
        · have FK := hide ((unhide FIT2) k wr WR)
          have hq' : p k = false := by simpa using hq
          rw [hq'] at FK HS
          rw [if_neg (by simp), List.append_nil] at HS
          have Op := hide O
          clear O WR hq hq' FIT2
          go_wp2_with fail
          refine (unhide FK).mono ?_
          rintro _ w2 ⟨rfl, b2⟩
          have O2 := hide ((unhide Op).below b2)
          have B2 := B.trans (b2.mono B.size)
          have s2 := b2.size
          clear Op b2 FK
          go_wp2
          go_roundw
          case rel => exact ⟨k + 1, ao, ca, by omega, by go_num, by rw [unhide HS], by rw [unhide HS]; exact unhide O2, by omega, B2⟩
          case measure => simp [intOf]; omega
      · have hkn : n.toNat = k := by omega
        have O' : Hid (OI wr w.heap.size (.slice ao (picked p k).length ca) (picked p n.toNat)) := hide (by rw [hkn]; exact OI.mono O B1.size)
        clear O hkn
        go_wp2
        go_ret
        exact ⟨_, rfl, unhide O', B⟩
  · rw [Bool.eq_false_iff.2 hp] at OK
    rw [if_neg hp]
    clear hp h FIT
    go_enter Try.func43, Try.ntmps43
    go_wp2_with fail
    refine (unhide OK _).mono ?_
    rintro e w1 ⟨rfl, b1⟩
    have B1 := (conf_below _ _).trans (b1.mono (by simp))
    clear L0 b1 OK
    go_wp2
    go_ret
    exact ⟨_, rfl, World.ownsRow_nil _ _ _ _, B1⟩

set_option maxHeartbeats 800000 in
set_option maxRecDepth 100000 in
theorem implKids (n f v i : Int) (w : World) :
    Calls Try.prog 17 #[cv n f, .int .i64 v, .int .i64 i] w fun e w' => ∃ u, e = .returned u ∧ OI w' w.heap.size u (kidsI n f v i) ∧ Below w.heap.size w w' := by
  have RE : Hid (∀ g w, WS w g n f v i → _) := hide fun g w h => replicasK g n f v i w h
  have HE : (if HP n f v i then _ else []) = kidsI n f v i := rfl
  obtain ⟨wA, hA⟩ : ∃ y, w.alloc (.cells #[.int .i64 n, .int .i64 f] 25) = y := ⟨_, rfl⟩
  obtain ⟨wB, hB⟩ : ∃ y, wA.alloc (.cells #[.int .i64 v] 3) = y := ⟨_, rfl⟩
  obtain ⟨wC, hC⟩ : ∃ y, wB.alloc (.cells #[.int .i64 i] 3) = y := ⟨_, rfl⟩
  have sA : wA.heap.size = w.heap.size + 1 := by rw [← hA]; simp
  have sB : wB.heap.size = w.heap.size + 2 := by rw [← hB]; simp; omega
  have bA : Below w.heap.size w wA := hA ▸ (Below.refl _ _).alloc (Nat.le_refl _) _
  have bB : Below w.heap.size w wB := hB ▸ bA.alloc (by omega) _
  have bC : Below w.heap.size w wC := hC ▸ bB.alloc (by omega) _
  have LA : Loc wA w.heap.size #[.int .i64 n, .int .i64 f] := hA ▸ loc_at w _ _ rfl
  have LC : Loc wC w.heap.size #[.int .i64 n, .int .i64 f] := hC ▸ Loc.alloc (hB ▸ LA.alloc _) _
  have VC : Loc wC (w.heap.size + 1) #[.int .i64 v] := hC ▸ Loc.alloc (hB ▸ loc_at wA _ _ sA) _
  have NC : Loc wC (w.heap.size + 2) #[.int .i64 i] := hC ▸ loc_at wB _ _ sB
  have d0 := LC.cell 0 rfl
  have d1 := LC.cell 1 rfl
  have d2 := VC.cell 0 rfl
  have d3 := NC.cell 0 rfl
  have WC := hide (show WS wC w.heap.size n f v i from ⟨LC, VC, NC⟩)
  clear LA LC VC NC bA bB
  go_enter Try.func17, Try.ntmps17
  go_wp2_with fail
  refine (unhide RE w.heap.size _ (unhide WC)).mono ?_
  rintro _ w1 ⟨u, rfl, o1, b1⟩
  rw [HE] at o1
  have O1 := OI.mono o1 bC.size
  have B1 := bC.trans (b1.mono bC.size)
  clear o1 b1 hA hB hC sA sB d0 d1 d2 d3 WC RE
  go_wp2
  go_ret
  exact ⟨_, rfl, O1, B1⟩

set_option maxHeartbeats 800000 in
set_option maxRecDepth 100000 in
theorem implUnder (n f v i : Int) (w : World) :
    Calls Try.prog 16 #[cv n f, .int .i64 v, .int .i64 i] w fun e w' => ∃ u, e = .returned u ∧ OI w' w.heap.size u (underI n f v i) ∧ Below w.heap.size w w' := by
  have RE : Hid (∀ g w, WS w g n f v i → _) := hide fun g w h => replicasU g n f v i w h
  have HE : (if HP n f v i then _ else []) = underI n f v i := rfl
  obtain ⟨wA, hA⟩ : ∃ y, w.alloc (.cells #[.int .i64 n, .int .i64 f] 25) = y := ⟨_, rfl⟩
  obtain ⟨wB, hB⟩ : ∃ y, wA.alloc (.cells #[.int .i64 v] 3) = y := ⟨_, rfl⟩
  obtain ⟨wC, hC⟩ : ∃ y, wB.alloc (.cells #[.int .i64 i] 3) = y := ⟨_, rfl⟩
  have sA : wA.heap.size = w.heap.size + 1 := by rw [← hA]; simp
  have sB : wB.heap.size = w.heap.size + 2 := by rw [← hB]; simp; omega
  have bA : Below w.heap.size w wA := hA ▸ (Below.refl _ _).alloc (Nat.le_refl _) _
  have bB : Below w.heap.size w wB := hB ▸ bA.alloc (by omega) _
  have bC : Below w.heap.size w wC := hC ▸ bB.alloc (by omega) _
  have LA : Loc wA w.heap.size #[.int .i64 n, .int .i64 f] := hA ▸ loc_at w _ _ rfl
  have LC : Loc wC w.heap.size #[.int .i64 n, .int .i64 f] := hC ▸ Loc.alloc (hB ▸ LA.alloc _) _
  have VC : Loc wC (w.heap.size + 1) #[.int .i64 v] := hC ▸ Loc.alloc (hB ▸ loc_at wA _ _ sA) _
  have NC : Loc wC (w.heap.size + 2) #[.int .i64 i] := hC ▸ loc_at wB _ _ sB
  have d0 := LC.cell 0 rfl
  have d1 := LC.cell 1 rfl
  have d2 := VC.cell 0 rfl
  have d3 := NC.cell 0 rfl
  have WC := hide (show WS wC w.heap.size n f v i from ⟨LC, VC, NC⟩)
  clear LA LC VC NC bA bB
  go_enter Try.func16, Try.ntmps16
  go_wp2_with fail
  refine (unhide RE w.heap.size _ (unhide WC)).mono ?_
  rintro _ w1 ⟨u, rfl, o1, b1⟩
  rw [HE] at o1
  have O1 := OI.mono o1 bC.size
  have B1 := bC.trans (b1.mono bC.size)
  clear o1 b1 hA hB hC sA sB d0 d1 d2 d3 WC RE
  go_wp2
  go_ret
  exact ⟨_, rfl, O1, B1⟩
end Go.Proofs.Ytkjmkcipalmonaa
