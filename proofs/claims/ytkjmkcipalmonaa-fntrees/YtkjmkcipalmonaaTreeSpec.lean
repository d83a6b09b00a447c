/- TreeSpec: Way, Kids, Under of the specification. -/
import Derived.Test.YtkjmkcipalmonaaTreeWay
import Derived.Test.YtkjmkcipalmonaaSpecSets
namespace Go.Proofs.Ytkjmkcipalmonaa
open Go.RowKit
set_option linter.unusedSectionVars false
variable [∀ (a b c d : Int), Decidable (Ok4 a b c d)]
variable [∀ (n f : Int), Decidable (COk n f)]

theorem oi_empty (w : World) : OI (w.alloc (.cells #[] 3)) w.heap.size (.slice (some ⟨w.heap.size, 0, none⟩) 0 0) [] := by
  have := World.ownsRow_lit (base := w.heap.size) (e := 3) (size := 1) w #[] 0 (Nat.le_refl _) (by unfold maxLen; omega) (by simp)
  simpa [OI] using this
theorem picked_none {p : Int → Bool} (h : ∀ x, p x = false) (k : Nat) : picked p k = [] := by
  unfold picked; exact List.filter_eq_nil_iff.2 fun x _ => by rw [h x]; simp
theorem kids_all {n f v i : Int} (hi : 0 ≤ i) : kidsI n f v i = picked (fun k => decide (upI n f v k = i)) n.toNat := by
  unfold kidsI
  by_cases h : HP n f v i
  · rw [if_pos h]
  · rw [if_neg h]
    refine (picked_none (fun k => decide_eq_false fun e => ?_) _).symm
    rcases up_lower n f v k with h1 | ⟨_, h1, _⟩
    · omega
    · rw [e] at h1; exact h h1
theorem kids_none {n f v i : Int} (hi : i < 0) : kidsI n f v i = [] := if_neg fun h => by have := (hp_iff.1 h).2.2.1; omega

set_option maxHeartbeats 1600000 in
set_option maxRecDepth 100000 in
theorem specWay (n f v i : Int) (w : World) :
    Calls Try.prog 20 #[cv n f, .int .i64 v, .int .i64 i] w fun e w' => ∃ u, e = .returned u ∧ OI w' w.heap.size u (wayI n f v i) ∧ Below w.heap.size w w' := by
  have SE := hide fun x w => specSeat n f v x w
  have UP := hide fun x w => specUp n f v x w
  have HX : Hid (wayI n f v i = wayN n f v 7 i ∧ (HP n f v i → seatI n f v i < (7 : Nat))) := hide ⟨rfl, fun h => by have := (seat_range h).2; have := h.of.1.1.2; omega⟩
  generalize wayI n f v i = all at *
  obtain ⟨w0, hw0⟩ : ∃ y, w.alloc (.cells #[.int .i64 n, .int .i64 f] 25) = y := ⟨_, rfl⟩
  have B0 : Below w.heap.size w w0 := hw0 ▸ conf_below _ _
  have L0 : Loc w0 w.heap.size #[.int .i64 n, .int .i64 f] := hw0 ▸ loc_at w _ _ rfl
  obtain ⟨w1, hw1⟩ : ∃ y, w0.alloc (.cells #[] 3) = y := ⟨_, rfl⟩
  have b1 : Below w0.heap.size w0 w1 := hw1 ▸ (Below.refl _ _).alloc (Nat.le_refl _) _
  have O1 := hide (show OI w1 w0.heap.size (.slice (some ⟨w0.heap.size, 0, none⟩) 0 0) [] from hw1 ▸ oi_empty w0)
  go_enter Try.func20, Try.ntmps20
  go_wp2
  go_loopw [2, 7] (fun a b wr => ∃ (k : Nat) (ds : List Int) (x : Int) (ao : Option Addr) (ca : Nat), ds.length ≤ 7 ∧ a = .int .i64 x ∧ b = .slice ao ds.length ca ∧ Hid (all = ds ++ wayN n f v k x ∧ (HP n f v x → seatI n f v x < k) ∧ ds.length + k = 7) ∧ OI wr w0.heap.size (.slice ao ds.length ca) ds ∧ Below w0.heap.size w0 wr) (fun a _ _ => (seatI n f v (intOf a) + 1).toNat)
  case atStart => exact ⟨7, [], i, _, 0, by simp, rfl, rfl, hide ⟨(unhide HX).1, (unhide HX).2, rfl⟩, unhide O1, b1⟩
  case round =>
    obtain ⟨k, ds, x, ao, ca, hds, rfl, rfl, HK, O, b⟩ := hrel
    have SX := hide fun w => (unhide SE) x w
    have L := L0.below b L0.lt
    have p0 := L.cell 0 rfl
    have p1 := L.cell 1 rfl
    clear O1 b1 hw0 hw1 HX
    by_cases hp : HP n f v x
    · have hs := (unhide HK).2.1 hp
      have hs0 := (seat_range hp).1
      have HM := hide (up_shorter hp)
      obtain ⟨m, rfl⟩ : ∃ m, k = m + 1 := ⟨k - 1, by omega⟩
      have HK2 : Hid (all = (ds ++ [x]) ++ wayN n f v m (upI n f v x) ∧ (HP n f v (upI n f v x) → seatI n f v (upI n f v x) < m) ∧ (ds ++ [x]).length + m = 7) := hide (by
        refine ⟨?_, fun hu => ?_, by have := (unhide HK).2.2; simp; omega⟩
        · rw [(unhide HK).1, way_more hp, List.append_assoc]; rfl
        · rcases up_lower n f v x with e | ⟨_, _, e⟩
          · rw [e] at hu; exact absurd hu hp_nobody
          · omega)
      have hlen : ds.length + 1 ≤ 7 := by have := (unhide HK).2.2; omega
      have UX := hide fun w => (unhide UP) x w
      obtain ⟨y, hy⟩ : ∃ y, upI n f v x = y := ⟨_, rfl⟩
      rw [hy] at HK2 HM UX
      have Op := hide O
      clear O HK hy hp hs UP SE
      obtain ⟨s, hse⟩ : ∃ s, seatI n f v x = s := ⟨_, rfl⟩
      rw [hse] at SX hs0
      go_wp2_with fail
      refine (unhide SX _).mono ?_
      rintro _ w2 ⟨rfl, b2⟩
      have O2 := (unhide Op).below b2
      have bb2 := b.trans (b2.mono b.size)
      obtain ⟨w3, hw3⟩ : ∃ y, w2.alloc (.cells #[.int .i64 x] 3) = y := ⟨_, rfl⟩
      have t3 : Below w2.heap.size w2 w3 := hw3 ▸ (Below.refl _ _).alloc (Nat.le_refl _) _
      have O3 := hide (O2.below t3)
      have b3 := bb2.trans (t3.mono bb2.size)
      have P3 : Hid (PI w3 (.slice (some ⟨w2.heap.size, 0, none⟩) 1 1) [x]) := hide (hw3 ▸ ⟨_, _, rfl, .inr ⟨_, rfl, cell_one_new _ _ _⟩⟩)
      have s3 := b3.size
      clear O2 Op b2 t3 bb2 p0 p1 L SX
      go_wp2_with (first
        | (at_builtin; clear hw3; refine append_ints rfl _ _ rfl w0.heap.size (.slice ao ds.length ca) (.slice (some ⟨w2.heap.size, 0, none⟩) 1 1) ds [x] rfl rfl (unhide O3) (unhide P3) (by simp; omega) (by omega) ?_; intro v4 w4 ho4 hg4 _
           have l3 := World.ownsRow.lt (unhide O3)
           have b4 := b3.grown hg4 b3.size (fun j e => (l3 j e).1)
           obtain ⟨a4, c4, hv4⟩ := ho4.form
           rw [List.length_append, List.length_singleton] at hv4
           subst hv4
           have O4 := hide ho4
           have s4 := hg4.size
           have L4 := L0.below b4 L0.lt; have p0 := L4.cell 0 rfl; have p1 := L4.cell 1 rfl; clear O3 P3 b3 ho4 hg4 l3))
      refine (unhide UX _).mono ?_
      rintro _ w5 ⟨rfl, b5⟩
      have O5 : Hid (OI w5 w0.heap.size (.slice a4 (ds ++ [x]).length c4) (ds ++ [x])) := hide (by
        rw [List.length_append, List.length_singleton]
        exact (unhide O4).below b5)
      have bb5 := b4.trans (b5.mono b4.size)
      clear O4 b4 b5 UX p0 p1 L4
      go_wp2
      go_roundw
      case rel => exact ⟨m, ds ++ [x], y, a4, c4, by simp; omega, rfl, by simp, HK2, unhide O5, bb5⟩
      case measure => simpa [intOf] using unhide HM
    · have HF : all = ds := by rw [(unhide HK).1, way_out hp, List.append_nil]
      subst HF
      have O' := hide O
      rw [seat_no hp] at SX
      clear O HK UP SE hp
      go_wp2_with fail
      refine (unhide SX _).mono ?_
      rintro _ w2 ⟨rfl, b2⟩
      have O2 := hide (OI.mono ((unhide O').below b2) B0.size)
      have bb2 := b.trans (b2.mono b.size)
      have B2 := B0.trans (bb2.mono B0.size)
      clear O' b2 bb2 SX p0 p1 L
      go_wp2
      go_ret
      exact ⟨_, rfl, unhide O2, B2⟩

set_option maxHeartbeats 1600000 in
set_option maxRecDepth 100000 in
theorem specKids (n f v i : Int) (w : World) :
    Calls Try.prog 22 #[cv n f, .int .i64 v, .int .i64 i] w fun e w' => ∃ u, e = .returned u ∧ OI w' w.heap.size u (kidsI n f v i) ∧ Below w.heap.size w w' := by
  have OK := hide fun w => specConfOk n f w
  have UP := hide fun k w => specUp n f v k w
  obtain ⟨w0, hw0⟩ : ∃ y, w.alloc (.cells #[.int .i64 n, .int .i64 f] 25) = y := ⟨_, rfl⟩
  have B0 : Below w.heap.size w w0 := hw0 ▸ conf_below _ _
  have L0 : Loc w0 w.heap.size #[.int .i64 n, .int .i64 f] := hw0 ▸ loc_at w _ _ rfl
  obtain ⟨w1, hw1⟩ : ∃ y, w0.alloc (.cells #[] 3) = y := ⟨_, rfl⟩
  have b1 : Below w0.heap.size w0 w1 := hw1 ▸ (Below.refl _ _).alloc (Nat.le_refl _) _
  have O1 := hide (show OI w1 w0.heap.size (.slice (some ⟨w0.heap.size, 0, none⟩) 0 0) [] from hw1 ▸ oi_empty w0)
  have L1 := L0.below b1 L0.lt
  have p0 := L1.cell 0 rfl
  have p1 := L1.cell 1 rfl
  by_cases hc : COk n f
  · have hd : decide (COk n f) = true := by simpa using hc
    rw [hd] at OK
    have h1 := hc.1.1
    have h2 := hc.1.2
    obtain ⟨p, hpd⟩ : ∃ p : Int → Bool, (fun k => decide (upI n f v k = i)) = p := ⟨_, rfl⟩
    have HF : Hid (0 ≤ i → kidsI n f v i = picked p n.toNat) := hpd ▸ (hide fun h => kids_all h)
    have HN : Hid (i < 0 → kidsI n f v i = []) := hide fun h => kids_none (by omega)
    have HD : Hid (∀ k, p k = (fun k => decide (upI n f v k = i)) k) := hide fun k => by rw [hpd]
    generalize kidsI n f v i = all at *
    clear hc hd hpd
    go_enter Try.func22, Try.ntmps22
    go_wp2_with fail
    refine (unhide OK _).mono ?_
    rintro e wc ⟨rfl, bc⟩
    have Oc := (unhide O1).below bc
    have bb := b1.trans (bc.mono b1.size)
    clear L1 p0 p1 O1 bc b1 OK hw0 hw1
    go_wp2
    go_loopw [7, 8] (fun a b wr => ∃ (k : Nat) (ao : Option Addr) (ca : Nat), (k : Int) ≤ n ∧ Hid (i < 0 → k = 0) ∧ b = .int .i64 k ∧ a = .slice ao (picked p k).length ca ∧ OI wr w0.heap.size (.slice ao (picked p k).length ca) (picked p k) ∧ Below w0.heap.size w0 wr) (fun _ b _ => n.toNat - (intOf b).toNat)
    case atStart => exact ⟨0, _, 0, by omega, hide fun _ => rfl, rfl, rfl, Oc, bb⟩
    case round =>
      clear Oc bb
      obtain ⟨k, ao, ca, hk, HZ, rfl, rfl, O, b⟩ := hrel
      have L := L0.below b L0.lt
      have p0 := L.cell 0 rfl
      have p1 := L.cell 1 rfl
      have FINF : Hid (0 ≤ i → n.toNat = k → OI wr w.heap.size (.slice ao (picked p k).length ca) all) := hide fun hg e => by rw [unhide HF hg, e]; exact OI.mono O B0.size
      have FINN : Hid (i < 0 → OI wr w.heap.size (.slice ao (picked p k).length ca) all) := hide fun hg => by
        have e := unhide HZ hg
        subst e
        rw [unhide HN hg]; exact OI.mono O B0.size
      by_cases hlt : (k : Int) < n
      · by_cases hgo : 0 ≤ i
        · have HS := hide (picked_succ p k)
          have hl := picked_len p k
          clear FINF FINN
          have UK := hide fun w => (unhide UP) k w
          have hpk := unhide HD k
          obtain ⟨y, hy⟩ : ∃ y, upI n f v k = y := ⟨_, rfl⟩
          rw [hy] at UK
          have hpk2 : p k = decide (y = i) := by rw [hpk, ← hy]
          clear hy UP HD hpk
          have Op := hide O
          clear O
          by_cases hq : y = i
          · rw [hpk2, decide_eq_true hq] at HS
            rw [if_pos rfl] at HS
            subst hq
            clear hpk2
            generalize picked p k = ds at *
            go_wp2_with fail
            refine (unhide UK _).mono ?_
            rintro _ w2 ⟨rfl, b2⟩
            have O2 := hide ((unhide Op).below b2)
            have bb2 := b.trans (b2.mono b.size)
            clear Op b2 UK p0 p1 L
            obtain ⟨w3, hw3⟩ : ∃ y, w2.alloc (.cells #[.int .i64 (k : Int)] 3) = y := ⟨_, rfl⟩
            have t3 : Below w2.heap.size w2 w3 := hw3 ▸ (Below.refl _ _).alloc (Nat.le_refl _) _
            have O3 := hide ((unhide O2).below t3)
            have b3 := bb2.trans (t3.mono bb2.size)
            have P3 : Hid (PI w3 (.slice (some ⟨w2.heap.size, 0, none⟩) 1 1) [(k : Int)]) := hide (hw3 ▸ ⟨_, _, rfl, .inr ⟨_, rfl, cell_one_new _ _ _⟩⟩)
            have s3 := b3.size
            clear O2 t3 bb2
            go_wp2_with (first
              | (at_builtin; clear hw3; refine append_ints rfl _ _ rfl w0.heap.size (.slice ao ds.length ca) (.slice (some ⟨w2.heap.size, 0, none⟩) 1 1) ds [(k : Int)] rfl rfl (unhide O3) (unhide P3) (by simp; omega) (by omega) ?_; intro v4 w4 ho4 hg4 _
                 have l3 := World.ownsRow.lt (unhide O3)
                 have b4 := b3.grown hg4 b3.size (fun j e => (l3 j e).1)
                 obtain ⟨a4, c4, hv4⟩ := ho4.form
                 rw [← unhide HS] at hv4 ho4
                 subst hv4
                 have O4 := hide ho4
                 have s4 := hg4.size
                 clear O3 P3 b3 ho4 hg4 l3))
            go_roundw
            case rel => exact ⟨k + 1, a4, c4, by omega, hide fun h => by first | omega | exact absurd hgo h, by go_num, rfl, unhide O4, b4⟩
            case measure => simp [intOf]; omega
          · rw [hpk2, decide_eq_false hq] at HS
            rw [if_neg (by simp), List.append_nil] at HS
            clear hpk2
            go_wp2_with fail
            refine (unhide UK _).mono ?_
            rintro _ w2 ⟨rfl, b2⟩
            have O2 := hide ((unhide Op).below b2)
            have bb2 := b.trans (b2.mono b.size)
            clear Op b2 UK p0 p1 L
            go_wp2
            go_roundw
            case rel => exact ⟨k + 1, ao, ca, by omega, hide fun h => by first | omega | exact absurd hgo h, by go_num, by rw [unhide HS], by rw [unhide HS]; exact unhide O2, bb2⟩
            case measure => simp [intOf]; omega
        · have O' := hide ((unhide FINN) (by omega))
          clear O FINF FINN HZ HF HN HD UP
          generalize (picked p k).length = len at *
          have B2 := B0.trans (b.mono B0.size)
          go_wp2
          go_ret
          exact ⟨_, rfl, unhide O', B2⟩
      · have O' : Hid (OI wr w.heap.size (.slice ao (picked p k).length ca) all) := hide (by
          by_cases hgo : 0 ≤ i
          · exact (unhide FINF) hgo (by omega)
          · exact (unhide FINN) (by first | omega | exact hgo))
        clear O FINF FINN HZ HF HN HD UP
        generalize (picked p k).length = len at *
        have B2 := B0.trans (b.mono B0.size)
        go_wp2
        go_ret
        exact ⟨_, rfl, unhide O', B2⟩
  · have hd : decide (COk n f) = false := by simpa using hc
    rw [hd] at OK
    have HE : kidsI n f v i = [] := if_neg fun h => hc (hp_iff.1 h).1
    rw [HE]
    clear hc hd HE
    go_enter Try.func22, Try.ntmps22
    go_wp2_with fail
    refine (unhide OK _).mono ?_
    rintro e wc ⟨rfl, bc⟩
    have Oc := hide (OI.mono ((unhide O1).below bc) B0.size)
    have bb := b1.trans (bc.mono b1.size)
    have B2 := B0.trans (bb.mono B0.size)
    clear L1 p0 p1 O1 bc b1 OK hw0 hw1
    go_wp2
    go_ret
    exact ⟨_, rfl, unhide Oc, B2⟩

set_option maxHeartbeats 1600000 in
set_option maxRecDepth 100000 in
theorem specUnder (n f v i : Int) (w : World) :
    Calls Try.prog 21 #[cv n f, .int .i64 v, .int .i64 i] w fun e w' => ∃ u, e = .returned u ∧ OI w' w.heap.size u (underI n f v i) ∧ Below w.heap.size w w' := by
  have OK := hide fun w => specConfOk n f w
  have WY := hide fun k w => specWay n f v k w
  have SE := hide fun w => specSeat n f v i w
  have SH := hide fun u xs w h => specSetHas u xs i w h
  obtain ⟨w0, hw0⟩ : ∃ y, w.alloc (.cells #[.int .i64 n, .int .i64 f] 25) = y := ⟨_, rfl⟩
  have B0 : Below w.heap.size w w0 := hw0 ▸ conf_below _ _
  have L0 : Loc w0 w.heap.size #[.int .i64 n, .int .i64 f] := hw0 ▸ loc_at w _ _ rfl
  obtain ⟨w1, hw1⟩ : ∃ y, w0.alloc (.cells #[] 3) = y := ⟨_, rfl⟩
  have b1 : Below w0.heap.size w0 w1 := hw1 ▸ (Below.refl _ _).alloc (Nat.le_refl _) _
  have O1 := hide (show OI w1 w0.heap.size (.slice (some ⟨w0.heap.size, 0, none⟩) 0 0) [] from hw1 ▸ oi_empty w0)
  have L1 := L0.below b1 L0.lt
  have p0 := L1.cell 0 rfl
  have p1 := L1.cell 1 rfl
  by_cases hc : COk n f
  · have hd : decide (COk n f) = true := by simpa using hc
    rw [hd] at OK
    have h1 := hc.1.1
    have h2 := hc.1.2
    obtain ⟨p, hpd⟩ : ∃ p : Int → Bool, (fun k => decide (i ∈ wayI n f v k)) = p := ⟨_, rfl⟩
    have HF : Hid (HP n f v i → underI n f v i = picked p n.toNat) := hpd ▸ (hide fun h => if_pos h)
    have HN : Hid (¬ (HP n f v i) → underI n f v i = []) := hide fun h => if_neg h
    have HD : Hid (∀ k, p k = (fun k => decide (i ∈ wayI n f v k)) k) := hide fun k => by rw [hpd]
    generalize underI n f v i = all at *
    clear hc hd hpd
    go_enter Try.func21, Try.ntmps21
    go_wp2_with fail
    refine (unhide OK _).mono ?_
    rintro e wc ⟨rfl, bc⟩
    have Oc := (unhide O1).below bc
    have bb := b1.trans (bc.mono b1.size)
    clear L1 p0 p1 O1 bc b1 OK hw0 hw1
    go_wp2
    go_loopw [7, 8] (fun a b wr => ∃ (k : Nat) (ao : Option Addr) (ca : Nat), (k : Int) ≤ n ∧ Hid (¬ (HP n f v i) → k = 0) ∧ b = .int .i64 k ∧ a = .slice ao (picked p k).length ca ∧ OI wr w0.heap.size (.slice ao (picked p k).length ca) (picked p k) ∧ Below w0.heap.size w0 wr) (fun _ b _ => n.toNat - (intOf b).toNat)
    case atStart => exact ⟨0, _, 0, by omega, hide fun _ => rfl, rfl, rfl, Oc, bb⟩
    case round =>
      clear Oc bb
      obtain ⟨k, ao, ca, hk, HZ, rfl, rfl, O, b⟩ := hrel
      have L := L0.below b L0.lt
      have p0 := L.cell 0 rfl
      have p1 := L.cell 1 rfl
      have FINF : Hid (HP n f v i → n.toNat = k → OI wr w.heap.size (.slice ao (picked p k).length ca) all) := hide fun hg e => by rw [unhide HF hg, e]; exact OI.mono O B0.size
      have FINN : Hid (¬ (HP n f v i) → OI wr w.heap.size (.slice ao (picked p k).length ca) all) := hide fun hg => by
        have e := unhide HZ hg
        subst e
        rw [unhide HN hg]; exact OI.mono O B0.size
      by_cases hlt : (k : Int) < n
      · by_cases hgo : HP n f v i
        · have HS := hide (picked_succ p k)
          have hl := picked_len p k
          clear FINF FINN
          have WK := hide fun w => (unhide WY) k w
          have hwl : (wayI n f v k).length ≤ 7 := way_len n f v 7 k
          have hpk := unhide HD k
          obtain ⟨ws, hws⟩ : ∃ ws, wayI n f v k = ws := ⟨_, rfl⟩
          rw [hws] at WK hwl
          have hpk2 : p k = decide (i ∈ ws) := by rw [hpk, ← hws]
          clear hws WY HD hpk
          have SH := hide fun u w h => (unhide SH) u ws w h
          have hs0 := (seat_range hgo).1
          obtain ⟨s, hse⟩ : ∃ s, seatI n f v i = s := ⟨_, rfl⟩
          rw [hse] at SE hs0
          clear hse
          have Op := hide O
          clear O
          by_cases hq : i ∈ ws
          · rw [decide_eq_true hq] at SH hpk2
            rw [hpk2] at HS
            rw [if_pos rfl] at HS
            clear hpk2 hq
            generalize picked p k = ds at *
            go_wp2_with fail
            refine (unhide SE _).mono ?_
            rintro _ wd ⟨rfl, bd⟩
            have Od := hide ((unhide Op).below bd)
            have bbd := b.trans (bd.mono b.size)
            clear Op bd SE p0 p1 L
            have Ld := L0.below bbd L0.lt
            have p0 := Ld.cell 0 rfl
            have p1 := Ld.cell 1 rfl
            go_wp2_with fail
            refine (unhide WK _).mono ?_
            rintro _ we ⟨u, rfl, oe, be⟩
            have Oe := hide ((unhide Od).below be)
            have bbe := bbd.trans (be.mono bbd.size)
            have RE := hide (oe.ri (by omega))
            clear Od be oe WK p0 p1 Ld bbd
            go_wp2_with fail
            refine (unhide SH _ _ (unhide RE)).mono ?_
            rintro _ w2 ⟨rfl, rfl⟩
            have O2 := Oe
            have bb2 := bbe
            clear Oe bbe SH RE
            obtain ⟨w3, hw3⟩ : ∃ y, w2.alloc (.cells #[.int .i64 (k : Int)] 3) = y := ⟨_, rfl⟩
            have t3 : Below w2.heap.size w2 w3 := hw3 ▸ (Below.refl _ _).alloc (Nat.le_refl _) _
            have O3 := hide ((unhide O2).below t3)
            have b3 := bb2.trans (t3.mono bb2.size)
            have P3 : Hid (PI w3 (.slice (some ⟨w2.heap.size, 0, none⟩) 1 1) [(k : Int)]) := hide (hw3 ▸ ⟨_, _, rfl, .inr ⟨_, rfl, cell_one_new _ _ _⟩⟩)
            have s3 := b3.size
            clear O2 t3 bb2
            go_wp2_with (first
              | (at_builtin; clear hw3; refine append_ints rfl _ _ rfl w0.heap.size (.slice ao ds.length ca) (.slice (some ⟨w2.heap.size, 0, none⟩) 1 1) ds [(k : Int)] rfl rfl (unhide O3) (unhide P3) (by simp; omega) (by omega) ?_; intro v4 w4 ho4 hg4 _
                 have l3 := World.ownsRow.lt (unhide O3)
                 have b4 := b3.grown hg4 b3.size (fun j e => (l3 j e).1)
                 obtain ⟨a4, c4, hv4⟩ := ho4.form
                 rw [← unhide HS] at hv4 ho4
                 subst hv4
                 have O4 := hide ho4
                 have s4 := hg4.size
                 clear O3 P3 b3 ho4 hg4 l3))
            go_roundw
            case rel => exact ⟨k + 1, a4, c4, by omega, hide fun h => by first | omega | exact absurd hgo h, by go_num, rfl, unhide O4, b4⟩
            case measure => simp [intOf]; omega
          · rw [decide_eq_false hq] at SH hpk2
            rw [hpk2] at HS
            rw [if_neg (by simp), List.append_nil] at HS
            clear hpk2 hq
            go_wp2_with fail
            refine (unhide SE _).mono ?_
            rintro _ wd ⟨rfl, bd⟩
            have Od := hide ((unhide Op).below bd)
            have bbd := b.trans (bd.mono b.size)
            clear Op bd SE p0 p1 L
            have Ld := L0.below bbd L0.lt
            have p0 := Ld.cell 0 rfl
            have p1 := Ld.cell 1 rfl
            go_wp2_with fail
            refine (unhide WK _).mono ?_
            rintro _ we ⟨u, rfl, oe, be⟩
            have Oe := hide ((unhide Od).below be)
            have bbe := bbd.trans (be.mono bbd.size)
            have RE := hide (oe.ri (by omega))
            clear Od be oe WK p0 p1 Ld bbd
            go_wp2_with fail
            refine (unhide SH _ _ (unhide RE)).mono ?_
            rintro _ w2 ⟨rfl, rfl⟩
            have O2 := Oe
            have bb2 := bbe
            clear Oe bbe SH RE
            go_wp2
            go_roundw
            case rel => exact ⟨k + 1, ao, ca, by omega, hide fun h => by first | omega | exact absurd hgo h, by go_num, by rw [unhide HS], by rw [unhide HS]; exact unhide O2, bb2⟩
            case measure => simp [intOf]; omega
        · have Op := hide ((unhide FINN) hgo)
          rw [seat_no hgo] at SE
          clear O FINF FINN HZ HF HN HD WY SH
          generalize (picked p k).length = len at *
          go_wp2_with fail
          refine (unhide SE _).mono ?_
          rintro _ w2 ⟨rfl, b2⟩
          have O2 := hide ((unhide Op).below b2)
          have bb2 := b.trans (b2.mono b.size)
          have B2 := B0.trans (bb2.mono B0.size)
          clear Op b2 bb2 SE p0 p1 L
          go_wp2
          go_ret
          exact ⟨_, rfl, unhide O2, B2⟩
      · have O' : Hid (OI wr w.heap.size (.slice ao (picked p k).length ca) all) := hide (by
          by_cases hgo : HP n f v i
          · exact (unhide FINF) hgo (by omega)
          · exact (unhide FINN) (by first | omega | exact hgo))
        clear O FINF FINN HZ HF HN HD WY SH SE
        generalize (picked p k).length = len at *
        have B2 := B0.trans (b.mono B0.size)
        go_wp2
        go_ret
        exact ⟨_, rfl, unhide O', B2⟩
  · have hd : decide (COk n f) = false := by simpa using hc
    rw [hd] at OK
    have HE : underI n f v i = [] := if_neg fun h => hc (hp_iff.1 h).1
    rw [HE]
    clear hc hd HE
    go_enter Try.func21, Try.ntmps21
    go_wp2_with fail
    refine (unhide OK _).mono ?_
    rintro e wc ⟨rfl, bc⟩
    have Oc := hide (OI.mono ((unhide O1).below bc) B0.size)
    have bb := b1.trans (bc.mono b1.size)
    have B2 := B0.trans (bb.mono B0.size)
    clear L1 p0 p1 O1 bc b1 OK hw0 hw1
    go_wp2
    go_ret
    exact ⟨_, rfl, unhide Oc, B2⟩
end Go.Proofs.Ytkjmkcipalmonaa
