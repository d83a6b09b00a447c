/- TreeWay: wayUp and the function that it hands back; Way. -/
import Derived.Test.YtkjmkcipalmonaaTreeSeat
import Derived.Test.YtkjmkcipalmonaaIntPieces
namespace Go.Proofs.Ytkjmkcipalmonaa
open Go.RowKit
set_option linter.unusedSectionVars false
variable [∀ (a b c d : Int), Decidable (Ok4 a b c d)]
variable [∀ (n f : Int), Decidable (COk n f)]

/-- Where the way up stands: the blocks g, g + 1, g + 2 hold the Conf, the view and who is next. -/
def WS (w : World) (g : Nat) (n f v x : Int) : Prop :=
  Loc w g #[.int .i64 n, .int .i64 f] ∧ Loc w (g + 1) #[.int .i64 v] ∧ Loc w (g + 2) #[.int .i64 x]
/-- What wayUp hands back. -/
abbrev wayF (g : Nat) : Value := .func (.func 61) #[] #[.pointer (some ⟨g + 2, 0, none⟩), .pointer (some ⟨g, 0, none⟩), .pointer (some ⟨g + 1, 0, none⟩)]

set_option maxHeartbeats 800000 in
set_option maxRecDepth 100000 in
theorem wayNext (g : Nat) (n f v x : Int) (w : World) (h : WS w g n f v x) :
    Calls Try.prog 61 #[.pointer (some ⟨g + 2, 0, none⟩), .pointer (some ⟨g, 0, none⟩), .pointer (some ⟨g + 1, 0, none⟩)] w fun e w' =>
      e = .returned (.int .i64 x) ∧ WS w' g n f v (upI n f v x) ∧ Kp w w' (fun k => k = g + 2) := by
  have UP := hide fun w => implUp n f v x w
  obtain ⟨y, hy⟩ : ∃ y, upI n f v x = y := ⟨_, rfl⟩
  rw [hy] at UP ⊢
  clear hy
  obtain ⟨L0, L1, L2⟩ := h
  have p0 := L0.cell 0 rfl
  have p1 := L0.cell 1 rfl
  have p2 := L1.cell 0 rfl
  have p3 := L2.cell 0 rfl
  go_enter Try.func61, Try.ntmps61
  go_wp2_with fail
  refine (unhide UP _).mono ?_
  rintro e w1 ⟨rfl, b1⟩
  have M0 := L0.below b1 L0.lt
  have M1 := L1.below b1 L1.lt
  have M2 := L2.below b1 L2.lt
  have q3 := M2.cell 0 rfl
  have fr := M2.frozen 0
  have N0 := hide (M0.other (p := ⟨g + 2, 0, none⟩) (by show g ≠ g + 2; omega) (.int .i64 y))
  have N1 := hide (M1.other (p := ⟨g + 2, 0, none⟩) (by show g + 1 ≠ g + 2; omega) (.int .i64 y))
  have N2 := hide (M2.set 0 (.int .i64 y) (cs' := #[.int .i64 y]) rfl)
  have K := hide ((Below.kpOf b1 (fun k => k = g + 2)).trans (set_kp w1 (g + 2) 0 (.int .i64 y)))
  clear L0 L1 L2 M0 M1 M2 b1 p0 p1 p2 p3
  go_wp2
  go_ret
  exact ⟨rfl, ⟨unhide N0, unhide N1, unhide N2⟩, unhide K⟩

set_option maxHeartbeats 800000 in
set_option maxRecDepth 100000 in
theorem implWayUp (n f v i : Int) (w : World) :
    Calls Try.prog 42 #[cv n f, .int .i64 v, .int .i64 i] w fun e w' =>
      e = .returned (wayF w.heap.size) ∧ WS w' w.heap.size n f v (if HP n f v i then i else -1) ∧ Below w.heap.size w w' := by
  have OK := hide fun w => implHas n f v i w
  obtain ⟨wA, hA⟩ : ∃ y, w.alloc (.cells #[.int .i64 n, .int .i64 f] 25) = y := ⟨_, rfl⟩
  obtain ⟨wB, hB⟩ : ∃ y, wA.alloc (.cells #[.int .i64 v] 3) = y := ⟨_, rfl⟩
  obtain ⟨wC, hC⟩ : ∃ y, wB.alloc (.cells #[.int .i64 0] 3) = y := ⟨_, rfl⟩
  have sA : wA.heap.size = w.heap.size + 1 := by rw [← hA]; simp
  have sB : wB.heap.size = w.heap.size + 2 := by rw [← hB]; simp; omega
  have sC : wC.heap.size = w.heap.size + 3 := by rw [← hC]; simp; omega
  have bA : Below w.heap.size w wA := hA ▸ (Below.refl _ _).alloc (Nat.le_refl _) _
  have bB : Below w.heap.size w wB := hB ▸ bA.alloc (by omega) _
  have bC : Below w.heap.size w wC := hC ▸ bB.alloc (by omega) _
  have LA : Loc wA w.heap.size #[.int .i64 n, .int .i64 f] := hA ▸ loc_at w _ _ rfl
  have LB : Loc wC w.heap.size #[.int .i64 n, .int .i64 f] := hC ▸ Loc.alloc (hB ▸ LA.alloc _) _
  have VB : Loc wC (w.heap.size + 1) #[.int .i64 v] := hC ▸ Loc.alloc (hB ▸ loc_at wA _ _ sA) _
  have NC : Loc wC (w.heap.size + 2) #[.int .i64 0] := hC ▸ loc_at wB _ _ sB
  obtain ⟨wD, hD⟩ : ∃ y, wC.setCell ⟨w.heap.size + 2, 0, none⟩ (.int .i64 i) = y := ⟨_, rfl⟩
  have bD : Below w.heap.size w wD := hD ▸ bC.setCell (by show w.heap.size ≤ w.heap.size + 2; omega) _
  have LD : Loc wD w.heap.size #[.int .i64 n, .int .i64 f] := hD ▸ LB.other (p := ⟨w.heap.size + 2, 0, none⟩) (by show w.heap.size ≠ w.heap.size + 2; omega) _
  have VD : Loc wD (w.heap.size + 1) #[.int .i64 v] := hD ▸ VB.other (p := ⟨w.heap.size + 2, 0, none⟩) (by show w.heap.size + 1 ≠ w.heap.size + 2; omega) _
  have ND : Loc wD (w.heap.size + 2) #[.int .i64 i] := hD ▸ NC.set 0 (.int .i64 i) (cs' := #[.int .i64 i]) rfl
  have c0 := NC.cell 0 rfl
  have f0 := NC.frozen 0
  have d0 := LD.cell 0 rfl
  have d1 := LD.cell 1 rfl
  have d2 := VD.cell 0 rfl
  clear LA LB VB NC bA bB bC
  by_cases h : HP n f v i
  · rw [h] at OK
    rw [if_pos h]
    clear h
    go_enter Try.func42, Try.ntmps42
    go_wp2_with fail
    refine (unhide OK _).mono ?_
    rintro e w1 ⟨rfl, b1⟩
    have B1 := bD.trans (b1.mono (by rw [← hD]; simp; omega))
    have L1 := LD.below b1 LD.lt
    have V1 := VD.below b1 VD.lt
    have N1 := ND.below b1 ND.lt
    clear LD VD ND bD b1 hA hB hC hD sA sB sC c0 f0 d0 d1 d2
    go_wp2
    go_ret
    exact ⟨rfl, ⟨L1, V1, N1⟩, B1⟩
  · rw [Bool.eq_false_iff.2 h] at OK
    rw [if_neg h]
    clear h
    go_enter Try.func42, Try.ntmps42
    go_wp2_with fail
    refine (unhide OK _).mono ?_
    rintro e w1 ⟨rfl, b1⟩
    have B1 := bD.trans (b1.mono (by rw [← hD]; simp; omega))
    have L1 := LD.below b1 LD.lt
    have V1 := VD.below b1 VD.lt
    have N1 := ND.below b1 ND.lt
    have e0 := N1.cell 0 rfl
    have f1 := N1.frozen 0
    have L2 := hide (L1.other (p := ⟨w.heap.size + 2, 0, none⟩) (by show w.heap.size ≠ w.heap.size + 2; omega) (.int .i64 (-1)))
    have V2 := hide (V1.other (p := ⟨w.heap.size + 2, 0, none⟩) (by show w.heap.size + 1 ≠ w.heap.size + 2; omega) (.int .i64 (-1)))
    have N2 := hide (N1.set 0 (.int .i64 (-1)) (cs' := #[.int .i64 (-1)]) rfl)
    have B2 := hide (B1.setCell (p := ⟨w.heap.size + 2, 0, none⟩) (by show w.heap.size ≤ w.heap.size + 2; omega) (.int .i64 (-1)))
    clear LD VD ND bD b1 hA hB hC hD sA sB sC c0 f0 d0 d1 d2 L1 V1 N1 B1
    go_wp2
    go_ret
    exact ⟨rfl, ⟨unhide L2, unhide V2, unhide N2⟩, unhide B2⟩

theorem seat_nobody (n f v : Int) : seatI n f v (-1) = -1 := seat_no hp_nobody
/-- A step of the way makes it shorter. -/
theorem up_shorter {n f v x : Int} (h : HP n f v x) : (seatI n f v (upI n f v x) + 1).toNat < (seatI n f v x + 1).toNat := by
  have := seat_range h
  rcases up_lower n f v x with e | ⟨_, _, e⟩
  · rw [e, seat_nobody]; omega
  · omega

set_option maxHeartbeats 1600000 in
set_option maxRecDepth 100000 in
theorem implWay (n f v i : Int) (w : World) :
    Calls Try.prog 15 #[cv n f, .int .i64 v, .int .i64 i] w fun e w' => ∃ u, e = .returned u ∧ OI w' w.heap.size u (wayI n f v i) ∧ Below w.heap.size w w' := by
  have WU := hide fun w => implWayUp n f v i w
  have WN := hide fun g x w h => wayNext g n f v x w h
  obtain ⟨x0, hx0⟩ : ∃ x0, (if HP n f v i then i else -1) = x0 := ⟨_, rfl⟩
  have HX : Hid (wayI n f v i = wayN n f v 7 x0 ∧ At n f v 7 x0) := hide (by
    rw [← hx0]
    by_cases h : HP n f v i
    · rw [if_pos h]; exact ⟨rfl, at_start h⟩
    · rw [if_neg h]; exact ⟨by rw [way_none]; exact way_out h 7, .inl rfl⟩)
  rw [hx0] at WU
  clear hx0
  obtain ⟨w0, hw0⟩ : ∃ y, w.alloc (.cells #[.int .i64 n, .int .i64 f] 25) = y := ⟨_, rfl⟩
  have B0 : Below w.heap.size w w0 := hw0 ▸ conf_below _ _
  have L0 : Loc w0 w.heap.size #[.int .i64 n, .int .i64 f] := hw0 ▸ loc_at w _ _ rfl
  have p0 := L0.cell 0 rfl
  have p1 := L0.cell 1 rfl
  generalize wayI n f v i = all at *
  go_enter Try.func15, Try.ntmps15
  go_wp2_with fail
  refine (unhide WU _).mono ?_
  rintro _ w1 ⟨rfl, W1, b1⟩
  have B1 := B0.trans (b1.mono B0.size)
  have hg : w0.heap.size + 2 < w1.heap.size := W1.2.2.lt
  have hwg : w.heap.size ≤ w0.heap.size := B0.size
  generalize w0.heap.size = g at *
  clear WU hw0 B0 L0 p0 p1 b1
  go_wp2_with fail
  refine (unhide WN g _ _ W1).mono ?_
  rintro _ w2 ⟨rfl, W2, k2⟩
  have B2 := Below.kp B1 k2 B1.size (fun k e => by omega)
  have s2 := k2.size
  clear W1 k2
  go_wp2
  go_loopw [7, 9] (fun a b wr => ∃ (k : Nat) (ds : List Int) (x : Int) (ao : Option Addr) (ca : Nat), ds.length ≤ 7 ∧ a = .slice ao ds.length ca ∧ b = .int .i64 x ∧ Hid (all = ds ++ wayN n f v k x ∧ At n f v k x ∧ ds.length + k = 7) ∧ OI wr w1.heap.size (.slice ao ds.length ca) ds ∧ WS wr g n f v (upI n f v x) ∧ w1.heap.size ≤ wr.heap.size ∧ Below w.heap.size w wr) (fun _ b _ => (seatI n f v (intOf b) + 1).toNat)
  case atStart => exact ⟨7, [], x0, none, 0, by simp, rfl, rfl, hide ⟨(unhide HX).1, (unhide HX).2, rfl⟩, World.ownsRow_nil _ _ _ _, W2, s2, B2⟩
  case round =>
    obtain ⟨k, ds, x, ao, ca, hds, rfl, rfl, HK, O, W, sz, B⟩ := hrel
    by_cases hx : x = -1
    · subst hx
      have HF : all = ds := by rw [(unhide HK).1, way_none, List.append_nil]
      subst HF
      have O' := hide (OI.mono O B1.size)
      clear O W HK HX W2
      go_wp2
      go_ret
      exact ⟨_, rfl, unhide O', B⟩
    · have HA := at_pos (unhide HK).2.1 hx
      obtain ⟨hp, m, rfl⟩ := HA
      have HK2 : Hid (all = (ds ++ [x]) ++ wayN n f v m (upI n f v x) ∧ At n f v m (upI n f v x) ∧ (ds ++ [x]).length + m = 7) := hide (by
        refine ⟨?_, at_next (unhide HK).2.1 hx, by have := (unhide HK).2.2; simp; omega⟩
        rw [(unhide HK).1, way_more hp, List.append_assoc]; rfl)
      have hlen : ds.length + 1 ≤ 7 := by have := (unhide HK).2.2; omega
      have HM := hide (up_shorter hp)
      obtain ⟨y, hy⟩ : ∃ y, upI n f v x = y := ⟨_, rfl⟩
      rw [hy] at HK2 HM W
      obtain ⟨w3, hw3⟩ : ∃ y, wr.alloc (.cells #[.int .i64 x] 3) = y := ⟨_, rfl⟩
      have b3 : Below wr.heap.size wr w3 := hw3 ▸ (Below.refl _ _).alloc (Nat.le_refl _) _
      have O3 := hide (O.below b3)
      have W3 : Hid (WS w3 g n f v y) := hide ⟨W.1.below b3 W.1.lt, W.2.1.below b3 W.2.1.lt, W.2.2.below b3 W.2.2.lt⟩
      have B3 := B.trans (b3.mono B.size)
      have P3 : Hid (PI w3 (.slice (some ⟨wr.heap.size, 0, none⟩) 1 1) [x]) := hide (hw3 ▸ ⟨_, _, rfl, .inr ⟨_, rfl, cell_one_new _ _ _⟩⟩)
      have s3 := b3.size
      clear O W HK HX W2 b3 hy
      go_wp2_with (first
        | (at_builtin; clear hw3; refine append_ints rfl _ _ rfl w1.heap.size (.slice ao ds.length ca) (.slice (some ⟨wr.heap.size, 0, none⟩) 1 1) ds [x] rfl rfl (unhide O3) (unhide P3) (by simp; omega) (by omega) ?_; intro v4 w4 ho4 hg4 _
           have l3 := World.ownsRow.lt (unhide O3)
           have B4 := B3.grown hg4 (by omega) (fun j e => by have := (l3 j e).1; omega)
           have W4 : Hid (WS w4 g n f v y) := hide (by
             have k4 := kp_grown hg4
             refine ⟨(unhide W3).1.kp k4 (fun e => ?_), (unhide W3).2.1.kp k4 (fun e => ?_), (unhide W3).2.2.kp k4 (fun e => ?_)⟩ <;> (have := (l3 _ e).1; omega))
           obtain ⟨a4, c4, hv4⟩ := ho4.form
           rw [List.length_append, List.length_singleton] at hv4
           subst hv4
           have O4 := hide ho4
           have s4 := hg4.size
           clear O3 W3 P3 B3 ho4 hg4 l3))
      refine (unhide WN g _ _ (unhide W4)).mono ?_
      rintro _ w5 ⟨rfl, W5, k5⟩
      have O5 : Hid (OI w5 w1.heap.size (.slice a4 (ds ++ [x]).length c4) (ds ++ [x])) := hide (by
        rw [List.length_append, List.length_singleton]
        exact (unhide O4).kp k5 (fun j hj e => by have := (World.ownsRow.lt (unhide O4) j hj).1; omega))
      have B5 := Below.kp B4 k5 B4.size (fun k e => by omega)
      have s5 := k5.size
      clear O4 W4 B4 k5
      go_wp2
      go_roundw
      case rel => exact ⟨m, ds ++ [x], y, a4, c4, by simp; omega, by simp, rfl, HK2, unhide O5, W5, by omega, B5⟩
      case measure => simpa [intOf] using unhide HM
end Go.Proofs.Ytkjmkcipalmonaa
