/- Texts that belong together: SpecSets, SpecSets2, HeldBy, AscInts. -/
import Derived.Test.YtcclbejpgiogaaaGreatDoorNBAA
import Derived.Test.YtcclbejpgiogaaaGreatDoorNBAB
import Derived.Deep.RegionHeld3
import Derived.BigQuiet
import Derived.WalkKit
import Derived.WalkSmall
import Derived.KernelRfl
import Derived.Below
import Derived.Laws.EntriesVeiled
set_option maxRecDepth 100000
set_option maxHeartbeats 4000000
namespace Go.Proofs.YtcclbejpgiogaaaGreatDoor
open Go.RowKit

theorem itake_more (xs : List Int) (k : Nat) (h : k < xs.length) : xs.take (k + 1) = xs.take k ++ [xs.getD k 0] := by
 rw [List.take_succ_eq_append_getElem h, List.getD_eq_getElem?_getD, List.getElem?_eq_getElem h]; rfl
theorem getD_mem_int {xs : List Int} {k : Nat} (h : k < xs.length) : xs.getD k 0 ∈ xs := by
 rw [List.getD_eq_getElem?_getD, List.getElem?_eq_getElem h]; exact List.getElem_mem h

theorem specSetHas (v : Value) (xs : List Int) (i : Int) (w : World) (h : RI w v xs) :
 Calls Tryz.prog 129 #[v, .int .i64 i] w fun e w' => e = .returned (.bool (decide (i ∈ xs))) ∧ w' = w := by
 have hl := h.1
 obtain ⟨ao, ca, rfl⟩ := h.form
 have H := hide h
 obtain ⟨n, hn⟩ : ∃ n, xs.length = n := ⟨_, rfl⟩
 have Hn := hide hn
 obtain ⟨r, hr⟩ : ∃ r, decide (i ∈ xs) = r := ⟨_, rfl⟩
 have HR := hide hr
 rw [hn] at hl H ⊢
 rw [hr]
 clear h hn hr
 go_enter Tryz.func129, Tryz.ntmps129
 go_wp2
 go_loopw [5] (fun j wr => ∃ k : Nat, k ≤ n ∧ j = .int .i64 k ∧ Hid (i ∉ xs.take k) ∧ wr = w) (fun j _ => n - (intOf j).toNat)
 case atStart => exact ⟨0, Nat.zero_le _, rfl, hide (by simp), rfl⟩
 case round =>
  obtain ⟨k, hk, rfl, HK, rfl⟩ := hrel
  by_cases hlt : k < n
  ·have hkx : k < xs.length := by have := Hn.out; omega
   obtain ⟨b, off, rfl, c⟩ := H.out.at k hkx
   have HT := hide (itake_more xs k hkx)
   have HM := hide (getD_mem_int hkx)
   generalize xs.getD k 0 = d at *
   by_cases e : d = i
   ·subst e
    have hrr : r = true := by rw [← HR.out]; exact decide_eq_true HM.out
    subst hrr
    clear HT HM HK
    go_wp2
    go_ret
    exact ⟨rfl, rfl⟩
   ·have HK' : Hid (i ∉ xs.take (k + 1)) := hide (by rw [HT.out]; simp; exact ⟨HK.out, fun e2 => e e2.symm⟩)
    have e' : decide (d = i) = false := by simpa using e
    have e2 : (d == i) = false := by simpa using e
    clear HT HM HK
    go_wp2
    go_roundw
    case rel => exact ⟨k + 1, by omega, by go_num, HK', by first | rfl | trivial⟩
    case measure => simp [intOf]; omega
  ·have hkn : k = xs.length := by have := Hn.out; omega
   have hrr : r = false := by
    rw [← HR.out]
    have := HK.out
    rw [hkn, List.take_of_length_le (Nat.le_refl _)] at this
    exact decide_eq_false this
   subst hrr
   clear HK
   go_wp2
   go_ret
   exact ⟨rfl, rfl⟩

theorem specSetAdd (v : Value) (xs : List Int) (i : Int) (w : World) (h : RI w v xs) (hc : Cap v) (hx : xs.length ≤ 4194303) :
 Calls Tryz.prog 106 #[v, .int .i64 i] w fun e w' => ∃ u, e = .returned u ∧ OI w' w.heap.size u (addL xs i) ∧ Below w.heap.size w w' := by
 have SH := hide fun w h => specSetHas v xs i w h
 obtain ⟨ao, ca, rfl⟩ := h.form
 obtain ⟨hcn, hcm⟩ : xs.length ≤ ca ∧ ca ≤ maxLen := by obtain ⟨_, _, _, e, h1, h2⟩ := hc; cases e; exact ⟨h1, h2⟩
 unfold maxLen at hcm
 have H := hide h
 have HP := hide h.pi
 clear h hc
 have O0 : OI (w.alloc (.cells #[] 3)) w.heap.size (.slice (some ⟨w.heap.size, 0, none⟩) 0 0) [] := by
  have := World.ownsRow_lit (base := w.heap.size) (e := 3) (size := 1) w #[] 0 (Nat.le_refl _) (by unfold maxLen; omega) (by simp)
  simpa [OI] using this
 have b0 : Below w.heap.size w (w.alloc (.cells #[] 3)) := (Below.refl _ _).alloc (Nat.le_refl _) _
 have P0 := hide (HP.out.below b0)
 by_cases hm : i ∈ xs
 ·have ea : addL xs i = xs := if_pos hm
  rw [ea]
  rw [decide_eq_true hm] at SH
  clear hm ea
  go_enter Tryz.func106, Tryz.ntmps106
  go_wp2_with fail
  refine (SH.out _ H.out).mono ?_
  rintro _ w1 ⟨rfl, rfl⟩
  go_wp2_with (first | (at_builtin; refine append_ints rfl _ _ rfl w1.heap.size (.slice (some ⟨w1.heap.size, 0, none⟩) 0 0) (.slice ao xs.length ca) [] xs rfl rfl O0 P0.out (by simp; omega) (by simp) ?_; intro v' w2 ho' hg' _; have RB := b0.grown hg' (by simp) (fun j e => by simp [Value.ownBlock] at e; omega); clear hg'))
  go_ret
  exact ⟨_, rfl, by simpa using ho', RB⟩
 ·have ea : addL xs i = xs.takeWhile (fun x => decide (x < i)) ++ i :: xs.dropWhile (fun x => decide (x < i)) := if_neg hm
  rw [decide_eq_false hm] at SH
  have EA := hide ea
  clear hm ea
  obtain ⟨n, hn⟩ : ∃ n, xs.length = n := ⟨_, rfl⟩
  have Hn := hide hn
  rw [hn] at H P0 hx hcn SH HP ⊢
  clear hn
  go_enter Tryz.func106, Tryz.ntmps106
  go_wp2_with fail
  refine (SH.out _ H.out).mono ?_
  rintro _ w1 ⟨rfl, rfl⟩
  go_wp2
  go_loopw [5] (fun j wr => ∃ k : Nat, k ≤ n ∧ j = .int .i64 k ∧ Hid (∀ x ∈ xs.take k, x < i) ∧ wr = w1) (fun j _ => n - (intOf j).toNat)
  case atStart => exact ⟨0, Nat.zero_le _, rfl, hide (by simp), rfl⟩
  case round =>
   obtain ⟨k, hk, rfl, HK, rfl⟩ := hrel
   have FIN : Hid ((k < n → ¬ xs.getD k 0 < i) → addL xs i = xs.take k ++ i :: xs.drop k) := hide fun hst => by
    have hkx : k ≤ xs.length := by have := Hn.out; omega
    have e1 : xs.takeWhile (fun x => decide (x < i)) = xs.take k ∧ xs.dropWhile (fun x => decide (x < i)) = xs.drop k := by
     have hall : ∀ x ∈ xs.take k, (decide (x < i)) = true := fun x hx => by simpa using HK.out x hx
     have hd : xs.drop k = [] ∨ ∃ c t, xs.drop k = c :: t ∧ ¬ c < i := by
      by_cases hlt : k < xs.length
      ·right
       refine ⟨_, _, List.drop_eq_getElem_cons hlt, ?_⟩
       have := hst (by have := Hn.out; omega)
       rwa [List.getD_eq_getElem?_getD, List.getElem?_eq_getElem hlt] at this
      ·left; exact List.drop_of_length_le (by omega)
     conv => lhs; lhs; rw [← List.take_append_drop k xs]
     conv => rhs; lhs; rw [← List.take_append_drop k xs]
     rw [List.takeWhile_append_of_pos hall, List.dropWhile_append_of_pos hall]
     rcases hd with e | ⟨c, t, e, hc⟩
     ·rw [e]; simp
     ·rw [e]; simp [hc]
    rw [EA.out, e1.1, e1.2]
   by_cases hgo : k < n ∧ xs.getD k 0 < i
   ·obtain ⟨hlt, hd⟩ := hgo
    have hkx : k < xs.length := by have := Hn.out; omega
    obtain ⟨b, off, rfl, c⟩ := H.out.at k hkx
    have HT := hide (itake_more xs k hkx)
    generalize xs.getD k 0 = d at *
    have HK' : Hid (∀ x ∈ xs.take (k + 1), x < i) := hide (by
     rw [HT.out]; intro x hx
     rcases List.mem_append.1 hx with hx | hx
     ·exact HK.out x hx
     ·simp at hx; subst hx; exact hd)
    have hd' : decide (d < i) = true := by simpa using hd
    clear HT HK FIN hd
    go_wp2
    go_roundw
    case rel => exact ⟨k + 1, by omega, by go_num, HK', by first | rfl | trivial⟩
    case measure => simp [intOf]; omega
   ·have F := hide (FIN.out fun hlt hd => hgo ⟨hlt, hd⟩)
    have p1 := P0.out.take k hk ca
    have p2 := HP.out.drop k (ca - k) (bo := if ca = k then ao else ao.map (·.add (k * 1))) (fun hlt => if_neg (by omega))
    have hs1 : ∀ w, (Instr.slice 26 (.slice ao n ca) none (some (.int .i64 (k : Int))) none).run Tryz.prog w = .ok (.slice ao k ca) w := fun w => icut_to ao n ca k w (by omega)
    have hs2 : ∀ w, (Instr.slice 26 (.slice ao n ca) (some (.int .i64 (k : Int))) none none).run Tryz.prog w = .ok (.slice (if ca = k then ao else ao.map (·.add (k * 1))) (n - k) (ca - k)) w := fun w => icut_from ao n ca k w hk
    generalize (if ca = k then ao else ao.map (·.add (k * 1))) = bo at *
    have P1 := hide p1
    have P2 := hide p2
    have hlk : (xs.take k).length = k := by rw [List.length_take]; have := Hn.out; omega
    have hld : (xs.drop k).length = n - k := by rw [List.length_drop, Hn.out]
    have HLK := hide hlk
    have HLD := hide hld
    clear p1 p2 hlk hld FIN HK
    generalize xs.take k = fs at *
    generalize xs.drop k = bs at *
    have sz0 : wr.heap.size + 1 = (wr.alloc (.cells #[] 3)).heap.size := by simp
    have A1 : Hid True := hide trivial
    have A2 : Hid True := hide trivial
    have A3 : Hid True := hide trivial
    have EX : Hid (k < n → ∃ b off d, ao = some ⟨b, off, none⟩ ∧ wr.cell? ⟨b, off + k, none⟩ = some (.int .i64 d) ∧ ¬ d < i) := hide fun hlt => by
     obtain ⟨b, off, e, c⟩ := H.out.at k (by have := Hn.out; omega)
     exact ⟨b, off, _, e, c, fun hd => hgo ⟨hlt, hd⟩⟩
    clear hgo
    by_cases hlt : k < n
    ·obtain ⟨b, off, d, rfl, c, hd⟩ := EX.out hlt
     have hd' : decide (d < i) = false := by simpa using hd
     clear EX hd
     go_wp2_with (first
      | (at_builtin; have hh := A1; refine append_ints rfl _ _ rfl wr.heap.size (.slice (some ⟨wr.heap.size, 0, none⟩) 0 0) (.slice (some ⟨b, off, none⟩) k ca) [] (fs) rfl rfl O0 P1.out (by rw [HLK.out]; simp; omega) (by simp) ?_; intro v1 w2 ho1 hg1 hb1; have O1 : OI w2 wr.heap.size v1 (fs) := (by simpa using ho1); have B1 := b0.grown hg1 (by simp) (fun j e => by simp [Value.ownBlock] at e; omega); have l1 := World.ownsRow.lt O1; obtain ⟨a1, c1, rfl⟩ := O1.form; have O1' := hide (World.ownsRow.alloc O1 (.cells #[.int .i64 i] 3)); have B1' := B1.trans ((((Below.refl _ w2).alloc (Nat.le_refl _) (.cells #[.int .i64 i] 3))).mono B1.size); clear A1 ho1 hg1 hb1 O1)
      | (at_builtin; have hh := A2; refine append_ints rfl _ _ rfl wr.heap.size (.slice a1 fs.length c1) (.slice (some ⟨w2.heap.size, 0, none⟩) 1 1) (fs) [i] rfl rfl O1'.out ⟨_, _, rfl, .inr ⟨_, rfl, cell_one_new _ _ _⟩⟩ (by rw [HLK.out]; simp; omega) B1'.size ?_; intro v2 w3 ho2 hg2 hb2; have B2 := B1'.grown hg2 B1'.size (fun j e => (l1 j e).1); obtain ⟨a2, c2, hv2⟩ := ho2.form; rw [List.length_append, List.length_singleton] at hv2; subst hv2; have O2 := hide ho2; have l2 := World.ownsRow.lt ho2; have P3 := hide (P2.out.below B2); clear A2 ho2 hg2 hb2)
      | (at_builtin; have hh := A3; refine append_ints rfl _ _ rfl wr.heap.size (.slice a2 (fs.length + 1) c2) (.slice bo (n - k) (ca - k)) (fs ++ [i]) (bs) rfl rfl O2.out P3.out (by rw [HLD.out, List.length_append, HLK.out]; simp; omega) B2.size ?_; intro v3 w4 ho3 hg3 hb3; have B3 := B2.grown hg3 B2.size (fun j e => (l2 j e).1); clear A3 hg3 hb3))
     go_ret
     exact ⟨_, rfl, by rw [F.out]; simpa using ho3, B3⟩
    ·have hd0 : decide ((k : Int) < (n : Int)) = false := by simp; omega
     clear EX
     go_wp2_with (first
      | (at_builtin; have hh := A1; refine append_ints rfl _ _ rfl wr.heap.size (.slice (some ⟨wr.heap.size, 0, none⟩) 0 0) (.slice ao k ca) [] (fs) rfl rfl O0 P1.out (by rw [HLK.out]; simp; omega) (by simp) ?_; intro v1 w2 ho1 hg1 hb1; have O1 : OI w2 wr.heap.size v1 (fs) := (by simpa using ho1); have B1 := b0.grown hg1 (by simp) (fun j e => by simp [Value.ownBlock] at e; omega); have l1 := World.ownsRow.lt O1; obtain ⟨a1, c1, rfl⟩ := O1.form; have O1' := hide (World.ownsRow.alloc O1 (.cells #[.int .i64 i] 3)); have B1' := B1.trans ((((Below.refl _ w2).alloc (Nat.le_refl _) (.cells #[.int .i64 i] 3))).mono B1.size); clear A1 ho1 hg1 hb1 O1)
      | (at_builtin; have hh := A2; refine append_ints rfl _ _ rfl wr.heap.size (.slice a1 fs.length c1) (.slice (some ⟨w2.heap.size, 0, none⟩) 1 1) (fs) [i] rfl rfl O1'.out ⟨_, _, rfl, .inr ⟨_, rfl, cell_one_new _ _ _⟩⟩ (by rw [HLK.out]; simp; omega) B1'.size ?_; intro v2 w3 ho2 hg2 hb2; have B2 := B1'.grown hg2 B1'.size (fun j e => (l1 j e).1); obtain ⟨a2, c2, hv2⟩ := ho2.form; rw [List.length_append, List.length_singleton] at hv2; subst hv2; have O2 := hide ho2; have l2 := World.ownsRow.lt ho2; have P3 := hide (P2.out.below B2); clear A2 ho2 hg2 hb2)
      | (at_builtin; have hh := A3; refine append_ints rfl _ _ rfl wr.heap.size (.slice a2 (fs.length + 1) c2) (.slice bo (n - k) (ca - k)) (fs ++ [i]) (bs) rfl rfl O2.out P3.out (by rw [HLD.out, List.length_append, HLK.out]; simp; omega) B2.size ?_; intro v3 w4 ho3 hg3 hb3; have B3 := B2.grown hg3 B2.size (fun j e => (l2 j e).1); clear A3 hg3 hb3))
     go_ret
     exact ⟨_, rfl, by rw [F.out]; simpa using ho3, B3⟩
end Go.Proofs.YtcclbejpgiogaaaGreatDoor
namespace Go.Proofs.YtcclbejpgiogaaaGreatDoor
open Go.RowKit
set_option linter.unusedSectionVars false

variable [∀ (n : Int) (s : List Int), Decidable (OkL n s)]
theorem ok_more {n : Int} {xs : List Int} {k : Nat} (hk : k < xs.length) (h : OkL n (xs.take k)) (h0 : 0 ≤ xs.getD k 0) (h1 : xs.getD k 0 < n) (h2 : 0 < k → xs.getD (k - 1) 0 < xs.getD k 0) : OkL n (xs.take (k + 1)) := by
 rw [itake_more xs k hk]
 refine ⟨fun x hx => ?_, List.pairwise_append.2 ⟨h.2, by simp, fun x hx y hy => ?_⟩⟩
 ·rcases List.mem_append.1 hx with hx | hx
  ·exact h.1 x hx
  ·simp at hx; subst hx; exact ⟨h0, h1⟩
 ·simp at hy
  subst hy
  by_cases hk0 : 0 < k
  ·have h3 := h2 hk0
   have e : xs.take k = xs.take (k - 1) ++ [xs.getD (k - 1) 0] := by
    have := itake_more xs (k - 1) (by omega)
    rwa [show k - 1 + 1 = k by omega] at this
   have hp := h.2
   rw [e] at hx hp
   rcases List.mem_append.1 hx with hx | hx
   ·have := (List.pairwise_append.1 hp).2.2 x hx (xs.getD (k - 1) 0) (by simp)
    simp only [List.getD_eq_getElem?_getD] at *
    omega
   ·simp at hx
    simp only [List.getD_eq_getElem?_getD] at *
    omega
  ·have : k = 0 := by omega
   subst this; simp at hx
theorem ok_not {n : Int} {xs : List Int} {k : Nat} (hk : k < xs.length) (h : xs.getD k 0 < 0 ∨ n ≤ xs.getD k 0 ∨ (0 < k ∧ xs.getD k 0 ≤ xs.getD (k - 1) 0)) : ¬ OkL n xs := fun ho => by
 have hm := ho.1 _ (getD_mem_int hk)
 rcases h with h | h | ⟨h0, h⟩
 ·omega
 ·omega
 ·have := List.pairwise_iff_getElem.1 ho.2 (k - 1) k (by omega) hk (by omega)
  rw [List.getD_eq_getElem?_getD, List.getD_eq_getElem?_getD, List.getElem?_eq_getElem hk, List.getElem?_eq_getElem (show k - 1 < xs.length by omega)] at h
  simp at h
  omega

theorem specSetOk (m : Int) (v : Value) (xs : List Int) (w : World) (h : RI w v xs) :
 Calls Tryz.prog 85 #[.int .i64 m, v] w fun e w' => e = .returned (.bool (decide (OkL m xs))) ∧ Below w.heap.size w w' := by
 have hl := h.1
 obtain ⟨ao, ca, rfl⟩ := h.form
 have H := hide h
 obtain ⟨n, hn⟩ : ∃ n, xs.length = n := ⟨_, rfl⟩
 have Hn := hide hn
 obtain ⟨r, hr⟩ : ∃ r, decide (OkL m xs) = r := ⟨_, rfl⟩
 have HR := hide hr
 rw [hn] at hl H ⊢
 rw [hr]
 clear h hn hr
 go_enter Tryz.func85, Tryz.ntmps85
 go_wp2
 go_loopw [5] (fun j wr => ∃ k : Nat, k ≤ n ∧ j = .int .i64 k ∧ Hid (OkL m (xs.take k)) ∧ Below w.heap.size w wr) (fun j _ => n - (intOf j).toNat)
 case atStart => exact ⟨0, Nat.zero_le _, rfl, hide (by simp [OkL]), Below.refl _ _⟩
 case round =>
  obtain ⟨k, hk, rfl, HK, br⟩ := hrel
  have HR2 := hide (H.out.below br)
  by_cases hlt : k < n
  ·have hkx : k < xs.length := by have := Hn.out; omega
   obtain ⟨b, off, rfl, c⟩ := HR2.out.at k hkx
   have HP : Hid (0 < k → wr.cell? ⟨b, off + (k - 1), none⟩ = some (.int .i64 (xs.getD (k - 1) 0))) := hide fun h0 => by
    obtain ⟨b', off', e, c'⟩ := HR2.out.at (k - 1) (by omega)
    cases e; exact c'
   have HG := hide fun h0 h1 h2 => ok_more hkx HK.out h0 h1 h2
   have HB := hide fun h => ok_not (n := m) hkx h
   generalize xs.getD k 0 = d at *
   by_cases g0 : d < 0
   ·have hrr : r = false := by rw [← HR.out]; exact decide_eq_false (HB.out (.inl g0))
    subst hrr
    have g0' : decide (d < 0) = true := by simpa using g0
    clear HG HB HP HK
    go_wp2_with fail
    go_quiet (fail)
    go_wp2
    go_ret
    exact ⟨rfl, by first | exact br | exact below_drewN' br _⟩
   have g0' : decide (d < 0) = false := by simpa using g0
   by_cases g1 : m ≤ d
   ·have hrr : r = false := by rw [← HR.out]; exact decide_eq_false (HB.out (.inr (.inl g1)))
    subst hrr
    have g1' : decide (m ≤ d) = true := by simpa using g1
    clear HG HB HP HK
    go_wp2_with fail
    go_quiet (fail)
    go_wp2
    go_ret
    exact ⟨rfl, by first | exact br | exact below_drewN' br _⟩
   have g1' : decide (m ≤ d) = false := by simpa using g1
   by_cases hk0 : 0 < k
   ·have c2 := HP.out hk0
    obtain ⟨j, rfl⟩ : ∃ j, k = j + 1 := ⟨k - 1, by omega⟩
    rw [show j + 1 - 1 = j by omega] at c2 HG HB
    generalize xs.getD j 0 = p at *
    have ej : (((j + 1 : Nat) : Int)) - 1 = (j : Int) := by omega
    have hk0' : decide ((0 : Int) < ((j + 1 : Nat) : Int)) = true := by rw [decide_eq_true_iff]; omega
    by_cases g2 : d ≤ p
    ·have hrr : r = false := by rw [← HR.out]; exact decide_eq_false (HB.out (.inr (.inr ⟨by omega, g2⟩)))
     subst hrr
     have g2' : decide (d ≤ p) = true := by simpa using g2
     clear HG HB HP HK
     go_wp2_with fail
     go_quiet (fail)
     go_wp2
     go_ret
     exact ⟨rfl, by first | exact br | exact below_drewN' br _⟩
    ·have g2' : decide (d ≤ p) = false := by simpa using g2
     have HK' := hide (HG.out (by omega) (by omega) (fun _ => by omega))
     clear HG HB HP HK
     go_wp2_with fail
     go_quiet (fail)
     go_wp2
     go_roundw
     case rel => exact ⟨j + 1 + 1, by omega, by go_num, HK', by first | exact br | exact below_drewN' br _⟩
     case measure => simp [intOf]; omega
   ·obtain rfl : k = 0 := by omega
    rw [Nat.add_zero] at c
    have HK' := hide (HG.out (by omega) (by omega) (fun h => by omega))
    clear HG HB HP HK
    go_wp2_with fail
    go_quiet (fail)
    go_wp2
    go_roundw
    case rel => exact ⟨1, by omega, by go_num, HK', by first | exact br | exact below_drewN' br _⟩
    case measure => simp [intOf]; omega
  ·have hkn : k = xs.length := by have := Hn.out; omega
   have hrr : r = true := by
    rw [← HR.out]
    have := HK.out
    rw [List.take_of_length_le (by omega)] at this
    exact decide_eq_true this
   subst hrr
   have hd0 : decide ((k : Int) < (n : Int)) = false := by simp; omega
   clear HK
   go_wp2
   go_ret
   exact ⟨rfl, by first | exact br | exact below_drewN' br _⟩
end Go.Proofs.YtcclbejpgiogaaaGreatDoor
namespace Go.Proofs.YtcclbejpgiogaaaGreatDoor
open Go Go.RowKit
section
variable {P : Program} {ops : Array Oper} {Q : Exit → Act → World → Prop} {md : Region.Mode} {S : World → Prop}
theorem take_at {i d : Nat} {oi : Oper} {v : Value} {fuel : Nat} {listed : Array Bool} {a : Act} {w : World} (hi : ops[i]? = some oi) (hd : oi.dst = some d)
 (hs : Region.noSelect ops = true) (hf : Region.free md ops listed i = true) (hr : (Region.ready md ops listed).contains i = true)
 (hQ : ∀ c a w, Q (.panic c) (a.put (some d) v) w → Q (.panic c) a w) (hy : YieldsIf P ops S oi v a) (hS : S w)
 (h : wpAnyH P md ops Q S fuel (listed.setIfInBounds i true) (a.put (some d) v) w) : wpAnyH P md ops Q S (fuel + 1) listed a w :=
 wpAnyH_take hi hs hf hr (by rw [hd]; exact hQ) hy hS (by rw [hd]; exact h)
theorem ready_at {i : Nat} {o : Oper} {fuel : Nat} {listed : Array Bool} {a : Act} {w : World} (ho : ops[i]? = some o) (hr : Region.ready md ops listed = [i])
 (h : ∀ K' : Act → World → Prop, Shut (∀ a w, S w → (S w → wpAnyH P md ops Q S fuel (listed.setIfInBounds i true) a w) → K' a w) → if Region.wanted o (yielded ops a.tmps) = true then Oper.wp P o a w K' Q else K' (a.put o.dst undef) w) :
 wpAnyH P md ops Q S (fuel + 1) listed a w :=
 wpAnyH_ready hr (by simp) (AllReadyH.cons ho h AllReadyH.nil)
end
section
variable {P : Program} {ops : Array Oper} {Q : Exit → Act → World → Prop} {md : Region.Mode} {S : World → Prop}
theorem tk (i d : Nat) {oi : Oper} {v : Value} {fuel : Nat} {listed : Array Bool} {a : Act} {w : World} (hi : ops[i]? = some oi) (hd : oi.dst = some d := by exact rfl)
 (hs : Region.noSelect ops = true := by kernel_rfl) (hf : Region.free md ops listed i = true := by kernel_rfl) (hr : (Region.ready md ops listed).contains i = true := by kernel_rfl)
 (hy : YieldsIf P ops S oi v a)
 (hQ : ∀ c a w, Q (.panic c) (a.put (some d) v) w → Q (.panic c) a w := by exact fun _ _ _ h => h) (hS : S w := by assumption)
 (h : wpAnyH P md ops Q S fuel (listed.setIfInBounds i true) (a.put (some d) v) w) : wpAnyH P md ops Q S (fuel + 1) listed a w :=
 take_at hi hd hs hf hr hQ hy hS h
theorem sk (i d : Nat) {oi : Oper} {fuel : Nat} {listed : Array Bool} {a : Act} {w : World} (hi : ops[i]? = some oi) (hd : oi.dst = some d := by exact rfl)
 (hs : Region.noSelect ops = true := by kernel_rfl) (hf : Region.free md ops listed i = true := by kernel_rfl) (hr : (Region.ready md ops listed).contains i = true := by kernel_rfl)
 (hy : YieldsIf P ops S oi undef a := by exact Or.inr ⟨by rfl, rfl⟩)
 (hQ : ∀ c a w, Q (.panic c) (a.put (some d) undef) w → Q (.panic c) a w := by exact fun _ _ _ h => h) (hS : S w := by assumption)
 (h : wpAnyH P md ops Q S fuel (listed.setIfInBounds i true) (a.put (some d) undef) w) : wpAnyH P md ops Q S (fuel + 1) listed a w :=
 take_at hi hd hs hf hr hQ hy hS h
theorem tj (i d : Nat) {oi : Oper} {v : Value} {fuel : Nat} {listed : Array Bool} {a : Act} {w : World} (hi : ops[i]? = some oi)
 (hy : ∀ w, S w → (execOp a.eval oi).run P w = .ok (.value v) w) (h : wpAnyH P md ops Q S fuel (listed.setIfInBounds i true) (a.put (some d) v) w) (hw : Region.wanted oi (yielded ops a.tmps) = true := by rfl) (hd : oi.dst = some d := by exact rfl)
 (hs : Region.noSelect ops = true := by kernel_rfl) (hf : Region.free md ops listed i = true := by kernel_rfl) (hr : (Region.ready md ops listed).contains i = true := by kernel_rfl)
 (hQ : ∀ c a w, Q (.panic c) (a.put (some d) v) w → Q (.panic c) a w := by exact fun _ _ _ h => h) (hS : S w := by assumption) : wpAnyH P md ops Q S (fuel + 1) listed a w :=
 take_at hi hd hs hf hr hQ (.inl ⟨hw, hy⟩) hS h
theorem rd (i : Nat) {o : Oper} {fuel : Nat} {listed : Array Bool} {a : Act} {w : World} (ho : ops[i]? = some o)
 (h : ∀ K' : Act → World → Prop, Shut (∀ a w, S w → (S w → wpAnyH P md ops Q S fuel (listed.setIfInBounds i true) a w) → K' a w) → if Region.wanted o (yielded ops a.tmps) = true then Oper.wp P o a w K' Q else K' (a.put o.dst undef) w) (hr : Region.ready md ops listed = [i] := by kernel_rfl) :
 wpAnyH P md ops Q S (fuel + 1) listed a w := ready_at ho hr h
theorem wrd {id : Nat} {a : Act} {w : World} (K : Hid (∀ w', Below w.heap.size w w' → S w')) (b : Below w.heap.size w w.drew)
 (h : S w.drew → wpAnyH P .any ops Q S ops.size (Array.replicate ops.size false) a w.drew) (hm : P.follows .mixedOrders = true := by kernel_rfl) : (Code.region id ops true).wp P Q a w :=
 wp_region_held_drew hm (K.out _ b) h
theorem wrn {id : Nat} {a : Act} {w : World} (K : Hid (∀ w', Below w.heap.size w w' → S w')) (b : Below w.heap.size w w.drew)
 (h : S w.drew → wpAnyH P .any ops (NoPanic Q) S ops.size (Array.replicate ops.size false) a w.drew) (hm : P.follows .mixedOrders = true := by kernel_rfl) : (Code.region id ops true).wp P Q a w :=
 wp_region_noPanic (wrd K b h hm)
theorem wdn {fuel : Nat} {listed : Array Bool} {a : Act} {w : World} (h : Q .normal a w) (hr : Region.ready md ops listed = [] := by kernel_rfl) : wpAnyH P md ops (NoPanic Q) S fuel listed a w :=
 wpAnyH_done hr (NoPanic.normal h) _
end
theorem pU : (∀ (a : Act) (d : Nat) (v : Value), a.put (some d) v = { a with tmps := a.tmps.setIfInBounds d v }) ∧ (∀ (α : Type) (l : List α) (i : Nat) (x : α), l.toArray.setIfInBounds i x = (l.set i x).toArray) ∧ (∀ (α : Type) (x y : α) (l : List α), (x :: l).set 0 y = y :: l) ∧ (∀ (α : Type) (x y : α) (l : List α) (i : Nat), (x :: l).set (i + 1) y = x :: l.set i y) :=
 ⟨fun _ _ _ => rfl, fun _ _ _ _ => by simp, fun _ _ _ _ => rfl, fun _ _ _ _ _ => rfl⟩
end Go.Proofs.YtcclbejpgiogaaaGreatDoor
namespace Go.Proofs.YtcclbejpgiogaaaGreatDoor
open Go.RowKit
set_option linter.unusedSectionVars false
variable [∀ (n : Int) (s : List Int), Decidable (OkL n s)]

theorem isNaN_int (x : Int) (w : World) : Calls Tryz.prog 141 #[.int .i64 x] w fun e w' => e = .returned (.bool false) ∧ Below w.heap.size w w' := by
 go_enter Tryz.func141, Tryz.ntmps141
 go_wp2
 go_ret
 exact ⟨rfl, Below.refl _ _⟩
def cmpI (x y : Int) : Int := if x < y then -1 else if y < x then 1 else 0
theorem cmpI_lt (x y : Int) : cmpI x y < 0 ↔ x < y := by
 unfold cmpI
 repeat' split
 all_goals omega
theorem compare_int (x y : Int) (w : World) : Calls Tryz.prog 132 #[.int .i64 x, .int .i64 y] w fun e w' => e = .returned (.int .i64 (cmpI x y)) ∧ Below w.heap.size w w' := by
 have NA := hide fun x w => isNaN_int x w
 unfold cmpI
 by_cases h1 : x < y
 ·rw [if_pos h1]
  have d1 : decide (x < y) = true := by simpa using h1
  clear h1
  go_enter Tryz.func132, Tryz.ntmps132
  go_wp2_with fail
  refine (NA.out _ _).mono ?_
  rintro _ w1 ⟨rfl, b1⟩
  go_wp2_with fail
  refine (NA.out _ _).mono ?_
  rintro _ w2 ⟨rfl, b2⟩
  go_wp2
  go_ret
  exact ⟨rfl, bu b1 b2⟩
 ·rw [if_neg h1]
  have d1 : decide (x < y) = false := by simpa using h1
  clear h1
  by_cases h2 : y < x
  ·rw [if_pos h2]
   have d2 : decide (y < x) = true := by simpa using h2
   have d3 : decide (x > y) = true := by simpa using h2
   clear h2
   go_enter Tryz.func132, Tryz.ntmps132
   go_wp2_with fail
   refine (NA.out _ _).mono ?_
   rintro _ w1 ⟨rfl, b1⟩
   go_wp2_with fail
   refine (NA.out _ _).mono ?_
   rintro _ w2 ⟨rfl, b2⟩
   go_wp2
   go_ret
   exact ⟨rfl, bu b1 b2⟩
  ·rw [if_neg h2]
   have d2 : decide (y < x) = false := by simpa using h2
   have d3 : decide (x > y) = false := by simpa using h2
   clear h2
   go_enter Tryz.func132, Tryz.ntmps132
   go_wp2_with fail
   refine (NA.out _ _).mono ?_
   rintro _ w1 ⟨rfl, b1⟩
   go_wp2_with fail
   refine (NA.out _ _).mono ?_
   rintro _ w2 ⟨rfl, b2⟩
   go_wp2
   go_ret
   exact ⟨rfl, bu b1 b2⟩
def AscI (xs : List Int) : Prop := ∀ j, j + 1 < xs.length → xs.getD j 0 < xs.getD (j + 1) 0
theorem ascI_iff (xs : List Int) : AscI xs ↔ xs.Pairwise (· < ·) := by
 constructor
 ·intro h
  refine List.pairwise_iff_getElem.2 fun i j hi hj hij => ?_
  have key : ∀ d, i + d + 1 < xs.length → xs.getD i 0 < xs.getD (i + d + 1) 0 := by
   intro d
   induction d with
   | zero => exact fun hd => h i hd
   | succ d ih => exact fun hd => Int.lt_trans (ih (by omega)) (h (i + d + 1) hd)
  have := key (j - i - 1) (by omega)
  rw [show i + (j - i - 1) + 1 = j from by omega] at this
  simpa [List.getD_eq_getElem?_getD, List.getElem?_eq_getElem hi, List.getElem?_eq_getElem hj] using this
 ·intro h j hj
  have := List.pairwise_iff_getElem.1 h j (j + 1) (by omega) hj (by omega)
  simpa [List.getD_eq_getElem?_getD, List.getElem?_eq_getElem hj, List.getElem?_eq_getElem (show j < xs.length by omega)] using this
theorem ascends_int (v : Value) (xs : List Int) (w : World) (h : RI w v xs) :
 Calls Tryz.prog 133 #[.agg #[v, .func (.func 132) #[] #[]]] w fun e w' => e = .returned (.bool (decide (xs.Pairwise (· < ·)))) ∧ Below w.heap.size w w' := by
 obtain ⟨ao, ca, rfl⟩ := h.form
 have hl := h.1
 have H := hide h
 obtain ⟨n, hn⟩ : ∃ n, xs.length = n := ⟨_, rfl⟩
 have Hn := hide hn
 rw [hn] at hl H ⊢
 clear h hn
 obtain ⟨w0, hw0⟩ : ∃ w0, w.alloc (.cells #[.slice ao n ca, .func (.func 132) #[] #[]] 191) = w0 := ⟨_, rfl⟩
 have B0 : Below w.heap.size w w0 := hw0 ▸ (Below.refl _ _).alloc (Nat.le_refl _) _
 have L0 : Loc w0 w.heap.size #[.slice ao n ca, .func (.func 132) #[] #[]] := hw0 ▸ loc_at w _ _ rfl
 go_enter Tryz.func133, Tryz.ntmps133
 go_wp2
 clear hw0
 go_loopw [3] (fun i wr => ∃ m : Nat, 1 ≤ m ∧ m ≤ n + 1 ∧ i = .int .i64 m ∧ Hid (∀ j, j + 1 < m → j + 1 < n → xs.getD j 0 < xs.getD (j + 1) 0) ∧ Loc wr w.heap.size #[.slice ao n ca, .func (.func 132) #[] #[]] ∧ Below w.heap.size w wr) (fun i _ => n + 1 - (intOf i).toNat)
 case atStart => exact ⟨1, Nat.le_refl _, by omega, by go_num, hide (fun j hj => absurd hj (by omega)), L0, B0⟩
 case round =>
  clear L0 B0
  obtain ⟨m, hm1, hm, rfl, HA, L, br⟩ := hrel
  have q0 := L.cell 0 rfl
  have q1 := L.cell 1 rfl
  by_cases hlt : m < n
  ·obtain ⟨k, hk⟩ : ∃ k, m = k + 1 := ⟨m - 1, by omega⟩
   have hk1 : (m : Int) - 1 = (k : Int) := by omega
   have hwk : IntKind.i64.wrap (k : Int) = (k : Int) := by rw [IntKind.wrap_i64]; omega
   have hkn : k < n := by omega
   obtain ⟨g, off, rfl, cx⟩ := (H.out.below br).at k (by rw [Hn.out]; omega)
   obtain ⟨g', off', e, cy⟩ := (H.out.below br).at m (by rw [Hn.out]; omega)
   cases e
   have CT := hide fun w => compare_int (xs.getD k 0) (xs.getD m 0) w
   have HS : Hid (xs.getD k 0 < xs.getD m 0 → ∀ j, j + 1 < m + 1 → j + 1 < n → xs.getD j 0 < xs.getD (j + 1) 0) := hide fun h j hj hj2 => by
    by_cases e : j = k
    ·rw [e, ← hk]; exact h
    ·exact HA.out j (by omega) hj2
   have HN : Hid (xs.getD m 0 ≤ xs.getD k 0 → ¬ xs.Pairwise (· < ·)) := hide fun h ha => Int.not_lt.2 h (by have := (ascI_iff xs).2 ha k (by rw [Hn.out]; omega); rwa [← hk] at this)
   clear HA
   generalize xs.getD k 0 = x at *
   generalize xs.getD m 0 = y at *
   replace hk := hide hk
   have K : Hid (∀ w', Below wr.heap.size wr w' → (w'.cell? ⟨w.heap.size, 0, none⟩ = some (.slice (some ⟨g, off, none⟩) n ca) ∧ w'.cell? ⟨w.heap.size, 1, none⟩ = some (.func (.func 132) #[] #[])) ∧ w'.cell? ⟨g, off + k, none⟩ = some (.int .i64 x) ∧ w'.cell? ⟨g, off + m, none⟩ = some (.int .i64 y)) := hide fun w' hb => by
    have l := L.up hb
    exact ⟨⟨l.cell 0 rfl, l.cell 1 rfl⟩, (hb.cell (cell_lt cx)).trans cx, (hb.cell (cell_lt cy)).trans cy⟩
   have bA : Below wr.heap.size wr wr.drew := Below.drew (Below.refl _ _)
   have hKeep := K.out _ bA
   clear cx cy
   go_wp2_with fail
   refine wp_region_noPanic ?_
   refine wp_region_held_drew (S := (fun w' => (w'.cell? ⟨w.heap.size, 0, none⟩ = some (.slice (some ⟨g, off, none⟩) n ca) ∧ w'.cell? ⟨w.heap.size, 1, none⟩ = some (.func (.func 132) #[] #[])) ∧ w'.cell? ⟨g, off + k, none⟩ = some (.int .i64 x) ∧ w'.cell? ⟨g, off + m, none⟩ = some (.int .i64 y))) (by kernel_rfl) hKeep (fun hHeld => ?_)
   refine' tj 0 11 rfl ?_ ?_;rotate_left
   ·intro w h; (try dsimp only at h); go_simp; try with_reducible rfl
   simp only [pU]
   refine' tj 1 12 rfl ?_ ?_;rotate_left
   ·intro w h; (try dsimp only at h); go_simp; try with_reducible rfl
   simp only [pU]
   refine' tj 2 13 rfl ?_ ?_;rotate_left
   ·intro w h; (try dsimp only at h); go_simp; try with_reducible rfl
   simp only [pU]
   refine' tj 3 14 rfl ?_ ?_;rotate_left
   ·intro w h; (try dsimp only at h); go_simp; try with_reducible rfl
   simp only [pU]
   refine' tj 4 15 rfl ?_ ?_;rotate_left
   ·intro w h; (try dsimp only at h); go_simp; try with_reducible rfl
   simp only [pU]
   refine' tj 5 16 rfl ?_ ?_;rotate_left
   ·intro w h; (try dsimp only at h); go_simp; try with_reducible rfl
   simp only [pU]
   refine' tj 6 17 rfl ?_ ?_;rotate_left
   ·intro w h; (try dsimp only at h); go_simp; try with_reducible rfl
   simp only [pU]
   refine' tj 7 18 rfl ?_ ?_;rotate_left
   ·intro w h; (try dsimp only at h); go_simp; try with_reducible rfl
   simp only [pU]
   refine' tj 8 19 rfl ?_ ?_;rotate_left
   ·intro w h; (try dsimp only at h); go_simp; try with_reducible rfl
   simp only [pU]
   refine' tj 9 20 rfl ?_ ?_;rotate_left
   ·intro w h; (try dsimp only at h); go_simp; try with_reducible rfl
   simp only [pU]
   refine' tj 10 21 rfl ?_ ?_;rotate_left
   ·intro w h; (try dsimp only at h); go_simp; try with_reducible rfl
   simp only [pU]
   refine' tj 11 22 rfl ?_ ?_;rotate_left
   ·intro w h; (try dsimp only at h); go_simp; try with_reducible rfl
   simp only [pU]
   refine' tj 12 23 rfl ?_ ?_;rotate_left
   ·intro w h; (try dsimp only at h); go_simp; try with_reducible rfl
   simp only [pU]
   refine rd 13 rfl (fun KK hKK => ?_)
   go_simp
   refine (CT.out _).mono ?_
   rintro _ wa ⟨rfl, ba⟩
   have bB : Below wr.heap.size wr wa := bA.trans ba
   clear hHeld
   refine hKK.out _ _ (K.out _ bB) (fun hHeld => ?_)
   clear hKK KK
   refine' tj 14 25 rfl ?_ ?_;rotate_left
   ·intro w h; (try dsimp only at h); go_simp; try with_reducible rfl
   simp only [pU]
   clear hHeld
   refine wdn ?_
   have LB := L.up bB
   have BB := bu br bB
   have hcm := hide (cmpI_lt x y)
   generalize cmpI x y = q at *
   by_cases hq : q < 0
   ·have HS := hide (HS.out (hcm.out.1 hq))
    have hq0 : ¬ 0 ≤ q := by omega
    clear hcm HN
    go_wp2
    go_roundw
    case rel => exact ⟨m + 1, by omega, by omega, by go_num, HS, LB, BB⟩
    case measure => simp [intOf]; omega
   ·have hno : decide (xs.Pairwise (· < ·)) = false := decide_eq_false (HN.out (Int.not_lt.1 fun h => hq (hcm.out.2 h)))
    have hq0 : 0 ≤ q := by omega
    clear hcm HS HN
    go_wp2
    go_ret
    exact ⟨by first | rfl | (rw [hno]; rfl), BB⟩
  ·have hyes : decide (xs.Pairwise (· < ·)) = true := decide_eq_true ((ascI_iff xs).1 fun j hj => HA.out j (by have := Hn.out; omega) (by have := Hn.out; omega))
   clear HA
   go_wp2
   go_ret
   exact ⟨by first | rfl | (rw [hyes]; rfl), br⟩
theorem ok_ends {n : Int} {xs : List Int} (h0 : 0 < xs.length) : OkL n xs ↔ xs.Pairwise (· < ·) ∧ 0 ≤ xs.getD 0 0 ∧ xs.getD (xs.length - 1) 0 < n := by
 have g : ∀ k (hk : k < xs.length), xs.getD k 0 = xs[k] := fun k hk => by rw [List.getD_eq_getElem?_getD, List.getElem?_eq_getElem hk]; rfl
 unfold OkL
 constructor
 ·rintro ⟨h1, h2⟩
  refine ⟨h2, ?_, ?_⟩
  ·rw [g 0 h0]; exact (h1 _ (List.getElem_mem h0)).1
  ·rw [g _ (by omega)]; exact (h1 _ (List.getElem_mem (by omega))).2
 ·rintro ⟨h2, h3, h4⟩
  refine ⟨fun x hx => ?_, h2⟩
  obtain ⟨j, hj, rfl⟩ := List.getElem_of_mem hx
  rw [g 0 h0] at h3
  rw [g _ (by omega)] at h4
  have hp := List.pairwise_iff_getElem.1 h2
  constructor
  ·by_cases e : j = 0
   ·subst e; exact h3
   ·have := hp 0 j h0 hj (by omega); omega
  ·by_cases e : j = xs.length - 1
   ·have : xs[j] = xs[xs.length - 1] := by congr 1
    omega
   ·have := hp j (xs.length - 1) hj (by omega) (by omega); omega
theorem implSetOk (m : Int) (v : Value) (xs : List Int) (w : World) (h : RI w v xs) :
 Calls Tryz.prog 111 #[.int .i64 m, v] w fun e w' => e = .returned (.bool (decide (OkL m xs))) ∧ Below w.heap.size w w' := by
 obtain ⟨ao, ca, rfl⟩ := h.form
 have hl := h.1
 by_cases hz : xs.length = 0
 ·obtain rfl : xs = [] := List.length_eq_zero_iff.1 hz
  have ed : decide (OkL m []) = true := decide_eq_true ⟨by simp, List.Pairwise.nil⟩
  rw [ed]
  clear ed h hl hz
  go_enter Tryz.func111, Tryz.ntmps111
  go_wp2
  go_ret
  exact ⟨rfl, Below.refl _ _⟩
 ·have AS := hide fun w h => ascends_int (.slice ao xs.length ca) xs w h
  obtain ⟨w0, hw0⟩ : ∃ w0, w.alloc (.cells #[.slice ao xs.length ca, .func (.func 132) #[] #[]] 191) = w0 := ⟨_, rfl⟩
  have B0 : Below w.heap.size w w0 := hw0 ▸ (Below.refl _ _).alloc (Nat.le_refl _) _
  have L0 : Loc w0 w.heap.size #[.slice ao xs.length ca, .func (.func 132) #[] #[]] := hw0 ▸ loc_at w _ _ rfl
  have H := hide (h.below B0)
  obtain ⟨g, off, rfl, c0⟩ := H.out.at 0 (by omega)
  obtain ⟨g', off', e, c1⟩ := H.out.at (xs.length - 1) (by omega)
  cases e
  have HO := hide (ok_ends (n := m) (xs := xs) (by omega))
  generalize xs.getD 0 0 = x at *
  generalize xs.getD (xs.length - 1) 0 = y at *
  have FIN : Hid (decide (OkL m xs) = (decide (xs.Pairwise (· < ·)) && (decide (0 ≤ x) && decide (y < m)))) := hide (by
   have := HO.out
   by_cases hp : xs.Pairwise (· < ·) <;> by_cases hx : 0 ≤ x <;> by_cases hy : y < m <;> simp [hp, hx, hy, this])
  generalize decide (OkL m xs) = qq at *
  clear HO
  generalize decide (xs.Pairwise (· < ·)) = q at *
  obtain ⟨n, hn⟩ : ∃ n, xs.length = n + 1 := ⟨xs.length - 1, by omega⟩
  rw [hn] at H AS L0 hw0 hl hz c1 ⊢
  rw [Nat.add_sub_cancel] at c1
  rw [Nat.add_zero] at c0
  have hnz : decide (((n + 1 : Nat) : Int) = 0) = false := by simp; omega
  have hs1 : IntKind.i64.wrap (((n + 1 : Nat) : Int) - 1) = (n : Int) := by rw [IntKind.wrap_i64]; omega
  have hnn : ((n + 1 : Nat) : Int) - 1 = (n : Int) := by omega
  have Hn := hide hn
  clear hn h
  have q0 := L0.cell 0 rfl
  have q1 := L0.cell 1 rfl
  go_enter Tryz.func111, Tryz.ntmps111
  go_wp2_with fail
  clear hw0
  refine (AS.out _ H.out).mono ?_
  rintro _ w1 ⟨rfl, b1⟩
  have cx := b1.cell (p := ⟨g, off, none⟩) (cell_lt c0)
  have cy := b1.cell (p := ⟨g, off + n, none⟩) (cell_lt c1)
  rw [c0] at cx
  rw [c1] at cy
  have BB := bu B0 b1
  clear H AS c0 c1 b1 q0 q1 L0 B0
  cases q with
  | false =>
   go_wp2
   go_ret
   exact ⟨by rw [FIN.out]; rfl, BB⟩
  | true =>
   by_cases h0 : 0 ≤ x
   ·have d0 : decide (0 ≤ x) = true := by simpa using h0
    rw [d0] at FIN
    clear h0
    go_wp2
    go_ret
    exact ⟨by rw [FIN.out]; rfl, BB⟩
   ·have d0 : decide (0 ≤ x) = false := by simpa using h0
    rw [d0] at FIN
    clear h0
    go_wp2
    go_ret
    exact ⟨by rw [FIN.out]; rfl, BB⟩
end Go.Proofs.YtcclbejpgiogaaaGreatDoor
