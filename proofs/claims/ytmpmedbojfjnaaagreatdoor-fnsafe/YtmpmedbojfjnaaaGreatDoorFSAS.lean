/- Texts that belong together: SpecSets, SpecSets2, Loc, HeldBy. -/
import Derived.Test.YtmpmedbojfjnaaaGreatDoorFSAR
import Derived.Deep.RegionHeld3
import Derived.BigQuiet
import Derived.Test.YtmpmedbojfjnaaaGreatDoorFSAC
import Derived.WalkKit
import Derived.WalkSmall
import Derived.KernelRfl
import Derived.Below
namespace Go.Proofs.YtmpmedbojfjnaaaGreatDoor
open Go.RowKit

theorem itake_more (xs : List Int) (k : Nat) (h : k < xs.length) : xs.take (k + 1) = xs.take k ++ [xs.getD k 0] := by
 rw [List.take_succ_eq_append_getElem h, List.getD_eq_getElem?_getD, List.getElem?_eq_getElem h]; rfl
theorem getD_mem_int {xs : List Int} {k : Nat} (h : k < xs.length) : xs.getD k 0 ∈ xs := by
 rw [List.getD_eq_getElem?_getD, List.getElem?_eq_getElem h]; exact List.getElem_mem h

set_option maxHeartbeats 1600000 in
set_option maxRecDepth 100000 in
theorem specSetHas (v : Value) (xs : List Int) (i : Int) (w : World) (h : RI w v xs) :
 Calls Tryz.prog 162 #[v, .int .i64 i] w fun e w' => e = .returned (.bool (decide (i ∈ xs))) ∧ w' = w := by
 have hl := h.1
 obtain ⟨ao, ca, rfl⟩ := h.form
 have H := hide h
 obtain ⟨n, hn⟩ : ∃ n, xs.length = n := ⟨_, rfl⟩
 have Hn := hide hn
 obtain ⟨r, hr⟩ : ∃ r, decide (i ∈ xs) = r := ⟨_, rfl⟩
 have HR := hide hr
 rw [hn] at hl H ⊢
 rw [hr]
 clear h hn hr
 go_enter Tryz.func162, Tryz.ntmps162
 go_wp2
 go_loopw [5] (fun j wr => ∃ k : Nat, k ≤ n ∧ j = .int .i64 k ∧ Hid (i ∉ xs.take k) ∧ wr = w) (fun j _ => n - (intOf j).toNat)
 case atStart => exact ⟨0, Nat.zero_le _, rfl, hide (by simp), rfl⟩
 case round =>
  obtain ⟨k, hk, rfl, HK, rfl⟩ := hrel
  by_cases hlt : k < n
  ·have hkx : k < xs.length := by have := unhide Hn; omega
   obtain ⟨b, off, rfl, c⟩ := (unhide H).at k hkx
   have HT := hide (itake_more xs k hkx)
   have HM := hide (getD_mem_int hkx)
   generalize xs.getD k 0 = d at *
   by_cases e : d = i
   ·subst e
    have hrr : r = true := by rw [← unhide HR]; exact decide_eq_true (unhide HM)
    subst hrr
    clear HT HM HK
    go_wp2
    go_ret
    exact ⟨rfl, rfl⟩
   ·have HK' : Hid (i ∉ xs.take (k + 1)) := hide (by rw [unhide HT]; simp; exact ⟨unhide HK, fun e2 => e e2.symm⟩)
    have e' : decide (d = i) = false := by simpa using e
    have e2 : (d == i) = false := by simpa using e
    clear HT HM HK
    go_wp2
    go_roundw
    case rel => exact ⟨k + 1, by omega, by go_num, HK', by first | rfl | trivial⟩
    case measure => simp [intOf]; omega
  ·have hkn : k = xs.length := by have := unhide Hn; omega
   have hrr : r = false := by
    rw [← unhide HR]
    have := unhide HK
    rw [hkn, List.take_of_length_le (Nat.le_refl _)] at this
    exact decide_eq_false this
   subst hrr
   clear HK
   go_wp2
   go_ret
   exact ⟨rfl, rfl⟩

set_option maxHeartbeats 4000000 in
set_option maxRecDepth 100000 in
theorem specSetAdd (v : Value) (xs : List Int) (i : Int) (w : World) (h : RI w v xs) (hc : Cap v) (hx : xs.length ≤ 4194303) :
 Calls Tryz.prog 143 #[v, .int .i64 i] w fun e w' => ∃ u, e = .returned u ∧ OI w' w.heap.size u (addL xs i) ∧ Below w.heap.size w w' := by
 have SH := hide fun w h => specSetHas v xs i w h
 obtain ⟨ao, ca, rfl⟩ := h.form
 obtain ⟨hcn, hcm⟩ : xs.length ≤ ca ∧ ca ≤ maxLen := by obtain ⟨_, _, _, e, h1, h2⟩ := hc; cases e; exact ⟨h1, h2⟩
 unfold maxLen at hcm
 have H := hide h
 have HP := hide h.pi
 clear h hc
 have O0 : OI (w.alloc (.cells #[] 3)) w.heap.size (.slice (some ⟨w.heap.size, 0, none⟩) 0 0) [] := by
  have := World.ownsRow_lit (base := w.heap.size) (e := 3) (size := 1) w #[] 0 (Nat.le_refl _) (by unfold maxLen; omega) (by simp)
  simpa [OI] using this
 have b0 : Below w.heap.size w (w.alloc (.cells #[] 3)) := (Below.refl _ _).alloc (Nat.le_refl _) _
 have P0 := hide ((unhide HP).below b0)
 by_cases hm : i ∈ xs
 ·have ea : addL xs i = xs := if_pos hm
  rw [ea]
  rw [decide_eq_true hm] at SH
  clear hm ea
  go_enter Tryz.func143, Tryz.ntmps143
  go_wp2_with fail
  refine (unhide SH _ (unhide H)).mono ?_
  rintro _ w1 ⟨rfl, rfl⟩
  go_wp2_with (first | (at_builtin; refine append_ints rfl _ _ rfl w1.heap.size (.slice (some ⟨w1.heap.size, 0, none⟩) 0 0) (.slice ao xs.length ca) [] xs rfl rfl O0 (unhide P0) (by simp; omega) (by simp) ?_; intro v' w2 ho' hg' _; have RB := b0.grown hg' (by simp) (fun j e => by simp [Value.ownBlock] at e; omega); clear hg'))
  go_ret
  exact ⟨_, rfl, by simpa using ho', RB⟩
 ·have ea : addL xs i = xs.takeWhile (fun x => decide (x < i)) ++ i :: xs.dropWhile (fun x => decide (x < i)) := if_neg hm
  rw [decide_eq_false hm] at SH
  have EA := hide ea
  clear hm ea
  obtain ⟨n, hn⟩ : ∃ n, xs.length = n := ⟨_, rfl⟩
  have Hn := hide hn
  rw [hn] at H P0 hx hcn SH HP ⊢
  clear hn
  go_enter Tryz.func143, Tryz.ntmps143
  go_wp2_with fail
  refine (unhide SH _ (unhide H)).mono ?_
  rintro _ w1 ⟨rfl, rfl⟩
  go_wp2
  go_loopw [5] (fun j wr => ∃ k : Nat, k ≤ n ∧ j = .int .i64 k ∧ Hid (∀ x ∈ xs.take k, x < i) ∧ wr = w1) (fun j _ => n - (intOf j).toNat)
  case atStart => exact ⟨0, Nat.zero_le _, rfl, hide (by simp), rfl⟩
  case round =>
   obtain ⟨k, hk, rfl, HK, rfl⟩ := hrel
   have FIN : Hid ((k < n → ¬ xs.getD k 0 < i) → addL xs i = xs.take k ++ i :: xs.drop k) := hide fun hst => by
    have hkx : k ≤ xs.length := by have := unhide Hn; omega
    have e1 : xs.takeWhile (fun x => decide (x < i)) = xs.take k ∧ xs.dropWhile (fun x => decide (x < i)) = xs.drop k := by
     have hall : ∀ x ∈ xs.take k, (decide (x < i)) = true := fun x hx => by simpa using unhide HK x hx
     have hd : xs.drop k = [] ∨ ∃ c t, xs.drop k = c :: t ∧ ¬ c < i := by
      by_cases hlt : k < xs.length
      ·right
       refine ⟨_, _, List.drop_eq_getElem_cons hlt, ?_⟩
       have := hst (by have := unhide Hn; omega)
       rwa [List.getD_eq_getElem?_getD, List.getElem?_eq_getElem hlt] at this
      ·left; exact List.drop_of_length_le (by omega)
     conv => lhs; lhs; rw [← List.take_append_drop k xs]
     conv => rhs; lhs; rw [← List.take_append_drop k xs]
     rw [List.takeWhile_append_of_pos hall, List.dropWhile_append_of_pos hall]
     rcases hd with e | ⟨c, t, e, hc⟩
     ·rw [e]; simp
     ·rw [e]; simp [hc]
    rw [unhide EA, e1.1, e1.2]
   by_cases hgo : k < n ∧ xs.getD k 0 < i
   ·obtain ⟨hlt, hd⟩ := hgo
    have hkx : k < xs.length := by have := unhide Hn; omega
    obtain ⟨b, off, rfl, c⟩ := (unhide H).at k hkx
    have HT := hide (itake_more xs k hkx)
    generalize xs.getD k 0 = d at *
    have HK' : Hid (∀ x ∈ xs.take (k + 1), x < i) := hide (by
     rw [unhide HT]; intro x hx
     rcases List.mem_append.1 hx with hx | hx
     ·exact unhide HK x hx
     ·simp at hx; subst hx; exact hd)
    have hd' : decide (d < i) = true := by simpa using hd
    clear HT HK FIN hd
    go_wp2
    go_roundw
    case rel => exact ⟨k + 1, by omega, by go_num, HK', by first | rfl | trivial⟩
    case measure => simp [intOf]; omega
   ·have F := hide (unhide FIN fun hlt hd => hgo ⟨hlt, hd⟩)
    have p1 := (unhide P0).take k hk ca
    have p2 := (unhide HP).drop k (ca - k) (bo := if ca = k then ao else ao.map (·.add (k * 1))) (fun hlt => if_neg (by omega))
    have hs1 : ∀ w, (Instr.slice 26 (.slice ao n ca) none (some (.int .i64 (k : Int))) none).run Tryz.prog w = .ok (.slice ao k ca) w := fun w => icut_to ao n ca k w (by omega)
    have hs2 : ∀ w, (Instr.slice 26 (.slice ao n ca) (some (.int .i64 (k : Int))) none none).run Tryz.prog w = .ok (.slice (if ca = k then ao else ao.map (·.add (k * 1))) (n - k) (ca - k)) w := fun w => icut_from ao n ca k w hk
    generalize (if ca = k then ao else ao.map (·.add (k * 1))) = bo at *
    have P1 := hide p1
    have P2 := hide p2
    have hlk : (xs.take k).length = k := by rw [List.length_take]; have := unhide Hn; omega
    have hld : (xs.drop k).length = n - k := by rw [List.length_drop, unhide Hn]
    have HLK := hide hlk
    have HLD := hide hld
    clear p1 p2 hlk hld FIN HK
    generalize xs.take k = fs at *
    generalize xs.drop k = bs at *
    have sz0 : wr.heap.size + 1 = (wr.alloc (.cells #[] 3)).heap.size := by simp
    have A1 : Hid True := hide trivial
    have A2 : Hid True := hide trivial
    have A3 : Hid True := hide trivial
    have EX : Hid (k < n → ∃ b off d, ao = some ⟨b, off, none⟩ ∧ wr.cell? ⟨b, off + k, none⟩ = some (.int .i64 d) ∧ ¬ d < i) := hide fun hlt => by
     obtain ⟨b, off, e, c⟩ := (unhide H).at k (by have := unhide Hn; omega)
     exact ⟨b, off, _, e, c, fun hd => hgo ⟨hlt, hd⟩⟩
    clear hgo
    by_cases hlt : k < n
    ·obtain ⟨b, off, d, rfl, c, hd⟩ := unhide EX hlt
     have hd' : decide (d < i) = false := by simpa using hd
     clear EX hd
     go_wp2_with (first
      | (at_builtin; have hh := A1; refine append_ints rfl _ _ rfl wr.heap.size (.slice (some ⟨wr.heap.size, 0, none⟩) 0 0) (.slice (some ⟨b, off, none⟩) k ca) [] (fs) rfl rfl O0 (unhide P1) (by rw [unhide HLK]; simp; omega) (by simp) ?_; intro v1 w2 ho1 hg1 hb1; have O1 : OI w2 wr.heap.size v1 (fs) := (by simpa using ho1); have B1 := b0.grown hg1 (by simp) (fun j e => by simp [Value.ownBlock] at e; omega); have l1 := World.ownsRow.lt O1; obtain ⟨a1, c1, rfl⟩ := O1.form; have O1' := hide (World.ownsRow.alloc O1 (.cells #[.int .i64 i] 3)); have B1' := B1.trans ((((Below.refl _ w2).alloc (Nat.le_refl _) (.cells #[.int .i64 i] 3))).mono B1.size); clear A1 ho1 hg1 hb1 O1)
      | (at_builtin; have hh := A2; refine append_ints rfl _ _ rfl wr.heap.size (.slice a1 fs.length c1) (.slice (some ⟨w2.heap.size, 0, none⟩) 1 1) (fs) [i] rfl rfl (unhide O1') ⟨_, _, rfl, .inr ⟨_, rfl, cell_one_new _ _ _⟩⟩ (by rw [unhide HLK]; simp; omega) B1'.size ?_; intro v2 w3 ho2 hg2 hb2; have B2 := B1'.grown hg2 B1'.size (fun j e => (l1 j e).1); obtain ⟨a2, c2, hv2⟩ := ho2.form; rw [List.length_append, List.length_singleton] at hv2; subst hv2; have O2 := hide ho2; have l2 := World.ownsRow.lt ho2; have P3 := hide ((unhide P2).below B2); clear A2 ho2 hg2 hb2)
      | (at_builtin; have hh := A3; refine append_ints rfl _ _ rfl wr.heap.size (.slice a2 (fs.length + 1) c2) (.slice bo (n - k) (ca - k)) (fs ++ [i]) (bs) rfl rfl (unhide O2) (unhide P3) (by rw [unhide HLD, List.length_append, unhide HLK]; simp; omega) B2.size ?_; intro v3 w4 ho3 hg3 hb3; have B3 := B2.grown hg3 B2.size (fun j e => (l2 j e).1); clear A3 hg3 hb3))
     go_ret
     exact ⟨_, rfl, by rw [unhide F]; simpa using ho3, B3⟩
    ·have hd0 : decide ((k : Int) < (n : Int)) = false := by simp; omega
     clear EX
     go_wp2_with (first
      | (at_builtin; have hh := A1; refine append_ints rfl _ _ rfl wr.heap.size (.slice (some ⟨wr.heap.size, 0, none⟩) 0 0) (.slice ao k ca) [] (fs) rfl rfl O0 (unhide P1) (by rw [unhide HLK]; simp; omega) (by simp) ?_; intro v1 w2 ho1 hg1 hb1; have O1 : OI w2 wr.heap.size v1 (fs) := (by simpa using ho1); have B1 := b0.grown hg1 (by simp) (fun j e => by simp [Value.ownBlock] at e; omega); have l1 := World.ownsRow.lt O1; obtain ⟨a1, c1, rfl⟩ := O1.form; have O1' := hide (World.ownsRow.alloc O1 (.cells #[.int .i64 i] 3)); have B1' := B1.trans ((((Below.refl _ w2).alloc (Nat.le_refl _) (.cells #[.int .i64 i] 3))).mono B1.size); clear A1 ho1 hg1 hb1 O1)
      | (at_builtin; have hh := A2; refine append_ints rfl _ _ rfl wr.heap.size (.slice a1 fs.length c1) (.slice (some ⟨w2.heap.size, 0, none⟩) 1 1) (fs) [i] rfl rfl (unhide O1') ⟨_, _, rfl, .inr ⟨_, rfl, cell_one_new _ _ _⟩⟩ (by rw [unhide HLK]; simp; omega) B1'.size ?_; intro v2 w3 ho2 hg2 hb2; have B2 := B1'.grown hg2 B1'.size (fun j e => (l1 j e).1); obtain ⟨a2, c2, hv2⟩ := ho2.form; rw [List.length_append, List.length_singleton] at hv2; subst hv2; have O2 := hide ho2; have l2 := World.ownsRow.lt ho2; have P3 := hide ((unhide P2).below B2); clear A2 ho2 hg2 hb2)
      | (at_builtin; have hh := A3; refine append_ints rfl _ _ rfl wr.heap.size (.slice a2 (fs.length + 1) c2) (.slice bo (n - k) (ca - k)) (fs ++ [i]) (bs) rfl rfl (unhide O2) (unhide P3) (by rw [unhide HLD, List.length_append, unhide HLK]; simp; omega) B2.size ?_; intro v3 w4 ho3 hg3 hb3; have B3 := B2.grown hg3 B2.size (fun j e => (l2 j e).1); clear A3 hg3 hb3))
     go_ret
     exact ⟨_, rfl, by rw [unhide F]; simpa using ho3, B3⟩
end Go.Proofs.YtmpmedbojfjnaaaGreatDoor
namespace Go.Proofs.YtmpmedbojfjnaaaGreatDoor
open Go.RowKit
set_option linter.unusedSectionVars false

variable [∀ (n : Int) (s : List Int), Decidable (OkL n s)]
theorem ok_more {n : Int} {xs : List Int} {k : Nat} (hk : k < xs.length) (h : OkL n (xs.take k)) (h0 : 0 ≤ xs.getD k 0) (h1 : xs.getD k 0 < n) (h2 : 0 < k → xs.getD (k - 1) 0 < xs.getD k 0) : OkL n (xs.take (k + 1)) := by
 rw [itake_more xs k hk]
 refine ⟨fun x hx => ?_, List.pairwise_append.2 ⟨h.2, by simp, fun x hx y hy => ?_⟩⟩
 ·rcases List.mem_append.1 hx with hx | hx
  ·exact h.1 x hx
  ·simp at hx; subst hx; exact ⟨h0, h1⟩
 ·simp at hy
  subst hy
  by_cases hk0 : 0 < k
  ·have h3 := h2 hk0
   have e : xs.take k = xs.take (k - 1) ++ [xs.getD (k - 1) 0] := by
    have := itake_more xs (k - 1) (by omega)
    rwa [show k - 1 + 1 = k by omega] at this
   have hp := h.2
   rw [e] at hx hp
   rcases List.mem_append.1 hx with hx | hx
   ·have := (List.pairwise_append.1 hp).2.2 x hx (xs.getD (k - 1) 0) (by simp)
    simp only [List.getD_eq_getElem?_getD] at *
    omega
   ·simp at hx
    simp only [List.getD_eq_getElem?_getD] at *
    omega
  ·have : k = 0 := by omega
   subst this; simp at hx
theorem ok_not {n : Int} {xs : List Int} {k : Nat} (hk : k < xs.length) (h : xs.getD k 0 < 0 ∨ n ≤ xs.getD k 0 ∨ (0 < k ∧ xs.getD k 0 ≤ xs.getD (k - 1) 0)) : ¬ OkL n xs := fun ho => by
 have hm := ho.1 _ (getD_mem_int hk)
 rcases h with h | h | ⟨h0, h⟩
 ·omega
 ·omega
 ·have := List.pairwise_iff_getElem.1 ho.2 (k - 1) k (by omega) hk (by omega)
  rw [List.getD_eq_getElem?_getD, List.getD_eq_getElem?_getD, List.getElem?_eq_getElem hk, List.getElem?_eq_getElem (show k - 1 < xs.length by omega)] at h
  simp at h
  omega

set_option maxHeartbeats 4000000 in
set_option maxRecDepth 100000 in
theorem specSetOk (m : Int) (v : Value) (xs : List Int) (w : World) (h : RI w v xs) :
 Calls Tryz.prog 114 #[.int .i64 m, v] w fun e w' => e = .returned (.bool (decide (OkL m xs))) ∧ Below w.heap.size w w' := by
 have hl := h.1
 obtain ⟨ao, ca, rfl⟩ := h.form
 have H := hide h
 obtain ⟨n, hn⟩ : ∃ n, xs.length = n := ⟨_, rfl⟩
 have Hn := hide hn
 obtain ⟨r, hr⟩ : ∃ r, decide (OkL m xs) = r := ⟨_, rfl⟩
 have HR := hide hr
 rw [hn] at hl H ⊢
 rw [hr]
 clear h hn hr
 go_enter Tryz.func114, Tryz.ntmps114
 go_wp2
 go_loopw [5] (fun j wr => ∃ k : Nat, k ≤ n ∧ j = .int .i64 k ∧ Hid (OkL m (xs.take k)) ∧ Below w.heap.size w wr) (fun j _ => n - (intOf j).toNat)
 case atStart => exact ⟨0, Nat.zero_le _, rfl, hide (by simp [OkL]), Below.refl _ _⟩
 case round =>
  obtain ⟨k, hk, rfl, HK, br⟩ := hrel
  have HR2 := hide ((unhide H).below br (Nat.le_refl _))
  by_cases hlt : k < n
  ·have hkx : k < xs.length := by have := unhide Hn; omega
   obtain ⟨b, off, rfl, c⟩ := (unhide HR2).at k hkx
   have HP : Hid (0 < k → wr.cell? ⟨b, off + (k - 1), none⟩ = some (.int .i64 (xs.getD (k - 1) 0))) := hide fun h0 => by
    obtain ⟨b', off', e, c'⟩ := (unhide HR2).at (k - 1) (by omega)
    cases e; exact c'
   have HG := hide fun h0 h1 h2 => ok_more hkx (unhide HK) h0 h1 h2
   have HB := hide fun h => ok_not (n := m) hkx h
   generalize xs.getD k 0 = d at *
   by_cases g0 : d < 0
   ·have hrr : r = false := by rw [← unhide HR]; exact decide_eq_false (unhide HB (.inl g0))
    subst hrr
    have g0' : decide (d < 0) = true := by simpa using g0
    clear HG HB HP HK
    go_wp2_with fail
    go_quiet (fail)
    go_wp2
    go_ret
    exact ⟨rfl, by first | exact br | exact below_drewN' br _⟩
   have g0' : decide (d < 0) = false := by simpa using g0
   by_cases g1 : m ≤ d
   ·have hrr : r = false := by rw [← unhide HR]; exact decide_eq_false (unhide HB (.inr (.inl g1)))
    subst hrr
    have g1' : decide (m ≤ d) = true := by simpa using g1
    clear HG HB HP HK
    go_wp2_with fail
    go_quiet (fail)
    go_wp2
    go_ret
    exact ⟨rfl, by first | exact br | exact below_drewN' br _⟩
   have g1' : decide (m ≤ d) = false := by simpa using g1
   by_cases hk0 : 0 < k
   ·have c2 := unhide HP hk0
    obtain ⟨j, rfl⟩ : ∃ j, k = j + 1 := ⟨k - 1, by omega⟩
    rw [show j + 1 - 1 = j by omega] at c2 HG HB
    generalize xs.getD j 0 = p at *
    have ej : (((j + 1 : Nat) : Int)) - 1 = (j : Int) := by omega
    have hk0' : decide ((0 : Int) < ((j + 1 : Nat) : Int)) = true := by rw [decide_eq_true_iff]; omega
    by_cases g2 : d ≤ p
    ·have hrr : r = false := by rw [← unhide HR]; exact decide_eq_false (unhide HB (.inr (.inr ⟨by omega, g2⟩)))
     subst hrr
     have g2' : decide (d ≤ p) = true := by simpa using g2
     clear HG HB HP HK
     go_wp2_with fail
     go_quiet (fail)
     go_wp2
     go_ret
     exact ⟨rfl, by first | exact br | exact below_drewN' br _⟩
    ·have g2' : decide (d ≤ p) = false := by simpa using g2
     have HK' := hide (unhide HG (by omega) (by omega) (fun _ => by omega))
     clear HG HB HP HK
     go_wp2_with fail
     go_quiet (fail)
     go_wp2
     go_roundw
     case rel => exact ⟨j + 1 + 1, by omega, by go_num, HK', by first | exact br | exact below_drewN' br _⟩
     case measure => simp [intOf]; omega
   ·obtain rfl : k = 0 := by omega
    rw [Nat.add_zero] at c
    have HK' := hide (unhide HG (by omega) (by omega) (fun h => by omega))
    clear HG HB HP HK
    go_wp2_with fail
    go_quiet (fail)
    go_wp2
    go_roundw
    case rel => exact ⟨1, by omega, by go_num, HK', by first | exact br | exact below_drewN' br _⟩
    case measure => simp [intOf]; omega
  ·have hkn : k = xs.length := by have := unhide Hn; omega
   have hrr : r = true := by
    rw [← unhide HR]
    have := unhide HK
    rw [List.take_of_length_le (by omega)] at this
    exact decide_eq_true this
   subst hrr
   have hd0 : decide ((k : Int) < (n : Int)) = false := by simp; omega
   clear HK
   go_wp2
   go_ret
   exact ⟨rfl, by first | exact br | exact below_drewN' br _⟩
end Go.Proofs.YtmpmedbojfjnaaaGreatDoor
namespace Go.Proofs.YtmpmedbojfjnaaaGreatDoor
open Go.RowKit

def Loc (w : World) (g : Nat) (cs : Array Value) : Prop := ∃ t, w.heap[g]? = some (.cells cs t (0, 0))
theorem loc_at (w : World) (cs : Array Value) (t : TypeId) {g : Nat} (h : w.heap.size = g) : Loc (w.alloc (.cells cs t)) g cs := h ▸ ⟨t, heap_alloc_new w _⟩
theorem Loc.lt {w : World} {g : Nat} {cs : Array Value} (h : Loc w g cs) : g < w.heap.size := by obtain ⟨t, h⟩ := h; exact (Array.getElem?_eq_some_iff.1 h).1
theorem Loc.cell {w : World} {g : Nat} {cs : Array Value} (h : Loc w g cs) (j : Nat) {v : Value} (hj : cs[j]? = some v) : w.cell? ⟨g, j, none⟩ = some v := by
 obtain ⟨t, h⟩ := h
 rw [cell_of_row w g j _ t (0, 0) h]; exact hj
theorem Loc.frozen {w : World} {g : Nat} {cs : Array Value} (h : Loc w g cs) (j : Nat) : w.frozen? ⟨g, j, none⟩ = false := by obtain ⟨t, h⟩ := h; exact frozen_of_row w g j _ t h
theorem Loc.below {w w' : World} {g B : Nat} {cs : Array Value} (h : Loc w g cs) (hb : Below B w w') (hg : g < B) : Loc w' g cs := by obtain ⟨t, h⟩ := h; exact ⟨t, (hb.block g hg).trans h⟩
theorem Loc.kp {w w' : World} {g : Nat} {X : Nat → Prop} {cs : Array Value} (h : Loc w g cs) (k : Kp w w' X) (hg : ¬ X g) : Loc w' g cs := by have hl := h.lt; obtain ⟨t, h⟩ := h; exact ⟨t, (k.block g hl hg).trans h⟩
theorem Loc.alloc {w : World} {g : Nat} {cs : Array Value} (h : Loc w g cs) (o : Obj) : Loc (w.alloc o) g cs := h.kp (X := fun _ => False) (Below.kpOf ((Below.refl _ _).alloc (Nat.le_refl _) o) _) (fun h => h)
theorem Loc.drewN {w : World} {g : Nat} {cs : Array Value} (h : Loc w g cs) (n : Nat) : Loc (w.drewN n) g cs := h
theorem Loc.set {w : World} {g : Nat} {cs : Array Value} (h : Loc w g cs) (j : Nat) (u : Value) {cs' : Array Value} (e : cs.setIfInBounds j u = cs') : Loc (w.setCell ⟨g, j, none⟩ u) g cs' := by obtain ⟨t, h⟩ := h; exact ⟨t, by rw [heap_setCell_same w g j _ t u h, e]⟩
theorem Loc.other {w : World} {g : Nat} {cs : Array Value} (h : Loc w g cs) {p : Addr} (hp : g ≠ p.block) (u : Value) : Loc (w.setCell p u) g cs := by obtain ⟨t, h⟩ := h; exact ⟨t, (heap_setCell_other w p g u hp).trans h⟩

abbrev r4 (a b c d : Int) : Array Value := #[.int .i64 a, .int .i64 b, .int .i64 c, .int .i64 d]
end Go.Proofs.YtmpmedbojfjnaaaGreatDoor
namespace Go.Proofs.YtmpmedbojfjnaaaGreatDoor
open Go Go.RowKit
section
variable {P : Program} {ops : Array Oper} {Q : Exit → Act → World → Prop} {md : Region.Mode} {S : World → Prop}
theorem take_at {i d : Nat} {oi : Oper} {v : Value} {fuel : Nat} {listed : Array Bool} {a : Act} {w : World} (hi : ops[i]? = some oi) (hd : oi.dst = some d)
 (hs : Region.noSelect ops = true) (hf : Region.free md ops listed i = true) (hr : (Region.ready md ops listed).contains i = true)
 (hQ : ∀ c a w, Q (.panic c) (a.put (some d) v) w → Q (.panic c) a w) (hy : YieldsIf P ops S oi v a) (hS : S w)
 (h : wpAnyH P md ops Q S fuel (listed.setIfInBounds i true) (a.put (some d) v) w) : wpAnyH P md ops Q S (fuel + 1) listed a w :=
 wpAnyH_take hi hs hf hr (by rw [hd]; exact hQ) hy hS (by rw [hd]; exact h)
theorem ready_at {i : Nat} {o : Oper} {fuel : Nat} {listed : Array Bool} {a : Act} {w : World} (ho : ops[i]? = some o) (hr : Region.ready md ops listed = [i])
 (h : ∀ K' : Act → World → Prop, Shut (∀ a w, S w → (S w → wpAnyH P md ops Q S fuel (listed.setIfInBounds i true) a w) → K' a w) → if Region.wanted o (yielded ops a.tmps) = true then Oper.wp P o a w K' Q else K' (a.put o.dst undef) w) :
 wpAnyH P md ops Q S (fuel + 1) listed a w :=
 wpAnyH_ready hr (by simp) (AllReadyH.cons ho h AllReadyH.nil)
end
section
variable {P : Program} {ops : Array Oper} {Q : Exit → Act → World → Prop} {md : Region.Mode} {S : World → Prop}
theorem tk (i d : Nat) {oi : Oper} {v : Value} {fuel : Nat} {listed : Array Bool} {a : Act} {w : World} (hi : ops[i]? = some oi) (hd : oi.dst = some d := by exact rfl)
 (hs : Region.noSelect ops = true := by kernel_rfl) (hf : Region.free md ops listed i = true := by kernel_rfl) (hr : (Region.ready md ops listed).contains i = true := by kernel_rfl)
 (hy : YieldsIf P ops S oi v a)
 (hQ : ∀ c a w, Q (.panic c) (a.put (some d) v) w → Q (.panic c) a w := by exact fun _ _ _ h => h) (hS : S w := by assumption)
 (h : wpAnyH P md ops Q S fuel (listed.setIfInBounds i true) (a.put (some d) v) w) : wpAnyH P md ops Q S (fuel + 1) listed a w :=
 take_at hi hd hs hf hr hQ hy hS h
theorem sk (i d : Nat) {oi : Oper} {fuel : Nat} {listed : Array Bool} {a : Act} {w : World} (hi : ops[i]? = some oi) (hd : oi.dst = some d := by exact rfl)
 (hs : Region.noSelect ops = true := by kernel_rfl) (hf : Region.free md ops listed i = true := by kernel_rfl) (hr : (Region.ready md ops listed).contains i = true := by kernel_rfl)
 (hy : YieldsIf P ops S oi undef a := by exact Or.inr ⟨by rfl, rfl⟩)
 (hQ : ∀ c a w, Q (.panic c) (a.put (some d) undef) w → Q (.panic c) a w := by exact fun _ _ _ h => h) (hS : S w := by assumption)
 (h : wpAnyH P md ops Q S fuel (listed.setIfInBounds i true) (a.put (some d) undef) w) : wpAnyH P md ops Q S (fuel + 1) listed a w :=
 take_at hi hd hs hf hr hQ hy hS h
end
theorem ps : (∀ (a : Act) (d : Nat) (v : Value), a.put (some d) v = { a with tmps := a.tmps.setIfInBounds d v }) ∧ (∀ (α : Type) (l : List α) (i : Nat) (x : α), l.toArray.setIfInBounds i x = (l.set i x).toArray) ∧ (∀ (α : Type) (x y : α) (l : List α), (x :: l).set 0 y = y :: l) ∧ (∀ (α : Type) (x y : α) (l : List α) (i : Nat), (x :: l).set (i + 1) y = x :: l.set i y) :=
 ⟨fun _ _ _ => rfl, fun _ _ _ _ => by simp, fun _ _ _ _ => rfl, fun _ _ _ _ _ => rfl⟩
end Go.Proofs.YtmpmedbojfjnaaaGreatDoor
