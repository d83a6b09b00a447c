/- Lemmas; their conditions stand in each statement. -/
import Derived.Test.YtjkcphnohhpihaaGreatDoorPPAA
import Derived.Deep.RegionHeld3
import Derived.Deep.DeepCutAuto
import Derived.Maps.AppendAt
set_option maxRecDepth 100000
set_option maxHeartbeats 800000
set_option linter.unusedSectionVars false
namespace Go.Proofs.YtjkcphnohhpihaaGreatDoor
section
open Go.RowKit
variable [∀ (a b c d : Int), Decidable (Ok4 a b c d)]
abbrev cv (n f : Int) : Value := .agg #[.int .i64 n,.int .i64 f]
def COk (n f : Int) : Prop := (4 ≤ n ∧ n ≤ 7) ∧ 1 ≤ f ∧ f ≤ 6
variable [∀ (n f : Int), Decidable (COk n f)]
def faultsOf (n f : Int) : Int := if COk n f then (n - 1) / 3 else 0
def quorumOf (n f : Int) : Int := if COk n f then n - (n - 1) / 3 else 0
theorem cok_cases {n f : Int} (h : COk n f) : n = 4 ∨ n = 5 ∨ n = 6 ∨ n = 7 := by obtain ⟨h, _⟩ := h; omega
theorem conf_below (w : World) (o : Obj) : Below w.heap.size w (w.alloc o) := (Below.refl _ _).alloc (Nat.le_refl _) _

theorem specConfOk (n f : Int) (w : World) :
 Calls Tryz.prog 83 #[cv n f] w fun e w' => e = .returned (.bool (decide (COk n f))) ∧ Below w.heap.size w w' := by
 by_cases h1 : 4 ≤ n ∧ n ≤ 7
 ·by_cases h2 : 1 ≤ f ∧ f ≤ 6
  ·have hd : decide (COk n f) = true:=by simp [COk, h1, h2]
   rw [hd]
   go_enter Tryz.func83, Tryz.ntmps83
   go_wp2_with (first | (go_at_call 84; refine (in_yes _ _ _ _ (by omega) (by omega)).mono ?_; rintro e w' ⟨rfl, rfl⟩))
   go_ret
   exact ⟨rfl, conf_below _ _⟩
  have hd : decide (COk n f) = false:=by simp [COk, h1]; omega
  rw [hd]
  go_enter Tryz.func83, Tryz.ntmps83
  go_wp2_with fail
  refine (in_yes _ _ _ _ (by omega) (by omega)).mono ?_
  rintro e w' ⟨rfl, rfl⟩
  go_wp2_with fail
  refine (in_no _ _ _ _ (by omega)).mono ?_
  rintro e w' ⟨rfl, rfl⟩
  go_wp2
  go_ret
  exact ⟨rfl, conf_below _ _⟩
 have hd : decide (COk n f) = false:=by simp only [decide_eq_false_iff_not]; rintro ⟨h, _⟩; exact h1 h
 rw [hd]
 go_enter Tryz.func83, Tryz.ntmps83
 go_wp2_with fail
 refine (in_no _ _ _ _ (by omega)).mono ?_
 rintro e w' ⟨rfl, rfl⟩
 go_wp2
 go_ret
 exact ⟨rfl, conf_below _ _⟩

theorem implConfOk (n f : Int) (w : World) :
 Calls Tryz.prog 80 #[cv n f] w fun e w' => e = .returned (.bool (decide (COk n f))) ∧ Below w.heap.size w w' := by
 by_cases h1 : 4 ≤ n ∧ n ≤ 7
 ·by_cases h2 : 1 ≤ f ∧ f ≤ 6
  ·have hd : decide (COk n f) = true:=by simp [COk, h1, h2]
   rw [hd]
   go_enter Tryz.func80, Tryz.ntmps80
   go_wp2_with (first | (go_at_call 81; refine (within_yes _ _ _ _ (by omega) (by omega)).mono ?_; rintro e w' ⟨rfl, rfl⟩))
   go_ret
   exact ⟨rfl, conf_below _ _⟩
  have hd : decide (COk n f) = false:=by simp [COk, h1]; omega
  rw [hd]
  go_enter Tryz.func80, Tryz.ntmps80
  go_wp2_with fail
  refine (within_yes _ _ _ _ (by omega) (by omega)).mono ?_
  rintro e w' ⟨rfl, rfl⟩
  go_wp2_with fail
  refine (within_no _ _ _ _ (by omega)).mono ?_
  rintro e w' ⟨rfl, rfl⟩
  go_wp2
  go_ret
  exact ⟨rfl, conf_below _ _⟩
 have hd : decide (COk n f) = false:=by simp only [decide_eq_false_iff_not]; rintro ⟨h, _⟩; exact h1 h
 rw [hd]
 go_enter Tryz.func80, Tryz.ntmps80
 go_wp2_with fail
 refine (within_no _ _ _ _ (by omega)).mono ?_
 rintro e w' ⟨rfl, rfl⟩
 go_wp2
 go_ret
 exact ⟨rfl, conf_below _ _⟩

theorem implFaults (n f : Int) (w : World) :
 Calls Tryz.prog 129 #[cv n f] w fun e w' => e = .returned (.int .i64 (faultsOf n f)) ∧ Below w.heap.size w w' := by
 have OK:=hide fun w => implConfOk n f w
 by_cases h : COk n f
 ·have hd : decide (COk n f) = true:=by simpa using h
  rw [hd] at OK
  have hf : faultsOf n f = (n - 1) / 3:=by simp [faultsOf, h]
  rw [hf]
  have L0:=loc_at w #[.int .i64 n,.int .i64 f] 33 rfl
  rcases cok_cases h with rfl | rfl | rfl | rfl
  all_goals
   clear h hd hf
   go_enter Tryz.func129, Tryz.ntmps129
   go_wp2_with fail
   refine (OK.out _).mono ?_
   rintro e w1 ⟨rfl, b1⟩
   have L1:=L0.up b1
   have B1:=(conf_below _ _).trans (b1.mono (by simp))
   have p0:=L1.cell 0 rfl
   have p1:=L1.cell 1 rfl
   clear L0 b1
   go_wp2
   go_ret
   exact ⟨by go_num, B1⟩
 have hd : decide (COk n f) = false:=by simpa using h
 rw [hd] at OK
 have hf : faultsOf n f = 0:=by simp [faultsOf, h]
 rw [hf]
 clear h hd hf
 go_enter Tryz.func129, Tryz.ntmps129
 go_wp2_with fail
 refine (OK.out _).mono ?_
 rintro e w1 ⟨rfl, b1⟩
 go_wp2
 go_ret
 exact ⟨rfl, (conf_below _ _).trans (b1.mono (by simp))⟩

theorem specQuorum (n f : Int) (w : World) :
 Calls Tryz.prog 105 #[cv n f] w fun e w' => e = .returned (.int .i64 (quorumOf n f)) ∧ Below w.heap.size w w' := by
 have OK:=hide fun w => specConfOk n f w
 by_cases h : COk n f
 ·have hd : decide (COk n f) = true:=by simpa using h
  rw [hd] at OK
  have hf : quorumOf n f = n - (n - 1) / 3:=by simp [quorumOf, h]
  rw [hf]
  have L0:=loc_at w #[.int .i64 n,.int .i64 f] 33 rfl
  rcases cok_cases h with rfl | rfl | rfl | rfl
  all_goals
   clear h hd hf
   go_enter Tryz.func105, Tryz.ntmps105
   go_wp2_with fail
   refine (OK.out _).mono ?_
   rintro e w1 ⟨rfl, b1⟩
   have L1:=L0.up b1
   have B1:=(conf_below _ _).trans (b1.mono (by simp))
   have p0:=L1.cell 0 rfl
   have p1:=L1.cell 1 rfl
   clear L0 b1
   go_wp2
   go_ret
   exact ⟨by go_num, B1⟩
 have hd : decide (COk n f) = false:=by simpa using h
 rw [hd] at OK
 have hf : quorumOf n f = 0:=by simp [quorumOf, h]
 rw [hf]
 clear h hd hf
 go_enter Tryz.func105, Tryz.ntmps105
 go_wp2_with fail
 refine (OK.out _).mono ?_
 rintro e w1 ⟨rfl, b1⟩
 go_wp2
 go_ret
 exact ⟨rfl, (conf_below _ _).trans (b1.mono (by simp))⟩

theorem implQuorum (n f : Int) (w : World) :
 Calls Tryz.prog 113 #[cv n f] w fun e w' => e = .returned (.int .i64 (quorumOf n f)) ∧ Below w.heap.size w w' := by
 have OK:=hide fun w => implConfOk n f w
 have FA:=hide fun w => implFaults n f w
 by_cases h : COk n f
 ·have hd : decide (COk n f) = true:=by simpa using h
  rw [hd] at OK
  have hf : quorumOf n f = n - faultsOf n f:=by simp [quorumOf, faultsOf, h]
  rw [hf]
  have h1:=h.1.1
  have h2:=h.1.2
  have hg : faultsOf n f = (n - 1) / 3:=by simp [faultsOf, h]
  have h3 : 1 ≤ faultsOf n f ∧ faultsOf n f ≤ 2:=by omega
  obtain ⟨h3, h4⟩:=h3
  clear hg hf hd h
  generalize faultsOf n f = q at *
  have L0:=loc_at w #[.int .i64 n,.int .i64 f] 33 rfl
  go_enter Tryz.func113, Tryz.ntmps113
  go_wp2_with fail
  refine (OK.out _).mono ?_
  rintro e w1 ⟨rfl, b1⟩
  have L1:=L0.up b1
  have B1 : Below w.heap.size w w1:=(conf_below _ _).trans (b1.mono (by simp))
  have K : Hid (∀ w', Below w1.heap.size w1 w' → Below w1.heap.size w1 w' ∧ w'.cell? ⟨w.heap.size, 0, none⟩ = some (.int .i64 n) ∧ w'.cell? ⟨w.heap.size, 1, none⟩ = some (.int .i64 f)):=hide fun w' hb' =>
   ⟨hb', (L1.up hb').cell 0 rfl, (L1.up hb').cell 1 rfl⟩
  have bA : Below w1.heap.size w1 w1.drew:=Below.drew (Below.refl _ _)
  have hKeep:=K.out _ bA
  clear L0 L1 b1
  go_upto_region 3 with fail
  first | go_region_held3 (fun w' => Below w1.heap.size w1 w' ∧ w'.cell? ⟨w.heap.size, 0, none⟩ = some (.int .i64 n) ∧ w'.cell? ⟨w.heap.size, 1, none⟩ = some (.int .i64 f)) (exact hKeep) (first
   | (go_at_call 129; have hgo := bA; refine (FA.out _).mono ?_; rintro e wa ⟨rfl, ba⟩
      have bB : Below w1.heap.size w1 wa:=bu bA ba
      have hKeep:=K.out _ bB; clear bA hgo ba)) | fail
  all_goals
   go_wp2
   go_ret
   exact ⟨by simp only [IntKind.wrap_i64]; simp; omega, bu B1 bB⟩
 have hd : decide (COk n f) = false:=by simpa using h
 rw [hd] at OK
 have hf : quorumOf n f = 0:=by simp [quorumOf, h]
 rw [hf]
 clear h hd hf
 go_enter Tryz.func113, Tryz.ntmps113
 go_wp2_with fail
 refine (OK.out _).mono ?_
 rintro e w1 ⟨rfl, b1⟩
 go_wp2
 go_ret
 exact ⟨rfl, (conf_below _ _).trans (b1.mono (by simp))⟩

theorem toConf_any (n f : Int) (w : World) :
 Calls Tryz.prog 8 #[cv n f] w fun e w' => e = .returned (cv n f) ∧ Below w.heap.size w w' := by
 go_enter Tryz.func8, Tryz.ntmps8
 go_wp2
 refine bodyPost_ret (v := cv n f) (by simp [results, Tryz.results8, go_sem]) rfl ?_
 exact ⟨rfl, (((Below.refl _ _).alloc (Nat.le_refl _) _).alloc (by simp) _).alloc (by simp; omega) _⟩
end
section
open Go.RowKit
def imarks (k0 n : Nat) : List Int := (List.range n).map fun (i : Nat) => (k0 : Int) + (i : Int)
theorem imarks_len (k0 n : Nat) : (imarks k0 n).length = n := by simp [imarks]
theorem imarks_get (k0 n i : Nat) (h : i < n) : (imarks k0 n).getD i 0 = (k0 : Int) + (i : Int) := by simp [imarks, h]
theorem imarks_succ (k0 n : Nat) : imarks k0 (n + 1) = imarks k0 n ++ [(k0 : Int) + (n : Int)] := by simp [imarks, List.range_succ]
def imixed (k0 k : Nat) (vs : List Value) : List Value := (imarks k0 k).map (Value.int .i64) ++ vs.drop k
theorem imixed_zero (k0 : Nat) (vs : List Value) : imixed k0 0 vs = vs := by simp [imixed, imarks]
theorem imixed_all (k0 : Nat) (vs : List Value) : imixed k0 vs.length vs = (imarks k0 vs.length).map (Value.int .i64) := by simp [imixed]
theorem imixed_get (k0 k : Nat) (vs : List Value) (h : k < vs.length) : (imixed k0 k vs)[k]? = some (vs[k]) := by
 simp [imixed, List.getElem?_append, imarks_len, h]
theorem imixed_set (k0 k : Nat) (vs : List Value) (h : k < vs.length) : (imixed k0 k vs).set k (.int .i64 ((k0 : Int) + (k : Int))) = imixed k0 (k + 1) vs := by
 unfold imixed
 rw [imarks_succ, List.set_append_right _ _ (by simp [imarks_len]), List.length_map, imarks_len, Nat.sub_self, List.drop_eq_getElem_cons h, List.set_cons_zero]
 simp

theorem imark_row (base g n cap k0 : Nat) (vs : List Value) (w : World) (hn : n ≤ 4194304) (hk0 : k0 ≤ 100000000) (h : w.ownsRow base 3 1 (.slice (some ⟨g, 0, none⟩) n cap) n vs) :
 Calls Tryz.prog 52 #[.slice (some ⟨g, 0, none⟩) n cap,.int .i64 k0] w fun e w' => e = .returned (.int .i64 (k0 + n)) ∧
  w'.ownsRow base 3 1 (.slice (some ⟨g, 0, none⟩) n cap) n ((imarks k0 n).map (Value.int .i64)) ∧ w.grownBy w' (some g) := by
 have hv0 : vs.length = n:=by simpa using h.1
 have Hv : Hid (vs.length = n):=hv0
 clear hv0
 go_enter Tryz.func52, Tryz.ntmps52
 go_wp2
 go_loopw [1, 5] (fun c i wr => ∃ k : Nat, k ≤ n ∧ i = .int .i64 k ∧ c = .int .i64 (k0 + k) ∧ wr.ownsRow base 3 1 (.slice (some ⟨g, 0, none⟩) n cap) n (imixed k0 k vs) ∧ w.grownBy wr (some g)) (fun _ i _ => n - (intOf i).toNat)
 case atStart => exact ⟨0, Nat.zero_le _, rfl, by go_num, by rw [imixed_zero]; exact h, grown_refl _ _⟩
 case round =>
  obtain ⟨k, hk, rfl, rfl, ho, hg⟩:=hrel
  by_cases hlt : k < n
  ·have hkv : k < vs.length:=by rw [Hv.out]; exact hlt
   obtain ⟨u, hu⟩ : ∃ u, wr.cell? ⟨g, k, none⟩ = some u:=⟨_, (ho.cellAt k (by omega)).trans (imixed_get k0 k vs hkv)⟩
   have hfr:=ho.frozenAt k
   have hs:=ho.stored k (.int .i64 ((k0 : Int) + (k : Int)))
   have HS : Hid ((wr.setCell ⟨g, k, none⟩ (.int .i64 ((k0 : Int) + (k : Int)))).ownsRow base 3 1 (.slice (some ⟨g, 0, none⟩) n cap) n (imixed k0 (k + 1) vs)):=by
    rw [← imixed_set k0 k vs hkv]; exact hs.1
   have HG : Hid (w.grownBy (wr.setCell ⟨g, k, none⟩ (.int .i64 ((k0 : Int) + (k : Int)))) (some g)):=grown_trans hg hs.2
   clear hs ho hg
   go_wp2
   go_roundw
   case rel => exact ⟨k + 1, by omega, by go_num, by go_num, HS.out, HG.out⟩
   case measure => simp [intOf]; omega
  have hkn : k = n:=by omega
  have HO : Hid (wr.ownsRow base 3 1 (.slice (some ⟨g, 0, none⟩) n cap) n ((imarks k0 n).map (Value.int .i64))):=by
   have:=imixed_all k0 vs; rw [Hv.out] at this; rw [← this, ← hkn]; rw [← hkn] at ho; exact ho
  clear ho
  subst hkn
  go_wp2
  go_ret
  exact ⟨rfl, HO.out, hg⟩

theorem iheld_any (v : Value) (n k0 : Nat) (w : World) (hk0 : k0 ≤ 100000000) (h : RI w v (imarks k0 n)) :
 Calls Tryz.prog 53 #[v,.int .i64 k0] w fun e w' => e = .returned (.int .i64 (k0 + n)) ∧ w' = w := by
 obtain ⟨hl, ao, ca, rfl, ha⟩:=h
 rw [imarks_len] at hl ha ⊢
 go_enter Tryz.func53, Tryz.ntmps53
 go_wp2
 go_loop [1, 5] (fun c i => ∃ k : Nat, k ≤ n ∧ i = .int .i64 k ∧ c = .int .i64 (k0 + k)) (fun _ i => n - (intOf i).toNat)
 case atStart => exact ⟨0, Nat.zero_le _, rfl, by go_num⟩
 case round =>
  obtain ⟨k, hk, rfl, rfl⟩:=hrel
  by_cases hlt : k < n
  ·rcases ha with ha | ⟨b, off, rfl, ha⟩
   ·have:=congrArg List.length ha; rw [imarks_len] at this; simp at this; omega
   have ha':=ha k hlt
   rw [imarks_get k0 n k hlt] at ha'
   clear ha
   go_wp2
   go_round
   case rel => exact ⟨k + 1, by omega, by go_num, by go_num⟩
   case measure => simp [intOf]; omega
  have hkn : k = n:=by omega
  subst hkn
  clear ha
  go_wp2
  go_ret
  exact ⟨rfl, rfl⟩

theorem imark_none (w : World) (k0 : Nat) : Calls Tryz.prog 52 #[.slice none 0 0,.int .i64 k0] w fun e w' => e = .returned (.int .i64 k0) ∧ w' = w := by
 go_enter Tryz.func52, Tryz.ntmps52
 go_wp2
 refine wp_loop_rounds 1 ?_
 rw [rounds_succ]
 go_wp2
 go_ret
 exact ⟨rfl, rfl⟩

theorem imark_any (base k0 : Nat) (v : Value) (xs : List Int) (w : World) (hl : xs.length ≤ 4194304) (hk0 : k0 ≤ 100000000) (h : OI w base v xs) :
 Calls Tryz.prog 52 #[v,.int .i64 k0] w fun e w' => e = .returned (.int .i64 (k0 + xs.length)) ∧ OI w' base v (imarks k0 xs.length) ∧ w.grownBy w' v.ownBlock := by
 have h':=h
 rcases h.2 with ⟨rfl, h0⟩ | ⟨g, cap, cur, rfl, _⟩
 ·refine (imark_none w k0).mono ?_
  rintro e w' ⟨rfl, rfl⟩
  have hx : xs = []:=List.length_eq_zero_iff.1 h0
  subst hx
  exact ⟨by simp, World.ownsRow_nil _ _ _ _, grown_refl _ _⟩
 refine (imark_row base g xs.length cap k0 _ w hl hk0 h').mono ?_
 rintro e w' ⟨rfl, ho, hg⟩
 refine ⟨rfl, ?_, hg⟩
 unfold OI
 rw [imarks_len]
 exact ho
theorem ints_plain64 (xs : List Int) (u : Value) (h : u ∈ xs.map (Value.int .i64)) : u.oneCell' = true := by
 obtain ⟨x, _, rfl⟩:=List.mem_map.1 h; rfl

theorem inews_cells {w : World} {g off : Nat} {xs : List Int} (h : ∀ k, k < xs.length → w.cell? ⟨g, off + k, none⟩ = some (.int .i64 (xs.getD k 0))) :
 ∀ j u, (xs.map (Value.int .i64))[j]? = some u → w.cell? ((⟨g, off, none⟩ : Addr).add j) = some u := by
 intro j u hj
 rw [List.getElem?_map] at hj
 obtain ⟨x, hx, rfl⟩:=Option.map_eq_some_iff.1 hj
 have hlt:=(List.getElem?_eq_some_iff.1 hx).1
 have e : ((⟨g, off, none⟩ : Addr).add j) = ⟨g, off + j, none⟩:=by unfold Addr.add; split <;> simp_all
 rw [e, h j hlt]
 simp [List.getD_eq_getElem?_getD, hx]
def PI (w : World) (v : Value) (xs : List Int) : Prop :=
 ∃ ao cap, v = .slice ao xs.length cap ∧ (xs = [] ∨ ∃ ad : Addr, ao = some ad ∧ ∀ j u, (xs.map (Value.int .i64))[j]? = some u → w.cell? (ad.add j) = some u)
theorem PI.below {w w' : World} {v : Value} {xs : List Int} (h : PI w v xs) (hb : Below w.heap.size w w') : PI w' v xs := by
 obtain ⟨ao, cap, rfl, h⟩:=h
 refine ⟨ao, cap, rfl, ?_⟩
 rcases h with h | ⟨ad, rfl, h⟩
 ·exact .inl h
 exact .inr ⟨ad, rfl, fun j u hj => (hb.cell (cell_lt (h j u hj))).trans (h j u hj)⟩
theorem RI.pi {w : World} {v : Value} {xs : List Int} (h : RI w v xs) : PI w v xs := by
 obtain ⟨hl, ao, cap, rfl, h⟩:=h
 refine ⟨ao, cap, rfl, ?_⟩
 rcases h with h | ⟨b, off, rfl, h⟩
 ·exact .inl h
 exact .inr ⟨_, rfl, inews_cells h⟩
theorem RI.form {w : World} {v : Value} {xs : List Int} (h : RI w v xs) : ∃ ao ca, v = .slice ao xs.length ca := by obtain ⟨_, ao, ca, e, _⟩ := h; exact ⟨ao, ca, e⟩
theorem RI.at {w : World} {ao : Option Addr} {n ca : Nat} {xs : List Int} (h : RI w (.slice ao n ca) xs) (k : Nat) (hk : k < xs.length) : ∃ b off, ao = some ⟨b, off, none⟩ ∧ w.cell? ⟨b, off + k, none⟩ = some (.int .i64 (xs.getD k 0)) := by
 obtain ⟨_, ao', ca', e, h⟩:=h
 cases e
 rcases h with rfl | ⟨b, off, rfl, h⟩
 ·simp at hk
 exact ⟨b, off, rfl, h k hk⟩
theorem PI.take {w : World} {ao : Option Addr} {n cap : Nat} {xs : List Int} (h : PI w (.slice ao n cap) xs) (k : Nat) (hk : k ≤ n) (cap' : Nat) : PI w (.slice ao k cap') (xs.take k) := by
 obtain ⟨ao', cap2, e, h⟩:=h
 cases e
 refine ⟨ao, cap', by rw [List.length_take]; congr 1; omega, ?_⟩
 rcases h with rfl | ⟨ad, rfl, h⟩
 ·left; simp
 refine .inr ⟨ad, rfl, fun j u hj => h j u ?_⟩
 rw [List.map_take, List.getElem?_take] at hj
 split at hj
 ·exact hj
 cases hj
theorem PI.drop {w : World} {ao : Option Addr} {n cap : Nat} {xs : List Int} (h : PI w (.slice ao n cap) xs) (k : Nat) (cap' : Nat) {bo : Option Addr} (hb : k < n → bo = ao.map (·.add (k * 1))) : PI w (.slice bo (n - k) cap') (xs.drop k) := by
 obtain ⟨ao', cap2, e, h⟩:=h
 cases e
 refine ⟨bo, cap', by rw [List.length_drop], ?_⟩
 by_cases hlt : k < xs.length
 ·rcases h with rfl | ⟨ad, rfl, h⟩
  ·simp at hlt
  refine .inr ⟨ad.add (k * 1), hb hlt, fun j u hj => ?_⟩
  rw [List.map_drop, List.getElem?_drop] at hj
  have:=h _ u hj
  rw [← this]
  congr 1
  obtain ⟨b, o, s⟩:=ad
  unfold Addr.add
  split <;> split <;> simp_all <;> omega
 left; rw [List.drop_of_length_le (by omega)]
theorem grown_same (w : World) (row : Option Nat) : w.grownBy w row := ⟨rfl, rfl, rfl, Nat.le_refl _, fun _ _ _ => rfl⟩
theorem run_append_none1 (ty : TypeId) (base cap : Nat) (v : Value) (n : Nat) (xs : List Value) (w : World) (hown : w.ownsRow base 3 1 v n xs) :
 (Builtin.append_ #[25, 25] ty #[v,.slice none 0 cap]).run Tryz.prog w = .ok v w := by
 obtain ⟨i0, hi, hz0, hz1, hz2⟩:=info_parts Tryz.info3
 rcases hown.2 with ⟨rfl, rfl⟩ | ⟨g, cp, cur, rfl, _, _, hnc, _⟩
 ·simp [Builtin.append_, run_underlying Tryz.underlying25, sizeOf, typeInfo, hi, Builtin.lenOf, Builtin.firstCells]
 simp [Builtin.append_, run_underlying Tryz.underlying25, sizeOf, typeInfo, hi, Builtin.lenOf, Builtin.firstCells, hnc, storeCells]
theorem append_ints {ops : Array Oper} {rest : List Oper} {o : Oper} {a : Act} {Q : Exit → Act → World → Prop} {w : World} (hgd : o.guard = none) (s x : Operand)
 (ho : o.op = .call { callee := .builtin .append, args := #[s, x], argTypes := #[25, 25] }) (base : Nat) (v u : Value) (xs ys : List Int) (hs : a.eval s = v) (hx : a.eval x = u)
 (hown : OI w base v xs) (hp : PI w u ys) (hl : xs.length + ys.length ≤ 16777216) (hbase : base ≤ w.heap.size)
 (h : ∀ v' w', OI w' base v' (xs ++ ys) → w.grownBy w' v.ownBlock → (v'.ownBlock = v.ownBlock ∨ v'.ownBlock = some w.heap.size) → wpList Tryz.prog ops Q rest (a.put o.dst v') w') :
 wpList Tryz.prog ops Q (o :: rest) a w := by
 obtain ⟨i0, hi, hz0, hz1, hz2⟩:=info_parts Tryz.info3
 obtain ⟨ao, cap, rfl, hp⟩:=hp
 match ao, hx with
 | none, hx =>
  have hy : ys = []:=by rcases hp with h | ⟨ad, e, _⟩; exact h; cases e
  subst hy
  refine wpList_plain hgd fun K hK => ?_
  have hrun:=run_append_none1 o.type base cap v xs.length (xs.map (Value.int .i64)) w hown
  unfold Oper.wp
  simp only [List.length_nil] at hx
  simp [execOp, ho, resolve, invoke, builtin, hs, hx, hrun, Result.andThen]
  exact hK _ _ (h v w (by simpa using hown) (grown_same _ _) (.inl rfl))
 | some ad, hx =>
  have hn : ∀ j u, (ys.map (Value.int .i64))[j]? = some u → w.cell? (ad.add j) = some u:=by
   rcases hp with rfl | ⟨ad', e, h⟩
   ·intro j u hj; simp at hj
   cases e; exact h
  refine wpList_append_own_at _ hgd s x 25 ho base 3 i0 (.int .i64 0) 1 8 Tryz.underlying25 hi hz0 hz1 hz2 rfl (by decide) v xs.length (xs.map (Value.int .i64)) hs hown ad ys.length cap (ys.map (Value.int .i64)) hx (by simp) hn (ints_plain64 ys) (by unfold maxLen; omega) (by omega) hbase ?_
  intro v' w' ho' hg' _ hb'
  refine h v' w' ?_ hg' hb'
  unfold OI
  rw [List.map_append, List.length_append]
  exact ho'
theorem icut_to (ao : Option Addr) (n ca k : Nat) (w : World) (hk : k ≤ ca) :
 (Instr.slice 25 (.slice ao n ca) none (some (.int .i64 (k : Int))) none).run Tryz.prog w = .ok (.slice ao k ca) w := by
 obtain ⟨i0, hi, hz0, hz1, hz2⟩:=info_parts Tryz.info3
 rw [run_slice_h (ht := Tryz.underlying25) (kh := .i64) (h := (k : Int)) (h0 := by omega) (h2 := by omega)]
 have he : Tryz.prog.elem 25 = 3:=by simp [Program.elem, Tryz.underlying25]
 have hs : (sizeOf (Tryz.prog.elem 25)).run Tryz.prog w = .ok 1 w:=by rw [he]; simp [sizeOf, typeInfo, hi, hz1]
 rw [hs]
 simp [sliced, Result.andThen]
 intro _; cases ao <;> rfl
theorem icut_from (ao : Option Addr) (n ca k : Nat) (w : World) (hk : k ≤ n) :
 (Instr.slice 25 (.slice ao n ca) (some (.int .i64 (k : Int))) none none).run Tryz.prog w = .ok (.slice (if ca = k then ao else ao.map (·.add (k * 1))) (n - k) (ca - k)) w := by
 obtain ⟨i0, hi, hz0, hz1, hz2⟩:=info_parts Tryz.info3
 rw [run_slice_l (ht := Tryz.underlying25) (kl := .i64) (l := (k : Int)) (h0 := by omega) (h1 := by omega)]
 have he : Tryz.prog.elem 25 = 3:=by simp [Program.elem, Tryz.underlying25]
 have hs : (sizeOf (Tryz.prog.elem 25)).run Tryz.prog w = .ok 1 w:=by rw [he]; simp [sizeOf, typeInfo, hi, hz1]
 rw [hs]
 simp [sliced, Result.andThen]
def Cap (v : Value) : Prop := ∃ ao n cap, v = .slice ao n cap ∧ n ≤ cap ∧ cap ≤ maxLen
theorem OI.cap {w : World} {base : Nat} {v : Value} {xs : List Int} (h : OI w base v xs) : Cap v := by
 rcases h.2 with ⟨rfl, h0⟩ | ⟨g, cap, cur, rfl, _, _, h1, h2, h3⟩
 ·exact ⟨_, _, _, rfl, by simp, by unfold maxLen; omega⟩
 exact ⟨_, _, _, rfl, by first | exact h1 | exact h2 | exact h3 | omega, by first | exact h2 | exact h3 | omega⟩
abbrev qv (n : Int) (s : ByteArray) (v : Value) : Value := .agg #[.int .i64 n,.string s, v]
theorem qalloc (w : World) (o : Obj) : Below w.heap.size w (w.alloc o) := (Below.refl _ _).alloc (Nat.le_refl _) _
theorem qalloc2 (w : World) (o p : Obj) : Below w.heap.size w ((w.alloc o).alloc p) := ((Below.refl _ _).alloc (Nat.le_refl _) _).alloc (by simp) _
end
section

def addL (s : List Int) (i : Int) : List Int := if i ∈ s then s else s.takeWhile (fun x => decide (x < i)) ++ i :: s.dropWhile (fun x => decide (x < i))
def joinL (a b : List Int) : List Int := (a ++ b).foldl addL []
def comL (a b : List Int) : Nat := (a.filter fun x => decide (x ∈ b)).length
def OkL (n : Int) (s : List Int) : Prop := (∀ x ∈ s, 0 ≤ x ∧ x < n) ∧ s.Pairwise (· < ·)
theorem mem_add (s : List Int) (i x : Int) : x ∈ addL s i ↔ x ∈ s ∨ x = i := by
 unfold addL
 split
 ·rename_i h
  constructor
  ·exact .inl
  rintro (h1 | rfl)
  ·exact h1
  exact h
 have e:=List.takeWhile_append_dropWhile (p:=fun x => decide (x < i)) (l:=s)
 have h2 : x ∈ s ↔ x ∈ s.takeWhile (fun x => decide (x < i)) ∨ x ∈ s.dropWhile (fun x => decide (x < i)):=by
  conv => lhs; rw [← e]
  exact List.mem_append
 simp only [List.mem_append, List.mem_cons, h2]
 constructor
 ·rintro (h | h | h)
  ·exact .inl (.inl h)
  ·exact .inr h
  exact .inl (.inr h)
 rintro ((h | h) | h)
 ·exact .inl h
 ·exact .inr (.inr h)
 exact .inr (.inl h)
theorem tw_lt (i : Int) (s : List Int) : ∀ x ∈ s.takeWhile (fun x => decide (x < i)), x < i := fun x hx => by
 have:=List.all_takeWhile (p:=fun x => decide (x < i)) (l:=s)
 simpa using List.all_eq_true.1 this x hx
theorem dw_ge (i : Int) (s : List Int) (hs : s.Pairwise (· < ·)) : ∀ x ∈ s.dropWhile (fun x => decide (x < i)), i ≤ x := by
 induction s with
 | nil => simp
 | cons c s ih =>
  rw [List.dropWhile_cons]
  obtain ⟨h1, h2⟩:=List.pairwise_cons.1 hs
  split
  ·exact ih h2
  rename_i hc
  simp at hc
  intro x hx
  rcases List.mem_cons.1 hx with rfl | hx
  ·exact hc
  have:=h1 x hx; omega
theorem add_asc (s : List Int) (i : Int) (hs : s.Pairwise (· < ·)) : (addL s i).Pairwise (· < ·) := by
 unfold addL
 split
 ·exact hs
 rename_i hn
 have e:=List.takeWhile_append_dropWhile (p:=fun x => decide (x < i)) (l:=s)
 have hs':=hs
 rw [← e] at hs'
 obtain ⟨h1, h2, h3⟩:=List.pairwise_append.1 hs'
 refine List.pairwise_append.2 ⟨h1, List.pairwise_cons.2 ⟨fun x hx => ?_, h2⟩, fun x hx y hy => ?_⟩
 ·have h4:=dw_ge i s hs x hx
  have : x ≠ i:=fun e2 => hn (by rw [← e2, ← e]; exact List.mem_append_right _ hx)
  omega
 rcases List.mem_cons.1 hy with rfl | hy
 ·exact tw_lt _ s x hx
 exact h3 x hx y hy
theorem fold_mem (l s : List Int) (x : Int) : x ∈ l.foldl addL s ↔ x ∈ s ∨ x ∈ l := by
 induction l generalizing s with
 | nil => simp
 | cons c l ih => rw [List.foldl_cons, ih, mem_add, List.mem_cons, or_assoc]
theorem fold_asc (l s : List Int) (hs : s.Pairwise (· < ·)) : (l.foldl addL s).Pairwise (· < ·) := by
 induction l generalizing s with
 | nil => exact hs
 | cons c l ih => exact ih _ (add_asc s c hs)
theorem mem_join (a b : List Int) (x : Int) : x ∈ joinL a b ↔ x ∈ a ∨ x ∈ b := by
 unfold joinL; rw [fold_mem]; simp
theorem join_asc (a b : List Int) : (joinL a b).Pairwise (· < ·) := fold_asc _ _ List.Pairwise.nil
theorem asc_ext : ∀ {s t : List Int}, s.Pairwise (· < ·) → t.Pairwise (· < ·) → (∀ x, x ∈ s ↔ x ∈ t) → s = t
 | [], [], _, _, _ => rfl
 | [], b :: t, _, _, h => by have := (h b).2 (by simp); simp at this
 | a :: s, [], _, _, h => by have := (h a).1 (by simp); simp at this
 | a :: s, b :: t, hs, ht, h => by
  obtain ⟨h1, h2⟩:=List.pairwise_cons.1 hs
  obtain ⟨h3, h4⟩:=List.pairwise_cons.1 ht
  have e : a = b:=by
   have ha:=(h a).1 (by simp)
   have hb:=(h b).2 (by simp)
   rcases List.mem_cons.1 ha with e | ha
   ·exact e
   rcases List.mem_cons.1 hb with e | hb
   ·exact e.symm
   have:=h3 a ha; have:=h1 b hb; omega
  subst e
  rw [asc_ext h2 h4 fun x => ?_]
  constructor
  ·intro hx
   have:=(h x).1 (by simp [hx])
   rcases List.mem_cons.1 this with e | h5
   ·have:=h1 x hx; omega
   exact h5
  intro hx
  have:=(h x).2 (by simp [hx])
  rcases List.mem_cons.1 this with e | h5
  ·have:=h3 x hx; omega
  exact h5
theorem join_comm (a b : List Int) : joinL a b = joinL b a := asc_ext (join_asc a b) (join_asc b a) fun x => by rw [mem_join, mem_join]; exact or_comm
theorem join_is {a b t : List Int} (ht : t.Pairwise (· < ·)) (h : ∀ x, x ∈ t ↔ x ∈ a ∨ x ∈ b) : t = joinL a b := asc_ext ht (join_asc a b) fun x => by rw [h, mem_join]
theorem com_split (a b : List Int) : (a.filter fun x => decide (x ∉ b)).length + comL a b = a.length := by
 unfold comL
 induction a with
 | nil => rfl
 | cons c a ih =>
  simp only [List.filter_cons, List.length_cons]
  by_cases h : c ∈ b
  ·simp [h]; simp at ih; omega
  simp [h]; simp at ih; omega
theorem add_len (s : List Int) (i : Int) : (addL s i).length ≤ s.length + 1 := by
 unfold addL
 split
 ·omega
 have e:=congrArg List.length (List.takeWhile_append_dropWhile (p:=fun x => decide (x < i)) (l:=s))
 rw [List.length_append] at e
 rw [List.length_append, List.length_cons]; omega
theorem fold_len (l s : List Int) : (l.foldl addL s).length ≤ s.length + l.length := by
 induction l generalizing s with
 | nil => simp
 | cons c l ih =>
  have h1:=ih (addL s c)
  have h2:=add_len s c
  rw [List.foldl_cons, List.length_cons]; omega
theorem fold_snoc (l s : List Int) (x : Int) : (l ++ [x]).foldl addL s = addL (l.foldl addL s) x := by rw [List.foldl_append]; rfl
def WfL (xs : List Int) : Prop := ∀ x ∈ xs, (Lit.int .i64 x).wf = true
theorem WfL.at {xs : List Int} (h : WfL xs) (k : Nat) (hk : k < xs.length) : (Lit.int .i64 (xs.getD k 0)).wf = true := by
 rw [List.getD_eq_getElem?_getD, List.getElem?_eq_getElem hk]; exact h _ (List.getElem_mem hk)
end
end Go.Proofs.YtjkcphnohhpihaaGreatDoor
