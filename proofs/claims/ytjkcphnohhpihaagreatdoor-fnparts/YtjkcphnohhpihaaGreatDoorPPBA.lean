/- Lemmas; their conditions stand in each statement. -/
import Derived.Test.YtjkcphnohhpihaaGreatDoorPPAZ
set_option maxRecDepth 100000
set_option maxHeartbeats 8000000
set_option linter.unusedSectionVars false
namespace Go.Proofs.YtjkcphnohhpihaaGreatDoor
section
open Go.RowKit
theorem kp_to {a b : World} {g : Nat} (h : Kp a b (fun k => k = g)) : a.grownBy b (some g) :=
 ⟨h.os, h.tape, h.output, h.size, fun j hj hx => h.block j hj (fun e => hx (e ▸ rfl))⟩
theorem kp_of {a b : World} {g : Nat} (h : a.grownBy b (some g)) : Kp a b (fun k => k = g) := (kp_grown h).mono fun k e => by simpa using e.symm

theorem wf_small {x : Int} (h0 : -256 ≤ x) (h1 : x ≤ 256) : (Lit.int .i64 x).wf = true := by
 simp only [Lit.wf, IntKind.min, IntKind.max, IntKind.signed, IntKind.bits, Bool.and_eq_true, decide_eq_true_eq, if_true]
 omega
theorem wf_add {xs : List Int} {x : Int} (h : WfL xs) (hx : (Lit.int .i64 x).wf = true) : WfL (addL xs x) := fun y hy => by
 rcases (mem_add xs x y).1 hy with h1 | rfl
 ·exact h y h1
 exact hx
theorem wf_snoc {xs : List Int} {x : Int} (h : WfL xs) (hx : (Lit.int .i64 x).wf = true) : WfL (xs ++ [x]) := fun y hy => by
 rcases List.mem_append.1 hy with h1 | h1
 ·exact h y h1
 simp at h1; subst h1; exact hx
theorem drawSet (base g ca : Nat) (ao : Option Addr) (zs : List Int) (n : Int) (w : World) (hB : base ≤ w.heap.size) (hn : 1 ≤ n) (hm : n ≤ 256) (h : Cur w base g ao ca zs) :
 Calls Tryz.prog 96 #[.pointer (some ⟨g, 0, none⟩),.int .i64 n] w fun e w' => ∃ v, ∃ xs : List Int, e = .returned v ∧ xs.length ≤ 9 ∧ Hid (WfL xs) ∧ OI w' w.heap.size v xs ∧ Cur w' base g ao ca zs ∧ w.grownBy w' (some g) := by
 have hlt:=h.lt
 have O0 : OI (w.alloc (.cells #[] 3)) w.heap.size (.slice (some ⟨w.heap.size, 0, none⟩) 0 0) []:=by
  have:=World.ownsRow_lit (base:=w.heap.size) (e:=3) (size:=1) w #[] 0 (Nat.le_refl _) (by unfold maxLen; omega) (by simp)
  simpa [OI] using this
 have b0 : Below w.heap.size w (w.alloc (.cells #[] 3)):=(Below.refl _ _).alloc (Nat.le_refl _) _
 have C0:=h.below hB b0
 have K0 : Kp w (w.alloc (.cells #[] 3)) (fun k => k = g):=Below.kpOf b0 _
 clear h b0
 go_enter Tryz.func96, Tryz.ntmps96
 go_wp2
 go_loopw [5, 6] (fun out j wr => ∃ (k : Nat) (xs : List Int), k ≤ 8 ∧ j = .int .i64 k ∧ xs.length ≤ k ∧ Hid (WfL xs) ∧ OI wr w.heap.size out xs ∧ Cur wr base g ao ca zs ∧ Kp w wr (fun k => k = g)) (fun _ j _ => 8 - (intOf j).toNat)
 case atStart => exact ⟨0, [], by omega, rfl, by simp, hide (fun x hx => by simp at hx), O0, C0, K0⟩
 case round =>
  clear O0 C0 K0
  obtain ⟨k, xs, hk, rfl, hxl, WX, ho, C, K⟩:=hrel
  have sk:=K.size
  obtain ⟨oa, oc, rfl⟩:=ho.form
  go_wp2_with fail
  refine (below_any base g ca ao zs 8 _ (by omega) (by omega) (by omega) C).mono ?_
  rintro _ w1 ⟨r, rfl, r0, r1, C1, g1⟩
  have k1:=kp_of g1
  have s1:=k1.size
  have l0:=World.ownsRow.lt ho
  have O1:=OI.kp ho k1 (fun j hj e => by have:=(l0 j hj).1; omega)
  have K1:=K.trans k1
  clear C K g1 k1 ho l0
  by_cases hlt2 : (k : Int) < r
  ·have hd : decide ((k : Int) < r) = true:=by simpa using hlt2
   go_wp2_with fail
   refine (below_any base g ca ao zs n _ (by omega) hn hm C1).mono ?_
   rintro _ w2 ⟨x, rfl, x0, x1, C2, g2⟩
   have k2:=kp_of g2
   have s2:=k2.size
   have l1:=World.ownsRow.lt O1
   have O2:=OI.kp O1 k2 (fun j hj e => by have:=(l1 j hj).1; omega)
   have K2:=K1.trans k2
   have SA:=hide (specSetAdd _ xs x w2 (O2.ri (by omega)) O2.cap (by omega))
   have hal:=add_len xs x
   have WY:=hide (wf_add WX.out (wf_small (by omega) (by omega) : (Lit.int .i64 x).wf = true))
   clear C1 K1 g2 k2 O1 l1 O2
   generalize addL xs x = ys at *
   go_wp2_with fail
   refine SA.out.mono ?_
   rintro _ w3 ⟨u, rfl, o3, b3⟩
   have C3:=C2.below (by omega) b3
   have K3:=K2.trans (Below.kpOf b3 _)
   have O3:=OI.mono o3 (show w.heap.size ≤ w2.heap.size by omega)
   obtain ⟨ua, uc, rfl⟩:=o3.form
   clear SA C2 K2 b3 o3
   go_wp2
   go_roundw
   case rel => exact ⟨k + 1, ys, by omega, by go_num, by omega, WY, O3, C3, K3⟩
   case measure => simp [intOf]; omega
  have hd : decide ((k : Int) < r) = false:=by simpa using hlt2
  go_wp2_with fail
  refine (once_any base g ca ao zs 12 _ (by omega) (by omega) (by omega) C1).mono ?_
  rintro _ w2 ⟨q, rfl, C2, g2⟩
  have k2:=kp_of g2
  have s2:=k2.size
  have l1:=World.ownsRow.lt O1
  have O2:=OI.kp O1 k2 (fun j hj e => by have:=(l1 j hj).1; omega)
  have K2:=K1.trans k2
  clear C1 K1 g2 k2 O1 l1
  cases q with
  | false =>
   go_wp2
   go_ret
   exact ⟨_, xs, rfl, by omega, WX, O2, C2, kp_to K2⟩
  | true =>
   obtain ⟨w3, hw3⟩ : ∃ w3, w2.alloc (.cells #[.int .i64 (-1),.int .i64 0,.int .i64 3,.int .i64 9] 3) = w3:=⟨_, rfl⟩
   have b3 : Below w2.heap.size w2 w3:=hw3 ▸ (Below.refl _ _).alloc (Nat.le_refl _) _
   have h40 : w3.cell? ⟨w2.heap.size, 0, none⟩ = some (.int .i64 (-1)):=by rw [← hw3]; simp
   have h41 : w3.cell? ⟨w2.heap.size, 1, none⟩ = some (.int .i64 0):=by rw [← hw3]; simp
   have h42 : w3.cell? ⟨w2.heap.size, 2, none⟩ = some (.int .i64 3):=by rw [← hw3]; simp
   have h43 : w3.cell? ⟨w2.heap.size, 3, none⟩ = some (.int .i64 9):=by rw [← hw3]; simp
   have hc3 : ∀ k, k < ([-1, 0, 3, 9] : List Int).length → w3.cell? ⟨w2.heap.size, k, none⟩ = some (.int .i64 (([-1, 0, 3, 9] : List Int).getD k 0)):=fun k hk => by
    match k, hk with
    | 0, _ => exact h40
    | 1, _ => exact h41
    | 2, _ => exact h42
    | 3, _ => exact h43
    | k + 4, hk => simp at hk; omega
   have C3:=C2.below (by omega) b3
   have O3:=O2.below b3
   have K3:=K2.trans (Below.kpOf b3 _)
   have s3:=b3.size
   have hgl:=C2.lt
   have PK:=hide (pickInt_any base g ca w2.heap.size ao zs [-1, 0, 3, 9] w3 (by omega) (by omega) (by simp) (by simp) hc3 C3)
   clear C2 K2 O2 b3 hc3 h40 h41 h42 h43
   go_wp2_with fail
   refine PK.out.mono ?_
   rintro _ w4 ⟨kk, hkk, rfl, C4, g4⟩
   have k4:=kp_of g4
   have s4:=k4.size
   have l3:=World.ownsRow.lt O3
   have O4:=OI.kp O3 k4 (fun j hj e => by have:=(l3 j hj).1; omega)
   have K4:=K3.trans k4
   have hdd : -256 ≤ ([-1, 0, 3, 9] : List Int).getD kk 0 ∧ ([-1, 0, 3, 9] : List Int).getD kk 0 ≤ 256:=by
    match kk, hkk with
    | 0, _ => decide
    | 1, _ => decide
    | 2, _ => decide
    | 3, _ => decide
    | k + 4, hk => simp at hk; omega
   generalize ([-1, 0, 3, 9] : List Int).getD kk 0 = dd at *
   have WY:=hide (wf_snoc WX.out (wf_small hdd.1 hdd.2))
   have b5 : Below w4.heap.size w4 (w4.alloc (.cells #[.int .i64 dd] 3)):=(Below.refl _ _).alloc (Nat.le_refl _) _
   have O5:=O4.below b5
   have C5:=C4.below (by omega) b5
   have K5:=K4.trans (Below.kpOf b5 _)
   have l5:=World.ownsRow.lt O5
   clear hw3 PK C3 K3 O3 C4 O4 K4 g4 k4 l3 b5
   go_wp2_with (first | (at_builtin; refine append_ints rfl _ _ rfl w.heap.size (.slice oa xs.length oc) (.slice (some ⟨w4.heap.size, 0, none⟩) 1 1) xs [dd] rfl rfl O5 ⟨_, _, rfl, .inr ⟨_, rfl, cell_one_new _ _ _⟩⟩ (by simp; omega) (by simp; omega) ?_; intro v' w6 ho6 hg6 _; have C6 := C5.grownNew hg6 (fun j e => by have := (l5 j e).1; omega); have K6 := grown_new (kp_to K5) hg6 (fun j e => (l5 j e).1); clear hg6))
   go_ret
   exact ⟨_, xs ++ [dd], rfl, by simp; omega, WY, ho6, C6, K6⟩

structure SCode (w : World) (ao : Option Addr) (xs : List Int) : Prop where
 len : xs.length ≤ 1048576
 code : xs = [] ∨ ∃ b off, ao = some ⟨b, off, none⟩ ∧ ∀ k, k < xs.length → w.cell? ⟨b, off + k, none⟩ = some (.int .u8 (xs.getD k 0))
 fit : ∀ k, k < xs.length → 0 ≤ xs.getD k 0 ∧ xs.getD k 0 ≤ 255
theorem SCode.below {w w' : World} {ao : Option Addr} {xs : List Int} (h : SCode w ao xs) (hb : Below w.heap.size w w') : SCode w' ao xs := by
 refine ⟨h.len, ?_, h.fit⟩
 rcases h.code with h' | ⟨b, off, ha, hx⟩
 ·exact .inl h'
 exact .inr ⟨b, off, ha, fun k hk => (hb.cell (p := ⟨b, off + k, none⟩) (cell_lt (hx k hk))).trans (hx k hk)⟩
def fromL (f : Int) (k : Nat) : List Int := (List.range k).map fun (i : Nat) => f + (i : Int)
theorem fromL_len (f : Int) (k : Nat) : (fromL f k).length = k := by simp [fromL]
theorem fromL_succ (f : Int) (k : Nat) : fromL f (k + 1) = fromL f k ++ [f + (k : Int)] := by simp [fromL, List.range_succ]
theorem fromL_ok {n f : Int} {k : Nat} (h0 : 0 ≤ f) (h : f + (k : Int) ≤ n) : OkL n (fromL f k) := by
 refine ⟨fun x hx => ?_, ?_⟩
 ·obtain ⟨i, hi, rfl⟩:=List.mem_map.1 hx
  have:=List.mem_range.1 hi
  omega
 unfold fromL
 rw [List.pairwise_map]
 exact List.pairwise_lt_range.imp fun h => by omega
theorem wf_ok {n : Int} {xs : List Int} (hn : n ≤ 256) (h : OkL n xs) : WfL xs := fun x hx => wf_small (by have := h.1 x hx; omega) (by have := h.1 x hx; omega)
theorem WfL.sub {xs ys : List Int} (h : WfL xs) (hs : ∀ y ∈ ys, y ∈ xs) : WfL ys := fun y hy => h y (hs y hy)
end
section
open Go.RowKit
variable [∀ (a b c d : Int), Decidable (Ok4 a b c d)]
variable [∀ (a b c d : Nat), Decidable (okN a b c d)]
variable [∀ (last : Int) (s : St), Decidable (GoodSt last s)]
variable [∀ (x : T4), Decidable (OkT x)]
variable [∀ (n : Int) (s : List Int), Decidable (OkL n s)]
variable [∀ (n f : Int), Decidable (COk n f)]
theorem steps_nil : stepsAns ⟨#[]⟩ = some [] := by simp [stepsAns]
theorem view_nil : viewAns ⟨#[]⟩ = 0 := by simp [viewAns, steps_nil]
theorem view_none {s : ByteArray} (h : (stepsAns s).isSome = false) : viewAns s = 0 := by
 cases e : stepsAns s with
 | none => simp [viewAns, e]
 | some ss => rw [e] at h; cases h
theorem view_pos {s : ByteArray} (h : (stepsAns s).isSome = true) (hs : s ≠ ⟨#[]⟩) : 0 < viewAns s := by
 obtain ⟨ss, e⟩:=Option.isSome_iff_exists.1 h
 have h1:=(height_view (s:=s)).1
 unfold heightAns at h1
 rw [e] at h1
 have hne : ss ≠ []:=by
  rintro rfl
  have:=((names_iff _ _).1 e).1
  exact hs (ba_ext (by simpa [nm] using this))
 have:=List.length_pos_iff.2 hne
 simp only at h1
 omega
theorem qok_eq (n f v : Int) (s : ByteArray) (xs : List Int) : (decide (COk n f) && (alikeB v 0 s ⟨#[]⟩ xs [] || votedB n f v s xs)) = qokB n f v s xs := by
 unfold qokB votedB alikeB
 by_cases hc : COk n f
 ·simp only [hc, decide_true, Bool.true_and]
  by_cases hs : s = ⟨#[]⟩
  ·subst hs
   rw [steps_nil, view_nil]
   by_cases hv : v = 0
   ·subst hv
    simp
   have h1 : (v == 0) = false:=by simpa using hv
   have h2 : ((0 : Int) == v) = false:=by simp; omega
   simp [h1, h2, hv]
  simp only [hs, false_and, and_false, decide_false, Bool.false_or, if_false]
  cases hn : (stepsAns s).isSome with
  | false =>
   rw [view_none hn]
   by_cases hv : v = 0
   ·subst hv; simp
   ·have h1 : (v == 0) = false:=by simpa using hv
    simp [h1]
  | true =>
   have hp:=view_pos hn hs
   by_cases hv : v = viewAns s
   ·subst hv
    have h1 : decide (0 < viewAns s) = true:=by simpa using hp
    simp only [h1, beq_self_eq_true, Bool.true_and]
    rw [Bool.and_comm]
   have h1 : (v == viewAns s) = false:=by simpa using hv
   have h2 : (viewAns s == v) = false:=by simp; omega
   simp [h1, h2]
 simp [hc]
theorem pok_alt (n f m : Int) (s : ByteArray) (xs : List Int) : pokB n f m s xs = (decide (COk n f) && (decide (1 ≤ m ∧ m ≤ 60) && ((decide (s = ⟨#[]⟩) || (viewAns s == m)) && (decide ((0 : Int) < (xs.length : Int)) && decide (OkL n xs))))) := by
 have hx : decide (xs ≠ []) = decide ((0 : Int) < (xs.length : Int)):=by cases xs with | nil => rfl | cons a l => simp <;> omega
 have hv : (viewAns s == m) = decide (viewAns s = m):=by rw [Bool.eq_iff_iff, beq_iff_eq, decide_eq_true_iff]
 unfold pokB
 rw [hx, hv]
 by_cases hm : 1 ≤ m ∧ m ≤ 60
 ·cases hk : (stepsAns s).isSome with
  | true => simp only [Bool.true_and]; cases decide (COk n f) <;> cases decide (1 ≤ m ∧ m ≤ 60) <;> cases decide (OkL n xs) <;> cases decide ((0 : Int) < (xs.length : Int)) <;> simp
  | false =>
   have h0:=view_none hk
   have : decide (viewAns s = m) = false:=by simp; omega
   rw [this]
   cases decide (COk n f) <;> cases decide (1 ≤ m ∧ m ≤ 60) <;> cases decide (OkL n xs) <;> cases decide ((0 : Int) < (xs.length : Int)) <;> simp
 rw [decide_eq_false hm]; simp
theorem within_bool (x lo hi : Int) (w : World) : Calls Tryz.prog 81 #[.int .i64 x,.int .i64 lo,.int .i64 hi] w fun e w' => e = .returned (.bool (decide (lo ≤ x ∧ x ≤ hi))) ∧ Below w.heap.size w w' := by
 by_cases h : lo ≤ x ∧ x ≤ hi
 ·rw [decide_eq_true h]; exact (within_yes x lo hi w h.1 h.2).mono fun _ _ h => ⟨h.1, h.2 ▸ Below.refl _ _⟩
 rw [decide_eq_false h]; exact (within_no x lo hi w (by omega)).mono fun _ _ h => ⟨h.1, h.2 ▸ Below.refl _ _⟩

theorem namesIts_any (m : Int) (s : ByteArray) (u : Value) (w : World) (hs : s.size ≤ 33554432) (hE : Env w) :
 Calls Tryz.prog 82 #[qv m s u] w fun e w' => e = .returned (.bool (decide (s = ⟨#[]⟩) || (viewAns s == m))) ∧ Below w.heap.size w w' := by
 obtain ⟨w0, hw0, Bw0, LP, _⟩:=bx1 w #[.int .i64 m,.string s, u] 36
 have HE:=hide (hE.below Bw0)
 have VO:=hide fun w hE => implViewOf s w hs hE
 generalize viewAns s = vw at *
 clear hE
 by_cases he : s = ⟨#[]⟩
 ·have hd : decide (s = ⟨#[]⟩) = true:=by simpa using he
  have hy : (s.toList == []) = true:=by rw [he, ByteArray.toList_eq]; rfl
  rw [hd, Bool.true_or]
  clear he hd
  go_enter Tryz.func82, Tryz.ntmps82
  have K:=kw (kc3 LP 0 1 2)
  go_upto_region 1 with fail
  clear hw0
  refine wra K (fun bA hHeld => ?_)
  refine tx 0 3 ?_
  refine tx 1 4 ?_
  refine tx 2 5 ?_
  refine tx 3 6 ?_
  refine sx 4 7 ?_
  refine sx 7 10 ?_
  refine sx 5 8 ?_
  refine sx 8 11 ?_
  refine sx 6 9 ?_
  refine sx 9 12 ?_
  refine tx 10 13 ?_
  refine tx 11 2 ?_
  clear hHeld
  refine wdn ?_
  obtain ⟨wd1, hwd⟩ : ∃ y, w0.drew = y:=⟨_, rfl⟩
  rw [hwd] at bA ⊢
  clear hwd
  have bb:=bA
  have Bwd1:=bu Bw0 bb
  have swd1:=bb.size
  replace LP:=LP.up bb
  clear Bw0 bb bA K
  go_wp2
  go_ret
  exact ⟨rfl, Bwd1⟩
 have hd : decide (s = ⟨#[]⟩) = false:=by simpa using he
 have hne:=ne2 he
 rw [hd, Bool.false_or]
 clear he hd
 go_enter Tryz.func82, Tryz.ntmps82
 have K:=kw (kc3 LP 0 1 2)
 go_upto_region 1 with fail
 clear hw0
 refine wra K (fun bA hHeld => ?_)
 refine tx 0 3 ?_
 refine tx 1 4 ?_
 refine tx 2 5 ?_
 refine tx 3 6 ?_
 refine tx 4 7 ?_
 refine tx 7 10 ?_
 refine tx 5 8 ?_
 refine tx 8 11 ?_
 refine rd 6 rfl (fun KK hKK => ?_)
 go_simp
 have hgo:=bA
 refine (VO.out _ (HE.out.below hgo)).mono ?_
 rintro e wz1_1 ⟨rfl, bb⟩
 have bz1 : Below w0.heap.size w0 wz1_1:=bu bA bb
 clear bA hgo bb hHeld
 refine hKK.out _ _ (K.out _ bz1) (fun hHeld => ?_)
 clear hKK KK
 refine tx 9 12 ?_
 refine tx 10 13 ?_
 refine tx 11 2 ?_
 clear hHeld
 refine wdn ?_
 have bb:=bz1
 have Bwz1_1:=bu Bw0 bb
 have swz1_1:=bb.size
 replace LP:=LP.up bb
 clear Bw0 bb bz1 K
 go_wp2
 go_ret
 exact ⟨rfl, Bwz1_1⟩

theorem implPartOk (n f m : Int) (s : ByteArray) (u : Value) (xs : List Int) (w : World) (hs : s.size ≤ 33554432) (hE : Env w) (hu : RI w u xs) :
 Calls Tryz.prog 38 #[cv n f, qv m s u] w fun e w' => e = .returned (.bool (pokB n f m s xs)) ∧ Below w.heap.size w w' := by
 obtain ⟨ua, uc, rfl⟩:=hu.form
 rw [pok_alt]
 obtain ⟨k, hk⟩ : ∃ k, xs.length = k:=⟨_, rfl⟩
 have CO:=hide fun w => implConfOk n f w
 have IN:=hide fun w => within_bool m 1 60 w
 have NI:=hide fun w hE => namesIts_any m s (.slice ua xs.length uc) w hs hE
 have SO:=hide fun w h => implSetOk n (.slice ua xs.length uc) xs w h
 obtain ⟨w0, hw0, Bw0, LC, LP, _⟩:=bx2 w #[.int .i64 n,.int .i64 f] 33 #[.int .i64 m,.string s,.slice ua xs.length uc] 36
 have HEw:=hide fun w' (hb : Below w.heap.size w w') => hE.below hb
 have RU:=hide fun w' (hb : Below w.heap.size w w') => hu.below hb
 rw [hk] at NI SO LP RU hw0 ⊢
 clear hu hE hk
 generalize decide (COk n f) = c at *
 generalize decide (1 ≤ m ∧ m ≤ 60) = r at *
 generalize (decide (s = ⟨#[]⟩) || (viewAns s == m)) = v at *
 generalize decide (OkL n xs) = o at *
 cases c
 ·simp only [Bool.false_and]
  go_enter Tryz.func38, Tryz.ntmps38
  obtain ⟨cLC0,cLC1⟩:=cc2 LC 0 1
  go_wp2_with fail
  clear hw0
  refine (CO.out _).mono ?_
  rintro _ w1 ⟨rfl, bb⟩
  clear cLC0 cLC1
  have Bw1:=bu Bw0 bb
  have sw1:=bb.size
  replace LC:=LC.up bb
  replace LP:=LP.up bb
  clear Bw0 bb
  obtain ⟨cLC0,cLC1⟩:=cc2 LC 0 1
  obtain ⟨cLP0,cLP1,cLP2⟩:=cc3 LP 0 1 2
  go_wp2
  go_ret
  exact ⟨rfl, Bw1⟩
 simp only [Bool.true_and]
 cases r
 ·simp only [Bool.false_and]
  go_enter Tryz.func38, Tryz.ntmps38
  obtain ⟨cLC0,cLC1⟩:=cc2 LC 0 1
  go_wp2_with fail
  clear hw0
  refine (CO.out _).mono ?_
  rintro _ w1 ⟨rfl, bb⟩
  clear cLC0 cLC1
  have Bw1:=bu Bw0 bb
  have sw1:=bb.size
  replace LC:=LC.up bb
  replace LP:=LP.up bb
  clear Bw0 bb
  obtain ⟨cLP0,cLP1,cLP2⟩:=cc3 LP 0 1 2
  go_wp2_with fail
  refine (IN.out _).mono ?_
  rintro _ w2 ⟨rfl, bb⟩
  clear cLP0 cLP1 cLP2
  have Bw2:=bu Bw1 bb
  have sw2:=bb.size
  replace LC:=LC.up bb
  replace LP:=LP.up bb
  clear Bw1 bb
  obtain ⟨cLC0,cLC1⟩:=cc2 LC 0 1
  obtain ⟨cLP0,cLP1,cLP2⟩:=cc3 LP 0 1 2
  go_wp2
  go_ret
  exact ⟨rfl, Bw2⟩
 simp only [Bool.true_and]
 cases v
 ·simp only [Bool.false_and]
  go_enter Tryz.func38, Tryz.ntmps38
  obtain ⟨cLC0,cLC1⟩:=cc2 LC 0 1
  go_wp2_with fail
  clear hw0
  refine (CO.out _).mono ?_
  rintro _ w1 ⟨rfl, bb⟩
  clear cLC0 cLC1
  have Bw1:=bu Bw0 bb
  have sw1:=bb.size
  replace LC:=LC.up bb
  replace LP:=LP.up bb
  clear Bw0 bb
  obtain ⟨cLP0,cLP1,cLP2⟩:=cc3 LP 0 1 2
  go_wp2_with fail
  refine (IN.out _).mono ?_
  rintro _ w2 ⟨rfl, bb⟩
  clear cLP0 cLP1 cLP2
  have Bw2:=bu Bw1 bb
  have sw2:=bb.size
  replace LC:=LC.up bb
  replace LP:=LP.up bb
  clear Bw1 bb
  obtain ⟨cLP0,cLP1,cLP2⟩:=cc3 LP 0 1 2
  go_wp2_with fail
  refine (NI.out _ (HEw.out _ Bw2)).mono ?_
  rintro _ w3 ⟨rfl, bb⟩
  clear cLP0 cLP1 cLP2
  have Bw3:=bu Bw2 bb
  have sw3:=bb.size
  replace LC:=LC.up bb
  replace LP:=LP.up bb
  clear Bw2 bb
  obtain ⟨cLC0,cLC1⟩:=cc2 LC 0 1
  obtain ⟨cLP0,cLP1,cLP2⟩:=cc3 LP 0 1 2
  go_wp2
  go_ret
  exact ⟨rfl, Bw3⟩
 simp only [Bool.true_and]
 by_cases hk : k = 0
 ·subst hk
  have hd0 : decide ((0 : Int) < ((0 : Nat) : Int)) = false:=rfl
  rw [hd0]
  simp only [Bool.false_and]
  go_enter Tryz.func38, Tryz.ntmps38
  obtain ⟨cLC0,cLC1⟩:=cc2 LC 0 1
  go_wp2_with fail
  clear hw0
  refine (CO.out _).mono ?_
  rintro _ w1 ⟨rfl, bb⟩
  clear cLC0 cLC1
  have Bw1:=bu Bw0 bb
  have sw1:=bb.size
  replace LC:=LC.up bb
  replace LP:=LP.up bb
  clear Bw0 bb
  obtain ⟨cLP0,cLP1,cLP2⟩:=cc3 LP 0 1 2
  go_wp2_with fail
  refine (IN.out _).mono ?_
  rintro _ w2 ⟨rfl, bb⟩
  clear cLP0 cLP1 cLP2
  have Bw2:=bu Bw1 bb
  have sw2:=bb.size
  replace LC:=LC.up bb
  replace LP:=LP.up bb
  clear Bw1 bb
  obtain ⟨cLP0,cLP1,cLP2⟩:=cc3 LP 0 1 2
  go_wp2_with fail
  refine (NI.out _ (HEw.out _ Bw2)).mono ?_
  rintro _ w3 ⟨rfl, bb⟩
  clear cLP0 cLP1 cLP2
  have Bw3:=bu Bw2 bb
  have sw3:=bb.size
  replace LC:=LC.up bb
  replace LP:=LP.up bb
  clear Bw2 bb
  obtain ⟨cLC0,cLC1⟩:=cc2 LC 0 1
  obtain ⟨cLP0,cLP1,cLP2⟩:=cc3 LP 0 1 2
  go_wp2
  go_ret
  exact ⟨rfl, Bw3⟩
 have hd0 : decide ((0 : Int) < (k : Int)) = true:=by simp; omega
 rw [hd0]
 simp only [Bool.true_and]
 cases o
 ·go_enter Tryz.func38, Tryz.ntmps38
  obtain ⟨cLC0,cLC1⟩:=cc2 LC 0 1
  go_wp2_with fail
  clear hw0
  refine (CO.out _).mono ?_
  rintro _ w1 ⟨rfl, bb⟩
  clear cLC0 cLC1
  have Bw1:=bu Bw0 bb
  have sw1:=bb.size
  replace LC:=LC.up bb
  replace LP:=LP.up bb
  clear Bw0 bb
  obtain ⟨cLP0,cLP1,cLP2⟩:=cc3 LP 0 1 2
  go_wp2_with fail
  refine (IN.out _).mono ?_
  rintro _ w2 ⟨rfl, bb⟩
  clear cLP0 cLP1 cLP2
  have Bw2:=bu Bw1 bb
  have sw2:=bb.size
  replace LC:=LC.up bb
  replace LP:=LP.up bb
  clear Bw1 bb
  obtain ⟨cLP0,cLP1,cLP2⟩:=cc3 LP 0 1 2
  go_wp2_with fail
  refine (NI.out _ (HEw.out _ Bw2)).mono ?_
  rintro _ w3 ⟨rfl, bb⟩
  clear cLP0 cLP1 cLP2
  have Bw3:=bu Bw2 bb
  have sw3:=bb.size
  replace LC:=LC.up bb
  replace LP:=LP.up bb
  clear Bw2 bb
  obtain ⟨cLC0,cLC1⟩:=cc2 LC 0 1
  obtain ⟨cLP0,cLP1,cLP2⟩:=cc3 LP 0 1 2
  go_wp2_with fail
  refine (SO.out _ (RU.out _ Bw3)).mono ?_
  rintro _ w4 ⟨rfl, bb⟩
  clear cLC0 cLC1 cLP0 cLP1 cLP2
  have Bw4:=bu Bw3 bb
  have sw4:=bb.size
  replace LC:=LC.up bb
  replace LP:=LP.up bb
  clear Bw3 bb
  obtain ⟨cLC0,cLC1⟩:=cc2 LC 0 1
  obtain ⟨cLP0,cLP1,cLP2⟩:=cc3 LP 0 1 2
  go_wp2
  go_ret
  exact ⟨rfl, Bw4⟩
 go_enter Tryz.func38, Tryz.ntmps38
 obtain ⟨cLC0,cLC1⟩:=cc2 LC 0 1
 go_wp2_with fail
 clear hw0
 refine (CO.out _).mono ?_
 rintro _ w1 ⟨rfl, bb⟩
 clear cLC0 cLC1
 have Bw1:=bu Bw0 bb
 have sw1:=bb.size
 replace LC:=LC.up bb
 replace LP:=LP.up bb
 clear Bw0 bb
 obtain ⟨cLP0,cLP1,cLP2⟩:=cc3 LP 0 1 2
 go_wp2_with fail
 refine (IN.out _).mono ?_
 rintro _ w2 ⟨rfl, bb⟩
 clear cLP0 cLP1 cLP2
 have Bw2:=bu Bw1 bb
 have sw2:=bb.size
 replace LC:=LC.up bb
 replace LP:=LP.up bb
 clear Bw1 bb
 obtain ⟨cLP0,cLP1,cLP2⟩:=cc3 LP 0 1 2
 go_wp2_with fail
 refine (NI.out _ (HEw.out _ Bw2)).mono ?_
 rintro _ w3 ⟨rfl, bb⟩
 clear cLP0 cLP1 cLP2
 have Bw3:=bu Bw2 bb
 have sw3:=bb.size
 replace LC:=LC.up bb
 replace LP:=LP.up bb
 clear Bw2 bb
 obtain ⟨cLC0,cLC1⟩:=cc2 LC 0 1
 obtain ⟨cLP0,cLP1,cLP2⟩:=cc3 LP 0 1 2
 go_wp2_with fail
 refine (SO.out _ (RU.out _ Bw3)).mono ?_
 rintro _ w4 ⟨rfl, bb⟩
 clear cLC0 cLC1 cLP0 cLP1 cLP2
 have Bw4:=bu Bw3 bb
 have sw4:=bb.size
 replace LC:=LC.up bb
 replace LP:=LP.up bb
 clear Bw3 bb
 obtain ⟨cLC0,cLC1⟩:=cc2 LC 0 1
 obtain ⟨cLP0,cLP1,cLP2⟩:=cc3 LP 0 1 2
 go_wp2
 go_ret
 exact ⟨rfl, Bw4⟩
end
section
open Go.RowKit
variable [∀ (a b c d : Int), Decidable (Ok4 a b c d)]
variable [∀ (n f : Int), Decidable (COk n f)]
theorem ptold_any (n : Int) (s : ByteArray) (v : Value) (xs : List Int) (w : World) (h : RI w v xs) (hs : s.size ≤ 281474976710656) :
 Calls Tryz.prog 73 #[qv n s v] w fun e w' => ∃ u, e = .returned (qv n s u) ∧ OI w' w.heap.size u xs ∧ Below w.heap.size w w' := by
 obtain ⟨ao, ca, rfl⟩:=h.form
 obtain ⟨w0, hw0⟩ : ∃ y, ((w.alloc (.cells #[.int .i64 n,.string s,.slice ao xs.length ca] 36)).alloc zpo).alloc (.cells #[.int .i64 n,.string s,.slice ao xs.length ca] 53) = y:=⟨_, rfl⟩
 have B0 : Below w.heap.size w w0:=hw0 ▸ ((qalloc2 _ _ _).alloc (by simp; omega) _)
 have LZ : Loc w0 (w.heap.size + 1) #[.int .i64 0,.string ⟨#[]⟩,.slice none 0 0]:=hw0 ▸ (loc_at (w.alloc _) _ _ (by simp)).alloc _
 have LQ : Loc w0 (w.heap.size + 1 + 1) #[.int .i64 n,.string s,.slice ao xs.length ca]:=hw0 ▸ (loc_at ((w.alloc _).alloc _) _ _ (by simp))
 have s0 : w0.heap.size = w.heap.size + 1 + 1 + 1:=by rw [← hw0]; simp
 have TO:=hide (qtold_any (w.heap.size + 1 + 1) n s ao ca xs w0 LQ (h.below B0) hs)
 have HZ:=hide LZ
 clear h LZ LQ
 go_enter Tryz.func73, Tryz.ntmps73
 go_wp2_with fail
 clear hw0
 refine TO.out.mono ?_
 rintro e w2 ⟨u, rfl, o2, b2⟩
 have B2 : Below w.heap.size w w2:=bu B0 b2
 have Z2:=HZ.out.below b2 HZ.out.lt
 have y0:=Z2.cell 0 rfl
 have y1:=Z2.cell 1 rfl
 have y2:=Z2.cell 2 rfl
 have fy:=Z2.frozen
 have lt2:=World.ownsRow.lt o2
 obtain ⟨ua, uc, rfl⟩:=o2.form
 have O2:=hide o2
 clear o2 b2 Z2 HZ TO
 go_wp2
 refine bodyPost_ret (v := qv n s (.slice ua xs.length uc)) (by simp [results, Tryz.results73, go_sem, y0, y1, y2]) rfl ?_
 have K5 : Kp w2 (((w2.setCell ⟨w.heap.size + 1, 0, none⟩ (.int .i64 n)).setCell ⟨w.heap.size + 1, 1, none⟩ (.string s)).setCell ⟨w.heap.size + 1, 2, none⟩ (.slice ua xs.length uc)) (fun k => k = w.heap.size + 1):=((set_kp _ _ _ _).trans (set_kp _ _ _ _)).trans (set_kp _ _ _ _)
 exact ⟨_, rfl, (O2.out.kp K5 (fun k hk => by have := lt2 k hk; omega)).mono (by omega), Below.kp B2 K5 B2.size (fun k hk => by omega)⟩

theorem tableOf_any (ao : Option Addr) (n ca : Nat) (w : World) :
 Calls Tryz.prog 74 #[.slice ao n ca] w fun e w' => e = .returned (.agg #[.slice ao n ca,.func (.func 72) #[] #[]]) ∧ Below w.heap.size w w' := by
 go_enter Tryz.func74, Tryz.ntmps74
 go_wp2
 refine bodyPost_ret (v := .agg #[.slice ao n ca,.func (.func 72) #[] #[]]) (by simp [results, Tryz.results74, go_sem]) rfl ?_
 exact ⟨rfl, (Below.refl _ _).alloc (Nat.le_refl _) _⟩
end
section
open Go.RowKit
variable [∀ (a b c d : Int), Decidable (Ok4 a b c d)]
variable [∀ (n f : Int), Decidable (COk n f)]
variable [∀ (n : Int) (s : List Int), Decidable (OkL n s)]
variable [∀ (a b c d : Nat), Decidable (okN a b c d)]
variable [∀ (last : Int) (s : St), Decidable (GoodSt last s)]
variable [∀ (x : T4), Decidable (OkT x)]
theorem notPart_any (n f m : Int) (s : ByteArray) (u : Value) (xs : List Int) (g : Nat) (w : World) (hs : s.size ≤ 33554432) (hE : Env w) (hu : RI w u xs) (hg : Loc w g #[.int .i64 n,.int .i64 f]) :
 Calls Tryz.prog 77 #[qv m s u,.pointer (some ⟨g, 0, none⟩)] w fun e w' => e = .returned (.bool (!pokB n f m s xs)) ∧ Below w.heap.size w w' := by
 obtain ⟨ua, uc, rfl⟩:=hu.form
 obtain ⟨ul, hul⟩ : ∃ l, xs.length = l:=⟨_, rfl⟩
 obtain ⟨w0, hw0⟩ : ∃ y, w.alloc (.cells #[.int .i64 m,.string s,.slice ua xs.length uc] 36) = y:=⟨_, rfl⟩
 have B0 : Below w.heap.size w w0:=hw0 ▸ qalloc _ _
 have L0 : Loc w0 w.heap.size #[.int .i64 m,.string s,.slice ua xs.length uc]:=hw0 ▸ loc_at w _ _ rfl
 have LG:=hg.up B0
 have PO:=hide (implPartOk n f m s (.slice ua xs.length uc) xs w0 hs (hE.below B0) (hu.below B0))
 rw [hul] at L0 PO hw0 ⊢
 have a0:=L0.cell 0 rfl
 have a1:=L0.cell 1 rfl
 have a2:=L0.cell 2 rfl
 have c0:=LG.cell 0 rfl
 have c1:=LG.cell 1 rfl
 generalize pokB n f m s xs = b at *
 clear L0 LG hg hu hE hul
 go_enter Tryz.func77, Tryz.ntmps77
 go_wp2_with fail
 clear hw0
 refine PO.out.mono ?_
 rintro e w2 ⟨rfl, b2⟩
 have B2:=bu B0 b2
 go_wp2
 go_ret
 exact ⟨rfl, B2⟩

theorem all_take {n f : Int} {ps : List Pt} {k : Nat} (hk : k < ps.length) (h : (ps.take k).all (fun p => pokB n f p.1 p.2.1 p.2.2) = true) (h1 : pokB n f (ps.getD k zpt).1 (ps.getD k zpt).2.1 (ps.getD k zpt).2.2 = true) : (ps.take (k + 1)).all (fun p => pokB n f p.1 p.2.1 p.2.2) = true := by
 have e : ps.take (k + 1) = ps.take k ++ [ps.getD k zpt]:=by
  rw [List.take_succ_eq_append_getElem hk]; simp [List.getElem?_eq_getElem hk]
 rw [e, List.all_append, h, List.all_cons, h1]
 rfl
theorem all_bad {n f : Int} {ps : List Pt} {k : Nat} (hk : k < ps.length) (h1 : pokB n f (ps.getD k zpt).1 (ps.getD k zpt).2.1 (ps.getD k zpt).2.2 = false) : ps.all (fun p => pokB n f p.1 p.2.1 p.2.2) = false := by
 cases e : ps.all (fun p => pokB n f p.1 p.2.1 p.2.2) with
 | false => rfl
 | true => rw [List.all_eq_true] at e; have := e _ (pt_mem hk); rw [h1] at this; cases this

theorem indexNot (n f : Int) (v : Value) (ps : List Pt) (g : Nat) (w : World) (hl : ps.length ≤ 4194304) (hs : ∀ p ∈ ps, p.2.1.size ≤ 33554432) (hE : Env w) (h : RPt w v ps) (hg : Loc w g #[.int .i64 n,.int .i64 f]) :
 Calls Tryz.prog 70 #[v,.func (.func 77) #[] #[.pointer (some ⟨g, 0, none⟩)]] w fun e w' => ∃ q : Int, e = .returned (.int .i64 q) ∧ decide (q ≥ 0) = !(ps.all fun p => pokB n f p.1 p.2.1 p.2.2) ∧ Below w.heap.size w w' := by
 obtain ⟨ao, ca, rfl⟩:=h.form
 obtain ⟨len, hn⟩ : ∃ n, ps.length = n:=⟨_, rfl⟩
 have Hn:=hide hn
 have H:=hide h
 rw [hn] at hl H ⊢
 have HS:=hide hs
 have HG:=hide hg
 have HE:=hide hE
 clear h hn hg hs hE
 go_enter Tryz.func70, Tryz.ntmps70
 go_wp2
 go_loopw [8] (fun j wr => ∃ k : Nat, k ≤ len ∧ j = .int .i64 k ∧ Hid ((ps.take k).all (fun p => pokB n f p.1 p.2.1 p.2.2) = true) ∧ Below w.heap.size w wr) (fun j _ => len - (intOf j).toNat)
 case atStart => exact ⟨0, Nat.zero_le _, rfl, hide (by simp), Below.refl _ _⟩
 case round =>
  obtain ⟨k, hk, rfl, HK, br⟩:=hrel
  by_cases hlt : k < len
  ·have hkx : k < ps.length:=by rw [Hn.out]; exact hlt
   obtain ⟨b, off, u, rfl, c0, c1, c2, ru⟩:=(H.out.below br).at k hkx
   have GC:=hide (notPart_any n f (ps.getD k zpt).1 (ps.getD k zpt).2.1 u (ps.getD k zpt).2.2 g wr (HS.out _ (pt_mem hkx)) (HE.out.below br) ru (HG.out.below br HG.out.lt))
   have HF:=hide fun h1 => all_bad (n:=n) (f:=f) hkx h1
   have HM:=hide fun h1 => all_take (n:=n) (f:=f) hkx HK.out h1
   obtain ⟨ua, uc, rfl⟩:=ru.form
   clear ru HK H
   generalize pokB n f (ps.getD k zpt).1 (ps.getD k zpt).2.1 (ps.getD k zpt).2.2 = pb at *
   generalize (ps.getD k zpt).1 = m at *
   generalize (ps.getD k zpt).2.1 = s at *
   generalize (ps.getD k zpt).2.2.length = xl at *
   cases pb with
   | false =>
    have F:=hide (HF.out rfl)
    clear HF HM
    go_wp2_with fail
    refine GC.out.mono ?_
    rintro _ w2 ⟨rfl, b2⟩
    go_wp2
    go_ret
    exact ⟨k, rfl, by rw [F.out]; simp, bu br b2⟩
   | true =>
    have F:=hide (HM.out rfl)
    clear HF HM
    go_wp2_with fail
    refine GC.out.mono ?_
    rintro _ w2 ⟨rfl, b2⟩
    go_wp2
    go_roundw
    case rel => exact ⟨k + 1, by omega, by go_num, F, bu br b2⟩
    case measure => simp [intOf]; omega
  have hkn : ps.take k = ps:=List.take_of_length_le (by have:=Hn.out; omega)
  have h0:=HK.out
  rw [hkn] at h0
  have F:=hide h0
  have hd2 : decide ((k : Int) < (len : Int)) = false:=by simp; omega
  clear HK h0 hkn H
  go_wp2
  go_ret
  exact ⟨-1, rfl, by rw [F.out]; simp, br⟩

theorem containsNot (n f : Int) (v : Value) (ps : List Pt) (g : Nat) (w : World) (hl : ps.length ≤ 4194304) (hs : ∀ p ∈ ps, p.2.1.size ≤ 33554432) (hE : Env w) (h : RPt w v ps) (hg : Loc w g #[.int .i64 n,.int .i64 f]) :
 Calls Tryz.prog 78 #[v,.func (.func 77) #[] #[.pointer (some ⟨g, 0, none⟩)]] w fun e w' => e = .returned (.bool (!(ps.all fun p => pokB n f p.1 p.2.1 p.2.2))) ∧ Below w.heap.size w w' := by
 have IX:=hide (indexNot n f v ps g w hl hs hE h hg)
 obtain ⟨ao, ca, rfl⟩:=h.form
 generalize ps.length = len at *
 generalize (ps.all fun p => pokB n f p.1 p.2.1 p.2.2) = b at *
 clear h hg hE hs
 go_enter Tryz.func78, Tryz.ntmps78
 go_wp2_with fail
 refine IX.out.mono ?_
 rintro e w2 ⟨q, rfl, hq, b2⟩
 go_wp2
 go_ret
 exact ⟨by rw [← hq]; rfl, b2⟩

theorem tok_alt (n f : Int) (ps : List Pt) : tokB n f ps = (decide ((ps.length : Int) ≤ 20) && ((ps.all fun p => pokB n f p.1 p.2.1 p.2.2) && rowP ps)) := by
 unfold tokB
 have : decide (ps.length ≤ 20) = decide ((ps.length : Int) ≤ 20):=by rw [decide_eq_decide]; omega
 rw [this, Bool.and_comm]

theorem implTableOk (n f : Int) (v : Value) (ps : List Pt) (w : World) (hl : ps.length ≤ 4194304) (hs : ∀ p ∈ ps, p.2.1.size ≤ 33554432) (hE : Env w) (h : RPt w v ps) :
 Calls Tryz.prog 36 #[cv n f, v] w fun e w' => e = .returned (.bool (tokB n f ps)) ∧ Below w.heap.size w w' := by
 rw [tok_alt]
 obtain ⟨ao, ca, rfl⟩:=h.form
 obtain ⟨w0, hw0⟩ : ∃ y, w.alloc (.cells #[.int .i64 n,.int .i64 f] 33) = y:=⟨_, rfl⟩
 have B0 : Below w.heap.size w w0:=hw0 ▸ qalloc _ _
 have L0 : Loc w0 w.heap.size #[.int .i64 n,.int .i64 f]:=hw0 ▸ loc_at w _ _ rfl
 have CN:=hide (containsNot n f (.slice ao ps.length ca) ps w.heap.size w0 hl hs (hE.below B0) (h.below B0) L0)
 have AS:=hide fun w h => ascendsP_any (.slice ao ps.length ca) ps w hl h
 have TO:=hide fun w => tableOf_any ao ps.length ca w
 have HR:=hide fun w' (hb : Below w.heap.size w w') => h.below hb
 generalize ps.length = len at *
 generalize (ps.all fun p => pokB n f p.1 p.2.1 p.2.2) = b at *
 generalize rowP ps = r at *
 clear h hE hs L0
 by_cases h20 : (len : Int) ≤ 20
 ·have hd : decide ((len : Int) ≤ 20) = true:=by simpa using h20
  rw [hd, Bool.true_and]
  cases b with
  | false =>
   rw [Bool.false_and]
   go_enter Tryz.func36, Tryz.ntmps36
   go_wp2_with fail
   clear hw0
   refine CN.out.mono ?_
   rintro e w1 ⟨rfl, b1⟩
   have B1:=bu B0 b1
   go_wp2
   go_ret
   exact ⟨rfl, B1⟩
  | true =>
   rw [Bool.true_and]
   go_enter Tryz.func36, Tryz.ntmps36
   go_wp2_with fail
   clear hw0
   refine CN.out.mono ?_
   rintro e w1 ⟨rfl, b1⟩
   have B1:=bu B0 b1
   clear b1 CN
   go_wp2_with fail
   refine (TO.out _).mono ?_
   rintro e w2 ⟨rfl, b2⟩
   have B2:=bu B1 b2
   clear b2 TO
   go_wp2_with fail
   refine (AS.out _ (HR.out _ B2)).mono ?_
   rintro e w3 ⟨rfl, b3⟩
   have B3:=bu B2 b3
   go_wp2
   go_ret
   exact ⟨rfl, B3⟩
 have hd : decide ((len : Int) ≤ 20) = false:=by simpa using h20
 rw [hd, Bool.false_and]
 go_enter Tryz.func36, Tryz.ntmps36
 go_wp2
 go_ret
 exact ⟨rfl, B0⟩
end
end Go.Proofs.YtjkcphnohhpihaaGreatDoor
