/- The draw of a certificate of a name. -/
import Derived.Test.YtjkcphnohhpihaaGreatDoorPPBH
set_option linter.unusedSectionVars false
namespace Go.Proofs.YtjkcphnohhpihaaGreatDoor
section
open Go.RowKit
variable [∀ (a b c d : Int), Decidable (Ok4 a b c d)]
variable [∀ (a b c d : Nat), Decidable (okN a b c d)]
variable [∀ (x : T4), Decidable (OkT x)]
variable [∀ (n f : Int), Decidable (COk n f)]
variable [∀ (last : Int) (s : St), Decidable (GoodSt last s)]
theorem PI.kept {w w' : World} {ao : Option Addr} {n ca : Nat} {xs : List Int} {row : Option Nat} (h : PI w (.slice ao n ca) xs) (hg : w.grownBy w' row) (hr : ∀ j, row = some j → (Value.slice ao n ca).ownBlock = some j → False) : PI w' (.slice ao n ca) xs := by
 obtain ⟨a, c, e, h⟩:=h
 refine ⟨a, c, e, ?_⟩
 rcases h with h | ⟨ad, rfl, h⟩
 ·exact .inl h
 refine .inr ⟨ad, rfl, fun j u hj => ?_⟩
 have hc:=h j u hj
 cases e
 have hb : (ad.add j).block = ad.block:=by unfold Addr.add; split <;> rfl
 exact (kp_grown hg).cell hc (fun e => hr _ e (by simp [Value.ownBlock, hb]))
theorem cell_one (w : World) (x : Int) (t : TypeId) : ∀ j u, ([x].map (Value.int .i64))[j]? = some u → (w.alloc (.cells #[.int .i64 x] t)).cell? ((⟨w.heap.size, 0, none⟩ : Addr).add j) = some u := by
 intro j u hj
 match j, hj with
 | 0, hj => simp at hj; subst hj; exact (loc_at w #[.int .i64 x] t rfl).cell 0 rfl
 | j + 1, hj => simp at hj

set_option maxHeartbeats 16000000 in
set_option maxRecDepth 100000 in
theorem drawOf (base g ca : Nat) (ao : Option Addr) (zs : List Int) (n f : Int) (s : ByteArray) (w : World) (hB : base ≤ w.heap.size) (hn0 : 4 ≤ n) (hn1 : n ≤ 7) (hs : s.size ≤ 1048576) (h : Cur w base g ao ca zs) :
 Calls Tryz.prog 104 #[.pointer (some ⟨g, 0, none⟩), cv n f,.string s] w fun e w' => ∃ u, ∃ xs : List Int, e = .returned (qv (viewAns s) s u) ∧ xs.length ≤ 7 ∧ Hid (WfL xs) ∧ OI w' w.heap.size u xs ∧ Cur w' base g ao ca zs ∧ w.grownBy w' (some g) := by
 have hlt:=h.lt
 have VO:=hide fun w => specViewOf s w (by omega)
 generalize viewAns s = q at *
 obtain ⟨N, rfl⟩:=Int.eq_ofNat_of_zero_le (show 0 ≤ n by omega)
 obtain ⟨w0, hw0⟩ : ∃ w0, (w.alloc (.cells #[.int .i64 (N : Int),.int .i64 f] 33)).alloc zq = w0:=⟨_, rfl⟩
 have B0 : Below w.heap.size w w0:=hw0 ▸ qalloc2 _ _ _
 have V0 : Loc w0 w.heap.size #[.int .i64 (N : Int),.int .i64 f]:=hw0 ▸ (loc_at w _ _ rfl).alloc _
 have Z0 : Loc w0 (w.heap.size + 1) #[.int .i64 0,.string ⟨#[]⟩,.slice none 0 0]:=hw0 ▸ loc_at (w.alloc _) _ _ (by simp)
 have s0 : w0.heap.size = w.heap.size + 1 + 1:=by rw [← hw0]; simp
 have C0:=h.below hB B0
 clear h
 have FI : Hid (∀ (u : Value) (xs : List Int) (w' : World), xs.length ≤ 7 → WfL xs → OI w' (w.heap.size + 1 + 1) u xs → Cur w' base g ao ca zs → w.grownBy w' (some g) →
  xs.length ≤ 7 ∧ Hid (WfL xs) ∧ OI (((w'.setCell ⟨w.heap.size + 1, 0, none⟩ (.int .i64 q)).setCell ⟨w.heap.size + 1, 1, none⟩ (.string s)).setCell ⟨w.heap.size + 1, 2, none⟩ u) w.heap.size u xs ∧ Cur (((w'.setCell ⟨w.heap.size + 1, 0, none⟩ (.int .i64 q)).setCell ⟨w.heap.size + 1, 1, none⟩ (.string s)).setCell ⟨w.heap.size + 1, 2, none⟩ u) base g ao ca zs ∧ w.grownBy (((w'.setCell ⟨w.heap.size + 1, 0, none⟩ (.int .i64 q)).setCell ⟨w.heap.size + 1, 1, none⟩ (.string s)).setCell ⟨w.heap.size + 1, 2, none⟩ u) (some g)) := hide fun u xs w' h1 h2 h3 h4 h5 => by
  have lt3:=World.ownsRow.lt h3
  have K5 : Kp w' (((w'.setCell ⟨w.heap.size + 1, 0, none⟩ (.int .i64 q)).setCell ⟨w.heap.size + 1, 1, none⟩ (.string s)).setCell ⟨w.heap.size + 1, 2, none⟩ u) (fun k => k = w.heap.size + 1):=((set_kp _ _ _ _).trans (set_kp _ _ _ _)).trans (set_kp _ _ _ _)
  exact ⟨h1, hide h2, (h3.kp K5 (fun k hk e => by have := lt3 k hk; omega)).mono (by omega), ((h4.set (by omega) _ _).set (by omega) _ _).set (by omega) _ _, grown_set (grown_set (grown_set h5 (by omega) _ _) (by omega) _ _) (by omega) _ _⟩
 go_enter Tryz.func104, Tryz.ntmps104
 go_wp2_with fail
 clear hw0
 refine (VO.out _).mono ?_
 rintro e w1 ⟨rfl, b1⟩
 have B1:=bu B0 b1
 have V1:=V0.up b1
 have Z1:=Z0.up b1
 have C1:=C0.below (by omega) b1
 have s1:=b1.size
 clear B0 V0 Z0 C0 b1 VO
 go_upto_region 2 with fail
 obtain ⟨x, hx⟩ : ∃ x, w1.heap.size = x:=⟨_, rfl⟩
 obtain ⟨w2, hw2⟩ : ∃ w2, w1.alloc (.cells #[.int .i64 q,.string s,.slice none 0 0] 53) = w2:=⟨_, rfl⟩
 have b2 : Below w1.heap.size w1 w2:=hw2 ▸ qalloc _ _
 have X2 : Loc w2 x #[.int .i64 q,.string s,.slice none 0 0]:=hx ▸ hw2 ▸ loc_at w1 _ _ rfl
 have V2:=V1.up b2
 have Z2:=Z1.up b2
 have C2:=C1.below (by omega) b2
 have G2 : w.grownBy w2 (some g):=grown_below (bu B1 b2) (some g)
 have s2 : w2.heap.size = x + 1:=by rw [← hw2, ← hx]; simp
 have hxw : w.heap.size + 1 + 1 ≤ x:=by omega
 rw [hw2, hx]
 clear hw2 hx b2 V1 Z1 C1 B1 s0 s1
 by_cases he : s = ⟨#[]⟩
 ·have hE : (s.toList == []) = true:=by rw [he, ByteArray.toList_eq]; rfl
  have R:=hide (FI.out (.slice none 0 0) [] w2 (by simp) (fun x hx => by simp at hx) (World.ownsRow_nil _ _ _ _) C2 G2)
  have p0:=X2.cell 0 rfl
  have p1:=X2.cell 1 rfl
  have p2:=X2.cell 2 rfl
  have y0:=Z2.cell 0 rfl
  have y1:=Z2.cell 1 rfl
  have y2:=Z2.cell 2 rfl
  have fy:=Z2.frozen
  clear he X2 V2 Z2 C2 G2 FI
  go_wp2
  refine bodyPost_ret (v := qv q s (.slice none 0 0)) (by simp [results, Tryz.results104, go_sem, y0, y1, y2]) rfl ?_
  exact ⟨_, _, rfl, R.out⟩
 have hne:=ne2 he
 clear he
 go_wp2
 go_loopw [8] (fun i wr => ∃ (k : Nat) (u : Value), k ≤ N ∧ i = .int .i64 k ∧ Loc wr x #[.int .i64 q,.string s, u] ∧ OI wr (x + 1) u (fromL 0 k) ∧ Loc wr w.heap.size #[.int .i64 (N : Int),.int .i64 f] ∧ Loc wr (w.heap.size + 1) #[.int .i64 0,.string ⟨#[]⟩,.slice none 0 0] ∧ Cur wr base g ao ca zs ∧ w.grownBy wr (some g)) (fun i _ => N - (intOf i).toNat)
 case atStart => exact ⟨0, _, by omega, rfl, X2, World.ownsRow_nil _ _ _ _, V2, Z2, C2, G2⟩
 case round =>
  clear X2 V2 Z2 C2 G2 s2
  obtain ⟨k, u, hk, rfl, X3, O3, V3, Z3, C3, G3⟩:=hrel
  have x3:=X3.lt
  have lo3:=World.ownsRow.lt O3
  obtain ⟨ua, uc, rfl⟩:=O3.form
  rw [fromL_len] at O3 X3 lo3
  have v0:=V3.cell 0 rfl
  have q2:=X3.cell 2 rfl
  by_cases hlt2 : k < N
  ·obtain ⟨w4, hw4⟩ : ∃ y, wr.alloc (.cells #[.int .i64 (k : Int)] 3) = y:=⟨_, rfl⟩
   have b4 : Below wr.heap.size wr w4:=hw4 ▸ qalloc _ _
   have O4:=O3.below b4
   have X4:=X3.up b4
   have V4:=V3.up b4
   have Z4:=Z3.up b4
   have C4:=C3.below (by have:=G3.size; omega) b4
   have G4:=grown_trans G3 (grown_below b4 (some g))
   have s4 : w4.heap.size = wr.heap.size + 1:=by rw [← hw4]; simp
   have P4 : PI w4 (.slice (some ⟨wr.heap.size, 0, none⟩) 1 1) [(k : Int)]:=hw4 ▸ ⟨_, _, rfl, .inr ⟨_, rfl, cell_one wr _ _⟩⟩
   have x4:=X4.cell 2 rfl
   have HF : fromL 0 k ++ [(k : Int)] = fromL 0 (k + 1):=by rw [fromL_succ]; simp
   have HX:=hide X4
   have HO:=hide O4
   have HP:=hide P4
   clear O3 X3 V3 Z3 C3 G3 b4 O4 X4 P4
   go_wp2_with (first | (at_builtin; clear hw4; refine append_ints rfl _ _ rfl (x + 1) (.slice ua k uc) (.slice (some ⟨wr.heap.size, 0, none⟩) 1 1) (fromL 0 k) [(k : Int)] rfl rfl HO.out HP.out (by simp [fromL_len]; omega) (by omega) ?_; intro v' w5 ho5 hg5 _
                         have X5:=HX.out.grownNew hg5 (fun e => by have:=lo3 _ e; omega)
                         have V5:=V4.grownNew hg5 (fun e => by have:=lo3 _ e; omega)
                         have Z5:=Z4.grownNew hg5 (fun e => by have:=lo3 _ e; omega)
                         have C5:=C4.grownNew hg5 (fun j e => by have:=lo3 _ e; omega)
                         have G5:=grown_new G4 hg5 (fun j e => by have:=lo3 _ e; omega)
                         have lo5:=World.ownsRow.lt ho5
                         have p2:=X5.cell 2 rfl
                         have fp:=X5.frozen
                         rw [HF] at ho5
                         obtain ⟨va, vc, hv⟩:=ho5.form
                         rw [fromL_len] at hv
                         subst hv
                         have X6:=hide (X5.set 2 (.slice va (k + 1) vc) (cs':=#[.int .i64 q,.string s,.slice va (k + 1) vc]) rfl)
                         have V6:=hide (V5.other (p:=⟨x, 2, none⟩) (by show w.heap.size ≠ x; omega) (.slice va (k + 1) vc))
                         have Z6:=hide (Z5.other (p:=⟨x, 2, none⟩) (by show w.heap.size + 1 ≠ x; omega) (.slice va (k + 1) vc))
                         have O6:=hide (ho5.kp (set_kp w5 x 2 (.slice va (k + 1) vc)) (fun j hj e => by have:=lo5 j hj; omega))
                         have C6:=hide (C5.set (r:=x) (by omega) 2 (.slice va (k + 1) vc))
                         have G6:=hide (grown_set G5 (r:=x) (by omega) 2 (.slice va (k + 1) vc))
                         clear HX HO HP V4 Z4 C4 G4 X5 V5 Z5 C5 G5 ho5 hg5 lo5))
   go_roundw
   case rel => exact ⟨k + 1, _, by omega, by go_num, X6.out, O6.out, V6.out, Z6.out, C6.out, G6.out⟩
   case measure => simp [intOf]; omega
  obtain rfl : k = N:=by omega
  have hsz:=G3.size
  have hwf : WfL (fromL 0 k):=wf_ok (n:=7) (by omega) (fromL_ok (by omega) (by omega))
  have HWF:=hide hwf
  clear hwf
  go_wp2_with fail
  refine (once_any base g ca ao zs 2 _ (by omega) (by omega) (by omega) C3).mono ?_
  rintro e w4 ⟨b, rfl, c4, e4⟩
  have X4:=X3.grown e4 (by omega)
  have Z4:=Z3.grown e4 (by omega)
  have O4:=O3.drawn e4 (by omega)
  have G4:=grown_trans G3 e4
  have s4:=e4.size
  have p0:=X4.cell 0 rfl
  have p1:=X4.cell 1 rfl
  have p2:=X4.cell 2 rfl
  clear X3 O3 V3 Z3 C3 G3 e4 v0 q2 lo3
  cases b
  ·have R:=hide (FI.out (.slice ua k uc) (fromL 0 k) w4 (by rw [fromL_len]; omega) HWF.out (O4.mono (by omega)) c4 G4)
   have y0:=Z4.cell 0 rfl
   have y1:=Z4.cell 1 rfl
   have y2:=Z4.cell 2 rfl
   have fy:=Z4.frozen
   clear X4 O4 Z4 c4 G4 FI
   go_wp2
   refine bodyPost_ret (v := qv q s (.slice ua k uc)) (by simp [results, Tryz.results104, go_sem, y0, y1, y2]) rfl ?_
   exact ⟨_, _, rfl, R.out⟩
  have hd : decide ((0 : Int) < (k : Int)) = true:=by simp; omega
  go_wp2_with fail
  refine (below_any base g ca ao zs (k : Int) _ (by omega) (by omega) (by omega) c4).mono ?_
  rintro e w5 ⟨a, rfl, a0, a1, c5, e5⟩
  obtain ⟨at', rfl⟩:=Int.eq_ofNat_of_zero_le a0
  have hat : at' < k:=by omega
  have X5:=X4.grown e5 (by omega)
  have Z5:=Z4.grown e5 (by omega)
  have O5:=O4.drawn e5 (by omega)
  have G5:=grown_trans G4 e5
  have s5:=e5.size
  have lo5:=World.ownsRow.lt O5
  clear X4 Z4 O4 G4 c4 e5 a0 a1 p0 p1 p2
  have PA : PI w5 (.slice ua k uc) (fromL 0 k):=by have:=(O5.ri (by rw [fromL_len]; omega)).pi; exact this
  have hcap : k ≤ uc ∧ uc ≤ maxLen:=by obtain ⟨_, _, _, e, h1, h2⟩:=O5.cap; cases e; exact ⟨h1, h2⟩
  obtain ⟨hcn, hcm⟩:=hcap
  unfold maxLen at hcm
  have P5:=hide (PA.take at' (by omega) uc)
  have q5:=PA.drop (at' + 1) (uc - (at' + 1)) (bo:=if uc = at' + 1 then ua else ua.map (·.add ((at' + 1) * 1))) (fun _ => if_neg (by omega))
  have hs1 : ∀ w, (Instr.slice 25 (.slice ua k uc) none (some (.int .i64 (at' : Int))) none).run Tryz.prog w = .ok (.slice ua at' uc) w:=fun w => icut_to ua k uc at' w (by omega)
  have hs2 : ∀ w, (Instr.slice 25 (.slice ua k uc) (some (.int .i64 ((at' : Int) + 1))) none none).run Tryz.prog w = .ok (.slice (if uc = at' + 1 then ua else ua.map (·.add ((at' + 1) * 1))) (k - (at' + 1)) (uc - (at' + 1))) w:=fun w => icut_from ua k uc (at' + 1) w (by omega)
  have hbo : ∀ j, (Value.slice (if uc = at' + 1 then ua else ua.map (·.add ((at' + 1) * 1))) (k - (at' + 1)) (uc - (at' + 1))).ownBlock = some j → j < w5.heap.size:=by
   intro j hj
   have hu : ua.map (·.block) = some j:=by
    split at hj
    ·cases ua with
     | none => cases hj
     | some a => simpa [Value.ownBlock] using hj
    cases ua with
    | none => cases hj
    | some a =>
     have hb : ∀ m, (a.add m).block = a.block:=fun m => by unfold Addr.add; split <;> rfl
     simpa [Value.ownBlock, hb] using hj
   refine (lo5 j ?_).2
   cases ua with
   | none => cases hu
   | some a => simpa [Value.ownBlock] using hu
  generalize (if uc = at' + 1 then ua else ua.map (·.add ((at' + 1) * 1))) = bo at *
  have Q5:=hide q5
  have HW : Hid (WfL ((fromL 0 k).take at' ++ (fromL 0 k).drop (at' + 1))):=hide (HWF.out.sub fun y hy => by
   rcases List.mem_append.1 hy with h | h
   ·exact List.mem_of_mem_take h
   exact List.mem_of_mem_drop h)
  have HL1 : Hid (((fromL 0 k).take at').length = at'):=hide (by rw [List.length_take, fromL_len]; omega)
  have HL2 : Hid (((fromL 0 k).drop (at' + 1)).length = k - (at' + 1)):=hide (by rw [List.length_drop, fromL_len])
  clear PA q5 HWF O5
  generalize (fromL 0 k).take at' = fs at *
  generalize (fromL 0 k).drop (at' + 1) = bs at *
  have hwr : IntKind.i64.wrap ((at' : Int) + 1) = (at' : Int) + 1:=by simp only [IntKind.wrap_i64]; omega
  go_upto_region 10 with fail
  refine wp_region_noPanic ?_
  refine wp_region_held_drew (S := fun _ => True) (by kernel_rfl) trivial (fun hHeld => ?_)
  obtain ⟨wd, hd⟩ : ∃ wd, w5.drew = wd:=⟨_, rfl⟩
  have D5 : Below w5.heap.size w5 wd:=hd ▸ Below.drew (Below.refl _ _)
  have sd : wd.heap.size = w5.heap.size:=by rw [← hd]; rfl
  have X:=X5.up D5
  have Z:=Z5.up D5
  have C:=c5.below (by omega) D5
  have G:=grown_trans G5 (grown_below D5 (some g))
  have P:=hide (P5.out.below D5)
  have Q:=hide (Q5.out.below D5)
  rw [hd]
  clear hd D5 X5 Z5 c5 G5 P5 Q5
  refine tx 1 43 ?_
  refine tx 3 45 ?_
  refine tx 6 48 ?_
  refine tx 8 50 ?_
  refine tx 9 51 ?_
  refine wpAnyH_ready (rs := [0, 2, 7]) (by kernel_rfl) (by simp) (AllReadyH.cons rfl (fun KK hKK => ?_) (AllReadyH.cons rfl (fun KK hKK => ?_) (AllReadyH.cons rfl (fun KK hKK => ?_) AllReadyH.nil)))
  ·go_simp
   obtain ⟨w6, hw6⟩ : ∃ y, wd.alloc (.cells #[] 3) = y:=⟨_, rfl⟩
   have B6 : Below wd.heap.size wd w6:=hw6 ▸ (Below.refl _ _).alloc (Nat.le_refl _) _
   have O6 : OI w6 w5.heap.size (.slice (some ⟨w5.heap.size, 0, none⟩) 0 0) []:=by
    have:=World.ownsRow_lit (base:=wd.heap.size) (e:=3) (size:=1) wd #[] 0 (Nat.le_refl _) (by unfold maxLen; omega) (by simp)
    rw [hw6, sd] at this; simpa [OI] using this
   replace X:=X.up B6
   replace Z:=Z.up B6
   replace C:=C.below (by omega) B6
   replace G:=grown_trans G (grown_below B6 (some g))
   replace P:=hide (P.out.below B6)
   replace Q:=hide (Q.out.below B6)
   have s6 : w6.heap.size = wd.heap.size + 1:=by rw [← hw6]; simp
   rw [hw6]
   clear hw6 B6 hHeld
   refine hKK.out _ _ trivial (fun hHeld => ?_)
   clear hKK KK
   try simp only [pU]
   refine wpAnyH_ready (rs := [2, 7]) (by kernel_rfl) (by simp) (AllReadyH.cons rfl (fun KK hKK => ?_) (AllReadyH.cons rfl (fun KK hKK => ?_) AllReadyH.nil))
   ·have cx:=X.cell 2 rfl
    go_simp
    clear cx hHeld
    refine hKK.out _ _ trivial (fun hHeld => ?_)
    clear hKK KK
    try simp only [pU]
    refine tx 4 46 ?_
    refine wpAnyH_ready (rs := [5, 7]) (by kernel_rfl) (by simp) (AllReadyH.cons rfl (fun KK hKK => ?_) (AllReadyH.cons rfl (fun KK hKK => ?_) AllReadyH.nil))
    ·refine step_append_ints rfl (.tmp 42) (.tmp 46) rfl w5.heap.size (.slice (some ⟨w5.heap.size, 0, none⟩) 0 0) (.slice ua at' uc) [] fs rfl rfl O6 P.out (by rw [HL1.out]; simp; omega) (by omega) ?_
     intro v1 w7 o7 g7 _
     have r7 : ∀ j, (Value.slice (some ⟨w5.heap.size, 0, none⟩) 0 0).ownBlock = some j → j = w5.heap.size:=fun j e => by simp [Value.ownBlock] at e; omega
     replace X:=X.grownNew g7 (fun e => by have:=r7 _ e; omega)
     replace Z:=Z.grownNew g7 (fun e => by have:=r7 _ e; omega)
     replace C:=C.grownNew g7 (fun j e => by have:=r7 _ e; omega)
     replace G:=grown_new G g7 (fun j e => by have:=r7 _ e; omega)
     replace Q:=hide (Q.out.kept g7 (fun j e e2 => by have:=r7 _ e; have:=hbo _ e2; omega))
     have s7:=g7.size
     have l7:=World.ownsRow.lt o7
     have O7 : OI w7 w5.heap.size v1 fs:=by simpa using o7
     clear O6 P g7 r7 o7 hHeld
     refine hKK.out _ _ trivial (fun hHeld => ?_)
     clear hKK KK
     try simp only [Act.put, List.setIfInBounds_toArray]
     refine rd 7 rfl (fun KK hKK => ?_)
     have cx:=X.cell 2 rfl
     go_simp
     clear cx hHeld
     refine hKK.out _ _ trivial (fun hHeld => ?_)
     clear hKK KK
     try simp only [pU]
     refine tx 10 52 ?_
     refine rd 11 rfl (fun KK hKK => ?_)
     refine step_append_ints rfl (.tmp 47) (.tmp 52) rfl w5.heap.size v1 (.slice bo (k - (at' + 1)) (uc - (at' + 1))) fs bs rfl rfl O7 Q.out (by rw [HL1.out, HL2.out]; omega) (by omega) ?_
     intro v2 w8 o8 g8 _
     replace X:=X.grownNew g8 (fun e => by have:=l7 _ e; omega)
     replace Z:=Z.grownNew g8 (fun e => by have:=l7 _ e; omega)
     replace C:=C.grownNew g8 (fun j e => by have:=l7 _ e; omega)
     replace G:=grown_new G g8 (fun j e => by have:=l7 _ e; omega)
     have s8:=g8.size
     have l8:=World.ownsRow.lt o8
     obtain ⟨a8, c8, hv8⟩:=o8.form
     obtain ⟨ln, hln⟩ : ∃ ln, (fs ++ bs).length = ln:=⟨_, rfl⟩
     rw [hln] at hv8
     subst hv8
     have O8:=hide o8
     have HLN:=hide hln
     clear hln O7 Q g8 o8 hHeld
     refine hKK.out _ _ trivial (fun hHeld => ?_)
     clear hKK KK
     try simp only [Act.put, List.setIfInBounds_toArray]
     refine tz 12 54 ?_
     simp only [Act.put]
     have cx:=X.cell 2 rfl
     have fx:=X.frozen
     refine rd 13 rfl (fun KK hKK => ?_)
     go_simp
     clear hHeld
     refine hKK.out _ _ trivial (fun hHeld => ?_)
     clear hKK KK hHeld cx fx
     refine wdn ?_
     have X9:=X.set 2 (.slice a8 ln c8) (cs':=#[.int .i64 q,.string s,.slice a8 ln c8]) rfl
     have Z9:=Z.other (p:=⟨x, 2, none⟩) (by show w.heap.size + 1 ≠ x; omega) (.slice a8 ln c8)
     have O9:=O8.out.kp (set_kp w8 x 2 (.slice a8 ln c8)) (fun j hj e => by have:=l8 j hj; omega)
     have C9:=C.set (r:=x) (by omega) 2 (.slice a8 ln c8)
     have G9:=grown_set G (r:=x) (by omega) 2 (.slice a8 ln c8)
     have hl7 : (fs ++ bs).length ≤ 7:=by rw [List.length_append, HL1.out, HL2.out]; omega
     have FF:=hide (FI.out _ (fs ++ bs) _ hl7 HW.out (O9.mono (by omega)) C9 G9)
     have p0:=X9.cell 0 rfl
     have p1:=X9.cell 1 rfl
     have p2:=X9.cell 2 rfl
     have y0:=Z9.cell 0 rfl
     have y1:=Z9.cell 1 rfl
     have y2:=Z9.cell 2 rfl
     have fy:=Z9.frozen
     clear hl7 X Z C G O8 X9 Z9 O9 C9 G9 FI
     go_wp2
     refine bodyPost_ret (v := qv q s (.slice a8 ln c8)) (by simp [results, Tryz.results104, go_sem, y0, y1, y2]) rfl ?_
     exact ⟨_, _, rfl, FF.out⟩
    have cx:=X.cell 2 rfl
    go_simp
    clear cx hHeld
    refine hKK.out _ _ trivial (fun hHeld => ?_)
    clear hKK KK
    try simp only [pU]
    refine tx 10 52 ?_
    refine rd 5 rfl (fun KK hKK => ?_)
    refine step_append_ints rfl (.tmp 42) (.tmp 46) rfl w5.heap.size (.slice (some ⟨w5.heap.size, 0, none⟩) 0 0) (.slice ua at' uc) [] fs rfl rfl O6 P.out (by rw [HL1.out]; simp; omega) (by omega) ?_
    intro v1 w7 o7 g7 _
    have r7 : ∀ j, (Value.slice (some ⟨w5.heap.size, 0, none⟩) 0 0).ownBlock = some j → j = w5.heap.size:=fun j e => by simp [Value.ownBlock] at e; omega
    replace X:=X.grownNew g7 (fun e => by have:=r7 _ e; omega)
    replace Z:=Z.grownNew g7 (fun e => by have:=r7 _ e; omega)
    replace C:=C.grownNew g7 (fun j e => by have:=r7 _ e; omega)
    replace G:=grown_new G g7 (fun j e => by have:=r7 _ e; omega)
    replace Q:=hide (Q.out.kept g7 (fun j e e2 => by have:=r7 _ e; have:=hbo _ e2; omega))
    have s7:=g7.size
    have l7:=World.ownsRow.lt o7
    have O7 : OI w7 w5.heap.size v1 fs:=by simpa using o7
    clear O6 P g7 r7 o7 hHeld
    refine hKK.out _ _ trivial (fun hHeld => ?_)
    clear hKK KK
    try simp only [Act.put, List.setIfInBounds_toArray]
    refine rd 11 rfl (fun KK hKK => ?_)
    refine step_append_ints rfl (.tmp 47) (.tmp 52) rfl w5.heap.size v1 (.slice bo (k - (at' + 1)) (uc - (at' + 1))) fs bs rfl rfl O7 Q.out (by rw [HL1.out, HL2.out]; omega) (by omega) ?_
    intro v2 w8 o8 g8 _
    replace X:=X.grownNew g8 (fun e => by have:=l7 _ e; omega)
    replace Z:=Z.grownNew g8 (fun e => by have:=l7 _ e; omega)
    replace C:=C.grownNew g8 (fun j e => by have:=l7 _ e; omega)
    replace G:=grown_new G g8 (fun j e => by have:=l7 _ e; omega)
    have s8:=g8.size
    have l8:=World.ownsRow.lt o8
    obtain ⟨a8, c8, hv8⟩:=o8.form
    obtain ⟨ln, hln⟩ : ∃ ln, (fs ++ bs).length = ln:=⟨_, rfl⟩
    rw [hln] at hv8
    subst hv8
    have O8:=hide o8
    have HLN:=hide hln
    clear hln O7 Q g8 o8 hHeld
    refine hKK.out _ _ trivial (fun hHeld => ?_)
    clear hKK KK
    try simp only [Act.put]
    refine tz 12 54 ?_
    simp only [Act.put]
    have cx:=X.cell 2 rfl
    have fx:=X.frozen
    refine rd 13 rfl (fun KK hKK => ?_)
    go_simp
    clear hHeld
    refine hKK.out _ _ trivial (fun hHeld => ?_)
    clear hKK KK hHeld cx fx
    refine wdn ?_
    have X9:=X.set 2 (.slice a8 ln c8) (cs':=#[.int .i64 q,.string s,.slice a8 ln c8]) rfl
    have Z9:=Z.other (p:=⟨x, 2, none⟩) (by show w.heap.size + 1 ≠ x; omega) (.slice a8 ln c8)
    have O9:=O8.out.kp (set_kp w8 x 2 (.slice a8 ln c8)) (fun j hj e => by have:=l8 j hj; omega)
    have C9:=C.set (r:=x) (by omega) 2 (.slice a8 ln c8)
    have G9:=grown_set G (r:=x) (by omega) 2 (.slice a8 ln c8)
    have hl7 : (fs ++ bs).length ≤ 7:=by rw [List.length_append, HL1.out, HL2.out]; omega
    have FF:=hide (FI.out _ (fs ++ bs) _ hl7 HW.out (O9.mono (by omega)) C9 G9)
    have p0:=X9.cell 0 rfl
    have p1:=X9.cell 1 rfl
    have p2:=X9.cell 2 rfl
    have y0:=Z9.cell 0 rfl
    have y1:=Z9.cell 1 rfl
    have y2:=Z9.cell 2 rfl
    have fy:=Z9.frozen
    clear hl7 X Z C G O8 X9 Z9 O9 C9 G9 FI
    go_wp2
    refine bodyPost_ret (v := qv q s (.slice a8 ln c8)) (by simp [results, Tryz.results104, go_sem, y0, y1, y2]) rfl ?_
    exact ⟨_, _, rfl, FF.out⟩
   have cx:=X.cell 2 rfl
   go_simp
   clear cx hHeld
   refine hKK.out _ _ trivial (fun hHeld => ?_)
   clear hKK KK
   try simp only [pU]
   refine tx 10 52 ?_
   refine rd 2 rfl (fun KK hKK => ?_)
   have cx:=X.cell 2 rfl
   go_simp
   clear cx hHeld
   refine hKK.out _ _ trivial (fun hHeld => ?_)
   clear hKK KK
   try simp only [pU]
   refine tx 4 46 ?_
   refine rd 5 rfl (fun KK hKK => ?_)
   refine step_append_ints rfl (.tmp 42) (.tmp 46) rfl w5.heap.size (.slice (some ⟨w5.heap.size, 0, none⟩) 0 0) (.slice ua at' uc) [] fs rfl rfl O6 P.out (by rw [HL1.out]; simp; omega) (by omega) ?_
   intro v1 w7 o7 g7 _
   have r7 : ∀ j, (Value.slice (some ⟨w5.heap.size, 0, none⟩) 0 0).ownBlock = some j → j = w5.heap.size:=fun j e => by simp [Value.ownBlock] at e; omega
   replace X:=X.grownNew g7 (fun e => by have:=r7 _ e; omega)
   replace Z:=Z.grownNew g7 (fun e => by have:=r7 _ e; omega)
   replace C:=C.grownNew g7 (fun j e => by have:=r7 _ e; omega)
   replace G:=grown_new G g7 (fun j e => by have:=r7 _ e; omega)
   replace Q:=hide (Q.out.kept g7 (fun j e e2 => by have:=r7 _ e; have:=hbo _ e2; omega))
   have s7:=g7.size
   have l7:=World.ownsRow.lt o7
   have O7 : OI w7 w5.heap.size v1 fs:=by simpa using o7
   clear O6 P g7 r7 o7 hHeld
   refine hKK.out _ _ trivial (fun hHeld => ?_)
   clear hKK KK
   try simp only [Act.put, List.setIfInBounds_toArray]
   refine rd 11 rfl (fun KK hKK => ?_)
   refine step_append_ints rfl (.tmp 47) (.tmp 52) rfl w5.heap.size v1 (.slice bo (k - (at' + 1)) (uc - (at' + 1))) fs bs rfl rfl O7 Q.out (by rw [HL1.out, HL2.out]; omega) (by omega) ?_
   intro v2 w8 o8 g8 _
   replace X:=X.grownNew g8 (fun e => by have:=l7 _ e; omega)
   replace Z:=Z.grownNew g8 (fun e => by have:=l7 _ e; omega)
   replace C:=C.grownNew g8 (fun j e => by have:=l7 _ e; omega)
   replace G:=grown_new G g8 (fun j e => by have:=l7 _ e; omega)
   have s8:=g8.size
   have l8:=World.ownsRow.lt o8
   obtain ⟨a8, c8, hv8⟩:=o8.form
   obtain ⟨ln, hln⟩ : ∃ ln, (fs ++ bs).length = ln:=⟨_, rfl⟩
   rw [hln] at hv8
   subst hv8
   have O8:=hide o8
   have HLN:=hide hln
   clear hln O7 Q g8 o8 hHeld
   refine hKK.out _ _ trivial (fun hHeld => ?_)
   clear hKK KK
   try simp only [Act.put]
   refine tz 12 54 ?_
   simp only [Act.put]
   have cx:=X.cell 2 rfl
   have fx:=X.frozen
   refine rd 13 rfl (fun KK hKK => ?_)
   go_simp
   clear hHeld
   refine hKK.out _ _ trivial (fun hHeld => ?_)
   clear hKK KK hHeld cx fx
   refine wdn ?_
   have X9:=X.set 2 (.slice a8 ln c8) (cs':=#[.int .i64 q,.string s,.slice a8 ln c8]) rfl
   have Z9:=Z.other (p:=⟨x, 2, none⟩) (by show w.heap.size + 1 ≠ x; omega) (.slice a8 ln c8)
   have O9:=O8.out.kp (set_kp w8 x 2 (.slice a8 ln c8)) (fun j hj e => by have:=l8 j hj; omega)
   have C9:=C.set (r:=x) (by omega) 2 (.slice a8 ln c8)
   have G9:=grown_set G (r:=x) (by omega) 2 (.slice a8 ln c8)
   have hl7 : (fs ++ bs).length ≤ 7:=by rw [List.length_append, HL1.out, HL2.out]; omega
   have FF:=hide (FI.out _ (fs ++ bs) _ hl7 HW.out (O9.mono (by omega)) C9 G9)
   have p0:=X9.cell 0 rfl
   have p1:=X9.cell 1 rfl
   have p2:=X9.cell 2 rfl
   have y0:=Z9.cell 0 rfl
   have y1:=Z9.cell 1 rfl
   have y2:=Z9.cell 2 rfl
   have fy:=Z9.frozen
   clear hl7 X Z C G O8 X9 Z9 O9 C9 G9 FI
   go_wp2
   refine bodyPost_ret (v := qv q s (.slice a8 ln c8)) (by simp [results, Tryz.results104, go_sem, y0, y1, y2]) rfl ?_
   exact ⟨_, _, rfl, FF.out⟩
  ·have cx:=X.cell 2 rfl
   go_simp
   clear cx hHeld
   refine hKK.out _ _ trivial (fun hHeld => ?_)
   clear hKK KK
   try simp only [pU]
   refine tx 4 46 ?_
   refine wpAnyH_ready (rs := [0, 7]) (by kernel_rfl) (by simp) (AllReadyH.cons rfl (fun KK hKK => ?_) (AllReadyH.cons rfl (fun KK hKK => ?_) AllReadyH.nil))
   ·go_simp
    obtain ⟨w6, hw6⟩ : ∃ y, wd.alloc (.cells #[] 3) = y:=⟨_, rfl⟩
    have B6 : Below wd.heap.size wd w6:=hw6 ▸ (Below.refl _ _).alloc (Nat.le_refl _) _
    have O6 : OI w6 w5.heap.size (.slice (some ⟨w5.heap.size, 0, none⟩) 0 0) []:=by
     have:=World.ownsRow_lit (base:=wd.heap.size) (e:=3) (size:=1) wd #[] 0 (Nat.le_refl _) (by unfold maxLen; omega) (by simp)
     rw [hw6, sd] at this; simpa [OI] using this
    replace X:=X.up B6
    replace Z:=Z.up B6
    replace C:=C.below (by omega) B6
    replace G:=grown_trans G (grown_below B6 (some g))
    replace P:=hide (P.out.below B6)
    replace Q:=hide (Q.out.below B6)
    have s6 : w6.heap.size = wd.heap.size + 1:=by rw [← hw6]; simp
    rw [hw6]
    clear hw6 B6 hHeld
    refine hKK.out _ _ trivial (fun hHeld => ?_)
    clear hKK KK
    try simp only [pU]
    refine wpAnyH_ready (rs := [5, 7]) (by kernel_rfl) (by simp) (AllReadyH.cons rfl (fun KK hKK => ?_) (AllReadyH.cons rfl (fun KK hKK => ?_) AllReadyH.nil))
    ·refine step_append_ints rfl (.tmp 42) (.tmp 46) rfl w5.heap.size (.slice (some ⟨w5.heap.size, 0, none⟩) 0 0) (.slice ua at' uc) [] fs rfl rfl O6 P.out (by rw [HL1.out]; simp; omega) (by omega) ?_
     intro v1 w7 o7 g7 _
     have r7 : ∀ j, (Value.slice (some ⟨w5.heap.size, 0, none⟩) 0 0).ownBlock = some j → j = w5.heap.size:=fun j e => by simp [Value.ownBlock] at e; omega
     replace X:=X.grownNew g7 (fun e => by have:=r7 _ e; omega)
     replace Z:=Z.grownNew g7 (fun e => by have:=r7 _ e; omega)
     replace C:=C.grownNew g7 (fun j e => by have:=r7 _ e; omega)
     replace G:=grown_new G g7 (fun j e => by have:=r7 _ e; omega)
     replace Q:=hide (Q.out.kept g7 (fun j e e2 => by have:=r7 _ e; have:=hbo _ e2; omega))
     have s7:=g7.size
     have l7:=World.ownsRow.lt o7
     have O7 : OI w7 w5.heap.size v1 fs:=by simpa using o7
     clear O6 P g7 r7 o7 hHeld
     refine hKK.out _ _ trivial (fun hHeld => ?_)
     clear hKK KK
     try simp only [Act.put, List.setIfInBounds_toArray]
     refine rd 7 rfl (fun KK hKK => ?_)
     have cx:=X.cell 2 rfl
     go_simp
     clear cx hHeld
     refine hKK.out _ _ trivial (fun hHeld => ?_)
     clear hKK KK
     try simp only [pU]
     refine tx 10 52 ?_
     refine rd 11 rfl (fun KK hKK => ?_)
     refine step_append_ints rfl (.tmp 47) (.tmp 52) rfl w5.heap.size v1 (.slice bo (k - (at' + 1)) (uc - (at' + 1))) fs bs rfl rfl O7 Q.out (by rw [HL1.out, HL2.out]; omega) (by omega) ?_
     intro v2 w8 o8 g8 _
     replace X:=X.grownNew g8 (fun e => by have:=l7 _ e; omega)
     replace Z:=Z.grownNew g8 (fun e => by have:=l7 _ e; omega)
     replace C:=C.grownNew g8 (fun j e => by have:=l7 _ e; omega)
     replace G:=grown_new G g8 (fun j e => by have:=l7 _ e; omega)
     have s8:=g8.size
     have l8:=World.ownsRow.lt o8
     obtain ⟨a8, c8, hv8⟩:=o8.form
     obtain ⟨ln, hln⟩ : ∃ ln, (fs ++ bs).length = ln:=⟨_, rfl⟩
     rw [hln] at hv8
     subst hv8
     have O8:=hide o8
     have HLN:=hide hln
     clear hln O7 Q g8 o8 hHeld
     refine hKK.out _ _ trivial (fun hHeld => ?_)
     clear hKK KK
     try simp only [Act.put, List.setIfInBounds_toArray]
     refine tz 12 54 ?_
     simp only [Act.put]
     have cx:=X.cell 2 rfl
     have fx:=X.frozen
     refine rd 13 rfl (fun KK hKK => ?_)
     go_simp
     clear hHeld
     refine hKK.out _ _ trivial (fun hHeld => ?_)
     clear hKK KK hHeld cx fx
     refine wdn ?_
     have X9:=X.set 2 (.slice a8 ln c8) (cs':=#[.int .i64 q,.string s,.slice a8 ln c8]) rfl
     have Z9:=Z.other (p:=⟨x, 2, none⟩) (by show w.heap.size + 1 ≠ x; omega) (.slice a8 ln c8)
     have O9:=O8.out.kp (set_kp w8 x 2 (.slice a8 ln c8)) (fun j hj e => by have:=l8 j hj; omega)
     have C9:=C.set (r:=x) (by omega) 2 (.slice a8 ln c8)
     have G9:=grown_set G (r:=x) (by omega) 2 (.slice a8 ln c8)
     have hl7 : (fs ++ bs).length ≤ 7:=by rw [List.length_append, HL1.out, HL2.out]; omega
     have FF:=hide (FI.out _ (fs ++ bs) _ hl7 HW.out (O9.mono (by omega)) C9 G9)
     have p0:=X9.cell 0 rfl
     have p1:=X9.cell 1 rfl
     have p2:=X9.cell 2 rfl
     have y0:=Z9.cell 0 rfl
     have y1:=Z9.cell 1 rfl
     have y2:=Z9.cell 2 rfl
     have fy:=Z9.frozen
     clear hl7 X Z C G O8 X9 Z9 O9 C9 G9 FI
     go_wp2
     refine bodyPost_ret (v := qv q s (.slice a8 ln c8)) (by simp [results, Tryz.results104, go_sem, y0, y1, y2]) rfl ?_
     exact ⟨_, _, rfl, FF.out⟩
    have cx:=X.cell 2 rfl
    go_simp
    clear cx hHeld
    refine hKK.out _ _ trivial (fun hHeld => ?_)
    clear hKK KK
    try simp only [pU]
    refine tx 10 52 ?_
    refine rd 5 rfl (fun KK hKK => ?_)
    refine step_append_ints rfl (.tmp 42) (.tmp 46) rfl w5.heap.size (.slice (some ⟨w5.heap.size, 0, none⟩) 0 0) (.slice ua at' uc) [] fs rfl rfl O6 P.out (by rw [HL1.out]; simp; omega) (by omega) ?_
    intro v1 w7 o7 g7 _
    have r7 : ∀ j, (Value.slice (some ⟨w5.heap.size, 0, none⟩) 0 0).ownBlock = some j → j = w5.heap.size:=fun j e => by simp [Value.ownBlock] at e; omega
    replace X:=X.grownNew g7 (fun e => by have:=r7 _ e; omega)
    replace Z:=Z.grownNew g7 (fun e => by have:=r7 _ e; omega)
    replace C:=C.grownNew g7 (fun j e => by have:=r7 _ e; omega)
    replace G:=grown_new G g7 (fun j e => by have:=r7 _ e; omega)
    replace Q:=hide (Q.out.kept g7 (fun j e e2 => by have:=r7 _ e; have:=hbo _ e2; omega))
    have s7:=g7.size
    have l7:=World.ownsRow.lt o7
    have O7 : OI w7 w5.heap.size v1 fs:=by simpa using o7
    clear O6 P g7 r7 o7 hHeld
    refine hKK.out _ _ trivial (fun hHeld => ?_)
    clear hKK KK
    try simp only [Act.put, List.setIfInBounds_toArray]
    refine rd 11 rfl (fun KK hKK => ?_)
    refine step_append_ints rfl (.tmp 47) (.tmp 52) rfl w5.heap.size v1 (.slice bo (k - (at' + 1)) (uc - (at' + 1))) fs bs rfl rfl O7 Q.out (by rw [HL1.out, HL2.out]; omega) (by omega) ?_
    intro v2 w8 o8 g8 _
    replace X:=X.grownNew g8 (fun e => by have:=l7 _ e; omega)
    replace Z:=Z.grownNew g8 (fun e => by have:=l7 _ e; omega)
    replace C:=C.grownNew g8 (fun j e => by have:=l7 _ e; omega)
    replace G:=grown_new G g8 (fun j e => by have:=l7 _ e; omega)
    have s8:=g8.size
    have l8:=World.ownsRow.lt o8
    obtain ⟨a8, c8, hv8⟩:=o8.form
    obtain ⟨ln, hln⟩ : ∃ ln, (fs ++ bs).length = ln:=⟨_, rfl⟩
    rw [hln] at hv8
    subst hv8
    have O8:=hide o8
    have HLN:=hide hln
    clear hln O7 Q g8 o8 hHeld
    refine hKK.out _ _ trivial (fun hHeld => ?_)
    clear hKK KK
    try simp only [Act.put]
    refine tz 12 54 ?_
    simp only [Act.put]
    have cx:=X.cell 2 rfl
    have fx:=X.frozen
    refine rd 13 rfl (fun KK hKK => ?_)
    go_simp
    clear hHeld
    refine hKK.out _ _ trivial (fun hHeld => ?_)
    clear hKK KK hHeld cx fx
    refine wdn ?_
    have X9:=X.set 2 (.slice a8 ln c8) (cs':=#[.int .i64 q,.string s,.slice a8 ln c8]) rfl
    have Z9:=Z.other (p:=⟨x, 2, none⟩) (by show w.heap.size + 1 ≠ x; omega) (.slice a8 ln c8)
    have O9:=O8.out.kp (set_kp w8 x 2 (.slice a8 ln c8)) (fun j hj e => by have:=l8 j hj; omega)
    have C9:=C.set (r:=x) (by omega) 2 (.slice a8 ln c8)
    have G9:=grown_set G (r:=x) (by omega) 2 (.slice a8 ln c8)
    have hl7 : (fs ++ bs).length ≤ 7:=by rw [List.length_append, HL1.out, HL2.out]; omega
    have FF:=hide (FI.out _ (fs ++ bs) _ hl7 HW.out (O9.mono (by omega)) C9 G9)
    have p0:=X9.cell 0 rfl
    have p1:=X9.cell 1 rfl
    have p2:=X9.cell 2 rfl
    have y0:=Z9.cell 0 rfl
    have y1:=Z9.cell 1 rfl
    have y2:=Z9.cell 2 rfl
    have fy:=Z9.frozen
    clear hl7 X Z C G O8 X9 Z9 O9 C9 G9 FI
    go_wp2
    refine bodyPost_ret (v := qv q s (.slice a8 ln c8)) (by simp [results, Tryz.results104, go_sem, y0, y1, y2]) rfl ?_
    exact ⟨_, _, rfl, FF.out⟩
   have cx:=X.cell 2 rfl
   go_simp
   clear cx hHeld
   refine hKK.out _ _ trivial (fun hHeld => ?_)
   clear hKK KK
   try simp only [pU]
   refine tx 10 52 ?_
   refine rd 0 rfl (fun KK hKK => ?_)
   go_simp
   obtain ⟨w6, hw6⟩ : ∃ y, wd.alloc (.cells #[] 3) = y:=⟨_, rfl⟩
   have B6 : Below wd.heap.size wd w6:=hw6 ▸ (Below.refl _ _).alloc (Nat.le_refl _) _
   have O6 : OI w6 w5.heap.size (.slice (some ⟨w5.heap.size, 0, none⟩) 0 0) []:=by
    have:=World.ownsRow_lit (base:=wd.heap.size) (e:=3) (size:=1) wd #[] 0 (Nat.le_refl _) (by unfold maxLen; omega) (by simp)
    rw [hw6, sd] at this; simpa [OI] using this
   replace X:=X.up B6
   replace Z:=Z.up B6
   replace C:=C.below (by omega) B6
   replace G:=grown_trans G (grown_below B6 (some g))
   replace P:=hide (P.out.below B6)
   replace Q:=hide (Q.out.below B6)
   have s6 : w6.heap.size = wd.heap.size + 1:=by rw [← hw6]; simp
   rw [hw6]
   clear hw6 B6 hHeld
   refine hKK.out _ _ trivial (fun hHeld => ?_)
   clear hKK KK
   try simp only [pU]
   refine rd 5 rfl (fun KK hKK => ?_)
   refine step_append_ints rfl (.tmp 42) (.tmp 46) rfl w5.heap.size (.slice (some ⟨w5.heap.size, 0, none⟩) 0 0) (.slice ua at' uc) [] fs rfl rfl O6 P.out (by rw [HL1.out]; simp; omega) (by omega) ?_
   intro v1 w7 o7 g7 _
   have r7 : ∀ j, (Value.slice (some ⟨w5.heap.size, 0, none⟩) 0 0).ownBlock = some j → j = w5.heap.size:=fun j e => by simp [Value.ownBlock] at e; omega
   replace X:=X.grownNew g7 (fun e => by have:=r7 _ e; omega)
   replace Z:=Z.grownNew g7 (fun e => by have:=r7 _ e; omega)
   replace C:=C.grownNew g7 (fun j e => by have:=r7 _ e; omega)
   replace G:=grown_new G g7 (fun j e => by have:=r7 _ e; omega)
   replace Q:=hide (Q.out.kept g7 (fun j e e2 => by have:=r7 _ e; have:=hbo _ e2; omega))
   have s7:=g7.size
   have l7:=World.ownsRow.lt o7
   have O7 : OI w7 w5.heap.size v1 fs:=by simpa using o7
   clear O6 P g7 r7 o7 hHeld
   refine hKK.out _ _ trivial (fun hHeld => ?_)
   clear hKK KK
   try simp only [Act.put, List.setIfInBounds_toArray]
   refine rd 11 rfl (fun KK hKK => ?_)
   refine step_append_ints rfl (.tmp 47) (.tmp 52) rfl w5.heap.size v1 (.slice bo (k - (at' + 1)) (uc - (at' + 1))) fs bs rfl rfl O7 Q.out (by rw [HL1.out, HL2.out]; omega) (by omega) ?_
   intro v2 w8 o8 g8 _
   replace X:=X.grownNew g8 (fun e => by have:=l7 _ e; omega)
   replace Z:=Z.grownNew g8 (fun e => by have:=l7 _ e; omega)
   replace C:=C.grownNew g8 (fun j e => by have:=l7 _ e; omega)
   replace G:=grown_new G g8 (fun j e => by have:=l7 _ e; omega)
   have s8:=g8.size
   have l8:=World.ownsRow.lt o8
   obtain ⟨a8, c8, hv8⟩:=o8.form
   obtain ⟨ln, hln⟩ : ∃ ln, (fs ++ bs).length = ln:=⟨_, rfl⟩
   rw [hln] at hv8
   subst hv8
   have O8:=hide o8
   have HLN:=hide hln
   clear hln O7 Q g8 o8 hHeld
   refine hKK.out _ _ trivial (fun hHeld => ?_)
   clear hKK KK
   try simp only [Act.put]
   refine tz 12 54 ?_
   simp only [Act.put]
   have cx:=X.cell 2 rfl
   have fx:=X.frozen
   refine rd 13 rfl (fun KK hKK => ?_)
   go_simp
   clear hHeld
   refine hKK.out _ _ trivial (fun hHeld => ?_)
   clear hKK KK hHeld cx fx
   refine wdn ?_
   have X9:=X.set 2 (.slice a8 ln c8) (cs':=#[.int .i64 q,.string s,.slice a8 ln c8]) rfl
   have Z9:=Z.other (p:=⟨x, 2, none⟩) (by show w.heap.size + 1 ≠ x; omega) (.slice a8 ln c8)
   have O9:=O8.out.kp (set_kp w8 x 2 (.slice a8 ln c8)) (fun j hj e => by have:=l8 j hj; omega)
   have C9:=C.set (r:=x) (by omega) 2 (.slice a8 ln c8)
   have G9:=grown_set G (r:=x) (by omega) 2 (.slice a8 ln c8)
   have hl7 : (fs ++ bs).length ≤ 7:=by rw [List.length_append, HL1.out, HL2.out]; omega
   have FF:=hide (FI.out _ (fs ++ bs) _ hl7 HW.out (O9.mono (by omega)) C9 G9)
   have p0:=X9.cell 0 rfl
   have p1:=X9.cell 1 rfl
   have p2:=X9.cell 2 rfl
   have y0:=Z9.cell 0 rfl
   have y1:=Z9.cell 1 rfl
   have y2:=Z9.cell 2 rfl
   have fy:=Z9.frozen
   clear hl7 X Z C G O8 X9 Z9 O9 C9 G9 FI
   go_wp2
   refine bodyPost_ret (v := qv q s (.slice a8 ln c8)) (by simp [results, Tryz.results104, go_sem, y0, y1, y2]) rfl ?_
   exact ⟨_, _, rfl, FF.out⟩
  have cx:=X.cell 2 rfl
  go_simp
  clear cx hHeld
  refine hKK.out _ _ trivial (fun hHeld => ?_)
  clear hKK KK
  try simp only [pU]
  refine tx 10 52 ?_
  refine wpAnyH_ready (rs := [0, 2]) (by kernel_rfl) (by simp) (AllReadyH.cons rfl (fun KK hKK => ?_) (AllReadyH.cons rfl (fun KK hKK => ?_) AllReadyH.nil))
  ·go_simp
   obtain ⟨w6, hw6⟩ : ∃ y, wd.alloc (.cells #[] 3) = y:=⟨_, rfl⟩
   have B6 : Below wd.heap.size wd w6:=hw6 ▸ (Below.refl _ _).alloc (Nat.le_refl _) _
   have O6 : OI w6 w5.heap.size (.slice (some ⟨w5.heap.size, 0, none⟩) 0 0) []:=by
    have:=World.ownsRow_lit (base:=wd.heap.size) (e:=3) (size:=1) wd #[] 0 (Nat.le_refl _) (by unfold maxLen; omega) (by simp)
    rw [hw6, sd] at this; simpa [OI] using this
   replace X:=X.up B6
   replace Z:=Z.up B6
   replace C:=C.below (by omega) B6
   replace G:=grown_trans G (grown_below B6 (some g))
   replace P:=hide (P.out.below B6)
   replace Q:=hide (Q.out.below B6)
   have s6 : w6.heap.size = wd.heap.size + 1:=by rw [← hw6]; simp
   rw [hw6]
   clear hw6 B6 hHeld
   refine hKK.out _ _ trivial (fun hHeld => ?_)
   clear hKK KK
   try simp only [pU]
   refine rd 2 rfl (fun KK hKK => ?_)
   have cx:=X.cell 2 rfl
   go_simp
   clear cx hHeld
   refine hKK.out _ _ trivial (fun hHeld => ?_)
   clear hKK KK
   try simp only [pU]
   refine tx 4 46 ?_
   refine rd 5 rfl (fun KK hKK => ?_)
   refine step_append_ints rfl (.tmp 42) (.tmp 46) rfl w5.heap.size (.slice (some ⟨w5.heap.size, 0, none⟩) 0 0) (.slice ua at' uc) [] fs rfl rfl O6 P.out (by rw [HL1.out]; simp; omega) (by omega) ?_
   intro v1 w7 o7 g7 _
   have r7 : ∀ j, (Value.slice (some ⟨w5.heap.size, 0, none⟩) 0 0).ownBlock = some j → j = w5.heap.size:=fun j e => by simp [Value.ownBlock] at e; omega
   replace X:=X.grownNew g7 (fun e => by have:=r7 _ e; omega)
   replace Z:=Z.grownNew g7 (fun e => by have:=r7 _ e; omega)
   replace C:=C.grownNew g7 (fun j e => by have:=r7 _ e; omega)
   replace G:=grown_new G g7 (fun j e => by have:=r7 _ e; omega)
   replace Q:=hide (Q.out.kept g7 (fun j e e2 => by have:=r7 _ e; have:=hbo _ e2; omega))
   have s7:=g7.size
   have l7:=World.ownsRow.lt o7
   have O7 : OI w7 w5.heap.size v1 fs:=by simpa using o7
   clear O6 P g7 r7 o7 hHeld
   refine hKK.out _ _ trivial (fun hHeld => ?_)
   clear hKK KK
   try simp only [Act.put, List.setIfInBounds_toArray]
   refine rd 11 rfl (fun KK hKK => ?_)
   refine step_append_ints rfl (.tmp 47) (.tmp 52) rfl w5.heap.size v1 (.slice bo (k - (at' + 1)) (uc - (at' + 1))) fs bs rfl rfl O7 Q.out (by rw [HL1.out, HL2.out]; omega) (by omega) ?_
   intro v2 w8 o8 g8 _
   replace X:=X.grownNew g8 (fun e => by have:=l7 _ e; omega)
   replace Z:=Z.grownNew g8 (fun e => by have:=l7 _ e; omega)
   replace C:=C.grownNew g8 (fun j e => by have:=l7 _ e; omega)
   replace G:=grown_new G g8 (fun j e => by have:=l7 _ e; omega)
   have s8:=g8.size
   have l8:=World.ownsRow.lt o8
   obtain ⟨a8, c8, hv8⟩:=o8.form
   obtain ⟨ln, hln⟩ : ∃ ln, (fs ++ bs).length = ln:=⟨_, rfl⟩
   rw [hln] at hv8
   subst hv8
   have O8:=hide o8
   have HLN:=hide hln
   clear hln O7 Q g8 o8 hHeld
   refine hKK.out _ _ trivial (fun hHeld => ?_)
   clear hKK KK
   try simp only [Act.put]
   refine tz 12 54 ?_
   simp only [Act.put]
   have cx:=X.cell 2 rfl
   have fx:=X.frozen
   refine rd 13 rfl (fun KK hKK => ?_)
   go_simp
   clear hHeld
   refine hKK.out _ _ trivial (fun hHeld => ?_)
   clear hKK KK hHeld cx fx
   refine wdn ?_
   have X9:=X.set 2 (.slice a8 ln c8) (cs':=#[.int .i64 q,.string s,.slice a8 ln c8]) rfl
   have Z9:=Z.other (p:=⟨x, 2, none⟩) (by show w.heap.size + 1 ≠ x; omega) (.slice a8 ln c8)
   have O9:=O8.out.kp (set_kp w8 x 2 (.slice a8 ln c8)) (fun j hj e => by have:=l8 j hj; omega)
   have C9:=C.set (r:=x) (by omega) 2 (.slice a8 ln c8)
   have G9:=grown_set G (r:=x) (by omega) 2 (.slice a8 ln c8)
   have hl7 : (fs ++ bs).length ≤ 7:=by rw [List.length_append, HL1.out, HL2.out]; omega
   have FF:=hide (FI.out _ (fs ++ bs) _ hl7 HW.out (O9.mono (by omega)) C9 G9)
   have p0:=X9.cell 0 rfl
   have p1:=X9.cell 1 rfl
   have p2:=X9.cell 2 rfl
   have y0:=Z9.cell 0 rfl
   have y1:=Z9.cell 1 rfl
   have y2:=Z9.cell 2 rfl
   have fy:=Z9.frozen
   clear hl7 X Z C G O8 X9 Z9 O9 C9 G9 FI
   go_wp2
   refine bodyPost_ret (v := qv q s (.slice a8 ln c8)) (by simp [results, Tryz.results104, go_sem, y0, y1, y2]) rfl ?_
   exact ⟨_, _, rfl, FF.out⟩
  have cx:=X.cell 2 rfl
  go_simp
  clear cx hHeld
  refine hKK.out _ _ trivial (fun hHeld => ?_)
  clear hKK KK
  try simp only [pU]
  refine tx 4 46 ?_
  refine rd 0 rfl (fun KK hKK => ?_)
  go_simp
  obtain ⟨w6, hw6⟩ : ∃ y, wd.alloc (.cells #[] 3) = y:=⟨_, rfl⟩
  have B6 : Below wd.heap.size wd w6:=hw6 ▸ (Below.refl _ _).alloc (Nat.le_refl _) _
  have O6 : OI w6 w5.heap.size (.slice (some ⟨w5.heap.size, 0, none⟩) 0 0) []:=by
   have:=World.ownsRow_lit (base:=wd.heap.size) (e:=3) (size:=1) wd #[] 0 (Nat.le_refl _) (by unfold maxLen; omega) (by simp)
   rw [hw6, sd] at this; simpa [OI] using this
  replace X:=X.up B6
  replace Z:=Z.up B6
  replace C:=C.below (by omega) B6
  replace G:=grown_trans G (grown_below B6 (some g))
  replace P:=hide (P.out.below B6)
  replace Q:=hide (Q.out.below B6)
  have s6 : w6.heap.size = wd.heap.size + 1:=by rw [← hw6]; simp
  rw [hw6]
  clear hw6 B6 hHeld
  refine hKK.out _ _ trivial (fun hHeld => ?_)
  clear hKK KK
  try simp only [pU]
  refine rd 5 rfl (fun KK hKK => ?_)
  refine step_append_ints rfl (.tmp 42) (.tmp 46) rfl w5.heap.size (.slice (some ⟨w5.heap.size, 0, none⟩) 0 0) (.slice ua at' uc) [] fs rfl rfl O6 P.out (by rw [HL1.out]; simp; omega) (by omega) ?_
  intro v1 w7 o7 g7 _
  have r7 : ∀ j, (Value.slice (some ⟨w5.heap.size, 0, none⟩) 0 0).ownBlock = some j → j = w5.heap.size:=fun j e => by simp [Value.ownBlock] at e; omega
  replace X:=X.grownNew g7 (fun e => by have:=r7 _ e; omega)
  replace Z:=Z.grownNew g7 (fun e => by have:=r7 _ e; omega)
  replace C:=C.grownNew g7 (fun j e => by have:=r7 _ e; omega)
  replace G:=grown_new G g7 (fun j e => by have:=r7 _ e; omega)
  replace Q:=hide (Q.out.kept g7 (fun j e e2 => by have:=r7 _ e; have:=hbo _ e2; omega))
  have s7:=g7.size
  have l7:=World.ownsRow.lt o7
  have O7 : OI w7 w5.heap.size v1 fs:=by simpa using o7
  clear O6 P g7 r7 o7 hHeld
  refine hKK.out _ _ trivial (fun hHeld => ?_)
  clear hKK KK
  try simp only [Act.put, List.setIfInBounds_toArray]
  refine rd 11 rfl (fun KK hKK => ?_)
  refine step_append_ints rfl (.tmp 47) (.tmp 52) rfl w5.heap.size v1 (.slice bo (k - (at' + 1)) (uc - (at' + 1))) fs bs rfl rfl O7 Q.out (by rw [HL1.out, HL2.out]; omega) (by omega) ?_
  intro v2 w8 o8 g8 _
  replace X:=X.grownNew g8 (fun e => by have:=l7 _ e; omega)
  replace Z:=Z.grownNew g8 (fun e => by have:=l7 _ e; omega)
  replace C:=C.grownNew g8 (fun j e => by have:=l7 _ e; omega)
  replace G:=grown_new G g8 (fun j e => by have:=l7 _ e; omega)
  have s8:=g8.size
  have l8:=World.ownsRow.lt o8
  obtain ⟨a8, c8, hv8⟩:=o8.form
  obtain ⟨ln, hln⟩ : ∃ ln, (fs ++ bs).length = ln:=⟨_, rfl⟩
  rw [hln] at hv8
  subst hv8
  have O8:=hide o8
  have HLN:=hide hln
  clear hln O7 Q g8 o8 hHeld
  refine hKK.out _ _ trivial (fun hHeld => ?_)
  clear hKK KK
  try simp only [Act.put]
  refine tz 12 54 ?_
  simp only [Act.put]
  have cx:=X.cell 2 rfl
  have fx:=X.frozen
  refine rd 13 rfl (fun KK hKK => ?_)
  go_simp
  clear hHeld
  refine hKK.out _ _ trivial (fun hHeld => ?_)
  clear hKK KK hHeld cx fx
  refine wdn ?_
  have X9:=X.set 2 (.slice a8 ln c8) (cs':=#[.int .i64 q,.string s,.slice a8 ln c8]) rfl
  have Z9:=Z.other (p:=⟨x, 2, none⟩) (by show w.heap.size + 1 ≠ x; omega) (.slice a8 ln c8)
  have O9:=O8.out.kp (set_kp w8 x 2 (.slice a8 ln c8)) (fun j hj e => by have:=l8 j hj; omega)
  have C9:=C.set (r:=x) (by omega) 2 (.slice a8 ln c8)
  have G9:=grown_set G (r:=x) (by omega) 2 (.slice a8 ln c8)
  have hl7 : (fs ++ bs).length ≤ 7:=by rw [List.length_append, HL1.out, HL2.out]; omega
  have FF:=hide (FI.out _ (fs ++ bs) _ hl7 HW.out (O9.mono (by omega)) C9 G9)
  have p0:=X9.cell 0 rfl
  have p1:=X9.cell 1 rfl
  have p2:=X9.cell 2 rfl
  have y0:=Z9.cell 0 rfl
  have y1:=Z9.cell 1 rfl
  have y2:=Z9.cell 2 rfl
  have fy:=Z9.frozen
  clear hl7 X Z C G O8 X9 Z9 O9 C9 G9 FI
  go_wp2
  refine bodyPost_ret (v := qv q s (.slice a8 ln c8)) (by simp [results, Tryz.results104, go_sem, y0, y1, y2]) rfl ?_
  exact ⟨_, _, rfl, FF.out⟩
end
end Go.Proofs.YtjkcphnohhpihaaGreatDoor
