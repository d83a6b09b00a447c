/- DrawPartR: spec.l10DrawRight. -/
import Derived.Test.YtjkcphnohhpihaaGreatDoorPPBF
set_option maxRecDepth 100000
set_option maxHeartbeats 8000000
set_option linter.unusedSectionVars false
namespace Go.Proofs.YtjkcphnohhpihaaGreatDoor
section
open Go.RowKit
variable [∀ (a b c d : Int), Decidable (Ok4 a b c d)]
variable [∀ (a b c d : Nat), Decidable (okN a b c d)]
variable [∀ (x : T4), Decidable (OkT x)]
variable [∀ (last : Int) (s : St), Decidable (GoodSt last s)]
variable [∀ (n f : Int), Decidable (COk n f)]
theorem view_fit (s : ByteArray) : -1 ≤ viewAns s ∧ viewAns s ≤ 60 := by
 have h:=height_view (s:=s)
 refine ⟨?_, h.2.2⟩
 have : -1 ≤ heightAns s:=by
  unfold heightAns
  split
  ·omega
  omega
 omega

theorem max_four (n : Int) (w : World) (hn : n ≤ 8) : Calls Tryz.prog 115 #[.int .i64 n,.int .i64 4] w fun e w' => ∃ r : Int, e = .returned (.int .i64 r) ∧ 4 ≤ r ∧ r ≤ 8 ∧ w' = w := by
 by_cases h : n > 4
 ·have hd : decide (n > 4) = true:=by simpa using h
  go_enter Tryz.func115, Tryz.ntmps115
  go_wp2
  go_ret
  exact ⟨n, rfl, by omega, by omega, rfl⟩
 have hd : decide (n > 4) = false:=by simpa using h
 go_enter Tryz.func115, Tryz.ntmps115
 go_wp2
 go_ret
 exact ⟨4, rfl, by omega, by omega, rfl⟩

theorem drawPartR (base g ca : Nat) (ao : Option Addr) (zs : List Int) (n f : Int) (w : World) (hB : base ≤ w.heap.size) (hn8 : n ≤ 8) (h : Cur w base g ao ca zs) :
 Calls Tryz.prog 94 #[.pointer (some ⟨g, 0, none⟩), cv n f] w fun e w' => ∃ (v : Int) (s : ByteArray) (u : Value) (xs : List Int), e = .returned (qv v s u) ∧ (-1 ≤ v ∧ v ≤ 61) ∧ s.size ≤ 1920 ∧ xs.length ≤ 7 ∧ Hid (WfL xs) ∧ OI w' w.heap.size u xs ∧ Cur w' base g ao ca zs ∧ w.grownBy w' (some g) := by
 have hlt:=h.lt
 obtain ⟨w0, hw0⟩ : ∃ y, (w.alloc (.cells #[.int .i64 n,.int .i64 f] 33)).alloc zpo = y:=⟨_, rfl⟩
 have b0 : Below w.heap.size w w0:=hw0 ▸ qalloc2 _ _ _
 have LC : Loc w0 w.heap.size #[.int .i64 n,.int .i64 f]:=hw0 ▸ (loc_at w _ _ rfl).alloc _
 have LZ : Loc w0 (w.heap.size + 1) #[.int .i64 0,.string ⟨#[]⟩,.slice none 0 0]:=hw0 ▸ loc_at (w.alloc _) _ _ (by simp)
 have s0 : w0.heap.size = w.heap.size + 2:=by rw [← hw0]; simp
 have C:=h.below hB b0
 have K : Kp w w0 (fun k => k = g):=Below.kpOf b0 _
 clear h b0
 go_enter Tryz.func94, Tryz.ntmps94
 go_wp2_with fail
 clear hw0
 refine (drawNameR base g ca ao zs _ (by omega) C).mono ?_
 rintro e w1 ⟨s, rfl, hs, c1, g1⟩
 replace C:=c1
 have kk:=kp_of g1
 have s1:=kk.size
 replace LC:=LC.kp kk (by omega)
 replace LZ:=LZ.kp kk (by omega)
 replace K:=K.trans kk
 clear kk g1 c1
 go_wp2_with fail
 refine (specViewOf s _ (by omega)).mono ?_
 rintro e w2 ⟨rfl, b2⟩
 have s2:=b2.size
 replace LC:=LC.up b2
 replace LZ:=LZ.up b2
 replace K:=K.trans (Below.kpOf b2 _)
 replace C:=C.below (by omega) b2
 clear b2
 have hv0:=view_fit s
 generalize viewAns s = v at *
 have hv : -1 ≤ v ∧ v ≤ 61:=by omega
 clear hv0
 go_upto_region 3 with fail
 obtain ⟨w3, hw3⟩ : ∃ y, w2.alloc (.cells #[.int .i64 v,.string s,.slice none 0 0] 36) = y:=⟨_, rfl⟩
 rw [hw3]
 have b3 : Below w2.heap.size w2 w3:=hw3 ▸ qalloc _ _
 obtain ⟨pb, hpb⟩ : ∃ p, w2.heap.size = p:=⟨_, rfl⟩
 have P : Loc w3 pb #[.int .i64 v,.string s,.slice none 0 0]:=hpb ▸ hw3 ▸ loc_at w2 _ _ rfl
 have hpb2 : w.heap.size + 2 ≤ pb:=by omega
 have s3:=b3.size
 replace LC:=LC.up b3
 replace LZ:=LZ.up b3
 replace K:=K.trans (Below.kpOf b3 _)
 replace C:=C.below (by omega) b3
 rw [hpb]
 clear b3 hw3
 go_wp2_with fail
 refine (once_any base g ca ao zs 4 _ (by omega) (by omega) (by omega) C).mono ?_
 rintro e w4 ⟨b, rfl, c4, g4⟩
 replace C:=c4
 have kk:=kp_of g4
 have s4:=kk.size
 have hpl:=P.lt
 replace LC:=LC.kp kk (by omega)
 replace LZ:=LZ.kp kk (by omega)
 replace P:=P.kp kk (by omega)
 replace K:=K.trans kk
 clear kk g4 c4
 cases b with
 | true =>
  clear hs hv
  go_wp2_with fail
  refine (below_any base g ca ao zs 4 _ (by omega) (by omega) (by omega) C).mono ?_
  rintro e w5 ⟨x, rfl, x0, x1, c5, g5⟩
  replace C:=c5
  clear c5
  have kk:=kp_of g5
  have sk:=kk.size
  replace LC:=LC.kp kk (by omega)
  replace LZ:=LZ.kp kk (by omega)
  replace P:=P.kp kk (by omega)
  replace K:=K.trans kk
  clear kk g5
  have p0:=P.cell 0 rfl
  have p1:=P.cell 1 rfl
  have p2:=P.cell 2 rfl
  have fp:=P.frozen
  go_upto_region 5 with fail
  obtain ⟨w6, hw6⟩ : ∃ y, ((w5.setCell ⟨pb, 0, none⟩ (.int .i64 (1 + x))).setCell ⟨pb, 1, none⟩ (.string ⟨#[]⟩)).setCell ⟨pb, 2, none⟩ (.slice none 0 0) = y:=⟨_, rfl⟩
  have kwe : Kp w5 w6 (fun k => k = pb):=hw6 ▸ ((set_kp _ _ _ _).trans (set_kp _ _ _ _)).trans (set_kp _ _ _ _)
  replace P : Loc w6 pb #[.int .i64 (1 + x),.string ⟨#[]⟩,.slice none 0 0]:=hw6 ▸ (((P.set 0 _ rfl).set 1 _ rfl).set 2 _ rfl)
  replace LC:=LC.kp kwe (by omega)
  replace LZ:=LZ.kp kwe (by omega)
  replace C : Cur w6 base g ao ca zs:=hw6 ▸ ((C.set (r:=pb) (by omega) 0 (.int .i64 (1 + x))).set (r:=pb) (by omega) 1 (.string ⟨#[]⟩)).set (r:=pb) (by omega) 2 (.slice none 0 0)
  replace K : Kp w w6 (fun k => k = g):=⟨kwe.os.trans K.os, kwe.tape.trans K.tape, kwe.output.trans K.output, Nat.le_trans K.size kwe.size, fun k hk hg => (kwe.block k (Nat.lt_of_lt_of_le hk K.size) (by omega)).trans (K.block k hk hg)⟩
  have zw6:=kwe.size
  rw [hw6]
  clear hw6 kwe p0 p1 p2 fp
  have hv : -1 ≤ 1 + x ∧ 1 + x ≤ 61:=by omega
  have hs : (⟨#[]⟩ : ByteArray).size ≤ 1920:=by decide
  generalize 1 + x = v2 at *
  clear x0 x1
  go_wp2
  go_loopw [7] (fun j wr => ∃ (k : Nat) (xs : List Int) (ua : Option Addr) (uc : Nat), k ≤ 7 ∧ j = .int .i64 k ∧ xs.length ≤ k ∧ Hid (WfL xs) ∧ Hid (∀ j, (Value.slice ua xs.length uc).ownBlock = some j → pb < j) ∧ Loc wr pb #[.int .i64 v2,.string ⟨#[]⟩,.slice ua xs.length uc] ∧ OI wr w.heap.size (.slice ua xs.length uc) xs ∧ Loc wr w.heap.size #[.int .i64 n,.int .i64 f] ∧ Loc wr (w.heap.size + 1) #[.int .i64 0,.string ⟨#[]⟩,.slice none 0 0] ∧ Cur wr base g ao ca zs ∧ Kp w wr (fun k => k = g)) (fun j _ => 7 - (intOf j).toNat)
  case atStart => exact ⟨0, [], none, 0, by omega, rfl, by simp, hide (fun x hx => by simp at hx), hide (fun j hj => by simp [Value.ownBlock] at hj), P, World.ownsRow_nil _ _ _ _, LC, LZ, C, K⟩
  case round =>
   clear P LC LZ C K
   obtain ⟨k, xs, ua, uc, hk, rfl, hxl, WX, HP, P, O, LC, LZ, C, K⟩:=hrel
   have sK:=K.size
   have hpl:=P.lt
   go_wp2_with fail
   refine (below_any base g ca ao zs 7 _ (by omega) (by omega) (by omega) C).mono ?_
   rintro e w7 ⟨r, rfl, r0, r1, c7, g7⟩
   replace C:=c7
   clear c7
   have kk:=kp_of g7
   have sk:=kk.size
   replace LC:=LC.kp kk (by omega)
   replace LZ:=LZ.kp kk (by omega)
   replace P:=P.kp kk (by omega)
   have lo:=World.ownsRow.lt O
   replace O:=OI.kp O kk (fun j hj e => by have:=(lo j hj).1; omega)
   replace K:=K.trans kk
   clear kk lo g7
   by_cases hlt2 : (k : Int) < 1 + r
   ·have hd : decide ((k : Int) < 1 + r) = true:=by simpa using hlt2
    go_upto_region 8 with fail
    refine wp_region_noPanic ?_
    refine wp_region_held_drew (S := (fun w' => w'.cell? ⟨w.heap.size, 0, none⟩ = some (.int .i64 n))) (by kernel_rfl) (LC.cell 0 rfl) (fun hHeld => ?_)
    obtain ⟨wd, hd'⟩ : ∃ y, w7.drew = y:=⟨_, rfl⟩
    have bd : Below w7.heap.size w7 wd:=hd' ▸ Below.drew (Below.refl _ _)
    have szd:=bd.size
    replace LC:=LC.up bd
    replace LZ:=LZ.up bd
    replace P:=P.up bd
    replace O:=O.below bd
    replace K:=K.trans (Below.kpOf bd _)
    replace C:=C.below (by omega) bd
    rw [hd'] at hHeld ⊢
    clear hd' bd
    refine tx 0 31 ?_
    refine tx 2 33 ?_
    refine tx 3 34 ?_
    refine tx 4 35 ?_
    refine wpAnyH_ready (rs := [1, 5]) (by kernel_rfl) (by simp) (AllReadyH.cons rfl (fun KK hKK => ?_) (AllReadyH.cons rfl (fun KK hKK => ?_) AllReadyH.nil))
    ·have cx:=P.cell 2 rfl
     go_simp
     clear cx hHeld
     refine hKK.out _ _ (LC.cell 0 rfl) (fun hHeld => ?_)
     clear hKK KK
     try simp only [pU]
     refine rd 5 rfl (fun KK hKK => ?_)
     go_simp
     refine (max_four n _ hn8).mono ?_
     rintro e w9 ⟨mx, rfl, mx0, mx1, e9⟩
     rw [e9]
     clear e9 hHeld
     refine hKK.out _ _ (LC.cell 0 rfl) (fun hHeld => ?_)
     clear hKK KK
     try simp only [pU]
     refine rd 6 rfl (fun KK hKK => ?_)
     go_simp
     refine (below_any base g ca ao zs mx _ (by omega) (by omega) (by omega) C).mono ?_
     rintro e wb ⟨x, rfl, x0, x1, cb, gb⟩
     replace C:=cb
     clear cb
     have kk:=kp_of gb
     have sk:=kk.size
     replace LC:=LC.kp kk (by omega)
     replace LZ:=LZ.kp kk (by omega)
     replace P:=P.kp kk (by omega)
     have lo:=World.ownsRow.lt O
     replace O:=OI.kp O kk (fun j hj e => by have:=(lo j hj).1; omega)
     replace K:=K.trans kk
     clear kk lo gb hHeld
     refine hKK.out _ _ (LC.cell 0 rfl) (fun hHeld => ?_)
     clear hKK KK
     try simp only [pU]
     refine rd 7 rfl (fun KK hKK => ?_)
     go_simp
     refine (specSetAdd _ xs x _ (O.ri (by omega)) O.cap (by omega)).mono ?_
     rintro e wc ⟨u3, rfl, o3, b3⟩
     have sk:=b3.size
     replace LC:=LC.up b3
     replace LZ:=LZ.up b3
     replace P:=P.up b3
     replace O:=O.below b3
     replace K:=K.trans (Below.kpOf b3 _)
     replace C:=C.below (by omega) b3
     clear b3 hHeld
     refine hKK.out _ _ (LC.cell 0 rfl) (fun hHeld => ?_)
     clear hKK KK
     try simp only [pU]
     refine tx 8 39 ?_
     have cx:=P.cell 2 rfl
     have fx:=P.frozen
     have lt3:=World.ownsRow.lt o3
     obtain ⟨va, vc, rfl⟩:=o3.form
     refine rd 9 rfl (fun KK hKK => ?_)
     go_simp
     obtain ⟨we, hwe⟩ : ∃ y, wc.setCell ⟨pb, 2, none⟩ (.slice va (addL xs x).length vc) = y:=⟨_, rfl⟩
     have kwe : Kp wc we (fun k => k = pb):=hwe ▸ set_kp _ _ _ _
     replace P : Loc we pb #[.int .i64 v2,.string ⟨#[]⟩,.slice va (addL xs x).length vc]:=hwe ▸ P.set 2 _ rfl
     replace LC:=LC.kp kwe (by omega)
     replace LZ:=LZ.kp kwe (by omega)
     have O2:=hide ((OI.kp o3 kwe (fun j hj e => by have:=(lt3 j hj).1; omega)).mono (show w.heap.size ≤ wb.heap.size by omega))
     have C2 : Cur we base g ao ca zs:=hwe ▸ C.set (r:=pb) (by omega) 2 (.slice va (addL xs x).length vc)
     have K2 : Kp w we (fun k => k = g):=⟨kwe.os.trans K.os, kwe.tape.trans K.tape, kwe.output.trans K.output, Nat.le_trans K.size kwe.size, fun k hk hg => (kwe.block k (Nat.lt_of_lt_of_le hk K.size) (by omega)).trans (K.block k hk hg)⟩
     have HV : Hid (∀ j, (Value.slice va (addL xs x).length vc).ownBlock = some j → pb < j):=hide fun j hj => by have:=(lt3 j hj).1; omega
     have hal:=add_len xs x
     have WY:=hide (wf_add WX.out (wf_small (by omega) (by omega) : (Lit.int .i64 x).wf = true))
     have zwe:=kwe.size
     rw [hwe]
     clear hwe kwe cx fx O o3 lt3 C K hHeld
     refine hKK.out _ _ (LC.cell 0 rfl) (fun hHeld => ?_)
     clear hKK KK hHeld
     refine wdn ?_
     generalize addL xs x = ys at *
     go_wp2
     go_roundw
     case rel => exact ⟨k + 1, ys, va, vc, by omega, by go_num, by omega, WY, HV, P, O2.out, LC, LZ, C2, K2⟩
     case measure => simp [intOf]; omega
    go_simp
    refine (max_four n _ hn8).mono ?_
    rintro e w9 ⟨mx, rfl, mx0, mx1, e9⟩
    rw [e9]
    clear e9 hHeld
    refine hKK.out _ _ (LC.cell 0 rfl) (fun hHeld => ?_)
    clear hKK KK
    try simp only [pU]
    refine wpAnyH_ready (rs := [1, 6]) (by kernel_rfl) (by simp) (AllReadyH.cons rfl (fun KK hKK => ?_) (AllReadyH.cons rfl (fun KK hKK => ?_) AllReadyH.nil))
    ·have cx:=P.cell 2 rfl
     go_simp
     clear cx hHeld
     refine hKK.out _ _ (LC.cell 0 rfl) (fun hHeld => ?_)
     clear hKK KK
     try simp only [pU]
     refine rd 6 rfl (fun KK hKK => ?_)
     go_simp
     refine (below_any base g ca ao zs mx _ (by omega) (by omega) (by omega) C).mono ?_
     rintro e wb ⟨x, rfl, x0, x1, cb, gb⟩
     replace C:=cb
     clear cb
     have kk:=kp_of gb
     have sk:=kk.size
     replace LC:=LC.kp kk (by omega)
     replace LZ:=LZ.kp kk (by omega)
     replace P:=P.kp kk (by omega)
     have lo:=World.ownsRow.lt O
     replace O:=OI.kp O kk (fun j hj e => by have:=(lo j hj).1; omega)
     replace K:=K.trans kk
     clear kk lo gb hHeld
     refine hKK.out _ _ (LC.cell 0 rfl) (fun hHeld => ?_)
     clear hKK KK
     try simp only [pU]
     refine rd 7 rfl (fun KK hKK => ?_)
     go_simp
     refine (specSetAdd _ xs x _ (O.ri (by omega)) O.cap (by omega)).mono ?_
     rintro e wc ⟨u3, rfl, o3, b3⟩
     have sk:=b3.size
     replace LC:=LC.up b3
     replace LZ:=LZ.up b3
     replace P:=P.up b3
     replace O:=O.below b3
     replace K:=K.trans (Below.kpOf b3 _)
     replace C:=C.below (by omega) b3
     clear b3 hHeld
     refine hKK.out _ _ (LC.cell 0 rfl) (fun hHeld => ?_)
     clear hKK KK
     try simp only [pU]
     refine tx 8 39 ?_
     have cx:=P.cell 2 rfl
     have fx:=P.frozen
     have lt3:=World.ownsRow.lt o3
     obtain ⟨va, vc, rfl⟩:=o3.form
     refine rd 9 rfl (fun KK hKK => ?_)
     go_simp
     obtain ⟨we, hwe⟩ : ∃ y, wc.setCell ⟨pb, 2, none⟩ (.slice va (addL xs x).length vc) = y:=⟨_, rfl⟩
     have kwe : Kp wc we (fun k => k = pb):=hwe ▸ set_kp _ _ _ _
     replace P : Loc we pb #[.int .i64 v2,.string ⟨#[]⟩,.slice va (addL xs x).length vc]:=hwe ▸ P.set 2 _ rfl
     replace LC:=LC.kp kwe (by omega)
     replace LZ:=LZ.kp kwe (by omega)
     have O2:=hide ((OI.kp o3 kwe (fun j hj e => by have:=(lt3 j hj).1; omega)).mono (show w.heap.size ≤ wb.heap.size by omega))
     have C2 : Cur we base g ao ca zs:=hwe ▸ C.set (r:=pb) (by omega) 2 (.slice va (addL xs x).length vc)
     have K2 : Kp w we (fun k => k = g):=⟨kwe.os.trans K.os, kwe.tape.trans K.tape, kwe.output.trans K.output, Nat.le_trans K.size kwe.size, fun k hk hg => (kwe.block k (Nat.lt_of_lt_of_le hk K.size) (by omega)).trans (K.block k hk hg)⟩
     have HV : Hid (∀ j, (Value.slice va (addL xs x).length vc).ownBlock = some j → pb < j):=hide fun j hj => by have:=(lt3 j hj).1; omega
     have hal:=add_len xs x
     have WY:=hide (wf_add WX.out (wf_small (by omega) (by omega) : (Lit.int .i64 x).wf = true))
     have zwe:=kwe.size
     rw [hwe]
     clear hwe kwe cx fx O o3 lt3 C K hHeld
     refine hKK.out _ _ (LC.cell 0 rfl) (fun hHeld => ?_)
     clear hKK KK hHeld
     refine wdn ?_
     generalize addL xs x = ys at *
     go_wp2
     go_roundw
     case rel => exact ⟨k + 1, ys, va, vc, by omega, by go_num, by omega, WY, HV, P, O2.out, LC, LZ, C2, K2⟩
     case measure => simp [intOf]; omega
    go_simp
    refine (below_any base g ca ao zs mx _ (by omega) (by omega) (by omega) C).mono ?_
    rintro e wb ⟨x, rfl, x0, x1, cb, gb⟩
    replace C:=cb
    clear cb
    have kk:=kp_of gb
    have sk:=kk.size
    replace LC:=LC.kp kk (by omega)
    replace LZ:=LZ.kp kk (by omega)
    replace P:=P.kp kk (by omega)
    have lo:=World.ownsRow.lt O
    replace O:=OI.kp O kk (fun j hj e => by have:=(lo j hj).1; omega)
    replace K:=K.trans kk
    clear kk lo gb hHeld
    refine hKK.out _ _ (LC.cell 0 rfl) (fun hHeld => ?_)
    clear hKK KK
    try simp only [pU]
    refine rd 1 rfl (fun KK hKK => ?_)
    have cx:=P.cell 2 rfl
    go_simp
    clear cx hHeld
    refine hKK.out _ _ (LC.cell 0 rfl) (fun hHeld => ?_)
    clear hKK KK
    try simp only [pU]
    refine rd 7 rfl (fun KK hKK => ?_)
    go_simp
    refine (specSetAdd _ xs x _ (O.ri (by omega)) O.cap (by omega)).mono ?_
    rintro e wc ⟨u3, rfl, o3, b3⟩
    have sk:=b3.size
    replace LC:=LC.up b3
    replace LZ:=LZ.up b3
    replace P:=P.up b3
    replace O:=O.below b3
    replace K:=K.trans (Below.kpOf b3 _)
    replace C:=C.below (by omega) b3
    clear b3 hHeld
    refine hKK.out _ _ (LC.cell 0 rfl) (fun hHeld => ?_)
    clear hKK KK
    try simp only [pU]
    refine tx 8 39 ?_
    have cx:=P.cell 2 rfl
    have fx:=P.frozen
    have lt3:=World.ownsRow.lt o3
    obtain ⟨va, vc, rfl⟩:=o3.form
    refine rd 9 rfl (fun KK hKK => ?_)
    go_simp
    obtain ⟨we, hwe⟩ : ∃ y, wc.setCell ⟨pb, 2, none⟩ (.slice va (addL xs x).length vc) = y:=⟨_, rfl⟩
    have kwe : Kp wc we (fun k => k = pb):=hwe ▸ set_kp _ _ _ _
    replace P : Loc we pb #[.int .i64 v2,.string ⟨#[]⟩,.slice va (addL xs x).length vc]:=hwe ▸ P.set 2 _ rfl
    replace LC:=LC.kp kwe (by omega)
    replace LZ:=LZ.kp kwe (by omega)
    have O2:=hide ((OI.kp o3 kwe (fun j hj e => by have:=(lt3 j hj).1; omega)).mono (show w.heap.size ≤ wb.heap.size by omega))
    have C2 : Cur we base g ao ca zs:=hwe ▸ C.set (r:=pb) (by omega) 2 (.slice va (addL xs x).length vc)
    have K2 : Kp w we (fun k => k = g):=⟨kwe.os.trans K.os, kwe.tape.trans K.tape, kwe.output.trans K.output, Nat.le_trans K.size kwe.size, fun k hk hg => (kwe.block k (Nat.lt_of_lt_of_le hk K.size) (by omega)).trans (K.block k hk hg)⟩
    have HV : Hid (∀ j, (Value.slice va (addL xs x).length vc).ownBlock = some j → pb < j):=hide fun j hj => by have:=(lt3 j hj).1; omega
    have hal:=add_len xs x
    have WY:=hide (wf_add WX.out (wf_small (by omega) (by omega) : (Lit.int .i64 x).wf = true))
    have zwe:=kwe.size
    rw [hwe]
    clear hwe kwe cx fx O o3 lt3 C K hHeld
    refine hKK.out _ _ (LC.cell 0 rfl) (fun hHeld => ?_)
    clear hKK KK hHeld
    refine wdn ?_
    generalize addL xs x = ys at *
    go_wp2
    go_roundw
    case rel => exact ⟨k + 1, ys, va, vc, by omega, by go_num, by omega, WY, HV, P, O2.out, LC, LZ, C2, K2⟩
    case measure => simp [intOf]; omega
   ·have hd : decide ((k : Int) < 1 + r) = false:=by simpa using hlt2
    have p0:=P.cell 0 rfl
    have p1:=P.cell 1 rfl
    have p2:=P.cell 2 rfl
    have y0:=LZ.cell 0 rfl
    have y1:=LZ.cell 1 rfl
    have y2:=LZ.cell 2 rfl
    have fy:=LZ.frozen
    have K5 : Kp w7 (((w7.setCell ⟨w.heap.size + 1, 0, none⟩ (.int .i64 v2)).setCell ⟨w.heap.size + 1, 1, none⟩ (.string ⟨#[]⟩)).setCell ⟨w.heap.size + 1, 2, none⟩ (.slice ua xs.length uc)) (fun k => k = w.heap.size + 1):=((set_kp _ _ _ _).trans (set_kp _ _ _ _)).trans (set_kp _ _ _ _)
    have O5:=hide (OI.kp O K5 (fun j hj e => by have:=HP.out j hj; omega))
    have C5:=hide (((C.set (r:=w.heap.size + 1) (by omega) 0 (.int .i64 v2)).set (r:=w.heap.size + 1) (by omega) 1 (.string ⟨#[]⟩)).set (r:=w.heap.size + 1) (by omega) 2 (.slice ua xs.length uc))
    have G5:=hide (grown_set (grown_set (grown_set (kp_to K) (r:=w.heap.size + 1) (by omega) 0 (.int .i64 v2)) (r:=w.heap.size + 1) (by omega) 1 (.string ⟨#[]⟩)) (r:=w.heap.size + 1) (by omega) 2 (.slice ua xs.length uc))
    clear P LC LZ C K O K5 HP
    go_wp2
    refine bodyPost_ret (v := qv v2 ⟨#[]⟩ (.slice ua xs.length uc)) (by simp [results, Tryz.results94, go_sem, y0, y1, y2]) rfl ?_
    exact ⟨_, _, _, xs, rfl, hv, hs, by omega, WX, O5.out, C5.out, G5.out⟩
 | false =>
  by_cases he : s = ⟨#[]⟩
  ·have hy : (s.toList == []) = true:=by rw [he, ByteArray.toList_eq]; rfl
   clear he hs hv
   go_wp2_with fail
   refine (below_any base g ca ao zs 4 _ (by omega) (by omega) (by omega) C).mono ?_
   rintro e w5 ⟨x, rfl, x0, x1, c5, g5⟩
   replace C:=c5
   clear c5
   have kk:=kp_of g5
   have sk:=kk.size
   replace LC:=LC.kp kk (by omega)
   replace LZ:=LZ.kp kk (by omega)
   replace P:=P.kp kk (by omega)
   replace K:=K.trans kk
   clear kk g5
   have p0:=P.cell 0 rfl
   have p1:=P.cell 1 rfl
   have p2:=P.cell 2 rfl
   have fp:=P.frozen
   go_upto_region 5 with fail
   obtain ⟨w6, hw6⟩ : ∃ y, ((w5.setCell ⟨pb, 0, none⟩ (.int .i64 (1 + x))).setCell ⟨pb, 1, none⟩ (.string ⟨#[]⟩)).setCell ⟨pb, 2, none⟩ (.slice none 0 0) = y:=⟨_, rfl⟩
   have kwe : Kp w5 w6 (fun k => k = pb):=hw6 ▸ ((set_kp _ _ _ _).trans (set_kp _ _ _ _)).trans (set_kp _ _ _ _)
   replace P : Loc w6 pb #[.int .i64 (1 + x),.string ⟨#[]⟩,.slice none 0 0]:=hw6 ▸ (((P.set 0 _ rfl).set 1 _ rfl).set 2 _ rfl)
   replace LC:=LC.kp kwe (by omega)
   replace LZ:=LZ.kp kwe (by omega)
   replace C : Cur w6 base g ao ca zs:=hw6 ▸ ((C.set (r:=pb) (by omega) 0 (.int .i64 (1 + x))).set (r:=pb) (by omega) 1 (.string ⟨#[]⟩)).set (r:=pb) (by omega) 2 (.slice none 0 0)
   replace K : Kp w w6 (fun k => k = g):=⟨kwe.os.trans K.os, kwe.tape.trans K.tape, kwe.output.trans K.output, Nat.le_trans K.size kwe.size, fun k hk hg => (kwe.block k (Nat.lt_of_lt_of_le hk K.size) (by omega)).trans (K.block k hk hg)⟩
   have zw6:=kwe.size
   rw [hw6]
   clear hw6 kwe p0 p1 p2 fp
   have hv : -1 ≤ 1 + x ∧ 1 + x ≤ 61:=by omega
   have hs : (⟨#[]⟩ : ByteArray).size ≤ 1920:=by decide
   generalize 1 + x = v2 at *
   clear x0 x1
   go_wp2
   go_loopw [7] (fun j wr => ∃ (k : Nat) (xs : List Int) (ua : Option Addr) (uc : Nat), k ≤ 7 ∧ j = .int .i64 k ∧ xs.length ≤ k ∧ Hid (WfL xs) ∧ Hid (∀ j, (Value.slice ua xs.length uc).ownBlock = some j → pb < j) ∧ Loc wr pb #[.int .i64 v2,.string ⟨#[]⟩,.slice ua xs.length uc] ∧ OI wr w.heap.size (.slice ua xs.length uc) xs ∧ Loc wr w.heap.size #[.int .i64 n,.int .i64 f] ∧ Loc wr (w.heap.size + 1) #[.int .i64 0,.string ⟨#[]⟩,.slice none 0 0] ∧ Cur wr base g ao ca zs ∧ Kp w wr (fun k => k = g)) (fun j _ => 7 - (intOf j).toNat)
   case atStart => exact ⟨0, [], none, 0, by omega, rfl, by simp, hide (fun x hx => by simp at hx), hide (fun j hj => by simp [Value.ownBlock] at hj), P, World.ownsRow_nil _ _ _ _, LC, LZ, C, K⟩
   case round =>
    clear P LC LZ C K
    obtain ⟨k, xs, ua, uc, hk, rfl, hxl, WX, HP, P, O, LC, LZ, C, K⟩:=hrel
    have sK:=K.size
    have hpl:=P.lt
    go_wp2_with fail
    refine (below_any base g ca ao zs 7 _ (by omega) (by omega) (by omega) C).mono ?_
    rintro e w7 ⟨r, rfl, r0, r1, c7, g7⟩
    replace C:=c7
    clear c7
    have kk:=kp_of g7
    have sk:=kk.size
    replace LC:=LC.kp kk (by omega)
    replace LZ:=LZ.kp kk (by omega)
    replace P:=P.kp kk (by omega)
    have lo:=World.ownsRow.lt O
    replace O:=OI.kp O kk (fun j hj e => by have:=(lo j hj).1; omega)
    replace K:=K.trans kk
    clear kk lo g7
    by_cases hlt2 : (k : Int) < 1 + r
    ·have hd : decide ((k : Int) < 1 + r) = true:=by simpa using hlt2
     go_upto_region 8 with fail
     refine wp_region_noPanic ?_
     refine wp_region_held_drew (S := (fun w' => w'.cell? ⟨w.heap.size, 0, none⟩ = some (.int .i64 n))) (by kernel_rfl) (LC.cell 0 rfl) (fun hHeld => ?_)
     obtain ⟨wd, hd'⟩ : ∃ y, w7.drew = y:=⟨_, rfl⟩
     have bd : Below w7.heap.size w7 wd:=hd' ▸ Below.drew (Below.refl _ _)
     have szd:=bd.size
     replace LC:=LC.up bd
     replace LZ:=LZ.up bd
     replace P:=P.up bd
     replace O:=O.below bd
     replace K:=K.trans (Below.kpOf bd _)
     replace C:=C.below (by omega) bd
     rw [hd'] at hHeld ⊢
     clear hd' bd
     refine tx 0 31 ?_
     refine tx 2 33 ?_
     refine tx 3 34 ?_
     refine tx 4 35 ?_
     refine wpAnyH_ready (rs := [1, 5]) (by kernel_rfl) (by simp) (AllReadyH.cons rfl (fun KK hKK => ?_) (AllReadyH.cons rfl (fun KK hKK => ?_) AllReadyH.nil))
     ·have cx:=P.cell 2 rfl
      go_simp
      clear cx hHeld
      refine hKK.out _ _ (LC.cell 0 rfl) (fun hHeld => ?_)
      clear hKK KK
      try simp only [pU]
      refine rd 5 rfl (fun KK hKK => ?_)
      go_simp
      refine (max_four n _ hn8).mono ?_
      rintro e w9 ⟨mx, rfl, mx0, mx1, e9⟩
      rw [e9]
      clear e9 hHeld
      refine hKK.out _ _ (LC.cell 0 rfl) (fun hHeld => ?_)
      clear hKK KK
      try simp only [pU]
      refine rd 6 rfl (fun KK hKK => ?_)
      go_simp
      refine (below_any base g ca ao zs mx _ (by omega) (by omega) (by omega) C).mono ?_
      rintro e wb ⟨x, rfl, x0, x1, cb, gb⟩
      replace C:=cb
      clear cb
      have kk:=kp_of gb
      have sk:=kk.size
      replace LC:=LC.kp kk (by omega)
      replace LZ:=LZ.kp kk (by omega)
      replace P:=P.kp kk (by omega)
      have lo:=World.ownsRow.lt O
      replace O:=OI.kp O kk (fun j hj e => by have:=(lo j hj).1; omega)
      replace K:=K.trans kk
      clear kk lo gb hHeld
      refine hKK.out _ _ (LC.cell 0 rfl) (fun hHeld => ?_)
      clear hKK KK
      try simp only [pU]
      refine rd 7 rfl (fun KK hKK => ?_)
      go_simp
      refine (specSetAdd _ xs x _ (O.ri (by omega)) O.cap (by omega)).mono ?_
      rintro e wc ⟨u3, rfl, o3, b3⟩
      have sk:=b3.size
      replace LC:=LC.up b3
      replace LZ:=LZ.up b3
      replace P:=P.up b3
      replace O:=O.below b3
      replace K:=K.trans (Below.kpOf b3 _)
      replace C:=C.below (by omega) b3
      clear b3 hHeld
      refine hKK.out _ _ (LC.cell 0 rfl) (fun hHeld => ?_)
      clear hKK KK
      try simp only [pU]
      refine tx 8 39 ?_
      have cx:=P.cell 2 rfl
      have fx:=P.frozen
      have lt3:=World.ownsRow.lt o3
      obtain ⟨va, vc, rfl⟩:=o3.form
      refine rd 9 rfl (fun KK hKK => ?_)
      go_simp
      obtain ⟨we, hwe⟩ : ∃ y, wc.setCell ⟨pb, 2, none⟩ (.slice va (addL xs x).length vc) = y:=⟨_, rfl⟩
      have kwe : Kp wc we (fun k => k = pb):=hwe ▸ set_kp _ _ _ _
      replace P : Loc we pb #[.int .i64 v2,.string ⟨#[]⟩,.slice va (addL xs x).length vc]:=hwe ▸ P.set 2 _ rfl
      replace LC:=LC.kp kwe (by omega)
      replace LZ:=LZ.kp kwe (by omega)
      have O2:=hide ((OI.kp o3 kwe (fun j hj e => by have:=(lt3 j hj).1; omega)).mono (show w.heap.size ≤ wb.heap.size by omega))
      have C2 : Cur we base g ao ca zs:=hwe ▸ C.set (r:=pb) (by omega) 2 (.slice va (addL xs x).length vc)
      have K2 : Kp w we (fun k => k = g):=⟨kwe.os.trans K.os, kwe.tape.trans K.tape, kwe.output.trans K.output, Nat.le_trans K.size kwe.size, fun k hk hg => (kwe.block k (Nat.lt_of_lt_of_le hk K.size) (by omega)).trans (K.block k hk hg)⟩
      have HV : Hid (∀ j, (Value.slice va (addL xs x).length vc).ownBlock = some j → pb < j):=hide fun j hj => by have:=(lt3 j hj).1; omega
      have hal:=add_len xs x
      have WY:=hide (wf_add WX.out (wf_small (by omega) (by omega) : (Lit.int .i64 x).wf = true))
      have zwe:=kwe.size
      rw [hwe]
      clear hwe kwe cx fx O o3 lt3 C K hHeld
      refine hKK.out _ _ (LC.cell 0 rfl) (fun hHeld => ?_)
      clear hKK KK hHeld
      refine wdn ?_
      generalize addL xs x = ys at *
      go_wp2
      go_roundw
      case rel => exact ⟨k + 1, ys, va, vc, by omega, by go_num, by omega, WY, HV, P, O2.out, LC, LZ, C2, K2⟩
      case measure => simp [intOf]; omega
     go_simp
     refine (max_four n _ hn8).mono ?_
     rintro e w9 ⟨mx, rfl, mx0, mx1, e9⟩
     rw [e9]
     clear e9 hHeld
     refine hKK.out _ _ (LC.cell 0 rfl) (fun hHeld => ?_)
     clear hKK KK
     try simp only [pU]
     refine wpAnyH_ready (rs := [1, 6]) (by kernel_rfl) (by simp) (AllReadyH.cons rfl (fun KK hKK => ?_) (AllReadyH.cons rfl (fun KK hKK => ?_) AllReadyH.nil))
     ·have cx:=P.cell 2 rfl
      go_simp
      clear cx hHeld
      refine hKK.out _ _ (LC.cell 0 rfl) (fun hHeld => ?_)
      clear hKK KK
      try simp only [pU]
      refine rd 6 rfl (fun KK hKK => ?_)
      go_simp
      refine (below_any base g ca ao zs mx _ (by omega) (by omega) (by omega) C).mono ?_
      rintro e wb ⟨x, rfl, x0, x1, cb, gb⟩
      replace C:=cb
      clear cb
      have kk:=kp_of gb
      have sk:=kk.size
      replace LC:=LC.kp kk (by omega)
      replace LZ:=LZ.kp kk (by omega)
      replace P:=P.kp kk (by omega)
      have lo:=World.ownsRow.lt O
      replace O:=OI.kp O kk (fun j hj e => by have:=(lo j hj).1; omega)
      replace K:=K.trans kk
      clear kk lo gb hHeld
      refine hKK.out _ _ (LC.cell 0 rfl) (fun hHeld => ?_)
      clear hKK KK
      try simp only [pU]
      refine rd 7 rfl (fun KK hKK => ?_)
      go_simp
      refine (specSetAdd _ xs x _ (O.ri (by omega)) O.cap (by omega)).mono ?_
      rintro e wc ⟨u3, rfl, o3, b3⟩
      have sk:=b3.size
      replace LC:=LC.up b3
      replace LZ:=LZ.up b3
      replace P:=P.up b3
      replace O:=O.below b3
      replace K:=K.trans (Below.kpOf b3 _)
      replace C:=C.below (by omega) b3
      clear b3 hHeld
      refine hKK.out _ _ (LC.cell 0 rfl) (fun hHeld => ?_)
      clear hKK KK
      try simp only [pU]
      refine tx 8 39 ?_
      have cx:=P.cell 2 rfl
      have fx:=P.frozen
      have lt3:=World.ownsRow.lt o3
      obtain ⟨va, vc, rfl⟩:=o3.form
      refine rd 9 rfl (fun KK hKK => ?_)
      go_simp
      obtain ⟨we, hwe⟩ : ∃ y, wc.setCell ⟨pb, 2, none⟩ (.slice va (addL xs x).length vc) = y:=⟨_, rfl⟩
      have kwe : Kp wc we (fun k => k = pb):=hwe ▸ set_kp _ _ _ _
      replace P : Loc we pb #[.int .i64 v2,.string ⟨#[]⟩,.slice va (addL xs x).length vc]:=hwe ▸ P.set 2 _ rfl
      replace LC:=LC.kp kwe (by omega)
      replace LZ:=LZ.kp kwe (by omega)
      have O2:=hide ((OI.kp o3 kwe (fun j hj e => by have:=(lt3 j hj).1; omega)).mono (show w.heap.size ≤ wb.heap.size by omega))
      have C2 : Cur we base g ao ca zs:=hwe ▸ C.set (r:=pb) (by omega) 2 (.slice va (addL xs x).length vc)
      have K2 : Kp w we (fun k => k = g):=⟨kwe.os.trans K.os, kwe.tape.trans K.tape, kwe.output.trans K.output, Nat.le_trans K.size kwe.size, fun k hk hg => (kwe.block k (Nat.lt_of_lt_of_le hk K.size) (by omega)).trans (K.block k hk hg)⟩
      have HV : Hid (∀ j, (Value.slice va (addL xs x).length vc).ownBlock = some j → pb < j):=hide fun j hj => by have:=(lt3 j hj).1; omega
      have hal:=add_len xs x
      have WY:=hide (wf_add WX.out (wf_small (by omega) (by omega) : (Lit.int .i64 x).wf = true))
      have zwe:=kwe.size
      rw [hwe]
      clear hwe kwe cx fx O o3 lt3 C K hHeld
      refine hKK.out _ _ (LC.cell 0 rfl) (fun hHeld => ?_)
      clear hKK KK hHeld
      refine wdn ?_
      generalize addL xs x = ys at *
      go_wp2
      go_roundw
      case rel => exact ⟨k + 1, ys, va, vc, by omega, by go_num, by omega, WY, HV, P, O2.out, LC, LZ, C2, K2⟩
      case measure => simp [intOf]; omega
     go_simp
     refine (below_any base g ca ao zs mx _ (by omega) (by omega) (by omega) C).mono ?_
     rintro e wb ⟨x, rfl, x0, x1, cb, gb⟩
     replace C:=cb
     clear cb
     have kk:=kp_of gb
     have sk:=kk.size
     replace LC:=LC.kp kk (by omega)
     replace LZ:=LZ.kp kk (by omega)
     replace P:=P.kp kk (by omega)
     have lo:=World.ownsRow.lt O
     replace O:=OI.kp O kk (fun j hj e => by have:=(lo j hj).1; omega)
     replace K:=K.trans kk
     clear kk lo gb hHeld
     refine hKK.out _ _ (LC.cell 0 rfl) (fun hHeld => ?_)
     clear hKK KK
     try simp only [pU]
     refine rd 1 rfl (fun KK hKK => ?_)
     have cx:=P.cell 2 rfl
     go_simp
     clear cx hHeld
     refine hKK.out _ _ (LC.cell 0 rfl) (fun hHeld => ?_)
     clear hKK KK
     try simp only [pU]
     refine rd 7 rfl (fun KK hKK => ?_)
     go_simp
     refine (specSetAdd _ xs x _ (O.ri (by omega)) O.cap (by omega)).mono ?_
     rintro e wc ⟨u3, rfl, o3, b3⟩
     have sk:=b3.size
     replace LC:=LC.up b3
     replace LZ:=LZ.up b3
     replace P:=P.up b3
     replace O:=O.below b3
     replace K:=K.trans (Below.kpOf b3 _)
     replace C:=C.below (by omega) b3
     clear b3 hHeld
     refine hKK.out _ _ (LC.cell 0 rfl) (fun hHeld => ?_)
     clear hKK KK
     try simp only [pU]
     refine tx 8 39 ?_
     have cx:=P.cell 2 rfl
     have fx:=P.frozen
     have lt3:=World.ownsRow.lt o3
     obtain ⟨va, vc, rfl⟩:=o3.form
     refine rd 9 rfl (fun KK hKK => ?_)
     go_simp
     obtain ⟨we, hwe⟩ : ∃ y, wc.setCell ⟨pb, 2, none⟩ (.slice va (addL xs x).length vc) = y:=⟨_, rfl⟩
     have kwe : Kp wc we (fun k => k = pb):=hwe ▸ set_kp _ _ _ _
     replace P : Loc we pb #[.int .i64 v2,.string ⟨#[]⟩,.slice va (addL xs x).length vc]:=hwe ▸ P.set 2 _ rfl
     replace LC:=LC.kp kwe (by omega)
     replace LZ:=LZ.kp kwe (by omega)
     have O2:=hide ((OI.kp o3 kwe (fun j hj e => by have:=(lt3 j hj).1; omega)).mono (show w.heap.size ≤ wb.heap.size by omega))
     have C2 : Cur we base g ao ca zs:=hwe ▸ C.set (r:=pb) (by omega) 2 (.slice va (addL xs x).length vc)
     have K2 : Kp w we (fun k => k = g):=⟨kwe.os.trans K.os, kwe.tape.trans K.tape, kwe.output.trans K.output, Nat.le_trans K.size kwe.size, fun k hk hg => (kwe.block k (Nat.lt_of_lt_of_le hk K.size) (by omega)).trans (K.block k hk hg)⟩
     have HV : Hid (∀ j, (Value.slice va (addL xs x).length vc).ownBlock = some j → pb < j):=hide fun j hj => by have:=(lt3 j hj).1; omega
     have hal:=add_len xs x
     have WY:=hide (wf_add WX.out (wf_small (by omega) (by omega) : (Lit.int .i64 x).wf = true))
     have zwe:=kwe.size
     rw [hwe]
     clear hwe kwe cx fx O o3 lt3 C K hHeld
     refine hKK.out _ _ (LC.cell 0 rfl) (fun hHeld => ?_)
     clear hKK KK hHeld
     refine wdn ?_
     generalize addL xs x = ys at *
     go_wp2
     go_roundw
     case rel => exact ⟨k + 1, ys, va, vc, by omega, by go_num, by omega, WY, HV, P, O2.out, LC, LZ, C2, K2⟩
     case measure => simp [intOf]; omega
    have hd : decide ((k : Int) < 1 + r) = false:=by simpa using hlt2
    have p0:=P.cell 0 rfl
    have p1:=P.cell 1 rfl
    have p2:=P.cell 2 rfl
    have y0:=LZ.cell 0 rfl
    have y1:=LZ.cell 1 rfl
    have y2:=LZ.cell 2 rfl
    have fy:=LZ.frozen
    have K5 : Kp w7 (((w7.setCell ⟨w.heap.size + 1, 0, none⟩ (.int .i64 v2)).setCell ⟨w.heap.size + 1, 1, none⟩ (.string ⟨#[]⟩)).setCell ⟨w.heap.size + 1, 2, none⟩ (.slice ua xs.length uc)) (fun k => k = w.heap.size + 1):=((set_kp _ _ _ _).trans (set_kp _ _ _ _)).trans (set_kp _ _ _ _)
    have O5:=hide (OI.kp O K5 (fun j hj e => by have:=HP.out j hj; omega))
    have C5:=hide (((C.set (r:=w.heap.size + 1) (by omega) 0 (.int .i64 v2)).set (r:=w.heap.size + 1) (by omega) 1 (.string ⟨#[]⟩)).set (r:=w.heap.size + 1) (by omega) 2 (.slice ua xs.length uc))
    have G5:=hide (grown_set (grown_set (grown_set (kp_to K) (r:=w.heap.size + 1) (by omega) 0 (.int .i64 v2)) (r:=w.heap.size + 1) (by omega) 1 (.string ⟨#[]⟩)) (r:=w.heap.size + 1) (by omega) 2 (.slice ua xs.length uc))
    clear P LC LZ C K O K5 HP
    go_wp2
    refine bodyPost_ret (v := qv v2 ⟨#[]⟩ (.slice ua xs.length uc)) (by simp [results, Tryz.results94, go_sem, y0, y1, y2]) rfl ?_
    exact ⟨_, _, _, xs, rfl, hv, hs, by omega, WX, O5.out, C5.out, G5.out⟩
  have hne:=ne2 he
  clear he
  go_wp2
  go_loopw [7] (fun j wr => ∃ (k : Nat) (xs : List Int) (ua : Option Addr) (uc : Nat), k ≤ 7 ∧ j = .int .i64 k ∧ xs.length ≤ k ∧ Hid (WfL xs) ∧ Hid (∀ j, (Value.slice ua xs.length uc).ownBlock = some j → pb < j) ∧ Loc wr pb #[.int .i64 v,.string s,.slice ua xs.length uc] ∧ OI wr w.heap.size (.slice ua xs.length uc) xs ∧ Loc wr w.heap.size #[.int .i64 n,.int .i64 f] ∧ Loc wr (w.heap.size + 1) #[.int .i64 0,.string ⟨#[]⟩,.slice none 0 0] ∧ Cur wr base g ao ca zs ∧ Kp w wr (fun k => k = g)) (fun j _ => 7 - (intOf j).toNat)
  case atStart => exact ⟨0, [], none, 0, by omega, rfl, by simp, hide (fun x hx => by simp at hx), hide (fun j hj => by simp [Value.ownBlock] at hj), P, World.ownsRow_nil _ _ _ _, LC, LZ, C, K⟩
  case round =>
   clear P LC LZ C K
   obtain ⟨k, xs, ua, uc, hk, rfl, hxl, WX, HP, P, O, LC, LZ, C, K⟩:=hrel
   have sK:=K.size
   have hpl:=P.lt
   go_wp2_with fail
   refine (below_any base g ca ao zs 7 _ (by omega) (by omega) (by omega) C).mono ?_
   rintro e w7 ⟨r, rfl, r0, r1, c7, g7⟩
   replace C:=c7
   clear c7
   have kk:=kp_of g7
   have sk:=kk.size
   replace LC:=LC.kp kk (by omega)
   replace LZ:=LZ.kp kk (by omega)
   replace P:=P.kp kk (by omega)
   have lo:=World.ownsRow.lt O
   replace O:=OI.kp O kk (fun j hj e => by have:=(lo j hj).1; omega)
   replace K:=K.trans kk
   clear kk lo g7
   by_cases hlt2 : (k : Int) < 1 + r
   ·have hd : decide ((k : Int) < 1 + r) = true:=by simpa using hlt2
    go_upto_region 8 with fail
    refine wp_region_noPanic ?_
    refine wp_region_held_drew (S := (fun w' => w'.cell? ⟨w.heap.size, 0, none⟩ = some (.int .i64 n))) (by kernel_rfl) (LC.cell 0 rfl) (fun hHeld => ?_)
    obtain ⟨wd, hd'⟩ : ∃ y, w7.drew = y:=⟨_, rfl⟩
    have bd : Below w7.heap.size w7 wd:=hd' ▸ Below.drew (Below.refl _ _)
    have szd:=bd.size
    replace LC:=LC.up bd
    replace LZ:=LZ.up bd
    replace P:=P.up bd
    replace O:=O.below bd
    replace K:=K.trans (Below.kpOf bd _)
    replace C:=C.below (by omega) bd
    rw [hd'] at hHeld ⊢
    clear hd' bd
    refine tx 0 31 ?_
    refine tx 2 33 ?_
    refine tx 3 34 ?_
    refine tx 4 35 ?_
    refine wpAnyH_ready (rs := [1, 5]) (by kernel_rfl) (by simp) (AllReadyH.cons rfl (fun KK hKK => ?_) (AllReadyH.cons rfl (fun KK hKK => ?_) AllReadyH.nil))
    ·have cx:=P.cell 2 rfl
     go_simp
     clear cx hHeld
     refine hKK.out _ _ (LC.cell 0 rfl) (fun hHeld => ?_)
     clear hKK KK
     try simp only [pU]
     refine rd 5 rfl (fun KK hKK => ?_)
     go_simp
     refine (max_four n _ hn8).mono ?_
     rintro e w9 ⟨mx, rfl, mx0, mx1, e9⟩
     rw [e9]
     clear e9 hHeld
     refine hKK.out _ _ (LC.cell 0 rfl) (fun hHeld => ?_)
     clear hKK KK
     try simp only [pU]
     refine rd 6 rfl (fun KK hKK => ?_)
     go_simp
     refine (below_any base g ca ao zs mx _ (by omega) (by omega) (by omega) C).mono ?_
     rintro e wb ⟨x, rfl, x0, x1, cb, gb⟩
     replace C:=cb
     clear cb
     have kk:=kp_of gb
     have sk:=kk.size
     replace LC:=LC.kp kk (by omega)
     replace LZ:=LZ.kp kk (by omega)
     replace P:=P.kp kk (by omega)
     have lo:=World.ownsRow.lt O
     replace O:=OI.kp O kk (fun j hj e => by have:=(lo j hj).1; omega)
     replace K:=K.trans kk
     clear kk lo gb hHeld
     refine hKK.out _ _ (LC.cell 0 rfl) (fun hHeld => ?_)
     clear hKK KK
     try simp only [pU]
     refine rd 7 rfl (fun KK hKK => ?_)
     go_simp
     refine (specSetAdd _ xs x _ (O.ri (by omega)) O.cap (by omega)).mono ?_
     rintro e wc ⟨u3, rfl, o3, b3⟩
     have sk:=b3.size
     replace LC:=LC.up b3
     replace LZ:=LZ.up b3
     replace P:=P.up b3
     replace O:=O.below b3
     replace K:=K.trans (Below.kpOf b3 _)
     replace C:=C.below (by omega) b3
     clear b3 hHeld
     refine hKK.out _ _ (LC.cell 0 rfl) (fun hHeld => ?_)
     clear hKK KK
     try simp only [pU]
     refine tx 8 39 ?_
     have cx:=P.cell 2 rfl
     have fx:=P.frozen
     have lt3:=World.ownsRow.lt o3
     obtain ⟨va, vc, rfl⟩:=o3.form
     refine rd 9 rfl (fun KK hKK => ?_)
     go_simp
     obtain ⟨we, hwe⟩ : ∃ y, wc.setCell ⟨pb, 2, none⟩ (.slice va (addL xs x).length vc) = y:=⟨_, rfl⟩
     have kwe : Kp wc we (fun k => k = pb):=hwe ▸ set_kp _ _ _ _
     replace P : Loc we pb #[.int .i64 v,.string s,.slice va (addL xs x).length vc]:=hwe ▸ P.set 2 _ rfl
     replace LC:=LC.kp kwe (by omega)
     replace LZ:=LZ.kp kwe (by omega)
     have O2:=hide ((OI.kp o3 kwe (fun j hj e => by have:=(lt3 j hj).1; omega)).mono (show w.heap.size ≤ wb.heap.size by omega))
     have C2 : Cur we base g ao ca zs:=hwe ▸ C.set (r:=pb) (by omega) 2 (.slice va (addL xs x).length vc)
     have K2 : Kp w we (fun k => k = g):=⟨kwe.os.trans K.os, kwe.tape.trans K.tape, kwe.output.trans K.output, Nat.le_trans K.size kwe.size, fun k hk hg => (kwe.block k (Nat.lt_of_lt_of_le hk K.size) (by omega)).trans (K.block k hk hg)⟩
     have HV : Hid (∀ j, (Value.slice va (addL xs x).length vc).ownBlock = some j → pb < j):=hide fun j hj => by have:=(lt3 j hj).1; omega
     have hal:=add_len xs x
     have WY:=hide (wf_add WX.out (wf_small (by omega) (by omega) : (Lit.int .i64 x).wf = true))
     have zwe:=kwe.size
     rw [hwe]
     clear hwe kwe cx fx O o3 lt3 C K hHeld
     refine hKK.out _ _ (LC.cell 0 rfl) (fun hHeld => ?_)
     clear hKK KK hHeld
     refine wdn ?_
     generalize addL xs x = ys at *
     go_wp2
     go_roundw
     case rel => exact ⟨k + 1, ys, va, vc, by omega, by go_num, by omega, WY, HV, P, O2.out, LC, LZ, C2, K2⟩
     case measure => simp [intOf]; omega
    go_simp
    refine (max_four n _ hn8).mono ?_
    rintro e w9 ⟨mx, rfl, mx0, mx1, e9⟩
    rw [e9]
    clear e9 hHeld
    refine hKK.out _ _ (LC.cell 0 rfl) (fun hHeld => ?_)
    clear hKK KK
    try simp only [pU]
    refine wpAnyH_ready (rs := [1, 6]) (by kernel_rfl) (by simp) (AllReadyH.cons rfl (fun KK hKK => ?_) (AllReadyH.cons rfl (fun KK hKK => ?_) AllReadyH.nil))
    ·have cx:=P.cell 2 rfl
     go_simp
     clear cx hHeld
     refine hKK.out _ _ (LC.cell 0 rfl) (fun hHeld => ?_)
     clear hKK KK
     try simp only [pU]
     refine rd 6 rfl (fun KK hKK => ?_)
     go_simp
     refine (below_any base g ca ao zs mx _ (by omega) (by omega) (by omega) C).mono ?_
     rintro e wb ⟨x, rfl, x0, x1, cb, gb⟩
     replace C:=cb
     clear cb
     have kk:=kp_of gb
     have sk:=kk.size
     replace LC:=LC.kp kk (by omega)
     replace LZ:=LZ.kp kk (by omega)
     replace P:=P.kp kk (by omega)
     have lo:=World.ownsRow.lt O
     replace O:=OI.kp O kk (fun j hj e => by have:=(lo j hj).1; omega)
     replace K:=K.trans kk
     clear kk lo gb hHeld
     refine hKK.out _ _ (LC.cell 0 rfl) (fun hHeld => ?_)
     clear hKK KK
     try simp only [pU]
     refine rd 7 rfl (fun KK hKK => ?_)
     go_simp
     refine (specSetAdd _ xs x _ (O.ri (by omega)) O.cap (by omega)).mono ?_
     rintro e wc ⟨u3, rfl, o3, b3⟩
     have sk:=b3.size
     replace LC:=LC.up b3
     replace LZ:=LZ.up b3
     replace P:=P.up b3
     replace O:=O.below b3
     replace K:=K.trans (Below.kpOf b3 _)
     replace C:=C.below (by omega) b3
     clear b3 hHeld
     refine hKK.out _ _ (LC.cell 0 rfl) (fun hHeld => ?_)
     clear hKK KK
     try simp only [pU]
     refine tx 8 39 ?_
     have cx:=P.cell 2 rfl
     have fx:=P.frozen
     have lt3:=World.ownsRow.lt o3
     obtain ⟨va, vc, rfl⟩:=o3.form
     refine rd 9 rfl (fun KK hKK => ?_)
     go_simp
     obtain ⟨we, hwe⟩ : ∃ y, wc.setCell ⟨pb, 2, none⟩ (.slice va (addL xs x).length vc) = y:=⟨_, rfl⟩
     have kwe : Kp wc we (fun k => k = pb):=hwe ▸ set_kp _ _ _ _
     replace P : Loc we pb #[.int .i64 v,.string s,.slice va (addL xs x).length vc]:=hwe ▸ P.set 2 _ rfl
     replace LC:=LC.kp kwe (by omega)
     replace LZ:=LZ.kp kwe (by omega)
     have O2:=hide ((OI.kp o3 kwe (fun j hj e => by have:=(lt3 j hj).1; omega)).mono (show w.heap.size ≤ wb.heap.size by omega))
     have C2 : Cur we base g ao ca zs:=hwe ▸ C.set (r:=pb) (by omega) 2 (.slice va (addL xs x).length vc)
     have K2 : Kp w we (fun k => k = g):=⟨kwe.os.trans K.os, kwe.tape.trans K.tape, kwe.output.trans K.output, Nat.le_trans K.size kwe.size, fun k hk hg => (kwe.block k (Nat.lt_of_lt_of_le hk K.size) (by omega)).trans (K.block k hk hg)⟩
     have HV : Hid (∀ j, (Value.slice va (addL xs x).length vc).ownBlock = some j → pb < j):=hide fun j hj => by have:=(lt3 j hj).1; omega
     have hal:=add_len xs x
     have WY:=hide (wf_add WX.out (wf_small (by omega) (by omega) : (Lit.int .i64 x).wf = true))
     have zwe:=kwe.size
     rw [hwe]
     clear hwe kwe cx fx O o3 lt3 C K hHeld
     refine hKK.out _ _ (LC.cell 0 rfl) (fun hHeld => ?_)
     clear hKK KK hHeld
     refine wdn ?_
     generalize addL xs x = ys at *
     go_wp2
     go_roundw
     case rel => exact ⟨k + 1, ys, va, vc, by omega, by go_num, by omega, WY, HV, P, O2.out, LC, LZ, C2, K2⟩
     case measure => simp [intOf]; omega
    go_simp
    refine (below_any base g ca ao zs mx _ (by omega) (by omega) (by omega) C).mono ?_
    rintro e wb ⟨x, rfl, x0, x1, cb, gb⟩
    replace C:=cb
    clear cb
    have kk:=kp_of gb
    have sk:=kk.size
    replace LC:=LC.kp kk (by omega)
    replace LZ:=LZ.kp kk (by omega)
    replace P:=P.kp kk (by omega)
    have lo:=World.ownsRow.lt O
    replace O:=OI.kp O kk (fun j hj e => by have:=(lo j hj).1; omega)
    replace K:=K.trans kk
    clear kk lo gb hHeld
    refine hKK.out _ _ (LC.cell 0 rfl) (fun hHeld => ?_)
    clear hKK KK
    try simp only [pU]
    refine rd 1 rfl (fun KK hKK => ?_)
    have cx:=P.cell 2 rfl
    go_simp
    clear cx hHeld
    refine hKK.out _ _ (LC.cell 0 rfl) (fun hHeld => ?_)
    clear hKK KK
    try simp only [pU]
    refine rd 7 rfl (fun KK hKK => ?_)
    go_simp
    refine (specSetAdd _ xs x _ (O.ri (by omega)) O.cap (by omega)).mono ?_
    rintro e wc ⟨u3, rfl, o3, b3⟩
    have sk:=b3.size
    replace LC:=LC.up b3
    replace LZ:=LZ.up b3
    replace P:=P.up b3
    replace O:=O.below b3
    replace K:=K.trans (Below.kpOf b3 _)
    replace C:=C.below (by omega) b3
    clear b3 hHeld
    refine hKK.out _ _ (LC.cell 0 rfl) (fun hHeld => ?_)
    clear hKK KK
    try simp only [pU]
    refine tx 8 39 ?_
    have cx:=P.cell 2 rfl
    have fx:=P.frozen
    have lt3:=World.ownsRow.lt o3
    obtain ⟨va, vc, rfl⟩:=o3.form
    refine rd 9 rfl (fun KK hKK => ?_)
    go_simp
    obtain ⟨we, hwe⟩ : ∃ y, wc.setCell ⟨pb, 2, none⟩ (.slice va (addL xs x).length vc) = y:=⟨_, rfl⟩
    have kwe : Kp wc we (fun k => k = pb):=hwe ▸ set_kp _ _ _ _
    replace P : Loc we pb #[.int .i64 v,.string s,.slice va (addL xs x).length vc]:=hwe ▸ P.set 2 _ rfl
    replace LC:=LC.kp kwe (by omega)
    replace LZ:=LZ.kp kwe (by omega)
    have O2:=hide ((OI.kp o3 kwe (fun j hj e => by have:=(lt3 j hj).1; omega)).mono (show w.heap.size ≤ wb.heap.size by omega))
    have C2 : Cur we base g ao ca zs:=hwe ▸ C.set (r:=pb) (by omega) 2 (.slice va (addL xs x).length vc)
    have K2 : Kp w we (fun k => k = g):=⟨kwe.os.trans K.os, kwe.tape.trans K.tape, kwe.output.trans K.output, Nat.le_trans K.size kwe.size, fun k hk hg => (kwe.block k (Nat.lt_of_lt_of_le hk K.size) (by omega)).trans (K.block k hk hg)⟩
    have HV : Hid (∀ j, (Value.slice va (addL xs x).length vc).ownBlock = some j → pb < j):=hide fun j hj => by have:=(lt3 j hj).1; omega
    have hal:=add_len xs x
    have WY:=hide (wf_add WX.out (wf_small (by omega) (by omega) : (Lit.int .i64 x).wf = true))
    have zwe:=kwe.size
    rw [hwe]
    clear hwe kwe cx fx O o3 lt3 C K hHeld
    refine hKK.out _ _ (LC.cell 0 rfl) (fun hHeld => ?_)
    clear hKK KK hHeld
    refine wdn ?_
    generalize addL xs x = ys at *
    go_wp2
    go_roundw
    case rel => exact ⟨k + 1, ys, va, vc, by omega, by go_num, by omega, WY, HV, P, O2.out, LC, LZ, C2, K2⟩
    case measure => simp [intOf]; omega
   have hd : decide ((k : Int) < 1 + r) = false:=by simpa using hlt2
   have p0:=P.cell 0 rfl
   have p1:=P.cell 1 rfl
   have p2:=P.cell 2 rfl
   have y0:=LZ.cell 0 rfl
   have y1:=LZ.cell 1 rfl
   have y2:=LZ.cell 2 rfl
   have fy:=LZ.frozen
   have K5 : Kp w7 (((w7.setCell ⟨w.heap.size + 1, 0, none⟩ (.int .i64 v)).setCell ⟨w.heap.size + 1, 1, none⟩ (.string s)).setCell ⟨w.heap.size + 1, 2, none⟩ (.slice ua xs.length uc)) (fun k => k = w.heap.size + 1):=((set_kp _ _ _ _).trans (set_kp _ _ _ _)).trans (set_kp _ _ _ _)
   have O5:=hide (OI.kp O K5 (fun j hj e => by have:=HP.out j hj; omega))
   have C5:=hide (((C.set (r:=w.heap.size + 1) (by omega) 0 (.int .i64 v)).set (r:=w.heap.size + 1) (by omega) 1 (.string s)).set (r:=w.heap.size + 1) (by omega) 2 (.slice ua xs.length uc))
   have G5:=hide (grown_set (grown_set (grown_set (kp_to K) (r:=w.heap.size + 1) (by omega) 0 (.int .i64 v)) (r:=w.heap.size + 1) (by omega) 1 (.string s)) (r:=w.heap.size + 1) (by omega) 2 (.slice ua xs.length uc))
   clear P LC LZ C K O K5 HP
   go_wp2
   refine bodyPost_ret (v := qv v s (.slice ua xs.length uc)) (by simp [results, Tryz.results94, go_sem, y0, y1, y2]) rfl ?_
   exact ⟨_, _, _, xs, rfl, hv, hs, by omega, WX, O5.out, C5.out, G5.out⟩
end
end Go.Proofs.YtjkcphnohhpihaaGreatDoor
