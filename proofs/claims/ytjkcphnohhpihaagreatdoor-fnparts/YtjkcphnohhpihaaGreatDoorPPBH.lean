/- Lemmas; their conditions stand in each statement. -/
import Derived.Test.YtjkcphnohhpihaaGreatDoorPPBG
set_option maxRecDepth 100000
set_option maxHeartbeats 8000000
set_option linter.unusedSectionVars false
namespace Go.Proofs.YtjkcphnohhpihaaGreatDoor
section
open Go.RowKit
variable [∀ (a b c d : Int), Decidable (Ok4 a b c d)]
variable [∀ (a b c d : Nat), Decidable (okN a b c d)]
variable [∀ (x : T4), Decidable (OkT x)]
variable [∀ (last : Int) (s : St), Decidable (GoodSt last s)]
variable [∀ (n f : Int), Decidable (COk n f)]
theorem drawPart (base g ca : Nat) (ao : Option Addr) (zs : List Int) (n f : Int) (w : World) (hB : base ≤ w.heap.size) (hn8 : n ≤ 8) (h : Cur w base g ao ca zs) :
 Calls Tryz.prog 56 #[.pointer (some ⟨g, 0, none⟩), cv n f] w fun e w' => ∃ (v : Int) (s : ByteArray) (u : Value) (xs : List Int), e = .returned (qv v s u) ∧ (-1 ≤ v ∧ v ≤ 61) ∧ s.size ≤ 8001 ∧ xs.length ≤ 9 ∧ Hid (WfL xs) ∧ OI w' w.heap.size u xs ∧ Cur w' base g ao ca zs ∧ w.grownBy w' (some g) := by
 have hlt:=h.lt
 obtain ⟨w0, hw0⟩ : ∃ y, (w.alloc (.cells #[.int .i64 n,.int .i64 f] 33)).alloc zpo = y:=⟨_, rfl⟩
 have b0 : Below w.heap.size w w0:=hw0 ▸ qalloc2 _ _ _
 have LC : Loc w0 w.heap.size #[.int .i64 n,.int .i64 f]:=hw0 ▸ (loc_at w _ _ rfl).alloc _
 have LZ : Loc w0 (w.heap.size + 1) #[.int .i64 0,.string ⟨#[]⟩,.slice none 0 0]:=hw0 ▸ loc_at (w.alloc _) _ _ (by simp)
 have s0 : w0.heap.size = w.heap.size + 2:=by rw [← hw0]; simp
 have C:=h.below hB b0
 have K : Kp w w0 (fun k => k = g):=Below.kpOf b0 _
 have n0:=LC.cell 0 rfl
 have n1:=LC.cell 1 rfl
 clear h b0 LC
 go_enter Tryz.func56, Tryz.ntmps56
 go_wp2_with fail
 clear hw0 n0 n1
 refine (drawPartR base g ca ao zs n f _ (by omega) hn8 C).mono ?_
 rintro e w1 ⟨v, s, u, xs, rfl, hv, hs, hl, WX, O, c1, g1⟩
 replace C:=c1
 clear c1
 have kk:=kp_of g1
 have s1:=kk.size
 replace LZ:=LZ.kp kk (by omega)
 replace K:=K.trans kk
 have lo:=World.ownsRow.lt O
 obtain ⟨ua, uc, hu⟩:=O.form
 obtain ⟨ul, hul⟩ : ∃ l, xs.length = l:=⟨_, rfl⟩
 replace hul:=hide hul
 rw [hul.out] at hu hl
 subst hu
 clear kk g1
 obtain ⟨w2, hw2⟩ : ∃ y, w1.alloc (.cells #[.int .i64 v,.string s,.slice ua ul uc] 36) = y:=⟨_, rfl⟩
 have b2 : Below w1.heap.size w1 w2:=hw2 ▸ qalloc _ _
 obtain ⟨pb, hpb⟩ : ∃ p, w1.heap.size = p:=⟨_, rfl⟩
 have P : Loc w2 pb #[.int .i64 v,.string s,.slice ua ul uc]:=hpb ▸ hw2 ▸ loc_at w1 _ _ rfl
 have s2:=b2.size
 replace LZ:=LZ.up b2
 replace K:=K.trans (Below.kpOf b2 _)
 replace C:=C.below (by omega) b2
 have HP : Hid (∀ j, (Value.slice ua ul uc).ownBlock = some j → w.heap.size + 2 ≤ j ∧ j < pb):=hide fun j hj => by have:=lo j hj; omega
 replace O:=(O.below b2).mono (show w.heap.size ≤ w0.heap.size by omega)
 have hpb2 : w.heap.size + 2 ≤ pb:=by omega
 have hpl:=P.lt
 replace hpb:=hide hpb
 clear b2 lo
 go_wp2_with fail
 clear hw2
 rw [hpb.out]
 refine (below_any base g ca ao zs 10 _ (by omega) (by omega) (by omega) C).mono ?_
 rintro e w3 ⟨k, rfl, k0, k1, c3, g3⟩
 replace C:=c3
 clear c3
 have kk:=kp_of g3
 have sk:=kk.size
 replace LZ:=LZ.kp kk (by omega)
 replace P:=P.kp kk (by omega)
 have lo:=World.ownsRow.lt O
 replace O:=OI.kp O kk (fun j hj e => by have:=(lo j hj).1; omega)
 clear lo
 replace K:=K.trans kk
 clear kk g3
 have sK3:=K.size
 by_cases h0 : k = 0
 ·subst h0
  go_wp2_with fail
  refine (pickInt_lit base g ca ao zs [-1, 0, 60, 61] w3 (by omega) (by decide) (by decide) C).mono ?_
  rintro e w4 ⟨m, rfl, hm, c4, g4⟩
  have hm2 : -1 ≤ m ∧ m ≤ 61:=by simp at hm; omega
  clear hm
  replace C:=c4
  clear c4
  have kk:=kp_of g4
  have sk:=kk.size
  replace LZ:=LZ.kp kk (by omega)
  replace P:=P.kp kk (by omega)
  have lo:=World.ownsRow.lt O
  replace O:=OI.kp O kk (fun j hj e => by have:=(lo j hj).1; omega)
  clear lo
  replace K:=K.trans kk
  clear kk g4
  have sK4:=K.size
  have q0:=P.cell 0 rfl
  have fq:=P.frozen
  clear hv
  obtain ⟨w8, hw8⟩ : ∃ y, w4.setCell ⟨pb, 0, none⟩ (.int .i64 m) = y:=⟨_, rfl⟩
  have kwe : Kp w4 w8 (fun k => k = pb):=hw8 ▸ set_kp _ _ _ _
  have P8 : Loc w8 pb #[.int .i64 m,.string s,.slice ua ul uc]:=hw8 ▸ P.set 0 _ rfl
  have LZ8:=LZ.kp kwe (by omega)
  have lo:=World.ownsRow.lt O
  have O8:=OI.kp O kwe (fun j hj e => by have:=HP.out j hj; omega)
  have C8 : Cur w8 base g ao ca zs:=hw8 ▸ C.set (r:=pb) (by omega) 0 (.int .i64 m)
  have K8 : Kp w w8 (fun k => k = g):=⟨kwe.os.trans K.os, kwe.tape.trans K.tape, kwe.output.trans K.output, Nat.le_trans K.size kwe.size, fun k hk hg => (kwe.block k (Nat.lt_of_lt_of_le hk K.size) (by omega)).trans (K.block k hk hg)⟩
  have z8:=kwe.size
  have q0:=P.cell 0 rfl
  have q1:=P.cell 1 rfl
  have q2:=P.cell 2 rfl
  have fq:=P.frozen
  clear lo kwe P LZ O C K
  have sK:=K8.size
  have hpl:=P8.lt
  have p0:=P8.cell 0 rfl
  have p1:=P8.cell 1 rfl
  have p2:=P8.cell 2 rfl
  have y0:=LZ8.cell 0 rfl
  have y1:=LZ8.cell 1 rfl
  have y2:=LZ8.cell 2 rfl
  have fy:=LZ8.frozen
  have K5 : Kp w8 (((w8.setCell ⟨w.heap.size + 1, 0, none⟩ (.int .i64 m)).setCell ⟨w.heap.size + 1, 1, none⟩ (.string s)).setCell ⟨w.heap.size + 1, 2, none⟩ (.slice ua ul uc)) (fun k => k = w.heap.size + 1):=((set_kp _ _ _ _).trans (set_kp _ _ _ _)).trans (set_kp _ _ _ _)
  have O5:=hide (OI.kp O8 K5 (fun j hj e => by have:=HP.out j hj; omega))
  have C5:=hide (((C8.set (r:=w.heap.size + 1) (by omega) 0 (.int .i64 m)).set (r:=w.heap.size + 1) (by omega) 1 (.string s)).set (r:=w.heap.size + 1) (by omega) 2 (.slice ua ul uc))
  have G5:=hide (grown_set (grown_set (grown_set (kp_to K8) (r:=w.heap.size + 1) (by omega) 0 (.int .i64 m)) (r:=w.heap.size + 1) (by omega) 1 (.string s)) (r:=w.heap.size + 1) (by omega) 2 (.slice ua ul uc))
  clear P8 LZ8 C8 K8 O8 K5
  go_wp2
  refine bodyPost_ret (v := qv m s (.slice ua ul uc)) (by simp [results, Tryz.results56, go_sem, y0, y1, y2]) rfl ?_
  exact ⟨_, _, _, _, rfl, hm2, (by omega), (by rw [hul.out]; omega), WX, O5.out, C5.out, G5.out⟩
 have hk0 : (k == 0) = false:=by simpa using h0
 by_cases h1 : k = 1
 ·subst h1
  clear h0
  go_wp2_with fail
  refine (drawSet base g ca ao zs 7 _ (by omega) (by omega) (by omega) C).mono ?_
  rintro e w4 ⟨u4, ys, rfl, hl4, WY, o4, c4, g4⟩
  replace C:=c4
  clear c4
  have kk:=kp_of g4
  have sk:=kk.size
  replace LZ:=LZ.kp kk (by omega)
  replace P:=P.kp kk (by omega)
  replace K:=K.trans kk
  clear kk g4
  have sK4:=K.size
  have lo:=World.ownsRow.lt o4
  obtain ⟨va, vc, hu4⟩:=o4.form
  obtain ⟨vl, hvl⟩ : ∃ l, ys.length = l:=⟨_, rfl⟩
  replace hvl:=hide hvl
  rw [hvl.out] at hu4
  subst hu4
  have HP : Hid (∀ j, (Value.slice va vl vc).ownBlock = some j → w.heap.size + 2 ≤ j ∧ pb < j):=hide fun j hj => by have:=lo j hj; omega
  replace O:=o4.mono (show w.heap.size ≤ w3.heap.size by omega)
  clear o4 lo
  have q2:=P.cell 2 rfl
  have fq:=P.frozen
  obtain ⟨w8, hw8⟩ : ∃ y, w4.setCell ⟨pb, 2, none⟩ (.slice va vl vc) = y:=⟨_, rfl⟩
  have kwe : Kp w4 w8 (fun k => k = pb):=hw8 ▸ set_kp _ _ _ _
  have P8 : Loc w8 pb #[.int .i64 v,.string s,.slice va vl vc]:=hw8 ▸ P.set 2 _ rfl
  have LZ8:=LZ.kp kwe (by omega)
  have lo:=World.ownsRow.lt O
  have O8:=OI.kp O kwe (fun j hj e => by have:=HP.out j hj; omega)
  have C8 : Cur w8 base g ao ca zs:=hw8 ▸ C.set (r:=pb) (by omega) 2 (.slice va vl vc)
  have K8 : Kp w w8 (fun k => k = g):=⟨kwe.os.trans K.os, kwe.tape.trans K.tape, kwe.output.trans K.output, Nat.le_trans K.size kwe.size, fun k hk hg => (kwe.block k (Nat.lt_of_lt_of_le hk K.size) (by omega)).trans (K.block k hk hg)⟩
  have z8:=kwe.size
  have q0:=P.cell 0 rfl
  have q1:=P.cell 1 rfl
  have q2:=P.cell 2 rfl
  have fq:=P.frozen
  clear lo kwe P LZ O C K
  have sK:=K8.size
  have hpl:=P8.lt
  have p0:=P8.cell 0 rfl
  have p1:=P8.cell 1 rfl
  have p2:=P8.cell 2 rfl
  have y0:=LZ8.cell 0 rfl
  have y1:=LZ8.cell 1 rfl
  have y2:=LZ8.cell 2 rfl
  have fy:=LZ8.frozen
  have K5 : Kp w8 (((w8.setCell ⟨w.heap.size + 1, 0, none⟩ (.int .i64 v)).setCell ⟨w.heap.size + 1, 1, none⟩ (.string s)).setCell ⟨w.heap.size + 1, 2, none⟩ (.slice va vl vc)) (fun k => k = w.heap.size + 1):=((set_kp _ _ _ _).trans (set_kp _ _ _ _)).trans (set_kp _ _ _ _)
  have O5:=hide (OI.kp O8 K5 (fun j hj e => by have:=HP.out j hj; omega))
  have C5:=hide (((C8.set (r:=w.heap.size + 1) (by omega) 0 (.int .i64 v)).set (r:=w.heap.size + 1) (by omega) 1 (.string s)).set (r:=w.heap.size + 1) (by omega) 2 (.slice va vl vc))
  have G5:=hide (grown_set (grown_set (grown_set (kp_to K8) (r:=w.heap.size + 1) (by omega) 0 (.int .i64 v)) (r:=w.heap.size + 1) (by omega) 1 (.string s)) (r:=w.heap.size + 1) (by omega) 2 (.slice va vl vc))
  clear P8 LZ8 C8 K8 O8 K5
  go_wp2
  refine bodyPost_ret (v := qv v s (.slice va vl vc)) (by simp [results, Tryz.results56, go_sem, y0, y1, y2]) rfl ?_
  exact ⟨_, _, _, _, rfl, hv, (by omega), hl4, WY, O5.out, C5.out, G5.out⟩
 have hk1 : (k == 1) = false:=by simpa using h1
 by_cases h2 : k = 2
 ·subst h2
  clear h0 h1
  go_wp2_with fail
  refine (drawName base g ca ao zs _ (by omega) C).mono ?_
  rintro e w4 ⟨s4, rfl, hs4, c4, g4⟩
  replace C:=c4
  clear c4
  have kk:=kp_of g4
  have sk:=kk.size
  replace LZ:=LZ.kp kk (by omega)
  replace P:=P.kp kk (by omega)
  have lo:=World.ownsRow.lt O
  replace O:=OI.kp O kk (fun j hj e => by have:=(lo j hj).1; omega)
  clear lo
  replace K:=K.trans kk
  clear kk g4
  have sK4:=K.size
  have q1:=P.cell 1 rfl
  have fq:=P.frozen
  obtain ⟨w8, hw8⟩ : ∃ y, w4.setCell ⟨pb, 1, none⟩ (.string s4) = y:=⟨_, rfl⟩
  have kwe : Kp w4 w8 (fun k => k = pb):=hw8 ▸ set_kp _ _ _ _
  have P8 : Loc w8 pb #[.int .i64 v,.string s4,.slice ua ul uc]:=hw8 ▸ P.set 1 _ rfl
  have LZ8:=LZ.kp kwe (by omega)
  have lo:=World.ownsRow.lt O
  have O8:=OI.kp O kwe (fun j hj e => by have:=HP.out j hj; omega)
  have C8 : Cur w8 base g ao ca zs:=hw8 ▸ C.set (r:=pb) (by omega) 1 (.string s4)
  have K8 : Kp w w8 (fun k => k = g):=⟨kwe.os.trans K.os, kwe.tape.trans K.tape, kwe.output.trans K.output, Nat.le_trans K.size kwe.size, fun k hk hg => (kwe.block k (Nat.lt_of_lt_of_le hk K.size) (by omega)).trans (K.block k hk hg)⟩
  have z8:=kwe.size
  have q0:=P.cell 0 rfl
  have q1:=P.cell 1 rfl
  have q2:=P.cell 2 rfl
  have fq:=P.frozen
  clear lo kwe P LZ O C K
  have sK:=K8.size
  have hpl:=P8.lt
  have p0:=P8.cell 0 rfl
  have p1:=P8.cell 1 rfl
  have p2:=P8.cell 2 rfl
  have y0:=LZ8.cell 0 rfl
  have y1:=LZ8.cell 1 rfl
  have y2:=LZ8.cell 2 rfl
  have fy:=LZ8.frozen
  have K5 : Kp w8 (((w8.setCell ⟨w.heap.size + 1, 0, none⟩ (.int .i64 v)).setCell ⟨w.heap.size + 1, 1, none⟩ (.string s4)).setCell ⟨w.heap.size + 1, 2, none⟩ (.slice ua ul uc)) (fun k => k = w.heap.size + 1):=((set_kp _ _ _ _).trans (set_kp _ _ _ _)).trans (set_kp _ _ _ _)
  have O5:=hide (OI.kp O8 K5 (fun j hj e => by have:=HP.out j hj; omega))
  have C5:=hide (((C8.set (r:=w.heap.size + 1) (by omega) 0 (.int .i64 v)).set (r:=w.heap.size + 1) (by omega) 1 (.string s4)).set (r:=w.heap.size + 1) (by omega) 2 (.slice ua ul uc))
  have G5:=hide (grown_set (grown_set (grown_set (kp_to K8) (r:=w.heap.size + 1) (by omega) 0 (.int .i64 v)) (r:=w.heap.size + 1) (by omega) 1 (.string s4)) (r:=w.heap.size + 1) (by omega) 2 (.slice ua ul uc))
  clear P8 LZ8 C8 K8 O8 K5
  go_wp2
  refine bodyPost_ret (v := qv v s4 (.slice ua ul uc)) (by simp [results, Tryz.results56, go_sem, y0, y1, y2]) rfl ?_
  exact ⟨_, _, _, _, rfl, hv, hs4, (by rw [hul.out]; omega), WX, O5.out, C5.out, G5.out⟩
 have hk2 : (k == 2) = false:=by simpa using h2
 have P8:=P
 have LZ8:=LZ
 have O8:=O
 have C8:=C
 have K8:=K
 clear P LZ O C K
 have sK:=K8.size
 have hpl:=P8.lt
 have p0:=P8.cell 0 rfl
 have p1:=P8.cell 1 rfl
 have p2:=P8.cell 2 rfl
 have y0:=LZ8.cell 0 rfl
 have y1:=LZ8.cell 1 rfl
 have y2:=LZ8.cell 2 rfl
 have fy:=LZ8.frozen
 have K5 : Kp w3 (((w3.setCell ⟨w.heap.size + 1, 0, none⟩ (.int .i64 v)).setCell ⟨w.heap.size + 1, 1, none⟩ (.string s)).setCell ⟨w.heap.size + 1, 2, none⟩ (.slice ua ul uc)) (fun k => k = w.heap.size + 1):=((set_kp _ _ _ _).trans (set_kp _ _ _ _)).trans (set_kp _ _ _ _)
 have O5:=hide (OI.kp O8 K5 (fun j hj e => by have:=HP.out j hj; omega))
 have C5:=hide (((C8.set (r:=w.heap.size + 1) (by omega) 0 (.int .i64 v)).set (r:=w.heap.size + 1) (by omega) 1 (.string s)).set (r:=w.heap.size + 1) (by omega) 2 (.slice ua ul uc))
 have G5:=hide (grown_set (grown_set (grown_set (kp_to K8) (r:=w.heap.size + 1) (by omega) 0 (.int .i64 v)) (r:=w.heap.size + 1) (by omega) 1 (.string s)) (r:=w.heap.size + 1) (by omega) 2 (.slice ua ul uc))
 clear P8 LZ8 C8 K8 O8 K5
 go_wp2
 refine bodyPost_ret (v := qv v s (.slice ua ul uc)) (by simp [results, Tryz.results56, go_sem, y0, y1, y2]) rfl ?_
 exact ⟨_, _, _, _, rfl, hv, (by omega), (by rw [hul.out]; omega), WX, O5.out, C5.out, G5.out⟩
end
section
open Go.RowKit
variable [∀ (a b c d : Int), Decidable (Ok4 a b c d)]
variable [∀ (a b c d : Nat), Decidable (okN a b c d)]
variable [∀ (x : T4), Decidable (OkT x)]
variable [∀ (n f : Int), Decidable (COk n f)]
abbrev zc : Obj := .cells #[.int .i64 0,.int .i64 0] 33
theorem drawConfB (base g ca : Nat) (ao : Option Addr) (zs : List Int) (w : World) (hB : base ≤ w.heap.size) (h : Cur w base g ao ca zs) :
 Calls Tryz.prog 55 #[.pointer (some ⟨g, 0, none⟩)] w fun e w' => ∃ n f : Int, e = .returned (cv n f) ∧ (4 ≤ n ∧ n ≤ 7) ∧ (1 ≤ f ∧ f ≤ 3) ∧ Cur w' base g ao ca zs ∧ w.grownBy w' (some g) := by
 have hlt:=h.lt
 obtain ⟨w0, hw0⟩ : ∃ w0, w.alloc zc = w0:=⟨_, rfl⟩
 have C0 : Cur w0 base g ao ca zs:=hw0 ▸ h.alloc hB _
 have G0 : w.grownBy w0 (some g):=hw0 ▸ World.grownBy_alloc w _ _
 have Z0 : Loc w0 w.heap.size #[.int .i64 0,.int .i64 0]:=hw0 ▸ loc_at w _ _ rfl
 have s0 : w0.heap.size = w.heap.size + 1:=by rw [← hw0]; simp
 clear h
 go_enter Tryz.func55, Tryz.ntmps55
 go_wp2_with fail
 clear hw0
 refine (below_any base g ca ao zs 4 _ (by omega) (by omega) (by omega) C0).mono ?_
 rintro e w1 ⟨x, rfl, x0, x1, c1, e1⟩
 have Z1:=Z0.grown e1 (by omega)
 have G1:=grown_trans G0 e1
 have s1:=e1.size
 clear Z0 G0 C0 e1
 go_wp2_with fail
 refine (below_any base g ca ao zs 3 _ (by omega) (by omega) (by omega) c1).mono ?_
 rintro e w2 ⟨y, rfl, y0, y1, c2, e2⟩
 have Z2:=Z1.grown e2 (by omega)
 have G2:=grown_trans G1 e2
 have p0:=Z2.cell 0 rfl
 have p1:=Z2.cell 1 rfl
 have fp:=Z2.frozen
 have HC:=hide c2
 clear Z1 G1 c1 e2 c2
 go_wp2
 refine bodyPost_ret (v := cv (4 + x) (1 + y)) (by simp [results, Tryz.results55, go_sem, p0, p1]) rfl ?_
 exact ⟨_, _, rfl, ⟨by omega, by omega⟩, ⟨by omega, by omega⟩, (HC.out.set (by omega) _ _).set (by omega) _ _, grown_set (grown_set G2 (Nat.le_refl _) _ _) (Nat.le_refl _) _ _⟩

theorem drawConf (base g ca : Nat) (ao : Option Addr) (zs : List Int) (w : World) (hB : base ≤ w.heap.size) (h : Cur w base g ao ca zs) :
 Calls Tryz.prog 55 #[.pointer (some ⟨g, 0, none⟩)] w fun e w' => ∃ n f : Int, e = .returned (cv n f) ∧ (4 ≤ n ∧ n ≤ 7) ∧ Cur w' base g ao ca zs ∧ w.grownBy w' (some g) :=
 (drawConfB base g ca ao zs w hB h).mono fun _ _ ⟨n, f, he, hn, _, hr⟩ => ⟨n, f, he, hn, hr⟩

theorem drawBentB (base g ca : Nat) (ao : Option Addr) (zs : List Int) (w : World) (hB : base ≤ w.heap.size) (h : Cur w base g ao ca zs) :
 Calls Tryz.prog 67 #[.pointer (some ⟨g, 0, none⟩)] w fun e w' => ∃ n f : Int, e = .returned (cv n f) ∧ n ≤ 8 ∧ Cur w' base g ao ca zs ∧ w.grownBy w' (some g) := by
 have hlt:=h.lt
 obtain ⟨w0, hw0⟩ : ∃ w0, w.alloc zc = w0:=⟨_, rfl⟩
 have C0 : Cur w0 base g ao ca zs:=hw0 ▸ h.alloc hB _
 have G0 : w.grownBy w0 (some g):=hw0 ▸ World.grownBy_alloc w _ _
 have Z0 : Loc w0 w.heap.size #[.int .i64 0,.int .i64 0]:=hw0 ▸ loc_at w _ _ rfl
 have s0 : w0.heap.size = w.heap.size + 1:=by rw [← hw0]; simp
 clear h
 go_enter Tryz.func67, Tryz.ntmps67
 go_wp2_with fail
 clear hw0
 refine (drawConf base g ca ao zs _ (by omega) C0).mono ?_
 rintro e w1 ⟨n, f, rfl, hn, c1, e1⟩
 have hn8 : n ≤ 8:=by omega
 clear hn
 have Z1:=Z0.grown e1 (by omega)
 have G1:=grown_trans G0 e1
 have s1:=e1.size
 clear Z0 G0 C0 e1
 obtain ⟨w2, hw2⟩ : ∃ w2, w1.alloc (.cells #[.int .i64 n,.int .i64 f] 33) = w2:=⟨_, rfl⟩
 have C2 : Cur w2 base g ao ca zs:=hw2 ▸ c1.alloc (by omega) _
 have G2 : w.grownBy w2 (some g):=hw2 ▸ grown_trans G1 (World.grownBy_alloc w1 _ _)
 have Z2 : Loc w2 w.heap.size #[.int .i64 0,.int .i64 0]:=hw2 ▸ Z1.alloc _
 have X2 : Loc w2 w1.heap.size #[.int .i64 n,.int .i64 f]:=hw2 ▸ loc_at w1 _ _ rfl
 have s2 : w2.heap.size = w1.heap.size + 1:=by rw [← hw2]; simp
 clear c1 G1 Z1
 go_wp2_with fail
 clear hw2
 refine (below_any base g ca ao zs 12 _ (by omega) (by omega) (by omega) C2).mono ?_
 rintro e w3 ⟨k, rfl, k0, k1, c3, e3⟩
 have Z3:=Z2.grown e3 (by omega)
 have X3:=X2.grown e3 (by omega)
 have G3:=grown_trans G2 e3
 have s3:=e3.size
 clear Z2 X2 G2 C2 e3
 have FIN : ∀ (n f : Int) (w4 : World), Cur w4 base g ao ca zs → w.grownBy w4 (some g) → Cur ((w4.setCell ⟨w.heap.size, 0, none⟩ (.int .i64 n)).setCell ⟨w.heap.size, 1, none⟩ (.int .i64 f)) base g ao ca zs ∧ w.grownBy ((w4.setCell ⟨w.heap.size, 0, none⟩ (.int .i64 n)).setCell ⟨w.heap.size, 1, none⟩ (.int .i64 f)) (some g):=fun n f w4 hc hg =>
  ⟨(hc.set (by omega) _ _).set (by omega) _ _, grown_set (grown_set hg (Nat.le_refl _) _ _) (Nat.le_refl _) _ _⟩
 have FI:=hide FIN
 clear FIN
 by_cases h0 : k = 0
 ·subst h0
  go_wp2_with fail
  refine (pickInt_lit base g ca ao zs [0, 3, 8, -1] w3 (by omega) (by decide) (by decide) c3).mono ?_
  rintro e w4 ⟨m, rfl, hm, c4, e4⟩
  have hm8 : m ≤ 8:=by simp at hm; omega
  clear hm
  have Z4:=Z3.grown e4 (by omega)
  have X4:=X3.grown e4 (by omega)
  have R:=hide (FI.out m f (w4.setCell ⟨w1.heap.size, 0, none⟩ (.int .i64 m)) (c4.set (by omega) _ _) (grown_set (grown_trans G3 e4) (by omega) _ _))
  have p0:=Z4.cell 0 rfl
  have p1:=Z4.cell 1 rfl
  have fp:=Z4.frozen
  have q0:=X4.cell 0 rfl
  have q1:=X4.cell 1 rfl
  have fq:=X4.frozen
  clear Z3 X3 G3 c3 c4 e4 Z4 X4 FI
  go_wp2
  refine bodyPost_ret (v := cv m f) (by simp [results, Tryz.results67, go_sem, p0, p1]) rfl ?_
  exact ⟨_, _, rfl, hm8, R.out.1, R.out.2⟩
 have n0 : (k == 0) = false:=by simp [h0]
 by_cases h1 : k = 1
 ·subst h1
  clear h0
  go_wp2_with fail
  refine (pickInt_lit base g ca ao zs [0, 6, 7] w3 (by omega) (by decide) (by decide) c3).mono ?_
  rintro e w4 ⟨m, rfl, _, c4, e4⟩
  have Z4:=Z3.grown e4 (by omega)
  have X4:=X3.grown e4 (by omega)
  have R:=hide (FI.out n m (w4.setCell ⟨w1.heap.size, 1, none⟩ (.int .i64 m)) (c4.set (by omega) _ _) (grown_set (grown_trans G3 e4) (by omega) _ _))
  have p0:=Z4.cell 0 rfl
  have p1:=Z4.cell 1 rfl
  have fp:=Z4.frozen
  have q0:=X4.cell 0 rfl
  have q1:=X4.cell 1 rfl
  have fq:=X4.frozen
  clear Z3 X3 G3 c3 c4 e4 Z4 X4 FI
  go_wp2
  refine bodyPost_ret (v := cv n m) (by simp [results, Tryz.results67, go_sem, p0, p1]) rfl ?_
  exact ⟨_, _, rfl, hn8, R.out.1, R.out.2⟩
 have n1 : (k == 1) = false:=by simp [h1]
 have R:=hide (FI.out n f w3 c3 G3)
 have p0:=Z3.cell 0 rfl
 have p1:=Z3.cell 1 rfl
 have fp:=Z3.frozen
 have q0:=X3.cell 0 rfl
 have q1:=X3.cell 1 rfl
 clear Z3 X3 G3 c3 FI
 go_wp2
 refine bodyPost_ret (v := cv n f) (by simp [results, Tryz.results67, go_sem, p0, p1]) rfl ?_
 exact ⟨_, _, rfl, hn8, R.out.1, R.out.2⟩
end
end Go.Proofs.YtjkcphnohhpihaaGreatDoor
