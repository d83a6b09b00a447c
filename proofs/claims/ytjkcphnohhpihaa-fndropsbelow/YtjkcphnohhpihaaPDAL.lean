/- Lemmas; their conditions stand in each statement. -/
import Derived.Test.YtjkcphnohhpihaaPDAK
set_option maxRecDepth 100000
set_option maxHeartbeats 8000000
set_option linter.unusedSectionVars false
namespace Go.Proofs.Ytjkcphnohhpihaa
section
open Go.RowKit
variable [∀ (a b c d : Int), Decidable (Ok4 a b c d)]
variable [∀ (a b c d : Nat), Decidable (okN a b c d)]
variable [∀ (x : T4), Decidable (OkT x)]
variable [∀ (last : Int) (s : St), Decidable (GoodSt last s)]
variable [∀ (n f : Int), Decidable (COk n f)]
theorem drawPart (base g ca : Nat) (ao : Option Addr) (zs : List Int) (n f : Int) (w : World) (hB : base ≤ w.heap.size) (hn8 : n ≤ 8) (h : Cur w base g ao ca zs) :
 Calls Try.prog 39 #[.pointer (some ⟨g, 0, none⟩), cv n f] w fun e w' => ∃ (v : Int) (s : ByteArray) (u : Value) (xs : List Int), e = .returned (qv v s u) ∧ (-1 ≤ v ∧ v ≤ 61) ∧ s.size ≤ 8001 ∧ xs.length ≤ 9 ∧ Hid (WfL xs) ∧ OI w' w.heap.size u xs ∧ Cur w' base g ao ca zs ∧ w.grownBy w' (some g) := by
 have hlt:=h.lt
 obtain ⟨w0, hw0⟩ : ∃ y, (w.alloc (.cells #[.int .i64 n,.int .i64 f] 55)).alloc zpo = y:=⟨_, rfl⟩
 have b0 : Below w.heap.size w w0:=hw0 ▸ qalloc2 _ _ _
 have LC : Loc w0 w.heap.size #[.int .i64 n,.int .i64 f]:=hw0 ▸ (loc_at w _ _ rfl).alloc _
 have LZ : Loc w0 (w.heap.size + 1) #[.int .i64 0,.string ⟨#[]⟩,.slice none 0 0]:=hw0 ▸ loc_at (w.alloc _) _ _ (by simp)
 have s0 : w0.heap.size = w.heap.size + 2:=by rw [← hw0]; simp
 have C:=h.below hB b0
 have K : Kp w w0 (fun k => k = g):=Below.kpOf b0 _
 have n0:=LC.cell 0 rfl
 have n1:=LC.cell 1 rfl
 clear h b0 LC
 go_enter Try.func39, Try.ntmps39
 go_wp2_with fail
 clear hw0 n0 n1
 refine (drawPartR base g ca ao zs n f _ (by omega) hn8 C).mono ?_
 rintro e w1 ⟨v, s, u, xs, rfl, hv, hs, hl, WX, O, c1, g1⟩
 replace C:=c1
 clear c1
 have kk:=kp_of g1
 have s1:=kk.size
 replace LZ:=LZ.kp kk (by omega)
 replace K:=K.trans kk
 have lo:=World.ownsRow.lt O
 obtain ⟨ua, uc, hu⟩:=O.form
 obtain ⟨ul, hul⟩ : ∃ l, xs.length = l:=⟨_, rfl⟩
 replace hul:=hide hul
 rw [hul.out] at hu hl
 subst hu
 clear kk g1
 obtain ⟨w2, hw2⟩ : ∃ y, w1.alloc (.cells #[.int .i64 v,.string s,.slice ua ul uc] 36) = y:=⟨_, rfl⟩
 have b2 : Below w1.heap.size w1 w2:=hw2 ▸ qalloc _ _
 obtain ⟨pb, hpb⟩ : ∃ p, w1.heap.size = p:=⟨_, rfl⟩
 have P : Loc w2 pb #[.int .i64 v,.string s,.slice ua ul uc]:=hpb ▸ hw2 ▸ loc_at w1 _ _ rfl
 have s2:=b2.size
 replace LZ:=LZ.up b2
 replace K:=K.trans (Below.kpOf b2 _)
 replace C:=C.below (by omega) b2
 have HP : Hid (∀ j, (Value.slice ua ul uc).ownBlock = some j → w.heap.size + 2 ≤ j ∧ j < pb):=hide fun j hj => by have:=lo j hj; omega
 replace O:=(O.below b2).mono (show w.heap.size ≤ w0.heap.size by omega)
 have hpb2 : w.heap.size + 2 ≤ pb:=by omega
 have hpl:=P.lt
 replace hpb:=hide hpb
 clear b2 lo
 go_wp2_with fail
 clear hw2
 rw [hpb.out]
 refine (below_any base g ca ao zs 10 _ (by omega) (by omega) (by omega) C).mono ?_
 rintro e w3 ⟨k, rfl, k0, k1, c3, g3⟩
 replace C:=c3
 clear c3
 have kk:=kp_of g3
 have sk:=kk.size
 replace LZ:=LZ.kp kk (by omega)
 replace P:=P.kp kk (by omega)
 have lo:=World.ownsRow.lt O
 replace O:=OI.kp O kk (fun j hj e => by have:=(lo j hj).1; omega)
 clear lo
 replace K:=K.trans kk
 clear kk g3
 have sK3:=K.size
 by_cases h0 : k = 0
 ·subst h0
  go_wp2_with fail
  refine (pickInt_lit base g ca ao zs [-1, 0, 60, 61] w3 (by omega) (by decide) (by decide) C).mono ?_
  rintro e w4 ⟨m, rfl, hm, c4, g4⟩
  have hm2 : -1 ≤ m ∧ m ≤ 61:=by simp at hm; omega
  clear hm
  replace C:=c4
  clear c4
  have kk:=kp_of g4
  have sk:=kk.size
  replace LZ:=LZ.kp kk (by omega)
  replace P:=P.kp kk (by omega)
  have lo:=World.ownsRow.lt O
  replace O:=OI.kp O kk (fun j hj e => by have:=(lo j hj).1; omega)
  clear lo
  replace K:=K.trans kk
  clear kk g4
  have sK4:=K.size
  have q0:=P.cell 0 rfl
  have fq:=P.frozen
  clear hv
  obtain ⟨w8, hw8⟩ : ∃ y, w4.setCell ⟨pb, 0, none⟩ (.int .i64 m) = y:=⟨_, rfl⟩
  have kwe : Kp w4 w8 (fun k => k = pb):=hw8 ▸ set_kp _ _ _ _
  have P8 : Loc w8 pb #[.int .i64 m,.string s,.slice ua ul uc]:=hw8 ▸ P.set 0 _ rfl
  have LZ8:=LZ.kp kwe (by omega)
  have lo:=World.ownsRow.lt O
  have O8:=OI.kp O kwe (fun j hj e => by have:=HP.out j hj; omega)
  have C8 : Cur w8 base g ao ca zs:=hw8 ▸ C.set (r:=pb) (by omega) 0 (.int .i64 m)
  have K8 : Kp w w8 (fun k => k = g):=⟨kwe.os.trans K.os, kwe.tape.trans K.tape, kwe.output.trans K.output, Nat.le_trans K.size kwe.size, fun k hk hg => (kwe.block k (Nat.lt_of_lt_of_le hk K.size) (by omega)).trans (K.block k hk hg)⟩
  have z8:=kwe.size
  have q0:=P.cell 0 rfl
  have q1:=P.cell 1 rfl
  have q2:=P.cell 2 rfl
  have fq:=P.frozen
  clear lo kwe P LZ O C K
  have sK:=K8.size
  have hpl:=P8.lt
  have p0:=P8.cell 0 rfl
  have p1:=P8.cell 1 rfl
  have p2:=P8.cell 2 rfl
  have y0:=LZ8.cell 0 rfl
  have y1:=LZ8.cell 1 rfl
  have y2:=LZ8.cell 2 rfl
  have fy:=LZ8.frozen
  have K5 : Kp w8 (((w8.setCell ⟨w.heap.size + 1, 0, none⟩ (.int .i64 m)).setCell ⟨w.heap.size + 1, 1, none⟩ (.string s)).setCell ⟨w.heap.size + 1, 2, none⟩ (.slice ua ul uc)) (fun k => k = w.heap.size + 1):=((set_kp _ _ _ _).trans (set_kp _ _ _ _)).trans (set_kp _ _ _ _)
  have O5:=hide (OI.kp O8 K5 (fun j hj e => by have:=HP.out j hj; omega))
  have C5:=hide (((C8.set (r:=w.heap.size + 1) (by omega) 0 (.int .i64 m)).set (r:=w.heap.size + 1) (by omega) 1 (.string s)).set (r:=w.heap.size + 1) (by omega) 2 (.slice ua ul uc))
  have G5:=hide (grown_set (grown_set (grown_set (kp_to K8) (r:=w.heap.size + 1) (by omega) 0 (.int .i64 m)) (r:=w.heap.size + 1) (by omega) 1 (.string s)) (r:=w.heap.size + 1) (by omega) 2 (.slice ua ul uc))
  clear P8 LZ8 C8 K8 O8 K5
  go_wp2
  refine bodyPost_ret (v := qv m s (.slice ua ul uc)) (by simp [results, Try.results39, go_sem, y0, y1, y2]) rfl ?_
  exact ⟨_, _, _, _, rfl, hm2, (by omega), (by rw [hul.out]; omega), WX, O5.out, C5.out, G5.out⟩
 have hk0 : (k == 0) = false:=by simpa using h0
 by_cases h1 : k = 1
 ·subst h1
  clear h0
  go_wp2_with fail
  refine (drawSet base g ca ao zs 7 _ (by omega) (by omega) (by omega) C).mono ?_
  rintro e w4 ⟨u4, ys, rfl, hl4, WY, o4, c4, g4⟩
  replace C:=c4
  clear c4
  have kk:=kp_of g4
  have sk:=kk.size
  replace LZ:=LZ.kp kk (by omega)
  replace P:=P.kp kk (by omega)
  replace K:=K.trans kk
  clear kk g4
  have sK4:=K.size
  have lo:=World.ownsRow.lt o4
  obtain ⟨va, vc, hu4⟩:=o4.form
  obtain ⟨vl, hvl⟩ : ∃ l, ys.length = l:=⟨_, rfl⟩
  replace hvl:=hide hvl
  rw [hvl.out] at hu4
  subst hu4
  have HP : Hid (∀ j, (Value.slice va vl vc).ownBlock = some j → w.heap.size + 2 ≤ j ∧ pb < j):=hide fun j hj => by have:=lo j hj; omega
  replace O:=o4.mono (show w.heap.size ≤ w3.heap.size by omega)
  clear o4 lo
  have q2:=P.cell 2 rfl
  have fq:=P.frozen
  obtain ⟨w8, hw8⟩ : ∃ y, w4.setCell ⟨pb, 2, none⟩ (.slice va vl vc) = y:=⟨_, rfl⟩
  have kwe : Kp w4 w8 (fun k => k = pb):=hw8 ▸ set_kp _ _ _ _
  have P8 : Loc w8 pb #[.int .i64 v,.string s,.slice va vl vc]:=hw8 ▸ P.set 2 _ rfl
  have LZ8:=LZ.kp kwe (by omega)
  have lo:=World.ownsRow.lt O
  have O8:=OI.kp O kwe (fun j hj e => by have:=HP.out j hj; omega)
  have C8 : Cur w8 base g ao ca zs:=hw8 ▸ C.set (r:=pb) (by omega) 2 (.slice va vl vc)
  have K8 : Kp w w8 (fun k => k = g):=⟨kwe.os.trans K.os, kwe.tape.trans K.tape, kwe.output.trans K.output, Nat.le_trans K.size kwe.size, fun k hk hg => (kwe.block k (Nat.lt_of_lt_of_le hk K.size) (by omega)).trans (K.block k hk hg)⟩
  have z8:=kwe.size
  have q0:=P.cell 0 rfl
  have q1:=P.cell 1 rfl
  have q2:=P.cell 2 rfl
  have fq:=P.frozen
  clear lo kwe P LZ O C K
  have sK:=K8.size
  have hpl:=P8.lt
  have p0:=P8.cell 0 rfl
  have p1:=P8.cell 1 rfl
  have p2:=P8.cell 2 rfl
  have y0:=LZ8.cell 0 rfl
  have y1:=LZ8.cell 1 rfl
  have y2:=LZ8.cell 2 rfl
  have fy:=LZ8.frozen
  have K5 : Kp w8 (((w8.setCell ⟨w.heap.size + 1, 0, none⟩ (.int .i64 v)).setCell ⟨w.heap.size + 1, 1, none⟩ (.string s)).setCell ⟨w.heap.size + 1, 2, none⟩ (.slice va vl vc)) (fun k => k = w.heap.size + 1):=((set_kp _ _ _ _).trans (set_kp _ _ _ _)).trans (set_kp _ _ _ _)
  have O5:=hide (OI.kp O8 K5 (fun j hj e => by have:=HP.out j hj; omega))
  have C5:=hide (((C8.set (r:=w.heap.size + 1) (by omega) 0 (.int .i64 v)).set (r:=w.heap.size + 1) (by omega) 1 (.string s)).set (r:=w.heap.size + 1) (by omega) 2 (.slice va vl vc))
  have G5:=hide (grown_set (grown_set (grown_set (kp_to K8) (r:=w.heap.size + 1) (by omega) 0 (.int .i64 v)) (r:=w.heap.size + 1) (by omega) 1 (.string s)) (r:=w.heap.size + 1) (by omega) 2 (.slice va vl vc))
  clear P8 LZ8 C8 K8 O8 K5
  go_wp2
  refine bodyPost_ret (v := qv v s (.slice va vl vc)) (by simp [results, Try.results39, go_sem, y0, y1, y2]) rfl ?_
  exact ⟨_, _, _, _, rfl, hv, (by omega), hl4, WY, O5.out, C5.out, G5.out⟩
 have hk1 : (k == 1) = false:=by simpa using h1
 by_cases h2 : k = 2
 ·subst h2
  clear h0 h1
  go_wp2_with fail
  refine (drawName base g ca ao zs _ (by omega) C).mono ?_
  rintro e w4 ⟨s4, rfl, hs4, c4, g4⟩
  replace C:=c4
  clear c4
  have kk:=kp_of g4
  have sk:=kk.size
  replace LZ:=LZ.kp kk (by omega)
  replace P:=P.kp kk (by omega)
  have lo:=World.ownsRow.lt O
  replace O:=OI.kp O kk (fun j hj e => by have:=(lo j hj).1; omega)
  clear lo
  replace K:=K.trans kk
  clear kk g4
  have sK4:=K.size
  have q1:=P.cell 1 rfl
  have fq:=P.frozen
  obtain ⟨w8, hw8⟩ : ∃ y, w4.setCell ⟨pb, 1, none⟩ (.string s4) = y:=⟨_, rfl⟩
  have kwe : Kp w4 w8 (fun k => k = pb):=hw8 ▸ set_kp _ _ _ _
  have P8 : Loc w8 pb #[.int .i64 v,.string s4,.slice ua ul uc]:=hw8 ▸ P.set 1 _ rfl
  have LZ8:=LZ.kp kwe (by omega)
  have lo:=World.ownsRow.lt O
  have O8:=OI.kp O kwe (fun j hj e => by have:=HP.out j hj; omega)
  have C8 : Cur w8 base g ao ca zs:=hw8 ▸ C.set (r:=pb) (by omega) 1 (.string s4)
  have K8 : Kp w w8 (fun k => k = g):=⟨kwe.os.trans K.os, kwe.tape.trans K.tape, kwe.output.trans K.output, Nat.le_trans K.size kwe.size, fun k hk hg => (kwe.block k (Nat.lt_of_lt_of_le hk K.size) (by omega)).trans (K.block k hk hg)⟩
  have z8:=kwe.size
  have q0:=P.cell 0 rfl
  have q1:=P.cell 1 rfl
  have q2:=P.cell 2 rfl
  have fq:=P.frozen
  clear lo kwe P LZ O C K
  have sK:=K8.size
  have hpl:=P8.lt
  have p0:=P8.cell 0 rfl
  have p1:=P8.cell 1 rfl
  have p2:=P8.cell 2 rfl
  have y0:=LZ8.cell 0 rfl
  have y1:=LZ8.cell 1 rfl
  have y2:=LZ8.cell 2 rfl
  have fy:=LZ8.frozen
  have K5 : Kp w8 (((w8.setCell ⟨w.heap.size + 1, 0, none⟩ (.int .i64 v)).setCell ⟨w.heap.size + 1, 1, none⟩ (.string s4)).setCell ⟨w.heap.size + 1, 2, none⟩ (.slice ua ul uc)) (fun k => k = w.heap.size + 1):=((set_kp _ _ _ _).trans (set_kp _ _ _ _)).trans (set_kp _ _ _ _)
  have O5:=hide (OI.kp O8 K5 (fun j hj e => by have:=HP.out j hj; omega))
  have C5:=hide (((C8.set (r:=w.heap.size + 1) (by omega) 0 (.int .i64 v)).set (r:=w.heap.size + 1) (by omega) 1 (.string s4)).set (r:=w.heap.size + 1) (by omega) 2 (.slice ua ul uc))
  have G5:=hide (grown_set (grown_set (grown_set (kp_to K8) (r:=w.heap.size + 1) (by omega) 0 (.int .i64 v)) (r:=w.heap.size + 1) (by omega) 1 (.string s4)) (r:=w.heap.size + 1) (by omega) 2 (.slice ua ul uc))
  clear P8 LZ8 C8 K8 O8 K5
  go_wp2
  refine bodyPost_ret (v := qv v s4 (.slice ua ul uc)) (by simp [results, Try.results39, go_sem, y0, y1, y2]) rfl ?_
  exact ⟨_, _, _, _, rfl, hv, hs4, (by rw [hul.out]; omega), WX, O5.out, C5.out, G5.out⟩
 have hk2 : (k == 2) = false:=by simpa using h2
 have P8:=P
 have LZ8:=LZ
 have O8:=O
 have C8:=C
 have K8:=K
 clear P LZ O C K
 have sK:=K8.size
 have hpl:=P8.lt
 have p0:=P8.cell 0 rfl
 have p1:=P8.cell 1 rfl
 have p2:=P8.cell 2 rfl
 have y0:=LZ8.cell 0 rfl
 have y1:=LZ8.cell 1 rfl
 have y2:=LZ8.cell 2 rfl
 have fy:=LZ8.frozen
 have K5 : Kp w3 (((w3.setCell ⟨w.heap.size + 1, 0, none⟩ (.int .i64 v)).setCell ⟨w.heap.size + 1, 1, none⟩ (.string s)).setCell ⟨w.heap.size + 1, 2, none⟩ (.slice ua ul uc)) (fun k => k = w.heap.size + 1):=((set_kp _ _ _ _).trans (set_kp _ _ _ _)).trans (set_kp _ _ _ _)
 have O5:=hide (OI.kp O8 K5 (fun j hj e => by have:=HP.out j hj; omega))
 have C5:=hide (((C8.set (r:=w.heap.size + 1) (by omega) 0 (.int .i64 v)).set (r:=w.heap.size + 1) (by omega) 1 (.string s)).set (r:=w.heap.size + 1) (by omega) 2 (.slice ua ul uc))
 have G5:=hide (grown_set (grown_set (grown_set (kp_to K8) (r:=w.heap.size + 1) (by omega) 0 (.int .i64 v)) (r:=w.heap.size + 1) (by omega) 1 (.string s)) (r:=w.heap.size + 1) (by omega) 2 (.slice ua ul uc))
 clear P8 LZ8 C8 K8 O8 K5
 go_wp2
 refine bodyPost_ret (v := qv v s (.slice ua ul uc)) (by simp [results, Try.results39, go_sem, y0, y1, y2]) rfl ?_
 exact ⟨_, _, _, _, rfl, hv, (by omega), (by rw [hul.out]; omega), WX, O5.out, C5.out, G5.out⟩
end
section
open Go.RowKit
variable [∀ (n : Int) (s : List Int), Decidable (OkL n s)]
theorem ok_more {n : Int} {xs : List Int} {k : Nat} (hk : k < xs.length) (h : OkL n (xs.take k)) (h0 : 0 ≤ xs.getD k 0) (h1 : xs.getD k 0 < n) (h2 : 0 < k → xs.getD (k - 1) 0 < xs.getD k 0) : OkL n (xs.take (k + 1)) := by
 rw [itake_more xs k hk]
 refine ⟨fun x hx => ?_, List.pairwise_append.2 ⟨h.2, by simp, fun x hx y hy => ?_⟩⟩
 ·rcases List.mem_append.1 hx with hx | hx
  ·exact h.1 x hx
  simp at hx; subst hx; exact ⟨h0, h1⟩
 simp at hy
 subst hy
 by_cases hk0 : 0 < k
 ·have h3:=h2 hk0
  have e : xs.take k = xs.take (k - 1) ++ [xs.getD (k - 1) 0]:=by
   have:=itake_more xs (k - 1) (by omega)
   rwa [show k - 1 + 1 = k by omega] at this
  have hp:=h.2
  rw [e] at hx hp
  rcases List.mem_append.1 hx with hx | hx
  ·have:=(List.pairwise_append.1 hp).2.2 x hx (xs.getD (k - 1) 0) (by simp)
   simp only [List.getD_eq_getElem?_getD] at *
   omega
  simp at hx
  simp only [List.getD_eq_getElem?_getD] at *
  omega
 have : k = 0:=by omega
 subst this; simp at hx
theorem ok_not {n : Int} {xs : List Int} {k : Nat} (hk : k < xs.length) (h : xs.getD k 0 < 0 ∨ n ≤ xs.getD k 0 ∨ (0 < k ∧ xs.getD k 0 ≤ xs.getD (k - 1) 0)) : ¬ OkL n xs := fun ho => by
 have hm:=ho.1 _ (getD_mem_int hk)
 rcases h with h | h | ⟨h0, h⟩
 ·omega
 ·omega
 have:=List.pairwise_iff_getElem.1 ho.2 (k - 1) k (by omega) hk (by omega)
 rw [List.getD_eq_getElem?_getD, List.getD_eq_getElem?_getD, List.getElem?_eq_getElem hk, List.getElem?_eq_getElem (show k - 1 < xs.length by omega)] at h
 simp at h
 omega

theorem specSetOk (m : Int) (v : Value) (xs : List Int) (w : World) (h : RI w v xs) :
 Calls Try.prog 61 #[.int .i64 m, v] w fun e w' => e = .returned (.bool (decide (OkL m xs))) ∧ Below w.heap.size w w' := by
 have hl:=h.1
 obtain ⟨ao, ca, rfl⟩:=h.form
 have H:=hide h
 obtain ⟨n, hn⟩ : ∃ n, xs.length = n:=⟨_, rfl⟩
 have Hn:=hide hn
 obtain ⟨r, hr⟩ : ∃ r, decide (OkL m xs) = r:=⟨_, rfl⟩
 have HR:=hide hr
 rw [hn] at hl H ⊢
 rw [hr]
 clear h hn hr
 go_enter Try.func61, Try.ntmps61
 go_wp2
 go_loopw [5] (fun j wr => ∃ k : Nat, k ≤ n ∧ j = .int .i64 k ∧ Hid (OkL m (xs.take k)) ∧ Below w.heap.size w wr) (fun j _ => n - (intOf j).toNat)
 case atStart => exact ⟨0, Nat.zero_le _, rfl, hide (by simp [OkL]), Below.refl _ _⟩
 case round =>
  obtain ⟨k, hk, rfl, HK, br⟩:=hrel
  have HR2:=hide (H.out.below br)
  by_cases hlt : k < n
  ·have hkx : k < xs.length:=by have:=Hn.out; omega
   obtain ⟨b, off, rfl, c⟩:=HR2.out.at k hkx
   have HP : Hid (0 < k → wr.cell? ⟨b, off + (k - 1), none⟩ = some (.int .i64 (xs.getD (k - 1) 0))):=hide fun h0 => by
    obtain ⟨b', off', e, c'⟩:=HR2.out.at (k - 1) (by omega)
    cases e; exact c'
   have HG:=hide fun h0 h1 h2 => ok_more hkx HK.out h0 h1 h2
   have HB:=hide fun h => ok_not (n:=m) hkx h
   generalize xs.getD k 0 = d at *
   by_cases g0 : d < 0
   ·have hrr : r = false:=by rw [← HR.out]; exact decide_eq_false (HB.out (.inl g0))
    subst hrr
    have g0' : decide (d < 0) = true:=by simpa using g0
    clear HG HB HP HK
    go_wp2_with fail
    go_quiet (fail)
    go_wp2
    go_ret
    exact ⟨rfl, by first | exact br | exact below_drewN' br _⟩
   have g0' : decide (d < 0) = false:=by simpa using g0
   by_cases g1 : m ≤ d
   ·have hrr : r = false:=by rw [← HR.out]; exact decide_eq_false (HB.out (.inr (.inl g1)))
    subst hrr
    have g1' : decide (m ≤ d) = true:=by simpa using g1
    clear HG HB HP HK
    go_wp2_with fail
    go_quiet (fail)
    go_wp2
    go_ret
    exact ⟨rfl, by first | exact br | exact below_drewN' br _⟩
   have g1' : decide (m ≤ d) = false:=by simpa using g1
   by_cases hk0 : 0 < k
   ·have c2:=HP.out hk0
    obtain ⟨j, rfl⟩ : ∃ j, k = j + 1:=⟨k - 1, by omega⟩
    rw [show j + 1 - 1 = j by omega] at c2 HG HB
    generalize xs.getD j 0 = p at *
    have ej : (((j + 1 : Nat) : Int)) - 1 = (j : Int):=by omega
    have hk0' : decide ((0 : Int) < ((j + 1 : Nat) : Int)) = true:=by rw [decide_eq_true_iff]; omega
    by_cases g2 : d ≤ p
    ·have hrr : r = false:=by rw [← HR.out]; exact decide_eq_false (HB.out (.inr (.inr ⟨by omega, g2⟩)))
     subst hrr
     have g2' : decide (d ≤ p) = true:=by simpa using g2
     clear HG HB HP HK
     go_wp2_with fail
     go_quiet (fail)
     go_wp2
     go_ret
     exact ⟨rfl, by first | exact br | exact below_drewN' br _⟩
    have g2' : decide (d ≤ p) = false:=by simpa using g2
    have HK':=hide (HG.out (by omega) (by omega) (fun _ => by omega))
    clear HG HB HP HK
    go_wp2_with fail
    go_quiet (fail)
    go_wp2
    go_roundw
    case rel => exact ⟨j + 1 + 1, by omega, by go_num, HK', by first | exact br | exact below_drewN' br _⟩
    case measure => simp [intOf]; omega
   obtain rfl : k = 0:=by omega
   rw [Nat.add_zero] at c
   have HK':=hide (HG.out (by omega) (by omega) (fun h => by omega))
   clear HG HB HP HK
   go_wp2_with fail
   go_quiet (fail)
   go_wp2
   go_roundw
   case rel => exact ⟨1, by omega, by go_num, HK', by first | exact br | exact below_drewN' br _⟩
   case measure => simp [intOf]; omega
  have hkn : k = xs.length:=by have:=Hn.out; omega
  have hrr : r = true:=by
   rw [← HR.out]
   have:=HK.out
   rw [List.take_of_length_le (by omega)] at this
   exact decide_eq_true this
  subst hrr
  have hd0 : decide ((k : Int) < (n : Int)) = false:=by simp; omega
  clear HK
  go_wp2
  go_ret
  exact ⟨rfl, by first | exact br | exact below_drewN' br _⟩
end
section
open Go.RowKit
variable [∀ (a b c d : Int), Decidable (Ok4 a b c d)]
variable [∀ (n f : Int), Decidable (COk n f)]
variable [∀ (n : Int) (s : List Int), Decidable (OkL n s)]
variable [∀ (a b c d : Nat), Decidable (okN a b c d)]
variable [∀ (last : Int) (s : St), Decidable (GoodSt last s)]
variable [∀ (x : T4), Decidable (OkT x)]
def pokB (n f m : Int) (s : ByteArray) (xs : List Int) : Bool := decide (COk n f) && decide (1 ≤ m ∧ m ≤ 60) && decide (OkL n xs) && decide (xs ≠ []) && (decide (s = ⟨#[]⟩) || ((stepsAns s).isSome && decide (viewAns s = m)))
theorem in_bool (x lo hi : Int) (w : World) : Calls Try.prog 60 #[.int .i64 x,.int .i64 lo,.int .i64 hi] w fun e w' => e = .returned (.bool (decide (lo ≤ x ∧ x ≤ hi))) ∧ w' = w := by
 by_cases h : lo ≤ x ∧ x ≤ hi
 ·rw [decide_eq_true h]; exact in_yes x lo hi w h.1 h.2
 rw [decide_eq_false h]; exact in_no x lo hi w (by omega)

theorem specPartOk (n f m : Int) (s : ByteArray) (u : Value) (xs : List Int) (w : World) (hs : s.size ≤ 1048576) (hu : RI w u xs) :
 Calls Try.prog 47 #[cv n f, qv m s u] w fun e w' => e = .returned (.bool (pokB n f m s xs)) ∧ Below w.heap.size w w' := by
 obtain ⟨ua, uc, rfl⟩:=hu.form
 obtain ⟨w0, hw0, Bw0, LC, LP, _⟩:=bx2 w #[.int .i64 n,.int .i64 f] 55 #[.int .i64 m,.string s,.slice ua xs.length uc] 36
 have RU:=hu.below Bw0
 have CO:=hide fun w => specConfOk n f w
 have IN:=hide fun w => in_bool m 1 60 w
 have SO:=hide fun w h => specSetOk n (.slice ua xs.length uc) xs w h
 have NO:=hide fun w => specNameOk s w (by omega)
 have VO:=hide fun w => specViewOf s w (by omega)
 have hp : pokB n f m s xs = (decide (COk n f) && decide (1 ≤ m ∧ m ≤ 60) && decide (OkL n xs) && decide (xs ≠ []) && (decide (s = ⟨#[]⟩) || ((stepsAns s).isSome && decide (viewAns s = m)))):=rfl
 have hxe : decide (xs ≠ []) = !((xs.length : Int) == 0):=by cases xs with | nil => rfl | cons a l => simp; omega
 rw [hp, hxe]
 obtain ⟨k, hk⟩ : ∃ k, xs.length = k:=⟨_, rfl⟩
 rw [hk] at SO LP hw0 RU ⊢
 clear hp hxe hu hk
 generalize decide (COk n f) = c at *
 generalize decide (1 ≤ m ∧ m ≤ 60) = r at *
 generalize decide (OkL n xs) = o at *
 generalize (stepsAns s).isSome = nk at *
 generalize viewAns s = vw at *
 cases c
 ·simp only [Bool.false_and]
  go_enter Try.func47, Try.ntmps47
  obtain ⟨cLC0,cLC1⟩:=cc2 LC 0 1
  go_wp2_with fail
  clear hw0
  refine (CO.out _).mono ?_
  rintro _ w1 ⟨rfl, bb⟩
  clear cLC0 cLC1
  have Bw1:=bu Bw0 bb
  have sw1:=bb.size
  replace LC:=LC.up bb
  replace LP:=LP.up bb
  clear Bw0
  replace RU:=RU.below bb
  clear bb CO
  obtain ⟨cLC0,cLC1⟩:=cc2 LC 0 1
  obtain ⟨cLP0,cLP1,cLP2⟩:=cc3 LP 0 1 2
  go_wp2
  go_ret
  exact ⟨rfl, Bw1⟩
 simp only [Bool.true_and]
 cases r
 ·simp only [Bool.false_and]
  go_enter Try.func47, Try.ntmps47
  obtain ⟨cLC0,cLC1⟩:=cc2 LC 0 1
  go_wp2_with fail
  clear hw0
  refine (CO.out _).mono ?_
  rintro _ w1 ⟨rfl, bb⟩
  clear cLC0 cLC1
  have Bw1:=bu Bw0 bb
  have sw1:=bb.size
  replace LC:=LC.up bb
  replace LP:=LP.up bb
  clear Bw0
  replace RU:=RU.below bb
  clear bb CO
  obtain ⟨cLP0,cLP1,cLP2⟩:=cc3 LP 0 1 2
  go_wp2_with fail
  refine (IN.out _).mono ?_
  rintro _ w9 ⟨rfl, e9⟩
  rw [e9]
  clear e9 IN cLP0 cLP1 cLP2
  obtain ⟨cLC0,cLC1⟩:=cc2 LC 0 1
  obtain ⟨cLP0,cLP1,cLP2⟩:=cc3 LP 0 1 2
  go_wp2
  go_ret
  exact ⟨rfl, Bw1⟩
 simp only [Bool.true_and]
 cases o
 ·simp only [Bool.false_and]
  go_enter Try.func47, Try.ntmps47
  obtain ⟨cLC0,cLC1⟩:=cc2 LC 0 1
  go_wp2_with fail
  clear hw0
  refine (CO.out _).mono ?_
  rintro _ w1 ⟨rfl, bb⟩
  clear cLC0 cLC1
  have Bw1:=bu Bw0 bb
  have sw1:=bb.size
  replace LC:=LC.up bb
  replace LP:=LP.up bb
  clear Bw0
  replace RU:=RU.below bb
  clear bb CO
  obtain ⟨cLP0,cLP1,cLP2⟩:=cc3 LP 0 1 2
  go_wp2_with fail
  refine (IN.out _).mono ?_
  rintro _ w9 ⟨rfl, e9⟩
  rw [e9]
  clear e9 IN cLP0 cLP1 cLP2
  obtain ⟨cLC0,cLC1⟩:=cc2 LC 0 1
  obtain ⟨cLP0,cLP1,cLP2⟩:=cc3 LP 0 1 2
  go_wp2_with fail
  refine (SO.out _ RU).mono ?_
  rintro _ w2 ⟨rfl, bb⟩
  clear cLC0 cLC1 cLP0 cLP1 cLP2
  have Bw2:=bu Bw1 bb
  have sw2:=bb.size
  replace LC:=LC.up bb
  replace LP:=LP.up bb
  clear Bw1 bb SO RU
  obtain ⟨cLC0,cLC1⟩:=cc2 LC 0 1
  obtain ⟨cLP0,cLP1,cLP2⟩:=cc3 LP 0 1 2
  go_wp2
  go_ret
  exact ⟨rfl, Bw2⟩
 simp only [Bool.true_and]
 by_cases hk : k = 0
 ·subst hk
  have hd0 : ((((0 : Nat) : Int) == 0)) = true:=rfl
  rw [hd0]
  simp only [Bool.not_true, Bool.false_and]
  go_enter Try.func47, Try.ntmps47
  obtain ⟨cLC0,cLC1⟩:=cc2 LC 0 1
  go_wp2_with fail
  clear hw0
  refine (CO.out _).mono ?_
  rintro _ w1 ⟨rfl, bb⟩
  clear cLC0 cLC1
  have Bw1:=bu Bw0 bb
  have sw1:=bb.size
  replace LC:=LC.up bb
  replace LP:=LP.up bb
  clear Bw0
  replace RU:=RU.below bb
  clear bb CO
  obtain ⟨cLP0,cLP1,cLP2⟩:=cc3 LP 0 1 2
  go_wp2_with fail
  refine (IN.out _).mono ?_
  rintro _ w9 ⟨rfl, e9⟩
  rw [e9]
  clear e9 IN cLP0 cLP1 cLP2
  obtain ⟨cLC0,cLC1⟩:=cc2 LC 0 1
  obtain ⟨cLP0,cLP1,cLP2⟩:=cc3 LP 0 1 2
  go_wp2_with fail
  refine (SO.out _ RU).mono ?_
  rintro _ w2 ⟨rfl, bb⟩
  clear cLC0 cLC1 cLP0 cLP1 cLP2
  have Bw2:=bu Bw1 bb
  have sw2:=bb.size
  replace LC:=LC.up bb
  replace LP:=LP.up bb
  clear Bw1 bb SO RU
  obtain ⟨cLC0,cLC1⟩:=cc2 LC 0 1
  obtain ⟨cLP0,cLP1,cLP2⟩:=cc3 LP 0 1 2
  go_wp2
  go_ret
  exact ⟨rfl, Bw2⟩
 have hd0 : ((k : Int) == 0) = false:=by simp; omega
 rw [hd0]
 simp only [Bool.not_false, Bool.true_and]
 by_cases he : s = ⟨#[]⟩
 ·have hd : decide (s = ⟨#[]⟩) = true:=by simpa using he
  have hy : (s.toList == []) = true:=by rw [he, ByteArray.toList_eq]; rfl
  rw [hd, Bool.true_or]
  clear he hd
  go_enter Try.func47, Try.ntmps47
  obtain ⟨cLC0,cLC1⟩:=cc2 LC 0 1
  go_wp2_with fail
  clear hw0
  refine (CO.out _).mono ?_
  rintro _ w1 ⟨rfl, bb⟩
  clear cLC0 cLC1
  have Bw1:=bu Bw0 bb
  have sw1:=bb.size
  replace LC:=LC.up bb
  replace LP:=LP.up bb
  clear Bw0
  replace RU:=RU.below bb
  clear bb CO
  obtain ⟨cLP0,cLP1,cLP2⟩:=cc3 LP 0 1 2
  go_wp2_with fail
  refine (IN.out _).mono ?_
  rintro _ w9 ⟨rfl, e9⟩
  rw [e9]
  clear e9 IN cLP0 cLP1 cLP2
  obtain ⟨cLC0,cLC1⟩:=cc2 LC 0 1
  obtain ⟨cLP0,cLP1,cLP2⟩:=cc3 LP 0 1 2
  go_wp2_with fail
  refine (SO.out _ RU).mono ?_
  rintro _ w2 ⟨rfl, bb⟩
  clear cLC0 cLC1 cLP0 cLP1 cLP2
  have Bw2:=bu Bw1 bb
  have sw2:=bb.size
  replace LC:=LC.up bb
  replace LP:=LP.up bb
  clear Bw1 bb SO RU
  obtain ⟨cLP0,cLP1,cLP2⟩:=cc3 LP 0 1 2
  have K:=kw (kc3 LP 0 1 2)
  go_upto_region 3 with fail
  refine wra K (fun bA hHeld => ?_)
  refine tx 0 28 ?_
  refine tx 1 29 ?_
  refine tx 2 30 ?_
  refine tx 3 31 ?_
  refine sx 4 32 ?_
  refine sx 5 33 ?_
  refine sx 6 34 ?_
  refine sx 7 35 ?_
  refine sx 8 36 ?_
  refine sx 11 39 ?_
  refine sx 9 37 ?_
  refine sx 12 40 ?_
  refine sx 10 38 ?_
  refine sx 13 41 ?_
  refine sx 14 42 ?_
  refine tx 15 43 ?_
  refine tx 16 4 ?_
  clear hHeld
  refine wdn ?_
  obtain ⟨wd3, hwd⟩ : ∃ y, w2.drew = y:=⟨_, rfl⟩
  rw [hwd] at bA ⊢
  clear hwd
  have bb:=bA
  have Bwd3:=bu Bw2 bb
  have swd3:=bb.size
  replace LC:=LC.up bb
  replace LP:=LP.up bb
  clear Bw2 bb bA K cLP0 cLP1 cLP2
  go_wp2
  go_ret
  exact ⟨rfl, Bwd3⟩
 have hd : decide (s = ⟨#[]⟩) = false:=by simpa using he
 have hne:=ne2 he
 rw [hd, Bool.false_or]
 clear he hd
 cases nk
 ·simp only [Bool.false_and]
  go_enter Try.func47, Try.ntmps47
  obtain ⟨cLC0,cLC1⟩:=cc2 LC 0 1
  go_wp2_with fail
  clear hw0
  refine (CO.out _).mono ?_
  rintro _ w1 ⟨rfl, bb⟩
  clear cLC0 cLC1
  have Bw1:=bu Bw0 bb
  have sw1:=bb.size
  replace LC:=LC.up bb
  replace LP:=LP.up bb
  clear Bw0
  replace RU:=RU.below bb
  clear bb CO
  obtain ⟨cLP0,cLP1,cLP2⟩:=cc3 LP 0 1 2
  go_wp2_with fail
  refine (IN.out _).mono ?_
  rintro _ w9 ⟨rfl, e9⟩
  rw [e9]
  clear e9 IN cLP0 cLP1 cLP2
  obtain ⟨cLC0,cLC1⟩:=cc2 LC 0 1
  obtain ⟨cLP0,cLP1,cLP2⟩:=cc3 LP 0 1 2
  go_wp2_with fail
  refine (SO.out _ RU).mono ?_
  rintro _ w2 ⟨rfl, bb⟩
  clear cLC0 cLC1 cLP0 cLP1 cLP2
  have Bw2:=bu Bw1 bb
  have sw2:=bb.size
  replace LC:=LC.up bb
  replace LP:=LP.up bb
  clear Bw1 bb SO RU
  obtain ⟨cLP0,cLP1,cLP2⟩:=cc3 LP 0 1 2
  have K:=kw (kc3 LP 0 1 2)
  go_upto_region 3 with fail
  refine wra K (fun bA hHeld => ?_)
  refine tx 0 28 ?_
  refine tx 1 29 ?_
  refine tx 2 30 ?_
  refine tx 3 31 ?_
  refine tx 4 32 ?_
  refine tx 5 33 ?_
  refine rd 6 rfl (fun KK hKK => ?_)
  go_simp
  have hgo:=bA
  refine (NO.out _).mono ?_
  rintro e wz3_1 ⟨rfl, bb⟩
  have bz1 : Below w2.heap.size w2 wz3_1:=bu bA bb
  clear bA hgo bb hHeld
  refine hKK.out _ _ (K.out _ bz1) (fun hHeld => ?_)
  clear hKK KK
  refine tx 7 35 ?_
  refine sx 8 36 ?_
  refine sx 11 39 ?_
  refine sx 9 37 ?_
  refine sx 12 40 ?_
  refine sx 10 38 ?_
  refine sx 13 41 ?_
  refine tx 14 42 ?_
  refine tx 15 43 ?_
  refine tx 16 4 ?_
  clear hHeld
  refine wdn ?_
  have bb:=bz1
  have Bwz3_1:=bu Bw2 bb
  have swz3_1:=bb.size
  replace LC:=LC.up bb
  replace LP:=LP.up bb
  clear Bw2 bb bz1 K cLP0 cLP1 cLP2
  go_wp2
  go_ret
  exact ⟨rfl, Bwz3_1⟩
 simp only [Bool.true_and]
 by_cases hv : vw = m
 ·have hd : decide (vw = m) = true:=by simpa using hv
  rw [hd]
  clear hd
  have hv2:=hv.symm
  subst hv2
  go_enter Try.func47, Try.ntmps47
  obtain ⟨cLC0,cLC1⟩:=cc2 LC 0 1
  go_wp2_with fail
  clear hw0
  refine (CO.out _).mono ?_
  rintro _ w1 ⟨rfl, bb⟩
  clear cLC0 cLC1
  have Bw1:=bu Bw0 bb
  have sw1:=bb.size
  replace LC:=LC.up bb
  replace LP:=LP.up bb
  clear Bw0
  replace RU:=RU.below bb
  clear bb CO
  obtain ⟨cLP0,cLP1,cLP2⟩:=cc3 LP 0 1 2
  go_wp2_with fail
  refine (IN.out _).mono ?_
  rintro _ w9 ⟨rfl, e9⟩
  rw [e9]
  clear e9 IN cLP0 cLP1 cLP2
  obtain ⟨cLC0,cLC1⟩:=cc2 LC 0 1
  obtain ⟨cLP0,cLP1,cLP2⟩:=cc3 LP 0 1 2
  go_wp2_with fail
  refine (SO.out _ RU).mono ?_
  rintro _ w2 ⟨rfl, bb⟩
  clear cLC0 cLC1 cLP0 cLP1 cLP2
  have Bw2:=bu Bw1 bb
  have sw2:=bb.size
  replace LC:=LC.up bb
  replace LP:=LP.up bb
  clear Bw1 bb SO RU
  obtain ⟨cLP0,cLP1,cLP2⟩:=cc3 LP 0 1 2
  have K:=kw (kc3 LP 0 1 2)
  go_upto_region 3 with fail
  refine wra K (fun bA hHeld => ?_)
  refine tx 0 28 ?_
  refine tx 1 29 ?_
  refine tx 2 30 ?_
  refine tx 3 31 ?_
  refine tx 4 32 ?_
  refine tx 5 33 ?_
  refine rd 6 rfl (fun KK hKK => ?_)
  go_simp
  have hgo:=bA
  refine (NO.out _).mono ?_
  rintro e wz3_1 ⟨rfl, bb⟩
  have bz1 : Below w2.heap.size w2 wz3_1:=bu bA bb
  clear bA hgo bb hHeld
  refine hKK.out _ _ (K.out _ bz1) (fun hHeld => ?_)
  clear hKK KK
  refine tx 7 35 ?_
  refine tx 8 36 ?_
  refine tx 11 39 ?_
  refine tx 9 37 ?_
  refine tx 12 40 ?_
  refine rd 10 rfl (fun KK hKK => ?_)
  go_simp
  have hgo:=bz1
  refine (VO.out _).mono ?_
  rintro e wz3_2 ⟨rfl, bb⟩
  have bz2 : Below w2.heap.size w2 wz3_2:=bu bz1 bb
  clear bz1 hgo bb hHeld
  refine hKK.out _ _ (K.out _ bz2) (fun hHeld => ?_)
  clear hKK KK
  refine tx 13 41 ?_
  refine tx 14 42 ?_
  refine tx 15 43 ?_
  refine tx 16 4 ?_
  clear hHeld
  refine wdn ?_
  have bb:=bz2
  have Bwz3_2:=bu Bw2 bb
  have swz3_2:=bb.size
  replace LC:=LC.up bb
  replace LP:=LP.up bb
  clear Bw2 bb bz2 K cLP0 cLP1 cLP2
  go_wp2
  go_ret
  exact ⟨rfl, Bwz3_2⟩
 have hd : decide (vw = m) = false:=by simpa using hv
 rw [hd]
 go_enter Try.func47, Try.ntmps47
 obtain ⟨cLC0,cLC1⟩:=cc2 LC 0 1
 go_wp2_with fail
 clear hw0
 refine (CO.out _).mono ?_
 rintro _ w1 ⟨rfl, bb⟩
 clear cLC0 cLC1
 have Bw1:=bu Bw0 bb
 have sw1:=bb.size
 replace LC:=LC.up bb
 replace LP:=LP.up bb
 clear Bw0
 replace RU:=RU.below bb
 clear bb CO
 obtain ⟨cLP0,cLP1,cLP2⟩:=cc3 LP 0 1 2
 go_wp2_with fail
 refine (IN.out _).mono ?_
 rintro _ w9 ⟨rfl, e9⟩
 rw [e9]
 clear e9 IN cLP0 cLP1 cLP2
 obtain ⟨cLC0,cLC1⟩:=cc2 LC 0 1
 obtain ⟨cLP0,cLP1,cLP2⟩:=cc3 LP 0 1 2
 go_wp2_with fail
 refine (SO.out _ RU).mono ?_
 rintro _ w2 ⟨rfl, bb⟩
 clear cLC0 cLC1 cLP0 cLP1 cLP2
 have Bw2:=bu Bw1 bb
 have sw2:=bb.size
 replace LC:=LC.up bb
 replace LP:=LP.up bb
 clear Bw1 bb SO RU
 obtain ⟨cLP0,cLP1,cLP2⟩:=cc3 LP 0 1 2
 have K:=kw (kc3 LP 0 1 2)
 go_upto_region 3 with fail
 refine wra K (fun bA hHeld => ?_)
 refine tx 0 28 ?_
 refine tx 1 29 ?_
 refine tx 2 30 ?_
 refine tx 3 31 ?_
 refine tx 4 32 ?_
 refine tx 5 33 ?_
 refine rd 6 rfl (fun KK hKK => ?_)
 go_simp
 have hgo:=bA
 refine (NO.out _).mono ?_
 rintro e wz3_1 ⟨rfl, bb⟩
 have bz1 : Below w2.heap.size w2 wz3_1:=bu bA bb
 clear bA hgo bb hHeld
 refine hKK.out _ _ (K.out _ bz1) (fun hHeld => ?_)
 clear hKK KK
 refine tx 7 35 ?_
 refine tx 8 36 ?_
 refine tx 11 39 ?_
 refine tx 9 37 ?_
 refine tx 12 40 ?_
 refine rd 10 rfl (fun KK hKK => ?_)
 go_simp
 have hgo:=bz1
 refine (VO.out _).mono ?_
 rintro e wz3_2 ⟨rfl, bb⟩
 have bz2 : Below w2.heap.size w2 wz3_2:=bu bz1 bb
 clear bz1 hgo bb hHeld
 refine hKK.out _ _ (K.out _ bz2) (fun hHeld => ?_)
 clear hKK KK
 refine tx 13 41 ?_
 refine tx 14 42 ?_
 refine tx 15 43 ?_
 refine tx 16 4 ?_
 clear hHeld
 refine wdn ?_
 have bb:=bz2
 have Bwz3_2:=bu Bw2 bb
 have swz3_2:=bb.size
 replace LC:=LC.up bb
 replace LP:=LP.up bb
 clear Bw2 bb bz2 K cLP0 cLP1 cLP2
 go_wp2
 go_ret
 exact ⟨by simp [hv], Bwz3_2⟩
end
section
open Go.RowKit
theorem l10Before_any (m n : Int) (s t : ByteArray) (u v : Value) (xs ys : List Int) (w : World) :
 Calls Try.prog 44 #[qv m s u, qv n t v] w fun e w' => e = .returned (.bool (befP (m, s, xs) (n, t, ys))) ∧ Below w.heap.size w w' := by
 have B:=hide (qalloc2 w (.cells #[.int .i64 m,.string s, u] 36) (.cells #[.int .i64 n,.string t, v] 36))
 unfold befP
 simp only
 by_cases h1 : m < n
 ·rw [decide_eq_true h1, Bool.true_or]
  go_enter Try.func44, Try.ntmps44
  go_wp2
  go_ret
  exact ⟨rfl, B.out⟩
 have hd1:=decide_eq_false h1
 rw [hd1, Bool.false_or]
 by_cases h2 : m = n
 ·subst h2
  rw [decide_eq_true rfl, Bool.true_and]
  clear hd1
  generalize hb : Op.bytesLess s.toList t.toList = q
  go_enter Try.func44, Try.ntmps44
  go_wp2
  go_ret
  exact ⟨rfl, B.out⟩
 have hd2:=decide_eq_false h2
 rw [hd2, Bool.false_and]
 go_enter Try.func44, Try.ntmps44
 go_wp2
 go_ret
 exact ⟨rfl, B.out⟩

theorem specPartJoin (m n : Int) (s t : ByteArray) (u v : Value) (xs ys : List Int) (w : World) (hl : xs.length + ys.length ≤ 4194303) (hu : RI w u xs) (hv : RI w v ys) :
 Calls Try.prog 45 #[qv m s u, qv n t v] w fun e w' => ∃ r, e = .returned (.tuple #[qv (if samP (m, s, xs) (n, t, ys) then m else 0) (if samP (m, s, xs) (n, t, ys) then s else ⟨#[]⟩) r,.bool (samP (m, s, xs) (n, t, ys))]) ∧ OI w' w.heap.size r (if samP (m, s, xs) (n, t, ys) then joinL xs ys else []) ∧ Below w.heap.size w w' := by
 obtain ⟨ua, uc, rfl⟩:=hu.form
 obtain ⟨va, vc, rfl⟩:=hv.form
 have SJ:=hide fun w h h' => specSetJoin (.slice ua xs.length uc) (.slice va ys.length vc) xs ys w h h' hl
 obtain ⟨w0, hw0⟩ : ∃ y, ((w.alloc (.cells #[.int .i64 m,.string s,.slice ua xs.length uc] 36)).alloc (.cells #[.int .i64 n,.string t,.slice va ys.length vc] 36)).alloc zpo = y:=⟨_, rfl⟩
 have B : Below w.heap.size w w0:=hw0 ▸ ((qalloc2 _ _ _).alloc (by simp; omega) _)
 have X : Loc w0 w.heap.size #[.int .i64 m,.string s,.slice ua xs.length uc]:=hw0 ▸ ((loc_at w _ _ rfl).alloc _).alloc _
 have Y : Loc w0 (w.heap.size + 1) #[.int .i64 n,.string t,.slice va ys.length vc]:=hw0 ▸ (loc_at (w.alloc _) _ _ (by simp)).alloc _
 have R : Loc w0 (w.heap.size + 1 + 1) #[.int .i64 0,.string ⟨#[]⟩,.slice none 0 0]:=hw0 ▸ (loc_at ((w.alloc _).alloc _) _ _ (by simp))
 have s0 : w0.heap.size = w.heap.size + 1 + 1 + 1:=by rw [← hw0]; simp
 have RU:=hide fun w' (hb : Below w0.heap.size w0 w') => (hu.below B).below hb
 have RV:=hide fun w' (hb : Below w0.heap.size w0 w') => (hv.below B).below hb
 obtain ⟨k1, hk1⟩ : ∃ k, xs.length = k:=⟨_, rfl⟩
 obtain ⟨k2, hk2⟩ : ∃ k, ys.length = k:=⟨_, rfl⟩
 rw [hk1] at SJ X RU hw0 ⊢
 rw [hk2] at SJ Y RV hw0 ⊢
 have x0:=X.cell 0 rfl
 have x1:=X.cell 1 rfl
 have y0:=Y.cell 0 rfl
 have y1:=Y.cell 1 rfl
 clear hu hv hk1 hk2 hl
 by_cases h : samP (m, s, xs) (n, t, ys) = true
 ·rw [h]
  simp only [if_true]
  simp only [samP, Bool.and_eq_true, decide_eq_true_eq] at h
  obtain ⟨h1, h2⟩:=h
  subst h1
  go_enter Try.func45, Try.ntmps45
  go_upto_region 3 with fail
  clear hw0 x0 x1 y0 y1 h2
  refine wp_region_noPanic ?_
  refine wp_region_held_drew (S := fun w' => (w'.cell? ⟨w.heap.size, 0, none⟩ = some (.int .i64 m) ∧ w'.cell? ⟨w.heap.size, 1, none⟩ = some (.string s) ∧ w'.cell? ⟨w.heap.size, 2, none⟩ = some (.slice ua k1 uc)) ∧ (w'.cell? ⟨w.heap.size + 1, 0, none⟩ = some (.int .i64 m) ∧ w'.cell? ⟨w.heap.size + 1, 1, none⟩ = some (.string t) ∧ w'.cell? ⟨w.heap.size + 1, 2, none⟩ = some (.slice va k2 vc))) (by kernel_rfl) ⟨⟨X.cell 0 rfl, X.cell 1 rfl, X.cell 2 rfl⟩, ⟨Y.cell 0 rfl, Y.cell 1 rfl, Y.cell 2 rfl⟩⟩ (fun hHeld => ?_)
  obtain ⟨wd, hd⟩ : ∃ wd, w0.drew = wd:=⟨_, rfl⟩
  have bd : Below w0.heap.size w0 wd:=hd ▸ Below.drew (Below.refl _ _)
  have BD:=bd
  have sd : w0.heap.size ≤ wd.heap.size:=bd.size
  replace X:=X.up bd
  replace Y:=Y.up bd
  replace R:=R.up bd
  replace B:=bu B bd
  rw [hd] at hHeld ⊢
  clear hd bd
  refine tx 0 19 ?_
  refine tx 1 20 ?_
  refine tx 2 21 ?_
  refine tx 3 22 ?_
  refine tx 4 23 ?_
  refine tx 5 24 ?_
  refine tx 6 25 ?_
  refine tx 7 26 ?_
  refine rd 8 rfl (fun KK hKK => ?_)
  go_simp
  refine (SJ.out _ (RU.out _ BD) (RV.out _ BD)).mono ?_
  rintro e wk ⟨q, rfl, oq, bk⟩
  have sk:=bk.size
  replace X:=X.up bk
  replace Y:=Y.up bk
  replace R:=R.up bk
  replace B:=bu B bk
  have tO:=World.ownsRow.lt oq
  obtain ⟨qa, qc, rfl⟩:=oq.form
  have O:=oq
  generalize hjl : (joinL xs ys).length = jl at *
  clear bk oq SJ RU RV BD hHeld
  refine hKK.out _ _ ⟨⟨X.cell 0 rfl, X.cell 1 rfl, X.cell 2 rfl⟩, ⟨Y.cell 0 rfl, Y.cell 1 rfl, Y.cell 2 rfl⟩⟩ (fun hHeld => ?_)
  clear hKK KK
  refine tx 9 28 ?_
  have c0:=R.cell 0 rfl
  have c1:=R.cell 1 rfl
  have c2:=R.cell 2 rfl
  have fc:=R.frozen
  refine rd 10 rfl (fun KK hKK => ?_)
  go_simp
  obtain ⟨wa, hwa⟩ : ∃ y, (((wk.setCell ⟨w.heap.size + 1 + 1, 0, none⟩ (.int .i64 m)).setCell ⟨w.heap.size + 1 + 1, 1, none⟩ (.string s)).setCell ⟨w.heap.size + 1 + 1, 2, none⟩ (.slice qa jl qc)) = y:=⟨_, rfl⟩
  have kwa : Kp wk wa (fun k => k = w.heap.size + 1 + 1):=hwa ▸ ((set_kp _ _ _ _).trans (set_kp _ _ _ _)).trans (set_kp _ _ _ _)
  replace R : Loc wa (w.heap.size + 1 + 1) #[.int .i64 m,.string s,.slice qa jl qc]:=hwa ▸ (((R.set 0 _ rfl).set 1 _ rfl).set 2 _ rfl)
  replace X:=X.kp kwa (by omega)
  replace Y:=Y.kp kwa (by omega)
  replace O:=O.kp kwa (fun j hj e => by have:=tO j hj; omega)
  replace B:=Below.kp B kwa B.size (fun k hk => by omega)
  have zwa:=kwa.size
  rw [hwa]
  clear hwa kwa c0 c1 c2 fc hHeld
  refine hKK.out _ _ ⟨⟨X.cell 0 rfl, X.cell 1 rfl, X.cell 2 rfl⟩, ⟨Y.cell 0 rfl, Y.cell 1 rfl, Y.cell 2 rfl⟩⟩ (fun hHeld => ?_)
  clear hKK KK
  refine tx 11 5 ?_
  clear hHeld
  refine wdn ?_
  have r0:=R.cell 0 rfl
  have r1:=R.cell 1 rfl
  have r2:=R.cell 2 rfl
  clear R X Y
  go_wp2
  refine bodyPost_ret (v := .tuple #[qv m s (.slice qa jl qc),.bool true]) (by simp [results, Try.results45, go_sem, r0, r1, r2]) rfl ?_
  exact ⟨_, rfl, OI.mono O (by omega), B⟩
 have h' : samP (m, s, xs) (n, t, ys) = false:=by simpa using h
 rw [h']
 simp only [Bool.false_eq_true, if_false]
 clear SJ RU RV
 have r0:=R.cell 0 rfl
 have r1:=R.cell 1 rfl
 have r2:=R.cell 2 rfl
 have fr:=R.frozen
 have B':=hide (((B.setCell (p:=⟨w.heap.size + 1 + 1, 0, none⟩) (by show w.heap.size ≤ w.heap.size + 1 + 1; omega) (.int .i64 0)).setCell (p:=⟨w.heap.size + 1 + 1, 1, none⟩) (by show w.heap.size ≤ w.heap.size + 1 + 1; omega) (.string ⟨#[]⟩)).setCell (p:=⟨w.heap.size + 1 + 1, 2, none⟩) (by show w.heap.size ≤ w.heap.size + 1 + 1; omega) (.slice none 0 0))
 clear X Y R
 by_cases h1 : m = n
 ·have h2 : (s.toList == t.toList) = false:=by
   simp only [samP, h1, decide_true, Bool.true_and] at h'
   exact h'
  subst h1
  clear h h'
  go_enter Try.func45, Try.ntmps45
  go_wp2
  refine bodyPost_ret (v := .tuple #[qv 0 ⟨#[]⟩ (.slice none 0 0),.bool false]) (by simp [results, Try.results45, go_sem, r0, r1, r2]) rfl ?_
  exact ⟨_, rfl, World.ownsRow_nil _ _ _ _, B'.out⟩
 have hd1:=decide_eq_false h1
 clear h h'
 go_enter Try.func45, Try.ntmps45
 go_wp2
 refine bodyPost_ret (v := .tuple #[qv 0 ⟨#[]⟩ (.slice none 0 0),.bool false]) (by simp [results, Try.results45, go_sem, r0, r1, r2]) rfl ?_
 exact ⟨_, rfl, World.ownsRow_nil _ _ _ _, B'.out⟩
end
section
open Go.RowKit
variable [∀ (a b c d : Int), Decidable (Ok4 a b c d)]
variable [∀ (n f : Int), Decidable (COk n f)]
variable [∀ (n : Int) (s : List Int), Decidable (OkL n s)]
variable [∀ (a b c d : Nat), Decidable (okN a b c d)]
variable [∀ (last : Int) (s : St), Decidable (GoodSt last s)]
variable [∀ (x : T4), Decidable (OkT x)]
def tokB (n f : Int) (ps : List Pt) : Bool := ps.all (fun p => pokB n f p.1 p.2.1 p.2.2) && rowP ps && decide (ps.length ≤ 20)
theorem row_iff (ps : List Pt) : rowP ps = true ↔ ∀ j, j + 1 < ps.length → befP (ps.getD j zpt) (ps.getD (j + 1) zpt) = true := by
 induction ps with
 | nil => simp [rowP]
 | cons a t ih =>
  cases t with
  | nil => simp [rowP]
  | cons b t =>
   rw [rowP, Bool.and_eq_true, ih]
   constructor
   ·rintro ⟨h1, h2⟩ j hj
    cases j with
    | zero => simpa using h1
    | succ j => simpa using h2 j (by simpa using hj)
   intro h
   refine ⟨by simpa using h 0 (by simp), fun j hj => ?_⟩
   have:=h (j + 1) (by simpa using hj)
   simpa using this
theorem tok_no1 {n f : Int} {ps : List Pt} {k : Nat} (hk : k < ps.length) (h : pokB n f (ps.getD k zpt).1 (ps.getD k zpt).2.1 (ps.getD k zpt).2.2 = false) : tokB n f ps = false := by
 unfold tokB
 have : ps.all (fun p => pokB n f p.1 p.2.1 p.2.2) = false:=by
  rw [List.all_eq_false]
  exact ⟨_, pt_mem hk, by rw [h]; simp⟩
 rw [this]; rfl
theorem tok_no2 {n f : Int} {ps : List Pt} {j : Nat} (hj : j + 1 < ps.length) (h : befP (ps.getD j zpt) (ps.getD (j + 1) zpt) = false) : tokB n f ps = false := by
 unfold tokB
 have : rowP ps = false:=by
  rw [Bool.eq_false_iff]
  intro e
  have:=(row_iff ps).1 e j hj
  rw [h] at this
  cases this
 rw [this]; simp
theorem tok_yes {n f : Int} {ps : List Pt} (h1 : ∀ j, j < ps.length → pokB n f (ps.getD j zpt).1 (ps.getD j zpt).2.1 (ps.getD j zpt).2.2 = true) (h2 : ∀ j, j + 1 < ps.length → befP (ps.getD j zpt) (ps.getD (j + 1) zpt) = true) : tokB n f ps = decide (ps.length ≤ 20) := by
 unfold tokB
 have e1 : ps.all (fun p => pokB n f p.1 p.2.1 p.2.2) = true:=by
  rw [List.all_eq_true]
  intro p hp
  obtain ⟨j, hj, rfl⟩:=List.getElem_of_mem hp
  have:=h1 j hj
  simpa [List.getElem?_eq_getElem hj] using this
 rw [e1, (row_iff ps).2 h2]; rfl

theorem specTableOk (n f : Int) (v : Value) (ps : List Pt) (w : World) (hl : ps.length ≤ 4194304) (hs : ∀ p ∈ ps, p.2.1.size ≤ 1048576) (h : RPt w v ps) :
 Calls Try.prog 46 #[cv n f, v] w fun e w' => e = .returned (.bool (tokB n f ps)) ∧ Below w.heap.size w w' := by
 obtain ⟨ao, ca, rfl⟩:=h.form
 obtain ⟨len, hn⟩ : ∃ len, ps.length = len:=⟨_, rfl⟩
 have Hn:=hide hn
 have HSZ:=hide hs
 obtain ⟨w0, hw0⟩ : ∃ y, w.alloc (.cells #[.int .i64 n,.int .i64 f] 55) = y:=⟨_, rfl⟩
 have B0 : Below w.heap.size w w0:=hw0 ▸ qalloc _ _
 have L0 : Loc w0 w.heap.size #[.int .i64 n,.int .i64 f]:=hw0 ▸ loc_at w _ _ rfl
 have H:=hide (h.below B0)
 obtain ⟨r, hr⟩ : ∃ r, tokB n f ps = r:=⟨_, rfl⟩
 have N1 : Hid (∀ k, k < ps.length → pokB n f (ps.getD k zpt).1 (ps.getD k zpt).2.1 (ps.getD k zpt).2.2 = false → r = false):=hide fun k hk h => hr ▸ tok_no1 hk h
 have N2 : Hid (∀ j, j + 1 < ps.length → befP (ps.getD j zpt) (ps.getD (j + 1) zpt) = false → r = false):=hide fun j hj h => hr ▸ tok_no2 hj h
 have YE : Hid ((∀ j, j < ps.length → pokB n f (ps.getD j zpt).1 (ps.getD j zpt).2.1 (ps.getD j zpt).2.2 = true) → (∀ j, j + 1 < ps.length → befP (ps.getD j zpt) (ps.getD (j + 1) zpt) = true) → r = decide (len ≤ 20)):=hide fun h1 h2 => by rw [← hr, tok_yes h1 h2, hn]
 rw [hn] at hl H ⊢
 rw [hr]
 clear h hn hs hr
 go_enter Try.func46, Try.ntmps46
 go_wp2
 clear hw0
 go_loopw [5] (fun i wr => ∃ k : Nat, k ≤ len ∧ i = .int .i64 k ∧ Hid (∀ j, j < k → pokB n f (ps.getD j zpt).1 (ps.getD j zpt).2.1 (ps.getD j zpt).2.2 = true) ∧ Hid (∀ j, j + 1 < k → befP (ps.getD j zpt) (ps.getD (j + 1) zpt) = true) ∧ Below w0.heap.size w0 wr) (fun i _ => len - (intOf i).toNat)
 case atStart => exact ⟨0, Nat.zero_le _, rfl, hide (fun j hj => by omega), hide (fun j hj => by omega), Below.refl _ _⟩
 case round =>
  obtain ⟨k, hk, rfl, HA, HB, bb⟩:=hrel
  have Bwr:=bu B0 bb
  have LC:=L0.up bb
  have Br:=bb
  have HW:=H.out.below bb
  by_cases hlt : k < len
  ·have hkx : k < ps.length:=by have:=Hn.out; omega
   obtain ⟨g, off, u, hao, c0, c1, c2, ru⟩:=HW.at k hkx
   have hsz:=HSZ.out _ (pt_mem hkx)
   have N1k:=hide (N1.out k hkx)
   have N2k : Hid (∀ j, k = j + 1 → befP (ps.getD j zpt) (ps.getD k zpt) = false → r = false):=hide fun j hj h => N2.out j (by omega) (by rw [← hj]; exact h)
   have HA2 : Hid (pokB n f (ps.getD k zpt).1 (ps.getD k zpt).2.1 (ps.getD k zpt).2.2 = true → ∀ j, j < k + 1 → pokB n f (ps.getD j zpt).1 (ps.getD j zpt).2.1 (ps.getD j zpt).2.2 = true):=hide fun h j hj => by by_cases e : j = k; subst e; exact h; exact HA.out j (by omega)
   have HB2 : Hid ((∀ j, k = j + 1 → befP (ps.getD j zpt) (ps.getD k zpt) = true) → ∀ j, j + 1 < k + 1 → befP (ps.getD j zpt) (ps.getD (j + 1) zpt) = true):=hide fun h j hj => by by_cases e : k = j + 1; have:=h j e; rwa [e] at this; exact HB.out j (by omega)
   have PREV : Hid (∀ j, k = j + 1 → ∃ u', wr.cell? ⟨g, off + j * 3, none⟩ = some (.int .i64 (ps.getD j zpt).1) ∧ wr.cell? ⟨g, off + j * 3 + 1, none⟩ = some (.string (ps.getD j zpt).2.1) ∧ wr.cell? ⟨g, off + j * 3 + 2, none⟩ = some u' ∧ RI wr u' (ps.getD j zpt).2.2):=hide fun j hj => by
    obtain ⟨g', off', u', e, d0, d1, d2, ru'⟩:=HW.at j (by omega)
    rw [hao] at e
    injection e with e
    injection e with e1 e2
    subst e1 e2
    exact ⟨u', d0, d1, d2, ru'⟩
   subst hao
   generalize hx : ps.getD k zpt = x at *
   obtain ⟨m, s, xs⟩:=x
   simp only at c0 c1 ru hsz N1k HA2
   have PO:=hide fun w h => specPartOk n f m s u xs w hsz h
   obtain ⟨ua, uc, rfl⟩:=ru.form
   have RU:=hide fun w' (hb' : Below wr.heap.size wr w') => ru.below hb'
   generalize pokB n f m s xs = pk at *
   obtain ⟨xl, hxl⟩ : ∃ l, xs.length = l:=⟨_, rfl⟩
   rw [hxl] at PO RU c2
   clear ru HW H N1 N2 YE HA HB hx hxl
   cases pk
   ·have e:=N1k.out rfl
    subst e
    clear N1k N2k HA2 HB2 PREV
    obtain ⟨cLC0,cLC1⟩:=cc2 LC 0 1
    have K : Hid (∀ w', Below wr.heap.size wr w' → (fun w' => Below wr.heap.size wr w' ∧ (w'.cell? ⟨w.heap.size, 0, none⟩ = some (.int .i64 n) ∧ w'.cell? ⟨w.heap.size, 1, none⟩ = some (.int .i64 f)) ∧ w'.cell? ⟨g, off + k * 3, none⟩ = some (.int .i64 m) ∧ w'.cell? ⟨g, off + k * 3 + 1, none⟩ = some (.string s) ∧ w'.cell? ⟨g, off + k * 3 + 2, none⟩ = some (.slice ua xl uc)) w'):=hide fun w' hb' => ⟨hb', ⟨(LC.up hb').cell 0 rfl, (LC.up hb').cell 1 rfl⟩, (hb'.cell (p:=⟨g, off + k * 3, none⟩) (cell_lt c0)).trans c0, (hb'.cell (p:=⟨g, off + k * 3 + 1, none⟩) (cell_lt c1)).trans c1, (hb'.cell (p:=⟨g, off + k * 3 + 2, none⟩) (cell_lt c2)).trans c2⟩
    go_upto_region 4 with fail
    refine wra K (fun bA hHeld => ?_)
    refine tx 0 12 ?_
    refine tx 1 13 ?_
    refine tx 2 14 ?_
    refine tx 3 15 ?_
    refine tx 4 16 ?_
    refine rd 5 rfl (fun KK hKK => ?_)
    go_simp
    have hgo:=bA
    refine (PO.out _ (RU.out _ hgo)).mono ?_
    rintro e wz4_1 ⟨rfl, bb⟩
    have bz1 : Below wr.heap.size wr wz4_1:=bu bA bb
    clear RU bA hgo bb hHeld
    refine hKK.out _ _ (K.out _ bz1) (fun hHeld => ?_)
    clear hKK KK
    refine tx 6 18 ?_
    refine tx 7 19 ?_
    refine sx 8 20 ?_
    refine sx 9 21 ?_
    refine sx 10 22 ?_
    refine sx 11 23 ?_
    refine sx 12 24 ?_
    refine sx 16 28 ?_
    refine sx 17 29 ?_
    refine sx 13 25 ?_
    refine sx 18 30 ?_
    refine sx 14 26 ?_
    refine sx 19 31 ?_
    refine sx 15 27 ?_
    refine sx 20 32 ?_
    refine sx 21 33 ?_
    refine sx 22 34 ?_
    refine tx 23 35 ?_
    clear hHeld
    refine wdn ?_
    have bb:=bz1
    have Bwz4_1:=bu Bwr bb
    have swz4_1:=bb.size
    replace LC:=LC.up bb
    replace Br:=bu Br bb
    clear Bwr bb bz1 K cLC0 cLC1
    go_wp2
    go_ret
    exact ⟨rfl, Bwz4_1⟩
   have HA3:=hide (HA2.out rfl)
   clear N1k HA2
   by_cases hk0 : k = 0
   ·have HB3:=hide (HB2.out (fun j hj => by omega))
    clear N2k HB2 PREV
    subst hk0
    simp only [Nat.zero_mul, Nat.add_zero] at c0 c1 c2
    obtain ⟨cLC0,cLC1⟩:=cc2 LC 0 1
    have K : Hid (∀ w', Below wr.heap.size wr w' → (fun w' => Below wr.heap.size wr w' ∧ (w'.cell? ⟨w.heap.size, 0, none⟩ = some (.int .i64 n) ∧ w'.cell? ⟨w.heap.size, 1, none⟩ = some (.int .i64 f)) ∧ w'.cell? ⟨g, off, none⟩ = some (.int .i64 m) ∧ w'.cell? ⟨g, off + 1, none⟩ = some (.string s) ∧ w'.cell? ⟨g, off + 2, none⟩ = some (.slice ua xl uc)) w'):=hide fun w' hb' => ⟨hb', ⟨(LC.up hb').cell 0 rfl, (LC.up hb').cell 1 rfl⟩, (hb'.cell (p:=⟨g, off, none⟩) (cell_lt c0)).trans c0, (hb'.cell (p:=⟨g, off + 1, none⟩) (cell_lt c1)).trans c1, (hb'.cell (p:=⟨g, off + 2, none⟩) (cell_lt c2)).trans c2⟩
    go_upto_region 4 with fail
    refine wra K (fun bA hHeld => ?_)
    refine tx 0 12 ?_
    refine tx 1 13 ?_
    refine tx 2 14 ?_
    refine tx 3 15 ?_
    refine tx 4 16 ?_
    refine rd 5 rfl (fun KK hKK => ?_)
    go_simp
    have hgo:=bA
    refine (PO.out _ (RU.out _ hgo)).mono ?_
    rintro e wz4_1 ⟨rfl, bb⟩
    have bz1 : Below wr.heap.size wr wz4_1:=bu bA bb
    clear RU bA hgo bb hHeld
    refine hKK.out _ _ (K.out _ bz1) (fun hHeld => ?_)
    clear hKK KK
    refine tx 6 18 ?_
    refine tx 7 19 ?_
    refine tx 8 20 ?_
    refine tx 9 21 ?_
    refine tx 10 22 ?_
    refine sx 11 23 ?_
    refine sx 12 24 ?_
    refine sx 16 28 ?_
    refine sx 17 29 ?_
    refine sx 13 25 ?_
    refine sx 18 30 ?_
    refine sx 14 26 ?_
    refine sx 19 31 ?_
    refine sx 15 27 ?_
    refine sx 20 32 ?_
    refine sx 21 33 ?_
    refine tx 22 34 ?_
    refine tx 23 35 ?_
    clear hHeld
    refine wdn ?_
    have bb:=bz1
    have Bwz4_1:=bu Bwr bb
    have swz4_1:=bb.size
    replace LC:=LC.up bb
    replace Br:=bu Br bb
    clear Bwr bb bz1 K cLC0 cLC1
    go_wp2
    go_roundw
    case rel => exact ⟨0 + 1, by omega, by go_num, HA3, HB3, Br⟩
    case measure => simp [intOf]; omega
   obtain ⟨j, hj⟩ : ∃ j, k = j + 1:=⟨k - 1, by omega⟩
   have N2j:=hide (N2k.out j hj)
   obtain ⟨u', d0, d1, d2, ru'⟩:=PREV.out j hj
   have HB3 : Hid (befP (ps.getD j zpt) (m, s, xs) = true → ∀ j, j + 1 < k + 1 → befP (ps.getD j zpt) (ps.getD (j + 1) zpt) = true):=hide fun h => HB2.out (fun i hi => by obtain rfl : i = j:=(by omega); exact h)
   clear N2k HB2 PREV hk0
   subst hj
   generalize ps.getD j zpt = y at *
   obtain ⟨m', s', xs'⟩:=y
   simp only at d0 d1 ru' N2j HB3
   obtain ⟨va, vc, rfl⟩:=ru'.form
   generalize xs'.length = yl at *
   clear ru'
   have BE:=hide fun w => l10Before_any m' m s' s (.slice va yl vc) (.slice ua xl uc) xs' xs w
   generalize befP (m', s', xs') (m, s, xs) = be at *
   have hg1 : decide ((0 : Int) < (j : Int) + 1) = true:=decide_eq_true (by omega)
   have hwm : IntKind.i64.wrap (j : Int) = j:=by simp only [IntKind.wrap_i64]; omega
   cases be
   ·have e:=N2j.out rfl
    subst e
    clear N2j HB3
    obtain ⟨cLC0,cLC1⟩:=cc2 LC 0 1
    have K : Hid (∀ w', Below wr.heap.size wr w' → (fun w' => Below wr.heap.size wr w' ∧ (w'.cell? ⟨w.heap.size, 0, none⟩ = some (.int .i64 n) ∧ w'.cell? ⟨w.heap.size, 1, none⟩ = some (.int .i64 f)) ∧ w'.cell? ⟨g, off + (j + 1) * 3, none⟩ = some (.int .i64 m) ∧ w'.cell? ⟨g, off + (j + 1) * 3 + 1, none⟩ = some (.string s) ∧ w'.cell? ⟨g, off + (j + 1) * 3 + 2, none⟩ = some (.slice ua xl uc) ∧ w'.cell? ⟨g, off + j * 3, none⟩ = some (.int .i64 m') ∧ w'.cell? ⟨g, off + j * 3 + 1, none⟩ = some (.string s') ∧ w'.cell? ⟨g, off + j * 3 + 2, none⟩ = some (.slice va yl vc)) w'):=hide fun w' hb' => ⟨hb', ⟨(LC.up hb').cell 0 rfl, (LC.up hb').cell 1 rfl⟩, (hb'.cell (p:=⟨g, off + (j + 1) * 3, none⟩) (cell_lt c0)).trans c0, (hb'.cell (p:=⟨g, off + (j + 1) * 3 + 1, none⟩) (cell_lt c1)).trans c1, (hb'.cell (p:=⟨g, off + (j + 1) * 3 + 2, none⟩) (cell_lt c2)).trans c2, (hb'.cell (p:=⟨g, off + j * 3, none⟩) (cell_lt d0)).trans d0, (hb'.cell (p:=⟨g, off + j * 3 + 1, none⟩) (cell_lt d1)).trans d1, (hb'.cell (p:=⟨g, off + j * 3 + 2, none⟩) (cell_lt d2)).trans d2⟩
    go_upto_region 4 with fail
    refine wra K (fun bA hHeld => ?_)
    refine tx 0 12 ?_
    refine tx 1 13 ?_
    refine tx 2 14 ?_
    refine take_at (i := 3) (d := 15) (v := ?_) rfl rfl (by kernel_rfl) (by kernel_rfl) (by kernel_rfl) (fun _ _ _ h => h) (Or.inl ⟨by rfl, ?_⟩) (by assumption) ?_
    rotate_left
    ·intro w hSw
     try dsimp only at hSw
     go_simp
     try rw [if_pos (by omega)]
     try with_reducible rfl
    simp only [pU]
    refine tx 4 16 ?_
    refine rd 5 rfl (fun KK hKK => ?_)
    go_simp
    have hgo:=bA
    refine (PO.out _ (RU.out _ hgo)).mono ?_
    rintro e wz4_1 ⟨rfl, bb⟩
    have bz1 : Below wr.heap.size wr wz4_1:=bu bA bb
    clear RU bA hgo bb hHeld
    refine hKK.out _ _ (K.out _ bz1) (fun hHeld => ?_)
    clear hKK KK
    refine tx 6 18 ?_
    refine tx 7 19 ?_
    refine tx 8 20 ?_
    refine tx 9 21 ?_
    refine tx 10 22 ?_
    refine tx 11 23 ?_
    refine tx 12 24 ?_
    refine tx 16 28 ?_
    refine tx 17 29 ?_
    refine tx 13 25 ?_
    refine take_at (i := 18) (d := 30) (v := ?_) rfl rfl (by kernel_rfl) (by kernel_rfl) (by kernel_rfl) (fun _ _ _ h => h) (Or.inl ⟨by rfl, ?_⟩) (by assumption) ?_
    rotate_left
    ·intro w hSw
     try dsimp only at hSw
     go_simp
     try rw [if_pos (by omega)]
     try with_reducible rfl
    simp only [pU]
    refine take_at (i := 14) (d := 26) (v := ?_) rfl rfl (by kernel_rfl) (by kernel_rfl) (by kernel_rfl) (fun _ _ _ h => h) (Or.inl ⟨by rfl, ?_⟩) (by assumption) ?_
    rotate_left
    ·intro w hSw
     try dsimp only at hSw
     go_simp
     try rw [if_pos (by omega)]
     try with_reducible rfl
    simp only [pU]
    refine tx 19 31 ?_
    refine tx 15 27 ?_
    refine rd 20 rfl (fun KK hKK => ?_)
    go_simp
    have hgo:=bz1
    refine (BE.out _).mono ?_
    rintro e wz4_2 ⟨rfl, bb⟩
    have bz2 : Below wr.heap.size wr wz4_2:=bu bz1 bb
    clear bz1 hgo bb hHeld
    refine hKK.out _ _ (K.out _ bz2) (fun hHeld => ?_)
    clear hKK KK
    refine tx 21 33 ?_
    refine tx 22 34 ?_
    refine tx 23 35 ?_
    clear hHeld
    refine wdn ?_
    have bb:=bz2
    have Bwz4_2:=bu Bwr bb
    have swz4_2:=bb.size
    replace LC:=LC.up bb
    replace Br:=bu Br bb
    clear Bwr bb bz2 K cLC0 cLC1
    go_wp2
    go_ret
    exact ⟨rfl, Bwz4_2⟩
   have HB4:=hide (HB3.out rfl)
   clear N2j HB3
   obtain ⟨cLC0,cLC1⟩:=cc2 LC 0 1
   have K : Hid (∀ w', Below wr.heap.size wr w' → (fun w' => Below wr.heap.size wr w' ∧ (w'.cell? ⟨w.heap.size, 0, none⟩ = some (.int .i64 n) ∧ w'.cell? ⟨w.heap.size, 1, none⟩ = some (.int .i64 f)) ∧ w'.cell? ⟨g, off + (j + 1) * 3, none⟩ = some (.int .i64 m) ∧ w'.cell? ⟨g, off + (j + 1) * 3 + 1, none⟩ = some (.string s) ∧ w'.cell? ⟨g, off + (j + 1) * 3 + 2, none⟩ = some (.slice ua xl uc) ∧ w'.cell? ⟨g, off + j * 3, none⟩ = some (.int .i64 m') ∧ w'.cell? ⟨g, off + j * 3 + 1, none⟩ = some (.string s') ∧ w'.cell? ⟨g, off + j * 3 + 2, none⟩ = some (.slice va yl vc)) w'):=hide fun w' hb' => ⟨hb', ⟨(LC.up hb').cell 0 rfl, (LC.up hb').cell 1 rfl⟩, (hb'.cell (p:=⟨g, off + (j + 1) * 3, none⟩) (cell_lt c0)).trans c0, (hb'.cell (p:=⟨g, off + (j + 1) * 3 + 1, none⟩) (cell_lt c1)).trans c1, (hb'.cell (p:=⟨g, off + (j + 1) * 3 + 2, none⟩) (cell_lt c2)).trans c2, (hb'.cell (p:=⟨g, off + j * 3, none⟩) (cell_lt d0)).trans d0, (hb'.cell (p:=⟨g, off + j * 3 + 1, none⟩) (cell_lt d1)).trans d1, (hb'.cell (p:=⟨g, off + j * 3 + 2, none⟩) (cell_lt d2)).trans d2⟩
   go_upto_region 4 with fail
   refine wra K (fun bA hHeld => ?_)
   refine tx 0 12 ?_
   refine tx 1 13 ?_
   refine tx 2 14 ?_
   refine take_at (i := 3) (d := 15) (v := ?_) rfl rfl (by kernel_rfl) (by kernel_rfl) (by kernel_rfl) (fun _ _ _ h => h) (Or.inl ⟨by rfl, ?_⟩) (by assumption) ?_
   rotate_left
   ·intro w hSw
    try dsimp only at hSw
    go_simp
    try rw [if_pos (by omega)]
    try with_reducible rfl
   simp only [pU]
   refine tx 4 16 ?_
   refine rd 5 rfl (fun KK hKK => ?_)
   go_simp
   have hgo:=bA
   refine (PO.out _ (RU.out _ hgo)).mono ?_
   rintro e wz4_1 ⟨rfl, bb⟩
   have bz1 : Below wr.heap.size wr wz4_1:=bu bA bb
   clear RU bA hgo bb hHeld
   refine hKK.out _ _ (K.out _ bz1) (fun hHeld => ?_)
   clear hKK KK
   refine tx 6 18 ?_
   refine tx 7 19 ?_
   refine tx 8 20 ?_
   refine tx 9 21 ?_
   refine tx 10 22 ?_
   refine tx 11 23 ?_
   refine tx 12 24 ?_
   refine tx 16 28 ?_
   refine tx 17 29 ?_
   refine tx 13 25 ?_
   refine take_at (i := 18) (d := 30) (v := ?_) rfl rfl (by kernel_rfl) (by kernel_rfl) (by kernel_rfl) (fun _ _ _ h => h) (Or.inl ⟨by rfl, ?_⟩) (by assumption) ?_
   rotate_left
   ·intro w hSw
    try dsimp only at hSw
    go_simp
    try rw [if_pos (by omega)]
    try with_reducible rfl
   simp only [pU]
   refine take_at (i := 14) (d := 26) (v := ?_) rfl rfl (by kernel_rfl) (by kernel_rfl) (by kernel_rfl) (fun _ _ _ h => h) (Or.inl ⟨by rfl, ?_⟩) (by assumption) ?_
   rotate_left
   ·intro w hSw
    try dsimp only at hSw
    go_simp
    try rw [if_pos (by omega)]
    try with_reducible rfl
   simp only [pU]
   refine tx 19 31 ?_
   refine tx 15 27 ?_
   refine rd 20 rfl (fun KK hKK => ?_)
   go_simp
   have hgo:=bz1
   refine (BE.out _).mono ?_
   rintro e wz4_2 ⟨rfl, bb⟩
   have bz2 : Below wr.heap.size wr wz4_2:=bu bz1 bb
   clear bz1 hgo bb hHeld
   refine hKK.out _ _ (K.out _ bz2) (fun hHeld => ?_)
   clear hKK KK
   refine tx 21 33 ?_
   refine tx 22 34 ?_
   refine tx 23 35 ?_
   clear hHeld
   refine wdn ?_
   have bb:=bz2
   have Bwz4_2:=bu Bwr bb
   have swz4_2:=bb.size
   replace LC:=LC.up bb
   replace Br:=bu Br bb
   clear Bwr bb bz2 K cLC0 cLC1
   go_wp2
   go_roundw
   case rel => exact ⟨j + 1 + 1, by omega, by go_num, HA3, HB4, Br⟩
   case measure => simp [intOf]; omega
  have e:=YE.out (fun j hj => HA.out j (by have:=Hn.out; omega)) (fun j hj => HB.out j (by have:=Hn.out; omega))
  have hd : decide ((len : Int) ≤ 20) = decide (len ≤ 20):=by simp; omega
  subst e
  clear HA HB HW LC Br bb N1 N2 YE H
  go_wp2
  go_ret
  exact ⟨rfl, Bwr⟩
end
end Go.Proofs.Ytjkcphnohhpihaa
