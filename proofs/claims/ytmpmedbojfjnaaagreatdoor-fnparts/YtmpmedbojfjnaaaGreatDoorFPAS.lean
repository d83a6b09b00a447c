/- Texts that belong together: DrawPart, DrawPartQcs. -/
import Derived.Test.YtmpmedbojfjnaaaGreatDoorFPAR
import Derived.Test.YtmpmedbojfjnaaaGreatDoorFPAK
import Derived.Test.YtmpmedbojfjnaaaGreatDoorFPAQ
import Derived.Test.YtmpmedbojfjnaaaGreatDoorFPAN
import Derived.Test.YtmpmedbojfjnaaaGreatDoorFPAE
import Derived.Deep.RegionHeld3
import Derived.Deep.DeepCutAuto
namespace Go.Proofs.YtmpmedbojfjnaaaGreatDoor
open Go.RowKit
set_option linter.unusedSectionVars false
variable [∀ (a b c d : Int), Decidable (Ok4 a b c d)]
variable [∀ (a b c d : Nat), Decidable (okN a b c d)]
variable [∀ (x : T4), Decidable (OkT x)]
variable [∀ (n f : Int), Decidable (COk n f)]
variable [∀ (last : Int) (s : St), Decidable (GoodSt last s)]

set_option maxHeartbeats 8000000 in
set_option maxRecDepth 100000 in
theorem drawPart (base g ca : Nat) (ao : Option Addr) (zs : List Int) (n f : Int) (w : World) (hB : base ≤ w.heap.size) (hn8 : n ≤ 8) (h : Cur w base g ao ca zs) :
 Calls Tryz.prog 86 #[.pointer (some ⟨g, 0, none⟩), cv n f] w fun e w' => ∃ (v : Int) (s : ByteArray) (u : Value) (xs : List Int), e = .returned (qv v s u) ∧ (-1 ≤ v ∧ v ≤ 61) ∧ s.size ≤ 8001 ∧ xs.length ≤ 9 ∧ Hid (WfL xs) ∧ OI w' w.heap.size u xs ∧ Cur w' base g ao ca zs ∧ w.grownBy w' (some g) := by
 have hlt := h.lt
 obtain ⟨w0, hw0⟩ : ∃ y, (w.alloc (.cells #[.int .i64 n, .int .i64 f] 25)).alloc zpo = y := ⟨_, rfl⟩
 have b0 : Below w.heap.size w w0 := hw0 ▸ qalloc2 _ _ _
 have LC : Loc w0 w.heap.size #[.int .i64 n, .int .i64 f] := hw0 ▸ (loc_at w _ _ rfl).alloc _
 have LZ : Loc w0 (w.heap.size + 1) #[.int .i64 0, .string ⟨#[]⟩, .slice none 0 0] := hw0 ▸ loc_at (w.alloc _) _ _ (by simp)
 have s0 : w0.heap.size = w.heap.size + 2 := by rw [← hw0]; simp
 have C := h.below hB b0
 have K : Kp w w0 (fun k => k = g) := Below.kpOf b0 _
 have n0 := LC.cell 0 rfl
 have n1 := LC.cell 1 rfl
 clear h b0 LC
 go_enter Tryz.func86, Tryz.ntmps86
 go_wp2_with fail
 clear hw0 n0 n1
 refine (drawPartR base g ca ao zs n f _ (by omega) hn8 C).mono ?_
 rintro e w1 ⟨v, s, u, xs, rfl, hv, hs, hl, WX, O, c1, g1⟩
 replace C := c1
 clear c1
 have kk := kp_of g1
 have s1 := kk.size
 replace LZ := LZ.kp kk (by omega)
 replace K := K.trans kk
 have lo := World.ownsRow.lt O
 obtain ⟨ua, uc, hu⟩ := O.form
 obtain ⟨ul, hul⟩ : ∃ l, xs.length = l := ⟨_, rfl⟩
 replace hul := hide hul
 rw [unhide hul] at hu hl
 subst hu
 clear kk g1
 obtain ⟨w2, hw2⟩ : ∃ y, w1.alloc (.cells #[.int .i64 v, .string s, .slice ua ul uc] 52) = y := ⟨_, rfl⟩
 have b2 : Below w1.heap.size w1 w2 := hw2 ▸ qalloc _ _
 obtain ⟨pb, hpb⟩ : ∃ p, w1.heap.size = p := ⟨_, rfl⟩
 have P : Loc w2 pb #[.int .i64 v, .string s, .slice ua ul uc] := hpb ▸ hw2 ▸ loc_at w1 _ _ rfl
 have s2 := b2.size
 replace LZ := LZ.below b2 LZ.lt
 replace K := K.trans (Below.kpOf b2 _)
 replace C := C.below (by omega) b2
 have HP : Hid (∀ j, (Value.slice ua ul uc).ownBlock = some j → w.heap.size + 2 ≤ j ∧ j < pb) := hide fun j hj => by have := lo j hj; omega
 replace O := (O.below b2).mono (show w.heap.size ≤ w0.heap.size by omega)
 have hpb2 : w.heap.size + 2 ≤ pb := by omega
 have hpl := P.lt
 replace hpb := hide hpb
 clear b2 lo
 go_wp2_with fail
 clear hw2
 rw [unhide hpb]
 refine (below_any base g ca ao zs 10 _ (by omega) (by omega) (by omega) C).mono ?_
 rintro e w3 ⟨k, rfl, k0, k1, c3, g3⟩
 replace C := c3
 clear c3
 have kk := kp_of g3
 have sk := kk.size
 replace LZ := LZ.kp kk (by omega)
 replace P := P.kp kk (by omega)
 have lo := World.ownsRow.lt O
 replace O := OI.kp O kk (fun j hj e => by have := (lo j hj).1; omega)
 clear lo
 replace K := K.trans kk
 clear kk g3
 have sK3 := K.size
 by_cases h0 : k = 0
 ·subst h0
  go_wp2_with fail
  refine (pickInt_lit base g ca ao zs [-1, 0, 60, 61] w3 (by omega) (by decide) (by decide) C).mono ?_
  rintro e w4 ⟨m, rfl, hm, c4, g4⟩
  have hm2 : -1 ≤ m ∧ m ≤ 61 := by simp at hm; omega
  clear hm
  replace C := c4
  clear c4
  have kk := kp_of g4
  have sk := kk.size
  replace LZ := LZ.kp kk (by omega)
  replace P := P.kp kk (by omega)
  have lo := World.ownsRow.lt O
  replace O := OI.kp O kk (fun j hj e => by have := (lo j hj).1; omega)
  clear lo
  replace K := K.trans kk
  clear kk g4
  have sK4 := K.size
  have q0 := P.cell 0 rfl
  have fq := P.frozen
  clear hv
  obtain ⟨w8, hw8⟩ : ∃ y, w4.setCell ⟨pb, 0, none⟩ (.int .i64 m) = y := ⟨_, rfl⟩
  have kwe : Kp w4 w8 (fun k => k = pb) := hw8 ▸ set_kp _ _ _ _
  have P8 : Loc w8 pb #[.int .i64 m, .string s, .slice ua ul uc] := hw8 ▸ P.set 0 _ rfl
  have LZ8 := LZ.kp kwe (by omega)
  have lo := World.ownsRow.lt O
  have O8 := OI.kp O kwe (fun j hj e => by have := unhide HP j hj; omega)
  have C8 : Cur w8 base g ao ca zs := hw8 ▸ C.set (r := pb) (by omega) 0 (.int .i64 m)
  have K8 : Kp w w8 (fun k => k = g) := ⟨kwe.os.trans K.os, kwe.tape.trans K.tape, kwe.output.trans K.output, Nat.le_trans K.size kwe.size, fun k hk hg => (kwe.block k (Nat.lt_of_lt_of_le hk K.size) (by omega)).trans (K.block k hk hg)⟩
  have z8 := kwe.size
  have q0 := P.cell 0 rfl
  have q1 := P.cell 1 rfl
  have q2 := P.cell 2 rfl
  have fq := P.frozen
  clear lo kwe P LZ O C K
  have sK := K8.size
  have hpl := P8.lt
  have p0 := P8.cell 0 rfl
  have p1 := P8.cell 1 rfl
  have p2 := P8.cell 2 rfl
  have y0 := LZ8.cell 0 rfl
  have y1 := LZ8.cell 1 rfl
  have y2 := LZ8.cell 2 rfl
  have fy := LZ8.frozen
  have K5 : Kp w8 (((w8.setCell ⟨w.heap.size + 1, 0, none⟩ (.int .i64 m)).setCell ⟨w.heap.size + 1, 1, none⟩ (.string s)).setCell ⟨w.heap.size + 1, 2, none⟩ (.slice ua ul uc)) (fun k => k = w.heap.size + 1) := ((set_kp _ _ _ _).trans (set_kp _ _ _ _)).trans (set_kp _ _ _ _)
  have O5 := hide (OI.kp O8 K5 (fun j hj e => by have := unhide HP j hj; omega))
  have C5 := hide (((C8.set (r := w.heap.size + 1) (by omega) 0 (.int .i64 m)).set (r := w.heap.size + 1) (by omega) 1 (.string s)).set (r := w.heap.size + 1) (by omega) 2 (.slice ua ul uc))
  have G5 := hide (grown_set (grown_set (grown_set (kp_to K8) (r := w.heap.size + 1) (by omega) 0 (.int .i64 m)) (r := w.heap.size + 1) (by omega) 1 (.string s)) (r := w.heap.size + 1) (by omega) 2 (.slice ua ul uc))
  clear P8 LZ8 C8 K8 O8 K5
  go_wp2
  refine bodyPost_ret (v := qv m s (.slice ua ul uc)) (by simp [results, Tryz.results86, go_sem, y0, y1, y2]) rfl ?_
  exact ⟨_, _, _, _, rfl, hm2, (by omega), (by rw [unhide hul]; omega), WX, unhide O5, unhide C5, unhide G5⟩
 ·have hk0 : (k == 0) = false := by simpa using h0
  by_cases h1 : k = 1
  ·subst h1
   clear h0
   go_wp2_with fail
   refine (drawSet base g ca ao zs 7 _ (by omega) (by omega) (by omega) C).mono ?_
   rintro e w4 ⟨u4, ys, rfl, hl4, WY, o4, c4, g4⟩
   replace C := c4
   clear c4
   have kk := kp_of g4
   have sk := kk.size
   replace LZ := LZ.kp kk (by omega)
   replace P := P.kp kk (by omega)
   replace K := K.trans kk
   clear kk g4
   have sK4 := K.size
   have lo := World.ownsRow.lt o4
   obtain ⟨va, vc, hu4⟩ := o4.form
   obtain ⟨vl, hvl⟩ : ∃ l, ys.length = l := ⟨_, rfl⟩
   replace hvl := hide hvl
   rw [unhide hvl] at hu4
   subst hu4
   have HP : Hid (∀ j, (Value.slice va vl vc).ownBlock = some j → w.heap.size + 2 ≤ j ∧ pb < j) := hide fun j hj => by have := lo j hj; omega
   replace O := o4.mono (show w.heap.size ≤ w3.heap.size by omega)
   clear o4 lo
   have q2 := P.cell 2 rfl
   have fq := P.frozen
   obtain ⟨w8, hw8⟩ : ∃ y, w4.setCell ⟨pb, 2, none⟩ (.slice va vl vc) = y := ⟨_, rfl⟩
   have kwe : Kp w4 w8 (fun k => k = pb) := hw8 ▸ set_kp _ _ _ _
   have P8 : Loc w8 pb #[.int .i64 v, .string s, .slice va vl vc] := hw8 ▸ P.set 2 _ rfl
   have LZ8 := LZ.kp kwe (by omega)
   have lo := World.ownsRow.lt O
   have O8 := OI.kp O kwe (fun j hj e => by have := unhide HP j hj; omega)
   have C8 : Cur w8 base g ao ca zs := hw8 ▸ C.set (r := pb) (by omega) 2 (.slice va vl vc)
   have K8 : Kp w w8 (fun k => k = g) := ⟨kwe.os.trans K.os, kwe.tape.trans K.tape, kwe.output.trans K.output, Nat.le_trans K.size kwe.size, fun k hk hg => (kwe.block k (Nat.lt_of_lt_of_le hk K.size) (by omega)).trans (K.block k hk hg)⟩
   have z8 := kwe.size
   have q0 := P.cell 0 rfl
   have q1 := P.cell 1 rfl
   have q2 := P.cell 2 rfl
   have fq := P.frozen
   clear lo kwe P LZ O C K
   have sK := K8.size
   have hpl := P8.lt
   have p0 := P8.cell 0 rfl
   have p1 := P8.cell 1 rfl
   have p2 := P8.cell 2 rfl
   have y0 := LZ8.cell 0 rfl
   have y1 := LZ8.cell 1 rfl
   have y2 := LZ8.cell 2 rfl
   have fy := LZ8.frozen
   have K5 : Kp w8 (((w8.setCell ⟨w.heap.size + 1, 0, none⟩ (.int .i64 v)).setCell ⟨w.heap.size + 1, 1, none⟩ (.string s)).setCell ⟨w.heap.size + 1, 2, none⟩ (.slice va vl vc)) (fun k => k = w.heap.size + 1) := ((set_kp _ _ _ _).trans (set_kp _ _ _ _)).trans (set_kp _ _ _ _)
   have O5 := hide (OI.kp O8 K5 (fun j hj e => by have := unhide HP j hj; omega))
   have C5 := hide (((C8.set (r := w.heap.size + 1) (by omega) 0 (.int .i64 v)).set (r := w.heap.size + 1) (by omega) 1 (.string s)).set (r := w.heap.size + 1) (by omega) 2 (.slice va vl vc))
   have G5 := hide (grown_set (grown_set (grown_set (kp_to K8) (r := w.heap.size + 1) (by omega) 0 (.int .i64 v)) (r := w.heap.size + 1) (by omega) 1 (.string s)) (r := w.heap.size + 1) (by omega) 2 (.slice va vl vc))
   clear P8 LZ8 C8 K8 O8 K5
   go_wp2
   refine bodyPost_ret (v := qv v s (.slice va vl vc)) (by simp [results, Tryz.results86, go_sem, y0, y1, y2]) rfl ?_
   exact ⟨_, _, _, _, rfl, hv, (by omega), hl4, WY, unhide O5, unhide C5, unhide G5⟩
  ·have hk1 : (k == 1) = false := by simpa using h1
   by_cases h2 : k = 2
   ·subst h2
    clear h0 h1
    go_wp2_with fail
    refine (drawName base g ca ao zs _ (by omega) C).mono ?_
    rintro e w4 ⟨s4, rfl, hs4, c4, g4⟩
    replace C := c4
    clear c4
    have kk := kp_of g4
    have sk := kk.size
    replace LZ := LZ.kp kk (by omega)
    replace P := P.kp kk (by omega)
    have lo := World.ownsRow.lt O
    replace O := OI.kp O kk (fun j hj e => by have := (lo j hj).1; omega)
    clear lo
    replace K := K.trans kk
    clear kk g4
    have sK4 := K.size
    have q1 := P.cell 1 rfl
    have fq := P.frozen
    obtain ⟨w8, hw8⟩ : ∃ y, w4.setCell ⟨pb, 1, none⟩ (.string s4) = y := ⟨_, rfl⟩
    have kwe : Kp w4 w8 (fun k => k = pb) := hw8 ▸ set_kp _ _ _ _
    have P8 : Loc w8 pb #[.int .i64 v, .string s4, .slice ua ul uc] := hw8 ▸ P.set 1 _ rfl
    have LZ8 := LZ.kp kwe (by omega)
    have lo := World.ownsRow.lt O
    have O8 := OI.kp O kwe (fun j hj e => by have := unhide HP j hj; omega)
    have C8 : Cur w8 base g ao ca zs := hw8 ▸ C.set (r := pb) (by omega) 1 (.string s4)
    have K8 : Kp w w8 (fun k => k = g) := ⟨kwe.os.trans K.os, kwe.tape.trans K.tape, kwe.output.trans K.output, Nat.le_trans K.size kwe.size, fun k hk hg => (kwe.block k (Nat.lt_of_lt_of_le hk K.size) (by omega)).trans (K.block k hk hg)⟩
    have z8 := kwe.size
    have q0 := P.cell 0 rfl
    have q1 := P.cell 1 rfl
    have q2 := P.cell 2 rfl
    have fq := P.frozen
    clear lo kwe P LZ O C K
    have sK := K8.size
    have hpl := P8.lt
    have p0 := P8.cell 0 rfl
    have p1 := P8.cell 1 rfl
    have p2 := P8.cell 2 rfl
    have y0 := LZ8.cell 0 rfl
    have y1 := LZ8.cell 1 rfl
    have y2 := LZ8.cell 2 rfl
    have fy := LZ8.frozen
    have K5 : Kp w8 (((w8.setCell ⟨w.heap.size + 1, 0, none⟩ (.int .i64 v)).setCell ⟨w.heap.size + 1, 1, none⟩ (.string s4)).setCell ⟨w.heap.size + 1, 2, none⟩ (.slice ua ul uc)) (fun k => k = w.heap.size + 1) := ((set_kp _ _ _ _).trans (set_kp _ _ _ _)).trans (set_kp _ _ _ _)
    have O5 := hide (OI.kp O8 K5 (fun j hj e => by have := unhide HP j hj; omega))
    have C5 := hide (((C8.set (r := w.heap.size + 1) (by omega) 0 (.int .i64 v)).set (r := w.heap.size + 1) (by omega) 1 (.string s4)).set (r := w.heap.size + 1) (by omega) 2 (.slice ua ul uc))
    have G5 := hide (grown_set (grown_set (grown_set (kp_to K8) (r := w.heap.size + 1) (by omega) 0 (.int .i64 v)) (r := w.heap.size + 1) (by omega) 1 (.string s4)) (r := w.heap.size + 1) (by omega) 2 (.slice ua ul uc))
    clear P8 LZ8 C8 K8 O8 K5
    go_wp2
    refine bodyPost_ret (v := qv v s4 (.slice ua ul uc)) (by simp [results, Tryz.results86, go_sem, y0, y1, y2]) rfl ?_
    exact ⟨_, _, _, _, rfl, hv, hs4, (by rw [unhide hul]; omega), WX, unhide O5, unhide C5, unhide G5⟩
   ·have hk2 : (k == 2) = false := by simpa using h2
    have P8 := P
    have LZ8 := LZ
    have O8 := O
    have C8 := C
    have K8 := K
    clear P LZ O C K
    have sK := K8.size
    have hpl := P8.lt
    have p0 := P8.cell 0 rfl
    have p1 := P8.cell 1 rfl
    have p2 := P8.cell 2 rfl
    have y0 := LZ8.cell 0 rfl
    have y1 := LZ8.cell 1 rfl
    have y2 := LZ8.cell 2 rfl
    have fy := LZ8.frozen
    have K5 : Kp w3 (((w3.setCell ⟨w.heap.size + 1, 0, none⟩ (.int .i64 v)).setCell ⟨w.heap.size + 1, 1, none⟩ (.string s)).setCell ⟨w.heap.size + 1, 2, none⟩ (.slice ua ul uc)) (fun k => k = w.heap.size + 1) := ((set_kp _ _ _ _).trans (set_kp _ _ _ _)).trans (set_kp _ _ _ _)
    have O5 := hide (OI.kp O8 K5 (fun j hj e => by have := unhide HP j hj; omega))
    have C5 := hide (((C8.set (r := w.heap.size + 1) (by omega) 0 (.int .i64 v)).set (r := w.heap.size + 1) (by omega) 1 (.string s)).set (r := w.heap.size + 1) (by omega) 2 (.slice ua ul uc))
    have G5 := hide (grown_set (grown_set (grown_set (kp_to K8) (r := w.heap.size + 1) (by omega) 0 (.int .i64 v)) (r := w.heap.size + 1) (by omega) 1 (.string s)) (r := w.heap.size + 1) (by omega) 2 (.slice ua ul uc))
    clear P8 LZ8 C8 K8 O8 K5
    go_wp2
    refine bodyPost_ret (v := qv v s (.slice ua ul uc)) (by simp [results, Tryz.results86, go_sem, y0, y1, y2]) rfl ?_
    exact ⟨_, _, _, _, rfl, hv, (by omega), (by rw [unhide hul]; omega), WX, unhide O5, unhide C5, unhide G5⟩

set_option maxHeartbeats 8000000 in
set_option maxRecDepth 100000 in
theorem drawPartQc (ao : Option Addr) (ca : Nat) (zs : List Int) (w : World) (h : DCode w ao zs) :
 Calls Tryz.prog 32 #[.slice ao zs.length ca] w fun e w' => ∃ (n f v : Int) (s : ByteArray) (u : Value) (xs : List Int), e = .returned (.tuple #[cv n f, qv v s u]) ∧ (4 ≤ n ∧ n ≤ 7) ∧ (1 ≤ f ∧ f ≤ 3) ∧ (-1 ≤ v ∧ v ≤ 61) ∧ s.size ≤ 8001 ∧ xs.length ≤ 9 ∧ Hid (WfL xs) ∧ OI w' w.heap.size u xs ∧ Below w.heap.size w w' := by
 obtain ⟨w0, hw0⟩ : ∃ w0, (w.alloc (.cells #[.int .i64 0, .int .i64 0] 25)).alloc (.cells #[.int .i64 0, .string ⟨#[]⟩, .slice none 0 0] 52) = w0 := ⟨_, rfl⟩
 have B : Below w.heap.size w w0 := hw0 ▸ qalloc2 _ _ _
 have R : Loc w0 w.heap.size #[.int .i64 0, .int .i64 0] := hw0 ▸ (loc_at w _ _ rfl).alloc _
 have Z : Loc w0 (w.heap.size + 1) #[.int .i64 0, .string ⟨#[]⟩, .slice none 0 0] := hw0 ▸ loc_at (w.alloc _) _ _ (by simp)
 have s0 : w.heap.size + 1 + 1 ≤ w0.heap.size := by rw [← hw0]; simp
 have D0 := h.below B (Nat.le_refl _)
 have NW := hide (new_any ao ca zs w0 D0.len D0.code D0.fit)
 clear h D0
 go_enter Tryz.func32, Tryz.ntmps32
 go_wp2_with fail
 clear hw0
 refine (unhide NW).mono ?_
 rintro e w1 ⟨rfl, C, b1⟩
 replace B := B.trans (b1.mono B.size)
 replace R := R.below b1 R.lt
 replace Z := Z.below b1 Z.lt
 have s1 := b1.size
 generalize w0.heap.size = g at *
 have hg1 := C.lt
 clear b1 NW
 go_wp2_with fail
 refine (drawConfB g g ca ao zs _ (by omega) C).mono ?_
 rintro e w2 ⟨n, f, rfl, ⟨hn0, hn1⟩, ⟨hf0, hf1⟩, c1, e1⟩
 have s2 := e1.size
 replace R := R.grown e1 (by omega)
 replace Z := Z.grown e1 (by omega)
 replace B := cur_below e1 B B.size (by omega)
 replace C := c1
 clear c1 e1
 obtain ⟨w3, hw3⟩ : ∃ y, w2.alloc (.cells #[.int .i64 n, .int .i64 f] 25) = y := ⟨_, rfl⟩
 have bb : Below w2.heap.size w2 w3 := hw3 ▸ qalloc _ _
 have X : Loc w3 w2.heap.size #[.int .i64 n, .int .i64 f] := hw3 ▸ loc_at w2 _ _ rfl
 have s3 : w2.heap.size + 1 ≤ w3.heap.size := by rw [← hw3]; simp
 replace R := R.below bb R.lt
 replace Z := Z.below bb Z.lt
 replace C := C.below (by omega) bb
 replace B := B.trans (bb.mono B.size)
 clear bb
 go_wp2_with fail
 clear hw3
 refine (once_any g g ca ao zs 2 _ (by omega) (by omega) (by omega) C).mono ?_
 rintro e w4 ⟨b, rfl, c1, e1⟩
 have s4 := e1.size
 replace R := R.grown e1 (by omega)
 replace Z := Z.grown e1 (by omega)
 replace X := X.grown e1 (by omega)
 replace B := cur_below e1 B B.size (by omega)
 replace C := c1
 clear c1 e1
 cases b
 ·go_upto_region 6 with fail
  refine wp_region_noPanic ?_
  refine wp_region_held_drew (S := fun w' => (w'.cell? ⟨w2.heap.size, 0, none⟩ = some (.int .i64 n) ∧ w'.cell? ⟨w2.heap.size, 1, none⟩ = some (.int .i64 f))) (by kernel_rfl) ⟨X.cell 0 rfl, X.cell 1 rfl⟩ (fun hHeld => ?_)
  obtain ⟨wd, hd⟩ : ∃ wd, w4.drew = wd := ⟨_, rfl⟩
  have bd : Below w4.heap.size w4 wd := hd ▸ Below.drew (Below.refl _ _)
  have sd : w4.heap.size ≤ wd.heap.size := bd.size
  replace R := R.below bd R.lt
  replace Z := Z.below bd Z.lt
  replace X := X.below bd X.lt
  replace C := C.below (by omega) bd
  replace B := B.trans (bd.mono B.size)
  rw [hd] at hHeld ⊢
  clear hd bd
  refine tk 0 24 (v := ?_) rfl (hy := .inl ⟨by rfl, ?_⟩) (h := ?_); rotate_left
  ·intro w hSw; (try dsimp only at hSw); go_simp; (try with_reducible rfl)
  simp only [pU]
  refine tk 1 25 (v := ?_) rfl (hy := .inl ⟨by rfl, ?_⟩) (h := ?_); rotate_left
  ·intro w hSw; (try dsimp only at hSw); go_simp; (try with_reducible rfl)
  simp only [pU]
  refine tk 2 26 (v := ?_) rfl (hy := .inl ⟨by rfl, ?_⟩) (h := ?_); rotate_left
  ·intro w hSw; (try dsimp only at hSw); go_simp; (try with_reducible rfl)
  simp only [pU]
  refine ready_at (i := 3) rfl (by kernel_rfl) (fun KK hKK => ?_)
  go_simp
  refine (drawPart g g ca ao zs n f _ (by omega) (by omega) C).mono ?_
  rintro e w9 ⟨v, s, u, xs, rfl, hv, hs, hl, hw, O, c1, e1⟩
  have s9 := e1.size
  replace R := R.grown e1 (by omega)
  replace Z := Z.grown e1 (by omega)
  replace X := X.grown e1 (by omega)
  replace B := cur_below e1 B B.size (by omega)
  clear c1 e1 C
  have tO := World.ownsRow.lt O
  obtain ⟨ua, uc, rfl⟩ := O.form
  obtain ⟨uk, huk⟩ : ∃ k, xs.length = k := ⟨_, rfl⟩
  rw [huk] at O tO ⊢
  clear hHeld
  refine hKK.out _ _ ⟨X.cell 0 rfl, X.cell 1 rfl⟩ (fun hHeld => ?_)
  clear hKK KK
  have c0 := R.cell 0 rfl
  have c1 := R.cell 1 rfl
  have fc := R.frozen
  refine ready_at (i := 4) rfl (by kernel_rfl) (fun KK hKK => ?_)
  go_simp
  obtain ⟨wa, hwa⟩ : ∃ y, ((w9.setCell ⟨w.heap.size, 0, none⟩ (.int .i64 n)).setCell ⟨w.heap.size, 1, none⟩ (.int .i64 f)) = y := ⟨_, rfl⟩
  have kwa : Kp w9 wa (fun k => k = w.heap.size) := hwa ▸ (set_kp _ _ _ _).trans (set_kp _ _ _ _)
  replace R : Loc wa (w.heap.size) #[.int .i64 n, .int .i64 f] := hwa ▸ ((R.set 0 _ rfl).set 1 _ rfl)
  replace Z := Z.kp kwa (by omega)
  replace X := X.kp kwa (by omega)
  replace O := O.kp kwa (fun j hj e => by have := tO j hj; omega)
  replace B := Below.kp B kwa B.size (fun k hk => by omega)
  have zwa := kwa.size
  rw [hwa]
  clear hwa kwa c0 c1 fc
  clear hHeld
  refine hKK.out _ _ ⟨X.cell 0 rfl, X.cell 1 rfl⟩ (fun hHeld => ?_)
  clear hKK KK
  have c0 := Z.cell 0 rfl
  have c1 := Z.cell 1 rfl
  have c2 := Z.cell 2 rfl
  have fc := Z.frozen
  refine ready_at (i := 5) rfl (by kernel_rfl) (fun KK hKK => ?_)
  go_simp
  obtain ⟨wb, hwb⟩ : ∃ y, (((wa.setCell ⟨w.heap.size + 1, 0, none⟩ (.int .i64 v)).setCell ⟨w.heap.size + 1, 1, none⟩ (.string s)).setCell ⟨w.heap.size + 1, 2, none⟩ (.slice ua uk uc)) = y := ⟨_, rfl⟩
  have kwb : Kp wa wb (fun k => k = w.heap.size + 1) := hwb ▸ ((set_kp _ _ _ _).trans (set_kp _ _ _ _)).trans (set_kp _ _ _ _)
  replace Z : Loc wb (w.heap.size + 1) #[.int .i64 v, .string s, .slice ua uk uc] := hwb ▸ (((Z.set 0 _ rfl).set 1 _ rfl).set 2 _ rfl)
  replace R := R.kp kwb (by omega)
  replace X := X.kp kwb (by omega)
  replace O := O.kp kwb (fun j hj e => by have := tO j hj; omega)
  replace B := Below.kp B kwb B.size (fun k hk => by omega)
  have zwb := kwb.size
  rw [hwb]
  clear hwb kwb c0 c1 c2 fc
  clear hHeld
  refine hKK.out _ _ ⟨X.cell 0 rfl, X.cell 1 rfl⟩ (fun hHeld => ?_)
  clear hKK KK
  clear hHeld
  refine wpAnyH_done (by kernel_rfl) ?_ _
  refine NoPanic.normal ?_
  have r0 := R.cell 0 rfl
  have r1 := R.cell 1 rfl
  have z0 := Z.cell 0 rfl
  have z1 := Z.cell 1 rfl
  have z2 := Z.cell 2 rfl
  clear R Z X
  go_wp2
  refine bodyPost_ret (v := .tuple #[cv n f, qv v s (.slice ua uk uc)]) (by simp [results, Tryz.results32, go_sem, r0, r1, z0, z1, z2]) rfl ?_
  exact ⟨_, _, _, _, _, xs, rfl, ⟨hn0, hn1⟩, ⟨hf0, hf1⟩, hv, hs, (by omega), hw, O.mono (by omega), B⟩
 ·have x0 := X.cell 0 rfl
  have x1 := X.cell 1 rfl
  go_wp2_with fail
  refine (drawQcV g g ca ao zs n f _ (by omega) hn0 hn1 C).mono ?_
  rintro e w5 ⟨v, s, u, xs, rfl, hv, hs, hl, hw, O, c1, e1⟩
  have s5 := e1.size
  replace R := R.grown e1 (by omega)
  replace Z := Z.grown e1 (by omega)
  replace X := X.grown e1 (by omega)
  replace B := cur_below e1 B B.size (by omega)
  replace C := c1
  clear c1 e1
  clear x0 x1
  have tO := World.ownsRow.lt O
  obtain ⟨ua, uc, rfl⟩ := O.form
  obtain ⟨uk, huk⟩ : ∃ k, xs.length = k := ⟨_, rfl⟩
  rw [huk] at O tO ⊢
  obtain ⟨w6, hw6⟩ : ∃ y, w5.alloc (.cells #[.int .i64 v, .string s, .slice ua uk uc] 28) = y := ⟨_, rfl⟩
  have bb : Below w5.heap.size w5 w6 := hw6 ▸ qalloc _ _
  have Y : Loc w6 w5.heap.size #[.int .i64 v, .string s, .slice ua uk uc] := hw6 ▸ loc_at w5 _ _ rfl
  have s6 : w5.heap.size + 1 ≤ w6.heap.size := by rw [← hw6]; simp
  replace R := R.below bb R.lt
  replace Z := Z.below bb Z.lt
  replace X := X.below bb X.lt
  replace O := O.below bb
  replace C := C.below (by omega) bb
  replace B := B.trans (bb.mono B.size)
  clear bb
  go_upto_region 5 with fail
  clear hw6
  refine wp_region_noPanic ?_
  refine wp_region_held_drew (S := fun w' => (w'.cell? ⟨w2.heap.size, 0, none⟩ = some (.int .i64 n) ∧ w'.cell? ⟨w2.heap.size, 1, none⟩ = some (.int .i64 f)) ∧ (w'.cell? ⟨w5.heap.size, 0, none⟩ = some (.int .i64 v) ∧ w'.cell? ⟨w5.heap.size, 1, none⟩ = some (.string s) ∧ w'.cell? ⟨w5.heap.size, 2, none⟩ = some (.slice ua uk uc))) (by kernel_rfl) ⟨⟨X.cell 0 rfl, X.cell 1 rfl⟩, ⟨Y.cell 0 rfl, Y.cell 1 rfl, Y.cell 2 rfl⟩⟩ (fun hHeld => ?_)
  obtain ⟨wd, hd⟩ : ∃ wd, w6.drew = wd := ⟨_, rfl⟩
  have bd : Below w6.heap.size w6 wd := hd ▸ Below.drew (Below.refl _ _)
  have sd : w6.heap.size ≤ wd.heap.size := bd.size
  replace R := R.below bd R.lt
  replace Z := Z.below bd Z.lt
  replace X := X.below bd X.lt
  replace Y := Y.below bd Y.lt
  replace O := O.below bd
  replace C := C.below (by omega) bd
  replace B := B.trans (bd.mono B.size)
  rw [hd] at hHeld ⊢
  clear hd bd
  refine tk 0 16 (v := ?_) rfl (hy := .inl ⟨by rfl, ?_⟩) (h := ?_); rotate_left
  ·intro w hSw; (try dsimp only at hSw); go_simp; (try with_reducible rfl)
  simp only [pU]
  refine tk 1 17 (v := ?_) rfl (hy := .inl ⟨by rfl, ?_⟩) (h := ?_); rotate_left
  ·intro w hSw; (try dsimp only at hSw); go_simp; (try with_reducible rfl)
  simp only [pU]
  refine tk 2 18 (v := ?_) rfl (hy := .inl ⟨by rfl, ?_⟩) (h := ?_); rotate_left
  ·intro w hSw; (try dsimp only at hSw); go_simp; (try with_reducible rfl)
  simp only [pU]
  refine tk 3 19 (v := ?_) rfl (hy := .inl ⟨by rfl, ?_⟩) (h := ?_); rotate_left
  ·intro w hSw; (try dsimp only at hSw); go_simp; (try with_reducible rfl)
  simp only [pU]
  refine tk 4 20 (v := ?_) rfl (hy := .inl ⟨by rfl, ?_⟩) (h := ?_); rotate_left
  ·intro w hSw; (try dsimp only at hSw); go_simp; (try with_reducible rfl)
  simp only [pU]
  refine tk 5 21 (v := ?_) rfl (hy := .inl ⟨by rfl, ?_⟩) (h := ?_); rotate_left
  ·intro w hSw; (try dsimp only at hSw); go_simp; (try with_reducible rfl)
  simp only [pU]
  refine tk 6 22 (v := ?_) rfl (hy := .inl ⟨by rfl, ?_⟩) (h := ?_); rotate_left
  ·intro w hSw; (try dsimp only at hSw); go_simp; (try with_reducible rfl)
  simp only [pU]
  refine tk 7 23 (v := ?_) rfl (hy := .inl ⟨by rfl, ?_⟩) (h := ?_); rotate_left
  ·intro w hSw; (try dsimp only at hSw); go_simp; (try with_reducible rfl)
  simp only [pU]
  have c0 := R.cell 0 rfl
  have c1 := R.cell 1 rfl
  have fc := R.frozen
  refine ready_at (i := 8) rfl (by kernel_rfl) (fun KK hKK => ?_)
  go_simp
  obtain ⟨wa, hwa⟩ : ∃ y, ((wd.setCell ⟨w.heap.size, 0, none⟩ (.int .i64 n)).setCell ⟨w.heap.size, 1, none⟩ (.int .i64 f)) = y := ⟨_, rfl⟩
  have kwa : Kp wd wa (fun k => k = w.heap.size) := hwa ▸ (set_kp _ _ _ _).trans (set_kp _ _ _ _)
  replace R : Loc wa (w.heap.size) #[.int .i64 n, .int .i64 f] := hwa ▸ ((R.set 0 _ rfl).set 1 _ rfl)
  replace Z := Z.kp kwa (by omega)
  replace X := X.kp kwa (by omega)
  replace Y := Y.kp kwa (by omega)
  replace O := O.kp kwa (fun j hj e => by have := tO j hj; omega)
  replace B := Below.kp B kwa B.size (fun k hk => by omega)
  have zwa := kwa.size
  rw [hwa]
  clear hwa kwa c0 c1 fc
  clear hHeld
  refine hKK.out _ _ ⟨⟨X.cell 0 rfl, X.cell 1 rfl⟩, ⟨Y.cell 0 rfl, Y.cell 1 rfl, Y.cell 2 rfl⟩⟩ (fun hHeld => ?_)
  clear hKK KK
  have c0 := Z.cell 0 rfl
  have c1 := Z.cell 1 rfl
  have c2 := Z.cell 2 rfl
  have fc := Z.frozen
  refine ready_at (i := 9) rfl (by kernel_rfl) (fun KK hKK => ?_)
  go_simp
  obtain ⟨wb, hwb⟩ : ∃ y, (((wa.setCell ⟨w.heap.size + 1, 0, none⟩ (.int .i64 v)).setCell ⟨w.heap.size + 1, 1, none⟩ (.string s)).setCell ⟨w.heap.size + 1, 2, none⟩ (.slice ua uk uc)) = y := ⟨_, rfl⟩
  have kwb : Kp wa wb (fun k => k = w.heap.size + 1) := hwb ▸ ((set_kp _ _ _ _).trans (set_kp _ _ _ _)).trans (set_kp _ _ _ _)
  replace Z : Loc wb (w.heap.size + 1) #[.int .i64 v, .string s, .slice ua uk uc] := hwb ▸ (((Z.set 0 _ rfl).set 1 _ rfl).set 2 _ rfl)
  replace R := R.kp kwb (by omega)
  replace X := X.kp kwb (by omega)
  replace Y := Y.kp kwb (by omega)
  replace O := O.kp kwb (fun j hj e => by have := tO j hj; omega)
  replace B := Below.kp B kwb B.size (fun k hk => by omega)
  have zwb := kwb.size
  rw [hwb]
  clear hwb kwb c0 c1 c2 fc
  clear hHeld
  refine hKK.out _ _ ⟨⟨X.cell 0 rfl, X.cell 1 rfl⟩, ⟨Y.cell 0 rfl, Y.cell 1 rfl, Y.cell 2 rfl⟩⟩ (fun hHeld => ?_)
  clear hKK KK
  clear hHeld
  refine wpAnyH_done (by kernel_rfl) ?_ _
  refine NoPanic.normal ?_
  have r0 := R.cell 0 rfl
  have r1 := R.cell 1 rfl
  have z0 := Z.cell 0 rfl
  have z1 := Z.cell 1 rfl
  have z2 := Z.cell 2 rfl
  clear R Z X Y C
  go_wp2
  refine bodyPost_ret (v := .tuple #[cv n f, qv v s (.slice ua uk uc)]) (by simp [results, Tryz.results32, go_sem, r0, r1, z0, z1, z2]) rfl ?_
  exact ⟨_, _, _, _, _, xs, rfl, ⟨hn0, hn1⟩, ⟨hf0, hf1⟩, hv, hs, (by omega), hw, O.mono (by omega), B⟩
end Go.Proofs.YtmpmedbojfjnaaaGreatDoor
