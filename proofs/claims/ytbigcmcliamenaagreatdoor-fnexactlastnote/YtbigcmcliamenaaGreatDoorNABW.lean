/- Texts that belong together: NoteSpecOf, NoteSpecSf. -/
import Derived.Test.YtbigcmcliamenaaGreatDoorNABV
import Derived.Test.YtbigcmcliamenaaGreatDoorNABE
import Derived.Deep.DeepCutAuto
import Derived.Laws.EntriesVeiled
namespace Go.Proofs.YtbigcmcliamenaaGreatDoor
open Go.RowKit
set_option linter.unusedSectionVars false
variable [∀ (a b c d : Int), Decidable (Ok4 a b c d)]
variable [∀ (a b c d : Nat), Decidable (okN a b c d)]
variable [∀ (last : Int) (s : St), Decidable (GoodSt last s)]
variable [∀ (x : T4), Decidable (OkT x)]
variable [∀ (n : Int) (s : List Int), Decidable (OkL n s)]
variable [∀ (n f : Int), Decidable (COk n f)]

def SQcEnd (g : Nat) (ao : Option Addr) (ca : Nat) (xs : List Int) (p : Int) (ok : Bool) (w : World) (e : Ending) (w' : World) : Prop :=
 ∃ (v : Int) (s : ByteArray) (ua : Option Addr) (uc : Nat) (ys : List Int) (q : Int) (ok' : Bool), e = .returned (qv v s (.slice ua ys.length uc)) ∧ Got ok (getQc 2147483647 xs p) ok' (v, s, ys) q ∧ s.size ≤ xs.length ∧ ys.length ≤ xs.length ∧ Stays xs p q ∧ Loc w' g #[.slice ao xs.length ca, .int .i64 q, .bool ok'] ∧ OI w' w.heap.size (.slice ua ys.length uc) ys ∧ Kp w w' (fun k => k = g)

set_option maxHeartbeats 8000000 in
set_option maxRecDepth 100000 in
theorem sQc_any (W0 : World) (g : Nat) (ao : Option Addr) (ca : Nat) (xs : List Int) (p : Int) (ok : Bool) (w : World) (hx : xs.length ≤ 1048576) (hr : RB W0 (.slice ao xs.length ca) xs) (hb : BytesL xs) (h0 : W0.heap.size ≤ g) (hB : Below W0.heap.size W0 w) (hl : Loc w g #[.slice ao xs.length ca, .int .i64 p, .bool ok]) :
 Calls Tryz.prog 59 #[.pointer (some ⟨g, 0, none⟩)] w (SQcEnd g ao ca xs p ok w) := by
 have hgw := hl.lt
 have NU := hide fun (p : Int) (ok : Bool) (w' : World) (k : Kp w w' (fun k => k = g)) hl => sNum_any W0 g ao ca xs p ok w' hr hb (Below.kp hB k hB.size (fun j e => by omega)) hl
 have TE := hide fun (p : Int) (ok : Bool) (w' : World) (k : Kp w w' (fun k => k = g)) hl => sText_any W0 g ao ca xs p ok w' hr hb (Below.kp hB k hB.size (fun j e => by omega)) hl
 have WH := hide fun (p : Int) (ok : Bool) (w' : World) (k : Kp w w' (fun k => k = g)) hl => sWho_any W0 g ao ca xs p ok w' hx hr hb h0 (Below.kp hB k hB.size (fun j e => by omega)) hl
 obtain ⟨w0, hw0⟩ : ∃ y, (w.alloc (.cells #[.int .i64 0, .string ⟨#[]⟩, .slice none 0 0] 28)).alloc (.cells #[.int .i64 0, .string ⟨#[]⟩, .slice none 0 0] 28) = y := ⟨_, rfl⟩
 have b0 : Below w.heap.size w w0 := hw0 ▸ qalloc2 _ _ _
 have LZ : Loc w0 w.heap.size #[.int .i64 0, .string ⟨#[]⟩, .slice none 0 0] := hw0 ▸ (loc_at w _ _ rfl).alloc _
 have LB : Loc w0 (w.heap.size + 1) #[.int .i64 0, .string ⟨#[]⟩, .slice none 0 0] := hw0 ▸ loc_at (w.alloc _) _ _ (by simp)
 have z0 : w.heap.size + 1 + 1 ≤ w0.heap.size := by rw [← hw0]; simp
 have KK0 : Kp w w0 (fun k => k = g) := Below.kpOf b0 _
 have LG := hl.below b0 hgw
 have H0 := hide hw0
 clear hw0 hl hr hb hB b0
 go_enter Tryz.func59, Tryz.ntmps59
 go_upto_region 2 with fail
 rw [unhide H0]
 clear H0
 have C1 := hide (unhide NU p ok w0 KK0 LG)
 clear LG
 go_wp2_with fail
 refine (unhide C1).mono ?_
 rintro e w1 ⟨v, q1, ok1, rfl, G1, hv, S1, _, LG, kC⟩
 replace LZ := LZ.kp kC (by omega)
 replace LB := LB.kp kC (by omega)
 have zw1 := kC.size
 replace KK0 := KK0.trans kC
 clear kC
 clear C1 NU
 have y0 := LB.cell 0 rfl
 have y1 := LB.cell 1 rfl
 have y2 := LB.cell 2 rfl
 have fy := LB.frozen
 go_upto_region 3 with fail
 clear fy y0 y1 y2
 obtain ⟨w1s, hw1s⟩ : ∃ y, (w1.setCell ⟨w.heap.size + 1, 0, none⟩ (.int .i64 v)) = y := ⟨_, rfl⟩
 have kS : Kp w1 w1s (fun k => k = w.heap.size + 1) := hw1s ▸ set_kp _ _ _ _
 rw [hw1s]
 replace LB : Loc w1s (w.heap.size + 1) #[.int .i64 v, .string ⟨#[]⟩, .slice none 0 0] := hw1s ▸ (LB.set 0 _ rfl)
 replace LZ := LZ.kp kS (by omega)
 replace LG := LG.kp kS (by omega)
 have zw1s := kS.size
 replace KK0 := KK0.over kS (fun j e => .inl (by omega))
 clear kS hw1s
 have C1 := hide (unhide TE q1 ok1 w1s KK0 LG)
 clear LG
 go_wp2_with fail
 refine (unhide C1).mono ?_
 rintro e w2 ⟨s, q2, ok2, rfl, G2, hs, S2, _, LG, kC⟩
 replace LZ := LZ.kp kC (by omega)
 replace LB := LB.kp kC (by omega)
 have zw2 := kC.size
 replace KK0 := KK0.trans kC
 clear kC
 clear C1 TE
 have y0 := LB.cell 0 rfl
 have y1 := LB.cell 1 rfl
 have y2 := LB.cell 2 rfl
 have fy := LB.frozen
 go_upto_region 4 with fail
 clear fy y0 y1 y2
 obtain ⟨w2s, hw2s⟩ : ∃ y, (w2.setCell ⟨w.heap.size + 1, 1, none⟩ (.string s)) = y := ⟨_, rfl⟩
 have kS : Kp w2 w2s (fun k => k = w.heap.size + 1) := hw2s ▸ set_kp _ _ _ _
 rw [hw2s]
 replace LB : Loc w2s (w.heap.size + 1) #[.int .i64 v, .string s, .slice none 0 0] := hw2s ▸ (LB.set 1 _ rfl)
 replace LZ := LZ.kp kS (by omega)
 replace LG := LG.kp kS (by omega)
 have zw2s := kS.size
 replace KK0 := KK0.over kS (fun j e => .inl (by omega))
 clear kS hw2s
 have zW := LB.lt
 have C1 := hide (unhide WH q2 ok2 w2s KK0 LG)
 clear LG
 go_wp2_with fail
 refine (unhide C1).mono ?_
 rintro e w3 ⟨u, ys, q3, ok3, rfl, G3, hl3, S3, LG, o3, kC⟩
 replace LZ := LZ.kp kC (by omega)
 replace LB := LB.kp kC (by omega)
 have to3 := World.ownsRow.lt o3
 have zw3 := kC.size
 replace KK0 := KK0.trans kC
 clear kC
 clear C1 WH
 obtain ⟨ua, uc, rfl⟩ := o3.form
 have y0 := LB.cell 0 rfl
 have y1 := LB.cell 1 rfl
 have y2 := LB.cell 2 rfl
 have fy := LB.frozen
 go_upto_region 5 with fail
 clear fy y0 y1 y2
 obtain ⟨w3s, hw3s⟩ : ∃ y, (w3.setCell ⟨w.heap.size + 1, 2, none⟩ (.slice ua ys.length uc)) = y := ⟨_, rfl⟩
 have kS : Kp w3 w3s (fun k => k = w.heap.size + 1) := hw3s ▸ set_kp _ _ _ _
 rw [hw3s]
 replace LB : Loc w3s (w.heap.size + 1) #[.int .i64 v, .string s, .slice ua ys.length uc] := hw3s ▸ (LB.set 2 _ rfl)
 replace LZ := LZ.kp kS (by omega)
 replace LG := LG.kp kS (by omega)
 replace o3 := o3.kp kS (fun j hj e => by have := to3 j hj; omega)
 have zw3s := kS.size
 replace KK0 := KK0.over kS (fun j e => .inl (by omega))
 clear kS hw3s
 have HG := hide (got_qc G1 G2 G3)
 have SS := hide ((S1.trans S2).trans S3)
 clear G1 G2 G3 S1 S2 S3 hv
 have y0 := LZ.cell 0 rfl
 have e0 := LB.cell 0 rfl
 have y1 := LZ.cell 1 rfl
 have e1 := LB.cell 1 rfl
 have y2 := LZ.cell 2 rfl
 have e2 := LB.cell 2 rfl
 have fy := LZ.frozen
 have O3 := hide o3
 have HL := hide LG
 clear o3 LG LZ LB
 go_wp2
 have K5 : Kp w3s (((w3s.setCell ⟨w.heap.size, 0, none⟩ (.int .i64 v)).setCell ⟨w.heap.size, 1, none⟩ (.string s)).setCell ⟨w.heap.size, 2, none⟩ (.slice ua ys.length uc)) (fun k => k = w.heap.size) := ((set_kp _ _ _ _).trans (set_kp _ _ _ _)).trans (set_kp _ _ _ _)
 refine bodyPost_ret (v := qv v s (.slice ua ys.length uc)) (by simp [results, Tryz.results59, go_sem, y0, y1, y2]) rfl ?_
 exact ⟨v, s, ua, uc, ys, q3, ok3, rfl, unhide HG, hs, hl3, unhide SS, (unhide HL).kp K5 (by omega), ((unhide O3).kp K5 (fun k hk e => by have := to3 k hk; omega)).mono (by omega), KK0.over K5 (fun j e => .inl (by omega))⟩

set_option maxHeartbeats 8000000 in
set_option maxRecDepth 100000 in
theorem specQcOf_any (n f : Int) (ao : Option Addr) (ca : Nat) (xs : List Int) (p : Int) (w : World) (hx : xs.length ≤ 1048576) (hr : RB w (.slice ao xs.length ca) xs) (hb : BytesL xs) (x : QcT × Int) (b : Bool) (hxx : Hid ((qcOfA 7 n f xs p).getD noQc = x ∧ (qcOfA 7 n f xs p).isSome = b)) :
 Calls Tryz.prog 23 #[cv n f, .slice ao xs.length ca, .int .i64 p] w fun e w' => ∃ u, e = .returned (.tuple #[qv x.1.1 x.1.2.1 u, .int .i64 x.2, .bool b]) ∧ OI w' w.heap.size u x.1.2.2 ∧ Below w.heap.size w w' := by
 have HX : Hid ((qcOfA 2147483647 n f xs p).getD noQc = x ∧ (qcOfA 2147483647 n f xs p).isSome = b) := by rw [qcOf_lim hb]; exact hxx
 clear hxx
 obtain ⟨w0, hw0⟩ : ∃ y, ((w.alloc (.cells #[.int .i64 n, .int .i64 f] 25)).alloc (.cells #[.int .i64 0, .string ⟨#[]⟩, .slice none 0 0] 28)).alloc (.cells #[.slice ao xs.length ca, .int .i64 p, .bool true] 86) = y := ⟨_, rfl⟩
 have B0 : Below w.heap.size w w0 := hw0 ▸ (qalloc2 _ _ _).alloc (by simp; omega) _
 have LC : Loc w0 w.heap.size #[.int .i64 n, .int .i64 f] := hw0 ▸ ((loc_at w _ _ rfl).alloc _).alloc _
 have LZ : Loc w0 (w.heap.size + 1) #[.int .i64 0, .string ⟨#[]⟩, .slice none 0 0] := hw0 ▸ (loc_at (w.alloc _) _ _ (by simp)).alloc _
 have LG : Loc w0 (w.heap.size + 1 + 1) #[.slice ao xs.length ca, .int .i64 p, .bool true] := hw0 ▸ loc_at ((w.alloc _).alloc _) _ _ (by simp)
 have z0 : w.heap.size + 1 + 1 + 1 ≤ w0.heap.size := by rw [← hw0]; simp
 have QC := hide (sQc_any w (w.heap.size + 1 + 1) ao ca xs p true w0 hx hr hb (by omega) B0 LG)
 have H0 := hide hw0
 clear LG hr hb hw0
 go_enter Tryz.func23, Tryz.ntmps23
 go_upto_region 2 with fail
 rw [unhide H0]
 clear H0
 go_wp2_with fail
 refine (unhide QC).mono ?_
 rintro e w1 ⟨v, s, ua, uc, ys, q, ok, rfl, G1, hs, hl1, S1, LG, oQ, K1⟩
 clear QC S1
 replace LC := LC.kp K1 (by omega)
 replace LZ := LZ.kp K1 (by omega)
 have B1 := Below.kp B0 K1 B0.size (fun k e => by omega)
 have z1 := K1.size
 have ltQ := World.ownsRow.lt oQ
 clear B0 K1
 go_upto_region 3 with fail
 obtain ⟨w2, hw2⟩ : ∃ y, w1.alloc (.cells #[.int .i64 v, .string s, .slice ua ys.length uc] 28) = y := ⟨_, rfl⟩
 rw [hw2]
 have b2 : Below w1.heap.size w1 w2 := hw2 ▸ conf_below _ _
 have LQ : Loc w2 w1.heap.size #[.int .i64 v, .string s, .slice ua ys.length uc] := hw2 ▸ loc_at w1 _ _ rfl
 have z2 : w1.heap.size + 1 ≤ w2.heap.size := by rw [← hw2]; simp
 clear hw2
 replace LC := LC.below b2 LC.lt
 replace LZ := LZ.below b2 LZ.lt
 replace LG := LG.below b2 LG.lt
 replace oQ := oQ.below b2
 have B2 := B1.trans (b2.mono B1.size)
 clear b2 B1
 have HR : Hid (qcOfA 2147483647 n f xs p = if (ok && qokB n f v s ys) = true then some ((v, s, ys), q) else none) := hide (qcOf_got G1)
 have QO := hide (specQcOk n f v s ua uc ys w2 (by omega) (oQ.ri (by omega)))
 generalize qokB n f v s ys = bq at *
 clear G1
 have g2 := LG.cell 2 rfl
 cases ok with
 | false =>
  clear QO LC LG
  have hx1 : x = noQc := by have h := (unhide HX).1; rw [unhide HR] at h; exact h.symm
  have hb1 : b = false := by have h := (unhide HX).2; rw [unhide HR] at h; exact h.symm
  subst hx1 hb1
  have y0 := LZ.cell 0 rfl
  have y1 := LZ.cell 1 rfl
  have y2 := LZ.cell 2 rfl
  have fy := LZ.frozen
  clear HR HX oQ LZ LQ
  go_wp2
  have K5 : Kp w2 (((w2.setCell ⟨w.heap.size + 1, 0, none⟩ (.int .i64 0)).setCell ⟨w.heap.size + 1, 1, none⟩ (.string ⟨#[]⟩)).setCell ⟨w.heap.size + 1, 2, none⟩ (.slice none 0 0)) (fun k => k = w.heap.size + 1) := ((set_kp _ _ _ _).trans (set_kp _ _ _ _)).trans (set_kp _ _ _ _)
  refine bodyPost_ret (v := .tuple #[qv 0 ⟨#[]⟩ (.slice none 0 0), .int .i64 0, .bool false]) (by simp [results, Tryz.results23, go_sem, y0, y1, y2]) rfl ?_
  exact ⟨_, rfl, World.ownsRow_nil _ _ _ _, Below.kp B2 K5 B2.size (fun k e => by omega)⟩
 | true =>
  have c0 := LC.cell 0 rfl
  have c1 := LC.cell 1 rfl
  have d0 := LQ.cell 0 rfl
  have d1 := LQ.cell 1 rfl
  have d2 := LQ.cell 2 rfl
  go_wp2_with fail
  clear c0 c1 d0 d1 d2 g2
  refine (unhide QO).mono ?_
  rintro e w3 ⟨rfl, b3⟩
  clear QO
  replace LZ := LZ.below b3 LZ.lt
  replace LG := LG.below b3 LG.lt
  replace LQ := LQ.below b3 LQ.lt
  replace oQ := oQ.below b3
  have z3 := b3.size
  have B3 := B2.trans (b3.mono B2.size)
  clear b3 B2 LC
  cases bq with
  | false =>
   clear LG
   have hx1 : x = noQc := by have h := (unhide HX).1; rw [unhide HR] at h; exact h.symm
   have hb1 : b = false := by have h := (unhide HX).2; rw [unhide HR] at h; exact h.symm
   subst hx1 hb1
   have y0 := LZ.cell 0 rfl
   have y1 := LZ.cell 1 rfl
   have y2 := LZ.cell 2 rfl
   have fy := LZ.frozen
   clear HR HX oQ LZ LQ
   go_wp2
   have K5 : Kp w3 (((w3.setCell ⟨w.heap.size + 1, 0, none⟩ (.int .i64 0)).setCell ⟨w.heap.size + 1, 1, none⟩ (.string ⟨#[]⟩)).setCell ⟨w.heap.size + 1, 2, none⟩ (.slice none 0 0)) (fun k => k = w.heap.size + 1) := ((set_kp _ _ _ _).trans (set_kp _ _ _ _)).trans (set_kp _ _ _ _)
   refine bodyPost_ret (v := .tuple #[qv 0 ⟨#[]⟩ (.slice none 0 0), .int .i64 0, .bool false]) (by simp [results, Tryz.results23, go_sem, y0, y1, y2]) rfl ?_
   exact ⟨_, rfl, World.ownsRow_nil _ _ _ _, Below.kp B3 K5 B3.size (fun k e => by omega)⟩
  | true =>
   have hx1 : x = ((v, s, ys), q) := by have h := (unhide HX).1; rw [unhide HR] at h; exact h.symm
   have hb1 : b = true := by have h := (unhide HX).2; rw [unhide HR] at h; exact h.symm
   subst hx1 hb1
   clear HR HX
   have e0 := LQ.cell 0 rfl
   have e1 := LQ.cell 1 rfl
   have e2 := LQ.cell 2 rfl
   have y0 := LZ.cell 0 rfl
   have y1 := LZ.cell 1 rfl
   have y2 := LZ.cell 2 rfl
   have fy := LZ.frozen
   have g1 := LG.cell 1 rfl
   have O5 := hide oQ
   clear oQ LQ LZ LG
   go_upto_region 5 with fail
   go_region
   have K5 : Kp w3 (((w3.setCell ⟨w.heap.size + 1, 0, none⟩ (.int .i64 v)).setCell ⟨w.heap.size + 1, 1, none⟩ (.string s)).setCell ⟨w.heap.size + 1, 2, none⟩ (.slice ua ys.length uc)) (fun k => k = w.heap.size + 1) := ((set_kp _ _ _ _).trans (set_kp _ _ _ _)).trans (set_kp _ _ _ _)
   go_wp2
   refine bodyPost_ret (v := .tuple #[qv v s (.slice ua ys.length uc), .int .i64 q, .bool true]) (by simp [results, Tryz.results23, go_sem, y0, y1, y2]) rfl ?_
   exact ⟨_, rfl, ((unhide O5).kp K5 (fun k hk e => by have := ltQ k hk; omega)).mono (by omega), Below.drew (Below.kp B3 K5 B3.size (fun k e => by omega))⟩


set_option maxHeartbeats 8000000 in
set_option maxRecDepth 100000 in
theorem specSafeOf_any (n f : Int) (ao : Option Addr) (ca : Nat) (xs : List Int) (w : World) (hx : xs.length ≤ 1048576) (hr : RB w (.slice ao xs.length ca) xs) (hb : BytesL xs) (x : SafT) (b : Bool) (hxx : Hid ((safOfA 7 n f xs).getD noSaf = x ∧ (safOfA 7 n f xs).isSome = b)) :
 Calls Tryz.prog 16 #[cv n f, .slice ao xs.length ca] w fun e w' => ∃ u, e = .returned (.tuple #[sv x.1 x.2.1 x.2.2.1.1 x.2.2.1.2.1 u x.2.2.2, .bool b]) ∧ OI w' w.heap.size u x.2.2.1.2.2 ∧ Below w.heap.size w w' := by
 have HX : Hid ((safOfA 2147483647 n f xs).getD noSaf = x ∧ (safOfA 2147483647 n f xs).isSome = b) := by rw [safOf_lim hb]; exact hxx
 clear hxx
 obtain ⟨w0, hw0⟩ : ∃ y, (((w.alloc (.cells #[.int .i64 n, .int .i64 f] 25)).alloc (.cells #[.int .i64 0, .int .i64 0, .int .i64 0, .string ⟨#[]⟩, .slice none 0 0, .string ⟨#[]⟩] 30)).alloc (.cells #[.slice ao xs.length ca, .int .i64 0, .bool true] 86)).alloc (.cells #[.int .i64 0, .int .i64 0, .int .i64 0, .string ⟨#[]⟩, .slice none 0 0, .string ⟨#[]⟩] 30) = y := ⟨_, rfl⟩
 have B0 : Below w.heap.size w w0 := hw0 ▸ ((qalloc2 _ _ _).alloc (by simp; omega) _).alloc (by simp; omega) _
 have LC : Loc w0 w.heap.size #[.int .i64 n, .int .i64 f] := hw0 ▸ (((loc_at w _ _ rfl).alloc _).alloc _).alloc _
 have LZ : Loc w0 (w.heap.size + 1) #[.int .i64 0, .int .i64 0, .int .i64 0, .string ⟨#[]⟩, .slice none 0 0, .string ⟨#[]⟩] := hw0 ▸ ((loc_at (w.alloc _) _ _ (by simp)).alloc _).alloc _
 have LG : Loc w0 (w.heap.size + 1 + 1) #[.slice ao xs.length ca, .int .i64 0, .bool true] := hw0 ▸ (loc_at ((w.alloc _).alloc _) _ _ (by simp)).alloc _
 have LB : Loc w0 (w.heap.size + 1 + 1 + 1) #[.int .i64 0, .int .i64 0, .int .i64 0, .string ⟨#[]⟩, .slice none 0 0, .string ⟨#[]⟩] := hw0 ▸ loc_at (((w.alloc _).alloc _).alloc _) _ _ (by simp)
 have z0 : w.heap.size + 1 + 1 + 1 + 1 ≤ w0.heap.size := by rw [← hw0]; simp
 have NU := hide fun (p : Int) (ok : Bool) (w' : World) (k : Below w.heap.size w w') hl => sNum_any w (w.heap.size + 1 + 1) ao ca xs p ok w' hr hb k hl
 have TE := hide fun (p : Int) (ok : Bool) (w' : World) (k : Below w.heap.size w w') hl => sText_any w (w.heap.size + 1 + 1) ao ca xs p ok w' hr hb k hl
 have QC := hide fun (p : Int) (ok : Bool) (w' : World) (k : Below w.heap.size w w') hl => sQc_any w (w.heap.size + 1 + 1) ao ca xs p ok w' hx hr hb (by omega) k hl
 have H0 := hide hw0
 clear hw0 hr hb
 go_enter Tryz.func16, Tryz.ntmps16
 go_upto_region 3 with fail
 rw [unhide H0]
 clear H0
 have C1 := hide (unhide NU 0 true w0 B0 LG)
 clear LG
 go_wp2_with fail
 refine (unhide C1).mono ?_
 rintro e w1 ⟨vo, q1, ok1, rfl, G1, hv, S1, _, LG, kC⟩
 replace LC := LC.kp kC (by omega)
 replace LZ := LZ.kp kC (by omega)
 replace LB := LB.kp kC (by omega)
 have zw1 := kC.size
 replace B0 := Below.kp B0 kC B0.size (fun j e => by omega)
 clear kC
 clear C1 hv
 have y0 := LB.cell 0 rfl
 have y1 := LB.cell 1 rfl
 have y2 := LB.cell 2 rfl
 have y3 := LB.cell 3 rfl
 have y4 := LB.cell 4 rfl
 have y5 := LB.cell 5 rfl
 have fy := LB.frozen
 go_upto_region 4 with fail
 clear fy y0 y1 y2 y3 y4 y5
 obtain ⟨w1s, hw1s⟩ : ∃ y, (w1.setCell ⟨w.heap.size + 1 + 1 + 1, 0, none⟩ (.int .i64 vo)) = y := ⟨_, rfl⟩
 have kS : Kp w1 w1s (fun k => k = w.heap.size + 1 + 1 + 1) := hw1s ▸ set_kp _ _ _ _
 rw [hw1s]
 replace LB : Loc w1s (w.heap.size + 1 + 1 + 1) #[.int .i64 vo, .int .i64 0, .int .i64 0, .string ⟨#[]⟩, .slice none 0 0, .string ⟨#[]⟩] := hw1s ▸ (LB.set 0 _ rfl)
 replace LC := LC.kp kS (by omega)
 replace LZ := LZ.kp kS (by omega)
 replace LG := LG.kp kS (by omega)
 have zw1s := kS.size
 replace B0 := Below.kp B0 kS B0.size (fun j e => by omega)
 clear kS hw1s
 have C1 := hide (unhide NU q1 ok1 w1s B0 LG)
 clear LG
 go_wp2_with fail
 refine (unhide C1).mono ?_
 rintro e w2 ⟨lo, q2, ok2, rfl, G2, hv, S2, _, LG, kC⟩
 replace LC := LC.kp kC (by omega)
 replace LZ := LZ.kp kC (by omega)
 replace LB := LB.kp kC (by omega)
 have zw2 := kC.size
 replace B0 := Below.kp B0 kC B0.size (fun j e => by omega)
 clear kC
 clear C1 hv NU
 have y0 := LB.cell 0 rfl
 have y1 := LB.cell 1 rfl
 have y2 := LB.cell 2 rfl
 have y3 := LB.cell 3 rfl
 have y4 := LB.cell 4 rfl
 have y5 := LB.cell 5 rfl
 have fy := LB.frozen
 go_upto_region 5 with fail
 clear fy y0 y1 y2 y3 y4 y5
 obtain ⟨w2s, hw2s⟩ : ∃ y, (w2.setCell ⟨w.heap.size + 1 + 1 + 1, 1, none⟩ (.int .i64 lo)) = y := ⟨_, rfl⟩
 have kS : Kp w2 w2s (fun k => k = w.heap.size + 1 + 1 + 1) := hw2s ▸ set_kp _ _ _ _
 rw [hw2s]
 replace LB : Loc w2s (w.heap.size + 1 + 1 + 1) #[.int .i64 vo, .int .i64 lo, .int .i64 0, .string ⟨#[]⟩, .slice none 0 0, .string ⟨#[]⟩] := hw2s ▸ (LB.set 1 _ rfl)
 replace LC := LC.kp kS (by omega)
 replace LZ := LZ.kp kS (by omega)
 replace LG := LG.kp kS (by omega)
 have zw2s := kS.size
 replace B0 := Below.kp B0 kS B0.size (fun j e => by omega)
 clear kS hw2s
 have zW := LB.lt
 have C1 := hide (unhide QC q2 ok2 w2s B0 LG)
 clear LG
 go_wp2_with fail
 refine (unhide C1).mono ?_
 rintro e w3 ⟨v, s, ua, uc, ys, q3, ok3, rfl, G3, hs, hl3, S3, LG, o3, kC⟩
 replace LC := LC.kp kC (by omega)
 replace LZ := LZ.kp kC (by omega)
 replace LB := LB.kp kC (by omega)
 have to3 := World.ownsRow.lt o3
 have zw3 := kC.size
 replace B0 := Below.kp B0 kC B0.size (fun j e => by omega)
 clear kC
 clear C1 QC
 have y0 := LB.cell 0 rfl
 have y1 := LB.cell 1 rfl
 have y2 := LB.cell 2 rfl
 have y3 := LB.cell 3 rfl
 have y4 := LB.cell 4 rfl
 have y5 := LB.cell 5 rfl
 have fy := LB.frozen
 go_upto_region 6 with fail
 clear fy y0 y1 y2 y3 y4 y5
 obtain ⟨w3s, hw3s⟩ : ∃ y, (((w3.setCell ⟨w.heap.size + 1 + 1 + 1, 2, none⟩ (.int .i64 v)).setCell ⟨w.heap.size + 1 + 1 + 1, 3, none⟩ (.string s)).setCell ⟨w.heap.size + 1 + 1 + 1, 4, none⟩ (.slice ua ys.length uc)) = y := ⟨_, rfl⟩
 have kS : Kp w3 w3s (fun k => k = w.heap.size + 1 + 1 + 1) := hw3s ▸ ((set_kp _ _ _ _).trans (set_kp _ _ _ _)).trans (set_kp _ _ _ _)
 rw [hw3s]
 replace LB : Loc w3s (w.heap.size + 1 + 1 + 1) #[.int .i64 vo, .int .i64 lo, .int .i64 v, .string s, .slice ua ys.length uc, .string ⟨#[]⟩] := hw3s ▸ (((LB.set 2 _ rfl).set 3 _ rfl).set 4 _ rfl)
 replace LC := LC.kp kS (by omega)
 replace LZ := LZ.kp kS (by omega)
 replace LG := LG.kp kS (by omega)
 replace o3 := o3.kp kS (fun j hj e => by have := to3 j hj; omega)
 have zw3s := kS.size
 replace B0 := Below.kp B0 kS B0.size (fun j e => by omega)
 clear kS hw3s
 have C1 := hide (unhide TE q3 ok3 w3s B0 LG)
 clear LG
 go_wp2_with fail
 refine (unhide C1).mono ?_
 rintro e w4 ⟨d, q4, ok, rfl, G4, hd, S4, _, LG, kC⟩
 replace LC := LC.kp kC (by omega)
 replace LZ := LZ.kp kC (by omega)
 replace LB := LB.kp kC (by omega)
 replace o3 := o3.kp kC (fun j hj e => by have := to3 j hj; omega)
 have zw4 := kC.size
 replace B0 := Below.kp B0 kC B0.size (fun j e => by omega)
 clear kC
 clear C1 TE
 have y0 := LB.cell 0 rfl
 have y1 := LB.cell 1 rfl
 have y2 := LB.cell 2 rfl
 have y3 := LB.cell 3 rfl
 have y4 := LB.cell 4 rfl
 have y5 := LB.cell 5 rfl
 have fy := LB.frozen
 go_upto_region 7 with fail
 clear fy y0 y1 y2 y3 y4 y5
 obtain ⟨w4s, hw4s⟩ : ∃ y, (w4.setCell ⟨w.heap.size + 1 + 1 + 1, 5, none⟩ (.string d)) = y := ⟨_, rfl⟩
 have kS : Kp w4 w4s (fun k => k = w.heap.size + 1 + 1 + 1) := hw4s ▸ set_kp _ _ _ _
 rw [hw4s]
 replace LB : Loc w4s (w.heap.size + 1 + 1 + 1) #[.int .i64 vo, .int .i64 lo, .int .i64 v, .string s, .slice ua ys.length uc, .string d] := hw4s ▸ (LB.set 5 _ rfl)
 replace LC := LC.kp kS (by omega)
 replace LZ := LZ.kp kS (by omega)
 replace LG := LG.kp kS (by omega)
 replace o3 := o3.kp kS (fun j hj e => by have := to3 j hj; omega)
 have zw4s := kS.size
 replace B0 := Below.kp B0 kS B0.size (fun j e => by omega)
 clear kS hw4s
 have HR : Hid (safOfA 2147483647 n f xs = if (ok && (sokB n f vo lo v s ys d && (q4 == (xs.length : Int)))) = true then some (vo, lo, (v, s, ys), d) else none) := hide (safOf_got (got_safe G1 G2 G3 G4))
 have QO := hide (specSafeOk n f vo lo v s ua uc ys d w4s (by omega) (by omega) (o3.ri (by omega)))
 generalize sokB n f vo lo v s ys d = bq at *
 clear G1 G2 G3 G4 S1 S2 S3 S4
 have g1 := LG.cell 1 rfl
 have g2 := LG.cell 2 rfl
 have O3 := hide o3
 clear o3 LG
 obtain ⟨be, hbe⟩ : ∃ y, (q4 == (xs.length : Int)) = y := ⟨_, rfl⟩
 rw [hbe] at HR
 have hne : (q4 != (xs.length : Int)) = !be := by rw [← hbe]; rfl
 cases ok with
 | false =>
  clear QO LC hbe hne g1
  have hx1 : x = noSaf := by have h := (unhide HX).1; rw [unhide HR] at h; exact h.symm
  have hb1 : b = false := by have h := (unhide HX).2; rw [unhide HR] at h; exact h.symm
  subst hx1 hb1
  have y0 := LZ.cell 0 rfl
  have y1 := LZ.cell 1 rfl
  have y2 := LZ.cell 2 rfl
  have y3 := LZ.cell 3 rfl
  have y4 := LZ.cell 4 rfl
  have y5 := LZ.cell 5 rfl
  have fy := LZ.frozen
  clear HR HX O3 LZ LB
  have K5 := kp6 w4s (w.heap.size + 1) (.int .i64 0) (.int .i64 0) (.int .i64 0) (.string ⟨#[]⟩) (.slice none 0 0) (.string ⟨#[]⟩)
  go_wp2
  refine bodyPost_ret (v := .tuple #[sv 0 0 0 ⟨#[]⟩ (.slice none 0 0) ⟨#[]⟩, .bool false]) (by simp [results, Tryz.results16, go_sem, y0, y1, y2, y3, y4, y5]) rfl ?_
  exact ⟨_, rfl, World.ownsRow_nil _ _ _ _, Below.kp B0 K5 B0.size (fun k e => by omega)⟩
 | true =>
  cases be with
  | false =>
   have hne' : (q4 != (xs.length : Int)) = true := hne
   rw [Bool.and_false, Bool.and_false] at HR
   clear QO LC hbe hne
   have hx1 : x = noSaf := by have h := (unhide HX).1; rw [unhide HR] at h; exact h.symm
   have hb1 : b = false := by have h := (unhide HX).2; rw [unhide HR] at h; exact h.symm
   subst hx1 hb1
   have y0 := LZ.cell 0 rfl
   have y1 := LZ.cell 1 rfl
   have y2 := LZ.cell 2 rfl
   have y3 := LZ.cell 3 rfl
   have y4 := LZ.cell 4 rfl
   have y5 := LZ.cell 5 rfl
   have fy := LZ.frozen
   clear HR HX O3 LZ LB
   have K5 := kp6 w4s (w.heap.size + 1) (.int .i64 0) (.int .i64 0) (.int .i64 0) (.string ⟨#[]⟩) (.slice none 0 0) (.string ⟨#[]⟩)
   go_wp2
   refine bodyPost_ret (v := .tuple #[sv 0 0 0 ⟨#[]⟩ (.slice none 0 0) ⟨#[]⟩, .bool false]) (by simp [results, Tryz.results16, go_sem, y0, y1, y2, y3, y4, y5]) rfl ?_
   exact ⟨_, rfl, World.ownsRow_nil _ _ _ _, Below.kp B0 K5 B0.size (fun k e => by omega)⟩
  | true =>
   have hne' : (q4 != (xs.length : Int)) = false := hne
   clear hbe hne
   have c0 := LC.cell 0 rfl
   have c1 := LC.cell 1 rfl
   have d0 := LB.cell 0 rfl
   have d1 := LB.cell 1 rfl
   have d2 := LB.cell 2 rfl
   have d3 := LB.cell 3 rfl
   have d4 := LB.cell 4 rfl
   have d5 := LB.cell 5 rfl
   go_wp2_with fail
   clear c0 c1 d0 d1 d2 d3 d4 d5 g1 g2 hne'
   refine (unhide QO).mono ?_
   rintro e w6 ⟨rfl, b6⟩
   clear QO
   replace LZ := LZ.below b6 LZ.lt
   replace LB := LB.below b6 LB.lt
   replace O3 := hide ((unhide O3).below b6)
   have z6 := b6.size
   have B6 := B0.trans (b6.mono B0.size)
   clear b6 LC
   cases bq with
   | false =>
    have hx1 : x = noSaf := by have h := (unhide HX).1; rw [unhide HR] at h; exact h.symm
    have hb1 : b = false := by have h := (unhide HX).2; rw [unhide HR] at h; exact h.symm
    subst hx1 hb1
    have y0 := LZ.cell 0 rfl
    have y1 := LZ.cell 1 rfl
    have y2 := LZ.cell 2 rfl
    have y3 := LZ.cell 3 rfl
    have y4 := LZ.cell 4 rfl
    have y5 := LZ.cell 5 rfl
    have fy := LZ.frozen
    clear HR HX O3 LZ LB
    have K5 := kp6 w6 (w.heap.size + 1) (.int .i64 0) (.int .i64 0) (.int .i64 0) (.string ⟨#[]⟩) (.slice none 0 0) (.string ⟨#[]⟩)
    go_wp2
    refine bodyPost_ret (v := .tuple #[sv 0 0 0 ⟨#[]⟩ (.slice none 0 0) ⟨#[]⟩, .bool false]) (by simp [results, Tryz.results16, go_sem, y0, y1, y2, y3, y4, y5]) rfl ?_
    exact ⟨_, rfl, World.ownsRow_nil _ _ _ _, Below.kp B6 K5 B6.size (fun k e => by omega)⟩
   | true =>
    have hx1 : x = (vo, lo, (v, s, ys), d) := by have h := (unhide HX).1; rw [unhide HR] at h; exact h.symm
    have hb1 : b = true := by have h := (unhide HX).2; rw [unhide HR] at h; exact h.symm
    subst hx1 hb1
    clear HR HX
    have e0 := LB.cell 0 rfl
    have e1 := LB.cell 1 rfl
    have e2 := LB.cell 2 rfl
    have e3 := LB.cell 3 rfl
    have e4 := LB.cell 4 rfl
    have e5 := LB.cell 5 rfl
    have y0 := LZ.cell 0 rfl
    have y1 := LZ.cell 1 rfl
    have y2 := LZ.cell 2 rfl
    have y3 := LZ.cell 3 rfl
    have y4 := LZ.cell 4 rfl
    have y5 := LZ.cell 5 rfl
    have fy := LZ.frozen
    clear LB LZ
    have K5 := kp6 w6 (w.heap.size + 1) (.int .i64 vo) (.int .i64 lo) (.int .i64 v) (.string s) (.slice ua ys.length uc) (.string d)
    go_wp2
    refine bodyPost_ret (v := .tuple #[sv vo lo v s (.slice ua ys.length uc) d, .bool true]) (by simp [results, Tryz.results16, go_sem, y0, y1, y2, y3, y4, y5]) rfl ?_
    exact ⟨_, rfl, ((unhide O3).kp K5 (fun k hk e => by have := to3 k hk; omega)).mono (by omega), Below.kp B6 K5 B6.size (fun k e => by omega)⟩
end Go.Proofs.YtbigcmcliamenaaGreatDoor
