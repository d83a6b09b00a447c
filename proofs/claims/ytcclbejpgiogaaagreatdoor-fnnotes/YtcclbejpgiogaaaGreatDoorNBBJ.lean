/- Texts that belong together: NoteQc, NoteQcOf, NoteSafeOf, ByteLaw, DrawNoteB. -/
import Derived.Test.YtcclbejpgiogaaaGreatDoorNBBI
import Derived.Test.YtcclbejpgiogaaaGreatDoorNBAV
import Derived.Deep.DeepCutAuto
import Derived.Laws.EntriesVeiled
import Derived.Test.YtcclbejpgiogaaaGreatDoorNBAA
import Derived.Test.YtcclbejpgiogaaaGreatDoorNBBH
import Derived.Test.YtcclbejpgiogaaaGreatDoorNBBE
import Derived.Test.YtcclbejpgiogaaaGreatDoorNBBF
import Derived.Test.YtcclbejpgiogaaaGreatDoorNBBG
import Derived.Test.YtcclbejpgiogaaaGreatDoorNBBC
set_option maxRecDepth 100000
set_option maxHeartbeats 32000000
namespace Go.Proofs.YtcclbejpgiogaaaGreatDoor
open Go.RowKit
set_option linter.unusedSectionVars false
variable [∀ (a b c d : Int), Decidable (Ok4 a b c d)]
variable [∀ (a b c d : Nat), Decidable (okN a b c d)]
variable [∀ (last : Int) (s : St), Decidable (GoodSt last s)]
variable [∀ (x : T4), Decidable (OkT x)]
variable [∀ (n : Int) (s : List Int), Decidable (OkL n s)]
variable [∀ (n f : Int), Decidable (COk n f)]

def QcEnd (g : Nat) (ao : Option Addr) (ca : Nat) (xs : List Int) (fr p : Int) (ok : Bool) (w : World) (e : Ending) (w' : World) : Prop :=
 ∃ (v : Int) (s : ByteArray) (ua : Option Addr) (uc : Nat) (ys : List Int) (q : Int) (ok' : Bool), e = .returned (qv v s (.slice ua ys.length uc)) ∧ Got ok (getQc 7 xs p) ok' (v, s, ys) q ∧ s.size ≤ xs.length ∧ ys.length ≤ 7 ∧ Stays xs p q ∧ Loc w' g #[.slice ao xs.length ca, .int .i64 fr, .int .i64 q, errV ok' fr] ∧ OI w' w.heap.size (.slice ua ys.length uc) ys ∧ Kp w w' (fun k => k = g)
def SafEnd (g : Nat) (ao : Option Addr) (ca : Nat) (xs : List Int) (fr p : Int) (ok : Bool) (w : World) (e : Ending) (w' : World) : Prop :=
 ∃ (vo lo v : Int) (s : ByteArray) (ua : Option Addr) (uc : Nat) (ys : List Int) (d : ByteArray) (q : Int) (ok' : Bool), e = .returned (sv vo lo v s (.slice ua ys.length uc) d) ∧ Got ok (getSafe 7 xs p) ok' (vo, lo, (v, s, ys), d) q ∧ (s.size ≤ xs.length ∧ d.size ≤ xs.length) ∧ ys.length ≤ 7 ∧ Stays xs p q ∧ Loc w' g #[.slice ao xs.length ca, .int .i64 fr, .int .i64 q, errV ok' fr] ∧ OI w' w.heap.size (.slice ua ys.length uc) ys ∧ Kp w w' (fun k => k = g)

theorem rqc_any (W0 : World) (g : Nat) (ao : Option Addr) (ca : Nat) (xs : List Int) (fr p : Int) (ok : Bool) (w : World) (hr : RB W0 (.slice ao xs.length ca) xs) (hb : Bytes xs) (hE : Env W0) (h0 : W0.heap.size ≤ g) (hB : Below W0.heap.size W0 w) (hl : Loc w g #[.slice ao xs.length ca, .int .i64 fr, .int .i64 p, errV ok fr]) :
 Calls Tryz.prog 49 #[.pointer (some ⟨g, 0, none⟩)] w (QcEnd g ao ca xs fr p ok w) := by
 have hgw := hl.lt
 obtain ⟨w0, hw0⟩ : ∃ y, w.alloc (.cells #[.int .i64 0, .string ⟨#[]⟩, .slice none 0 0] 28) = y := ⟨_, rfl⟩
 have B0 : Below w.heap.size w w0 := hw0 ▸ conf_below _ _
 have LZ : Loc w0 w.heap.size #[.int .i64 0, .string ⟨#[]⟩, .slice none 0 0] := hw0 ▸ loc_at w _ _ rfl
 have K0 : Kp w w0 (fun k => k = g) := Below.kpOf B0 _
 have z0 : w.heap.size + 1 ≤ w0.heap.size := by rw [← hw0]; simp
 have NU := hide fun (p : Int) (ok : Bool) (w' : World) (k : Kp w w' (fun k => k = g)) hl => rnum_any W0 g ao ca xs fr p ok w' hr hb hE (Below.kp hB k hB.size (fun j e => by omega)) hl
 have TE := hide fun (p : Int) (ok : Bool) (w' : World) (k : Kp w w' (fun k => k = g)) hl => rtext_any W0 g ao ca xs fr p ok w' hr hb hE (Below.kp hB k hB.size (fun j e => by omega)) hl
 have WH := hide fun (p : Int) (ok : Bool) (w' : World) (k : Kp w w' (fun k => k = g)) hl => rwho_any W0 g ao ca xs fr p ok w' hr hb hE h0 (Below.kp hB k hB.size (fun j e => by omega)) hl
 have N0 := hide (NU.out p ok w0 K0 (hl.below B0 hgw))
 clear hl hr hb hE h0 hB B0 NU
 go_enter Tryz.func49, Tryz.ntmps49
 go_wp2_with fail
 clear hw0
 refine N0.out.mono ?_
 rintro e w1 ⟨v, q1, ok1, rfl, G1, hv, S1, L1, K1⟩
 have T1 := hide (TE.out q1 ok1 w1 (K0.trans K1) L1)
 replace LZ := LZ.kp K1 (by omega)
 replace K1 := K0.trans K1
 clear N0 K0 TE L1
 go_wp2_with fail
 refine T1.out.mono ?_
 rintro e w2 ⟨s, q2, ok2, rfl, G2, hs, S2, L2, K2⟩
 have W2 := hide (WH.out q2 ok2 w2 (K1.trans K2) L2)
 replace LZ := LZ.kp K2 (by omega)
 have z2 := LZ.lt
 replace K2 := K1.trans K2
 clear T1 K1 WH L2
 go_wp2_with fail
 refine W2.out.mono ?_
 rintro e w3 ⟨u, ys, q3, ok3, rfl, G3, h7, S3, L3, o3, K3⟩
 replace LZ := LZ.kp K3 (by omega)
 have z3 := K3.size
 replace K3 := K2.trans K3
 have lt3 := World.ownsRow.lt o3
 obtain ⟨ua, uc, rfl⟩ := o3.form
 have HG := hide (got_qc G1 G2 G3)
 have O3 := hide o3
 have HL := hide L3
 have HZ := hide LZ
 have y0 := LZ.cell 0 rfl
 have y1 := LZ.cell 1 rfl
 have y2 := LZ.cell 2 rfl
 have fy := LZ.frozen
 have SS := hide ((S1.trans S2).trans S3)
 clear G1 G2 G3 o3 L3 LZ W2 K2 S1 S2 S3 hv
 go_wp2
 have K5 : Kp w3 (((w3.setCell ⟨w.heap.size, 0, none⟩ (.int .i64 v)).setCell ⟨w.heap.size, 1, none⟩ (.string s)).setCell ⟨w.heap.size, 2, none⟩ (.slice ua ys.length uc)) (fun k => k = w.heap.size) := ((set_kp _ _ _ _).trans (set_kp _ _ _ _)).trans (set_kp _ _ _ _)
 refine bodyPost_ret (v := qv v s (.slice ua ys.length uc)) (by simp [results, Tryz.results49, go_sem, y0, y1, y2]) rfl ?_
 exact ⟨v, s, ua, uc, ys, q3, ok3, rfl, HG.out, hs, h7, SS.out, HL.out.kp K5 (by omega), (O3.out.kp K5 (fun k hk e => by have := lt3 k hk; omega)).mono (by omega), K3.over K5 (fun j e => .inl (by omega))⟩

theorem rsafe_any (W0 : World) (g : Nat) (ao : Option Addr) (ca : Nat) (xs : List Int) (fr p : Int) (ok : Bool) (w : World) (hr : RB W0 (.slice ao xs.length ca) xs) (hb : Bytes xs) (hE : Env W0) (h0 : W0.heap.size ≤ g) (hB : Below W0.heap.size W0 w) (hl : Loc w g #[.slice ao xs.length ca, .int .i64 fr, .int .i64 p, errV ok fr]) :
 Calls Tryz.prog 34 #[.pointer (some ⟨g, 0, none⟩)] w (SafEnd g ao ca xs fr p ok w) := by
 have hgw := hl.lt
 obtain ⟨w0, hw0⟩ : ∃ y, w.alloc (.cells #[.int .i64 0, .int .i64 0, .int .i64 0, .string ⟨#[]⟩, .slice none 0 0, .string ⟨#[]⟩] 30) = y := ⟨_, rfl⟩
 have B0 : Below w.heap.size w w0 := hw0 ▸ conf_below _ _
 have LZ : Loc w0 w.heap.size #[.int .i64 0, .int .i64 0, .int .i64 0, .string ⟨#[]⟩, .slice none 0 0, .string ⟨#[]⟩] := hw0 ▸ loc_at w _ _ rfl
 have K0 : Kp w w0 (fun k => k = g) := Below.kpOf B0 _
 have z0 : w.heap.size + 1 ≤ w0.heap.size := by rw [← hw0]; simp
 have NU := hide fun (p : Int) (ok : Bool) (w' : World) (k : Kp w w' (fun k => k = g)) hl => rnum_any W0 g ao ca xs fr p ok w' hr hb hE (Below.kp hB k hB.size (fun j e => by omega)) hl
 have TE := hide fun (p : Int) (ok : Bool) (w' : World) (k : Kp w w' (fun k => k = g)) hl => rtext_any W0 g ao ca xs fr p ok w' hr hb hE (Below.kp hB k hB.size (fun j e => by omega)) hl
 have QC := hide fun (p : Int) (ok : Bool) (w' : World) (k : Kp w w' (fun k => k = g)) hl => rqc_any W0 g ao ca xs fr p ok w' hr hb hE h0 (Below.kp hB k hB.size (fun j e => by omega)) hl
 have N0 := hide (NU.out p ok w0 K0 (hl.below B0 hgw))
 clear hl hr hb hE h0 hB B0
 go_enter Tryz.func34, Tryz.ntmps34
 go_wp2_with fail
 clear hw0
 refine N0.out.mono ?_
 rintro e w1 ⟨vo, q1, ok1, rfl, G1, hv, S1, L1, K1⟩
 have N1 := hide (NU.out q1 ok1 w1 (K0.trans K1) L1)
 replace LZ := LZ.kp K1 (by omega)
 replace K1 := K0.trans K1
 clear N0 K0 L1 hv NU
 go_wp2_with fail
 refine N1.out.mono ?_
 rintro e w2 ⟨lo, q2, ok2, rfl, G2, hv, S2, L2, K2⟩
 have Q2 := hide (QC.out q2 ok2 w2 (K1.trans K2) L2)
 replace LZ := LZ.kp K2 (by omega)
 replace K2 := K1.trans K2
 have z2 := LZ.lt
 clear N1 K1 L2 hv QC
 go_wp2_with fail
 refine Q2.out.mono ?_
 rintro e w3 ⟨v, s, ua, uc, ys, q3, ok3, rfl, G3, hs, h7, S3, L3, o3, K3⟩
 have T3 := hide (TE.out q3 ok3 w3 (K2.trans K3) L3)
 replace LZ := LZ.kp K3 (by omega)
 replace K3 := K2.trans K3
 have lt3 := World.ownsRow.lt o3
 have z3 := K3.size
 have O3 := hide o3
 clear Q2 K2 L3 TE o3
 go_wp2_with fail
 refine T3.out.mono ?_
 rintro e w4 ⟨d, q4, ok4, rfl, G4, hd, S4, L4, K4⟩
 replace LZ := LZ.kp K4 (by omega)
 replace O3 := hide (O3.out.kp K4 (fun k hk e => by have := lt3 k hk; omega))
 have z4 := K4.size
 replace K4 := K3.trans K4
 have HG := hide (got_safe G1 G2 G3 G4)
 have HL := hide L4
 have y0 := LZ.cell 0 rfl
 have y1 := LZ.cell 1 rfl
 have y2 := LZ.cell 2 rfl
 have y3 := LZ.cell 3 rfl
 have y4 := LZ.cell 4 rfl
 have y5 := LZ.cell 5 rfl
 have fy := LZ.frozen
 have SS := hide (((S1.trans S2).trans S3).trans S4)
 have K6 := kp6 w4 w.heap.size (.int .i64 vo) (.int .i64 lo) (.int .i64 v) (.string s) (.slice ua ys.length uc) (.string d)
 clear G1 G2 G3 G4 L4 LZ T3 K3 S1 S2 S3 S4
 go_wp2
 refine bodyPost_ret (v := sv vo lo v s (.slice ua ys.length uc) d) (by simp [results, Tryz.results34, go_sem, y0, y1, y2, y3, y4, y5]) rfl ?_
 exact ⟨vo, lo, v, s, ua, uc, ys, d, q4, ok4, rfl, HG.out, ⟨hs, hd⟩, h7, SS.out, HL.out.kp K6 (by omega), (O3.out.kp K6 (fun k hk e => by have := lt3 k hk; omega)).mono (by omega), K4.over K6 (fun j e => .inl (by omega))⟩

def noQc : QcT × Int := ((0, ⟨#[]⟩, []), 0)
theorem qcOf_got {L n f : Int} {xs : List Int} {p : Int} {ok : Bool} {v : Int} {s : ByteArray} {ys : List Int} {q : Int} (h : Got true (getQc L xs p) ok (v, s, ys) q) : qcOfA L n f xs p = if (ok && qokB n f v s ys) = true then some ((v, s, ys), q) else none := by
 obtain ⟨h1, h2⟩ := h
 unfold qcOfA
 cases hg : getQc L xs p with
 | none => rw [hg] at h1; simp at h1; simp [h1]
 | some x =>
  rw [hg] at h1 h2
  simp only [Option.isSome_some, Bool.and_true] at h1
  subst h1
  obtain rfl := Option.some.inj (h2 rfl)
  simp

theorem implQcOf_any (n f : Int) (ao : Option Addr) (ca : Nat) (xs : List Int) (p : Int) (w : World) (hx : xs.length ≤ 33554432) (hr : RB w (.slice ao xs.length ca) xs) (hb : Bytes xs) (hE : Env w) (hT : EnvT w) (x : QcT × Int) (b : Bool) (hxx : Hid ((qcOfA 7 n f xs p).getD noQc = x ∧ (qcOfA 7 n f xs p).isSome = b)) :
 Calls Tryz.prog 16 #[cv n f, .slice ao xs.length ca, .int .i64 p] w fun e w' => ∃ u, e = .returned (.tuple #[qv x.1.1 x.1.2.1 u, .int .i64 x.2, .bool b]) ∧ OI w' w.heap.size u x.1.2.2 ∧ Below w.heap.size w w' := by
 obtain ⟨w9, hw9⟩ : ∃ y, (w.alloc (.cells #[.int .i64 n, .int .i64 f] 25)).alloc (.cells #[.int .i64 0, .string ⟨#[]⟩, .slice none 0 0] 28) = y := ⟨_, rfl⟩
 have z9 : w9.heap.size = w.heap.size + 1 + 1 := by rw [← hw9]; simp
 obtain ⟨w0, hw0⟩ : ∃ y, w9.alloc (.cells #[.slice ao xs.length ca, .int .i64 p, .int .i64 p, .nilIface] 62) = y := ⟨_, rfl⟩
 have B0 : Below w.heap.size w w0 := hw0 ▸ (hw9 ▸ qalloc2 _ _ _ : Below w.heap.size w w9).alloc (by omega) _
 have LC : Loc w0 w.heap.size #[.int .i64 n, .int .i64 f] := hw0 ▸ (hw9 ▸ (loc_at w _ _ rfl).alloc _ : Loc w9 w.heap.size #[.int .i64 n, .int .i64 f]).alloc _
 have LZ : Loc w0 (w.heap.size + 1) #[.int .i64 0, .string ⟨#[]⟩, .slice none 0 0] := hw0 ▸ (hw9 ▸ loc_at (w.alloc _) _ _ (by simp) : Loc w9 (w.heap.size + 1) #[.int .i64 0, .string ⟨#[]⟩, .slice none 0 0]).alloc _
 have LG : Loc w0 (w.heap.size + 1 + 1) #[.slice ao xs.length ca, .int .i64 p, .int .i64 p, errV true p] := hw0 ▸ loc_at w9 _ _ z9
 have z0 : w.heap.size + 1 + 1 + 1 ≤ w0.heap.size := by rw [← hw0]; simp; omega
 have QC := hide (rqc_any w (w.heap.size + 1 + 1) ao ca xs p p true w0 hr hb hE (by omega) B0 LG)
 have H0 := hide hw0
 clear LG hr hb hw0
 go_enter Tryz.func16, Tryz.ntmps16
 go_upto_region 2 with fail
 rw [H0.out]
 clear hw9 H0 z9
 go_wp2_with fail
 refine QC.out.mono ?_
 rintro e w1 ⟨v, s, ua, uc, ys, q, ok, rfl, G1, hs, h7, S1, LG, oQ, K1⟩
 clear QC
 replace LC := LC.kp K1 (by omega)
 replace LZ := LZ.kp K1 (by omega)
 have B1 := Below.kp B0 K1 B0.size (fun k e => by omega)
 have z1 := K1.size
 have ltQ := World.ownsRow.lt oQ
 clear B0 K1
 go_upto_region 3 with fail
 obtain ⟨w2, hw2⟩ : ∃ y, w1.alloc (.cells #[.int .i64 v, .string s, .slice ua ys.length uc] 28) = y := ⟨_, rfl⟩
 rw [hw2]
 have b2 : Below w1.heap.size w1 w2 := hw2 ▸ conf_below _ _
 have LQ : Loc w2 w1.heap.size #[.int .i64 v, .string s, .slice ua ys.length uc] := hw2 ▸ loc_at w1 _ _ rfl
 have z2 : w1.heap.size + 1 ≤ w2.heap.size := by rw [← hw2]; simp
 clear hw2
 replace LC := LC.up b2
 replace LZ := LZ.up b2
 replace LG := LG.up b2
 replace oQ := oQ.below b2
 have B2 := bu B1 b2
 clear b2 B1
 have HR : Hid (qcOfA 7 n f xs p = if (ok && qokB n f v s ys) = true then some ((v, s, ys), q) else none) := hide (qcOf_got G1)
 have QO := hide (implQcOk n f v s ua uc ys w2 (by omega) (hE.below B2) (oQ.ri (by omega)))
 generalize qokB n f v s ys = bq at *
 have c0 := LC.cell 0 rfl
 have c1 := LC.cell 1 rfl
 have d0 := LQ.cell 0 rfl
 have d1 := LQ.cell 1 rfl
 have d2 := LQ.cell 2 rfl
 go_wp2_with fail
 clear c0 c1 d0 d1 d2
 refine QO.out.mono ?_
 rintro e w3 ⟨rfl, b3⟩
 clear QO
 replace LZ := LZ.up b3
 replace LG := LG.up b3
 replace LQ := LQ.up b3
 replace oQ := oQ.below b3
 have z3 := b3.size
 have B3 := bu B2 b3
 clear b3 B2 LC
 go_wp2_with fail
 refine (must_any (w.heap.size + 1 + 1) _ p q ok bq w3 LG).mono ?_
 rintro e w4 ⟨rfl, LG4, K4⟩
 replace LZ := LZ.kp K4 (by omega)
 replace LQ := LQ.kp K4 (by omega)
 replace oQ := oQ.kp K4 (fun k hk e => by have := ltQ k hk; omega)
 have z4 := K4.size
 have B4 := Below.kp B3 K4 B3.size (fun k e => by omega)
 clear B3 K4 LG
 generalize (ok && bq) = okf at *
 have LA := hide (lacks_any (w.heap.size + 1 + 1) _ p q okf w4 (hT.below B4) LG4)
 go_wp2_with fail
 refine LA.out.mono ?_
 rintro e w5 ⟨rfl, b5⟩
 clear LA
 replace LZ := LZ.up b5
 replace LQ := LQ.up b5
 replace LG4 := LG4.up b5
 replace oQ := oQ.below b5
 have z5 := b5.size
 have B5 := bu B4 b5
 clear b5 B4 G1 S1 hE hT
 have e0 := LQ.cell 0 rfl
 have e1 := LQ.cell 1 rfl
 have e2 := LQ.cell 2 rfl
 have y0 := LZ.cell 0 rfl
 have y1 := LZ.cell 1 rfl
 have y2 := LZ.cell 2 rfl
 have fy := LZ.frozen
 have g2 := LG4.cell 2 rfl
 have O5 := hide oQ
 clear oQ LQ LZ LG4
 cases okf with
 | true =>
  have hx1 : x = ((v, s, ys), q) := by have h := hxx.out.1; rw [HR.out] at h; exact h.symm
  have hb1 : b = true := by have h := hxx.out.2; rw [HR.out] at h; exact h.symm
  subst hx1 hb1
  clear HR hxx
  go_upto_region 7 with fail
  go_region
  have K5 : Kp w5 (((w5.setCell ⟨w.heap.size + 1, 0, none⟩ (.int .i64 v)).setCell ⟨w.heap.size + 1, 1, none⟩ (.string s)).setCell ⟨w.heap.size + 1, 2, none⟩ (.slice ua ys.length uc)) (fun k => k = w.heap.size + 1) := ((set_kp _ _ _ _).trans (set_kp _ _ _ _)).trans (set_kp _ _ _ _)
  go_wp2
  refine bodyPost_ret (v := .tuple #[qv v s (.slice ua ys.length uc), .int .i64 q, .bool true]) (by simp [results, Tryz.results16, go_sem, y0, y1, y2]) rfl ?_
  exact ⟨_, rfl, (O5.out.kp K5 (fun k hk e => by have := ltQ k hk; omega)).mono (by omega), Below.drew (Below.kp B5 K5 B5.size (fun k e => by omega))⟩
 | false =>
  have hx1 : x = noQc := by have h := hxx.out.1; rw [HR.out] at h; exact h.symm
  have hb1 : b = false := by have h := hxx.out.2; rw [HR.out] at h; exact h.symm
  subst hx1 hb1
  clear HR hxx O5
  go_wp2
  have K5 : Kp w5 (((w5.setCell ⟨w.heap.size + 1, 0, none⟩ (.int .i64 0)).setCell ⟨w.heap.size + 1, 1, none⟩ (.string ⟨#[]⟩)).setCell ⟨w.heap.size + 1, 2, none⟩ (.slice none 0 0)) (fun k => k = w.heap.size + 1) := ((set_kp _ _ _ _).trans (set_kp _ _ _ _)).trans (set_kp _ _ _ _)
  refine bodyPost_ret (v := .tuple #[qv 0 ⟨#[]⟩ (.slice none 0 0), .int .i64 0, .bool false]) (by simp [results, Tryz.results16, go_sem, y0, y1, y2]) rfl ?_
  exact ⟨_, rfl, World.ownsRow_nil _ _ _ _, Below.kp B5 K5 B5.size (fun k e => by omega)⟩

def noSaf : SafT := (0, 0, (0, ⟨#[]⟩, []), ⟨#[]⟩)
theorem safOf_got {L n f : Int} {xs : List Int} {ok : Bool} {t : SafT} {q : Int} (h : Got true (getSafe L xs 0) ok t q) : safOfA L n f xs = if (ok && (sokT n f t && (q == (xs.length : Int)))) = true then some t else none := by
 obtain ⟨h1, h2⟩ := h
 unfold safOfA
 cases hg : getSafe L xs 0 with
 | none => rw [hg] at h1; simp at h1; simp [h1]
 | some x =>
  rw [hg] at h1 h2
  simp only [Option.isSome_some, Bool.and_true] at h1
  subst h1
  obtain rfl := Option.some.inj (h2 rfl)
  simp

theorem implSafeOf_any (n f : Int) (ao : Option Addr) (ca : Nat) (xs : List Int) (w : World) (hx : xs.length ≤ 33554432) (hr : RB w (.slice ao xs.length ca) xs) (hb : Bytes xs) (hE : Env w) (hT : EnvT w) (x : SafT) (b : Bool) (hxx : Hid ((safOfA 7 n f xs).getD noSaf = x ∧ (safOfA 7 n f xs).isSome = b)) :
 Calls Tryz.prog 9 #[cv n f, .slice ao xs.length ca] w fun e w' => ∃ u, e = .returned (.tuple #[sv x.1 x.2.1 x.2.2.1.1 x.2.2.1.2.1 u x.2.2.2, .bool b]) ∧ OI w' w.heap.size u x.2.2.1.2.2 ∧ Below w.heap.size w w' := by
 obtain ⟨w9, hw9⟩ : ∃ y, (w.alloc (.cells #[.int .i64 n, .int .i64 f] 25)).alloc (.cells #[.int .i64 0, .int .i64 0, .int .i64 0, .string ⟨#[]⟩, .slice none 0 0, .string ⟨#[]⟩] 30) = y := ⟨_, rfl⟩
 have z9 : w9.heap.size = w.heap.size + 1 + 1 := by rw [← hw9]; simp
 obtain ⟨w0, hw0⟩ : ∃ y, w9.alloc (.cells #[.slice ao xs.length ca, .int .i64 0, .int .i64 0, .nilIface] 62) = y := ⟨_, rfl⟩
 have B0 : Below w.heap.size w w0 := hw0 ▸ (hw9 ▸ qalloc2 _ _ _ : Below w.heap.size w w9).alloc (by omega) _
 have LC : Loc w0 w.heap.size #[.int .i64 n, .int .i64 f] := hw0 ▸ (hw9 ▸ (loc_at w _ _ rfl).alloc _ : Loc w9 w.heap.size #[.int .i64 n, .int .i64 f]).alloc _
 have LZ : Loc w0 (w.heap.size + 1) #[.int .i64 0, .int .i64 0, .int .i64 0, .string ⟨#[]⟩, .slice none 0 0, .string ⟨#[]⟩] := hw0 ▸ (hw9 ▸ loc_at (w.alloc _) _ _ (by simp) : Loc w9 (w.heap.size + 1) #[.int .i64 0, .int .i64 0, .int .i64 0, .string ⟨#[]⟩, .slice none 0 0, .string ⟨#[]⟩]).alloc _
 have LG : Loc w0 (w.heap.size + 1 + 1) #[.slice ao xs.length ca, .int .i64 0, .int .i64 0, errV true 0] := hw0 ▸ loc_at w9 _ _ z9
 have z0 : w.heap.size + 1 + 1 + 1 ≤ w0.heap.size := by rw [← hw0]; simp; omega
 have QC := hide (rsafe_any w (w.heap.size + 1 + 1) ao ca xs 0 0 true w0 hr hb hE (by omega) B0 LG)
 have H0 := hide hw0
 clear LG hr hb hw0
 go_enter Tryz.func9, Tryz.ntmps9
 go_upto_region 2 with fail
 rw [H0.out]
 clear hw9 H0 z9
 go_wp2_with fail
 refine QC.out.mono ?_
 rintro e w1 ⟨vo, lo, v, s, ua, uc, ys, d, q, ok, rfl, G1, ⟨hs, hd⟩, h7, S1, LG, oQ, K1⟩
 clear QC
 replace LC := LC.kp K1 (by omega)
 replace LZ := LZ.kp K1 (by omega)
 have B1 := Below.kp B0 K1 B0.size (fun k e => by omega)
 have z1 := K1.size
 have ltQ := World.ownsRow.lt oQ
 clear B0 K1
 go_upto_region 3 with fail
 obtain ⟨w2, hw2⟩ : ∃ y, w1.alloc (.cells #[.int .i64 vo, .int .i64 lo, .int .i64 v, .string s, .slice ua ys.length uc, .string d] 30) = y := ⟨_, rfl⟩
 rw [hw2]
 have b2 : Below w1.heap.size w1 w2 := hw2 ▸ conf_below _ _
 have LQ : Loc w2 w1.heap.size #[.int .i64 vo, .int .i64 lo, .int .i64 v, .string s, .slice ua ys.length uc, .string d] := hw2 ▸ loc_at w1 _ _ rfl
 have z2 : w1.heap.size + 1 ≤ w2.heap.size := by rw [← hw2]; simp
 clear hw2
 replace LC := LC.up b2
 replace LZ := LZ.up b2
 replace LG := LG.up b2
 replace oQ := oQ.below b2
 have B2 := bu B1 b2
 clear b2 B1
 have HR : Hid (safOfA 7 n f xs = if (ok && (sokB n f vo lo v s ys d && (q == (xs.length : Int)))) = true then some (vo, lo, (v, s, ys), d) else none) := hide (safOf_got G1)
 have QO := hide (implSafeOk n f vo lo v s ua uc ys d w2 (by omega) (by omega) (hE.below B2) (oQ.ri (by omega)))
 generalize sokB n f vo lo v s ys d = bq at *
 have c0 := LC.cell 0 rfl
 have c1 := LC.cell 1 rfl
 have d0 := LQ.cell 0 rfl
 have d1 := LQ.cell 1 rfl
 have d2 := LQ.cell 2 rfl
 have d3 := LQ.cell 3 rfl
 have d4 := LQ.cell 4 rfl
 have d5 := LQ.cell 5 rfl
 go_wp2_with fail
 clear c0 c1 d0 d1 d2 d3 d4 d5
 refine QO.out.mono ?_
 rintro e w3 ⟨rfl, b3⟩
 clear QO
 replace LZ := LZ.up b3
 replace LG := LG.up b3
 replace LQ := LQ.up b3
 replace oQ := oQ.below b3
 have z3 := b3.size
 have B3 := bu B2 b3
 clear b3 B2 LC
 have g2 := LG.cell 2 rfl
 obtain ⟨be, hbe⟩ : ∃ y, (q == (xs.length : Int)) = y := ⟨_, rfl⟩
 rw [hbe] at HR
 clear G1 S1 hE
 cases bq with
 | true =>
  rw [Bool.true_and] at HR
  go_wp2_with fail
  refine (must_any (w.heap.size + 1 + 1) _ 0 q ok be w3 LG).mono ?_
  rintro e w4 ⟨rfl, LG4, K4⟩
  replace LZ := LZ.kp K4 (by omega)
  replace LQ := LQ.kp K4 (by omega)
  replace oQ := oQ.kp K4 (fun k hk e => by have := ltQ k hk; omega)
  have z4 := K4.size
  have B4 := Below.kp B3 K4 B3.size (fun k e => by omega)
  clear B3 K4 LG g2 hbe
  generalize (ok && be) = okf at *
  have LA := hide (lacks_any (w.heap.size + 1 + 1) _ 0 q okf w4 (hT.below B4) LG4)
  go_wp2_with fail
  refine LA.out.mono ?_
  rintro e w5 ⟨rfl, b5⟩
  clear LA
  replace LZ := LZ.up b5
  replace LQ := LQ.up b5
  replace oQ := oQ.below b5
  have z5 := b5.size
  have B5 := bu B4 b5
  clear b5 B4 LG4
  have e0 := LQ.cell 0 rfl
  have e1 := LQ.cell 1 rfl
  have e2 := LQ.cell 2 rfl
  have e3 := LQ.cell 3 rfl
  have e4 := LQ.cell 4 rfl
  have e5 := LQ.cell 5 rfl
  have y0 := LZ.cell 0 rfl
  have y1 := LZ.cell 1 rfl
  have y2 := LZ.cell 2 rfl
  have y3 := LZ.cell 3 rfl
  have y4 := LZ.cell 4 rfl
  have y5 := LZ.cell 5 rfl
  have fy := LZ.frozen
  have O5 := hide oQ
  clear oQ LQ LZ
  cases okf with
  | true =>
   have hx1 : x = (vo, lo, (v, s, ys), d) := by have h := hxx.out.1; rw [HR.out] at h; exact h.symm
   have hb1 : b = true := by have h := hxx.out.2; rw [HR.out] at h; exact h.symm
   subst hx1 hb1
   clear HR hxx
   have K5 := kp6 w5 (w.heap.size + 1) (.int .i64 vo) (.int .i64 lo) (.int .i64 v) (.string s) (.slice ua ys.length uc) (.string d)
   go_wp2
   refine bodyPost_ret (v := .tuple #[sv vo lo v s (.slice ua ys.length uc) d, .bool true]) (by simp [results, Tryz.results9, go_sem, y0, y1, y2, y3, y4, y5]) rfl ?_
   exact ⟨_, rfl, (O5.out.kp K5 (fun k hk e => by have := ltQ k hk; omega)).mono (by omega), Below.kp B5 K5 B5.size (fun k e => by omega)⟩
  | false =>
   have hx1 : x = noSaf := by have h := hxx.out.1; rw [HR.out] at h; exact h.symm
   have hb1 : b = false := by have h := hxx.out.2; rw [HR.out] at h; exact h.symm
   subst hx1 hb1
   clear HR hxx O5
   have K5 := kp6 w5 (w.heap.size + 1) (.int .i64 0) (.int .i64 0) (.int .i64 0) (.string ⟨#[]⟩) (.slice none 0 0) (.string ⟨#[]⟩)
   go_wp2
   refine bodyPost_ret (v := .tuple #[sv 0 0 0 ⟨#[]⟩ (.slice none 0 0) ⟨#[]⟩, .bool false]) (by simp [results, Tryz.results9, go_sem, y0, y1, y2, y3, y4, y5]) rfl ?_
   exact ⟨_, rfl, World.ownsRow_nil _ _ _ _, Below.kp B5 K5 B5.size (fun k e => by omega)⟩
 | false =>
  rw [Bool.false_and] at HR
  clear hbe
  go_wp2_with fail
  refine (must_any (w.heap.size + 1 + 1) _ 0 q ok false w3 LG).mono ?_
  rintro e w4 ⟨rfl, LG4, K4⟩
  replace LZ := LZ.kp K4 (by omega)
  replace LQ := LQ.kp K4 (by omega)
  replace oQ := oQ.kp K4 (fun k hk e => by have := ltQ k hk; omega)
  have z4 := K4.size
  have B4 := Below.kp B3 K4 B3.size (fun k e => by omega)
  clear B3 K4 LG g2
  generalize (ok && false) = okf at *
  have LA := hide (lacks_any (w.heap.size + 1 + 1) _ 0 q okf w4 (hT.below B4) LG4)
  go_wp2_with fail
  refine LA.out.mono ?_
  rintro e w5 ⟨rfl, b5⟩
  clear LA
  replace LZ := LZ.up b5
  replace LQ := LQ.up b5
  replace oQ := oQ.below b5
  have z5 := b5.size
  have B5 := bu B4 b5
  clear b5 B4 LG4
  have e0 := LQ.cell 0 rfl
  have e1 := LQ.cell 1 rfl
  have e2 := LQ.cell 2 rfl
  have e3 := LQ.cell 3 rfl
  have e4 := LQ.cell 4 rfl
  have e5 := LQ.cell 5 rfl
  have y0 := LZ.cell 0 rfl
  have y1 := LZ.cell 1 rfl
  have y2 := LZ.cell 2 rfl
  have y3 := LZ.cell 3 rfl
  have y4 := LZ.cell 4 rfl
  have y5 := LZ.cell 5 rfl
  have fy := LZ.frozen
  have O5 := hide oQ
  clear oQ LQ LZ
  cases okf with
  | true =>
   have hx1 : x = (vo, lo, (v, s, ys), d) := by have h := hxx.out.1; rw [HR.out] at h; exact h.symm
   have hb1 : b = true := by have h := hxx.out.2; rw [HR.out] at h; exact h.symm
   subst hx1 hb1
   clear HR hxx
   have K5 := kp6 w5 (w.heap.size + 1) (.int .i64 vo) (.int .i64 lo) (.int .i64 v) (.string s) (.slice ua ys.length uc) (.string d)
   go_wp2
   refine bodyPost_ret (v := .tuple #[sv vo lo v s (.slice ua ys.length uc) d, .bool true]) (by simp [results, Tryz.results9, go_sem, y0, y1, y2, y3, y4, y5]) rfl ?_
   exact ⟨_, rfl, (O5.out.kp K5 (fun k hk e => by have := ltQ k hk; omega)).mono (by omega), Below.kp B5 K5 B5.size (fun k e => by omega)⟩
  | false =>
   have hx1 : x = noSaf := by have h := hxx.out.1; rw [HR.out] at h; exact h.symm
   have hb1 : b = false := by have h := hxx.out.2; rw [HR.out] at h; exact h.symm
   subst hx1 hb1
   clear HR hxx O5
   have K5 := kp6 w5 (w.heap.size + 1) (.int .i64 0) (.int .i64 0) (.int .i64 0) (.string ⟨#[]⟩) (.slice none 0 0) (.string ⟨#[]⟩)
   go_wp2
   refine bodyPost_ret (v := .tuple #[sv 0 0 0 ⟨#[]⟩ (.slice none 0 0) ⟨#[]⟩, .bool false]) (by simp [results, Tryz.results9, go_sem, y0, y1, y2, y3, y4, y5]) rfl ?_
   exact ⟨_, rfl, World.ownsRow_nil _ _ _ _, Below.kp B5 K5 B5.size (fun k e => by omega)⟩

theorem qcB_len (n f v : Int) (s : ByteArray) (ys : List Int) : (qcB n f v s ys).length ≤ 5000 := by
 unfold qcB
 split
 ·rename_i h
  obtain ⟨_, a, b, _⟩ := qok_small h
  have := qcRaw_len v s ys
  omega
 ·simp
theorem safB_len (n f vo lo v : Int) (s : ByteArray) (ys : List Int) (d : ByteArray) : (safB n f vo lo v s ys d).length ≤ 5000 := by
 unfold safB
 split
 ·rename_i h
  have := rawT_len (n := n) (f := f) (t := (vo, lo, (v, s, ys), d)) h
  exact Nat.le_trans this (by omega)
 ·simp
theorem notB_len (n f vo lo v : Int) (s : ByteArray) (ys : List Int) (d : ByteArray) : (notB n f vo lo v s ys d).length ≤ 5000 := by
 unfold notB
 split
 ·rename_i h
  have := rawT_len (n := n) (f := f) (t := (vo, lo, (v, s, ys), d)) h
  unfold noteT
  rw [List.length_append, List.length_append]
  have := putAns_len ((rawT (vo, lo, (v, s, ys), d)).length : Int)
  simp only [List.length_cons, List.length_nil]
  omega
 ·simp
theorem qcOf_small {xs : List Int} (hb : BytesL xs) (n f p : Int) : ((qcOfA 7 n f xs p).getD noQc).1.2.2.length ≤ 7 := by
 cases h : qcOfA 7 n f xs p with
 | none => exact Nat.zero_le _
 | some x =>
  obtain ⟨⟨v, s, ys⟩, q⟩ := x
  exact (qok_small ((qcOf_iff hb 7 (by omega) (by omega) n f p v s ys q).1 h).1).2.2.1
theorem safOf_small {xs : List Int} (hb : BytesL xs) (n f : Int) : ((safOfA 7 n f xs).getD noSaf).2.2.1.2.2.length ≤ 7 := by
 cases h : safOfA 7 n f xs with
 | none => exact Nat.zero_le _
 | some t => exact (sok_small ((safOf_iff hb 7 (by omega) (by omega) n f t).1 h).1).2.2.1.2.2.1
theorem lastA_small {xs : List Int} (hb : BytesL xs) (n f : Int) : (lastA n f xs).1.2.2.1.2.2.length ≤ 7 := by
 have h := (lastN_end hb n f (xs.length + 1) 0 newT (by omega) (by omega) (by omega)).2.2.2.2
 rcases h with h | h
 ·unfold lastA; rw [h]; exact Nat.zero_le _
 ·exact (sok_small h).2.2.1.2.2.1
end Go.Proofs.YtcclbejpgiogaaaGreatDoor
namespace Go.Proofs.YtcclbejpgiogaaaGreatDoor
open Go.RowKit
set_option linter.unusedSectionVars false
variable [∀ (a b c d : Int), Decidable (Ok4 a b c d)]
variable [∀ (a b c d : Nat), Decidable (okN a b c d)]
variable [∀ (x : T4), Decidable (OkT x)]
variable [∀ (last : Int) (s : St), Decidable (GoodSt last s)]
variable [∀ (n : Int) (s : List Int), Decidable (OkL n s)]
variable [∀ (n f : Int), Decidable (COk n f)]
variable [∀ (ts : List T4), Decidable (AllOk ts)]

theorem qcB_bytes (n f v : Int) (s : ByteArray) (ys : List Int) : BytesL (qcB n f v s ys) := by
 unfold qcB
 split
 ·rename_i h
  obtain ⟨h3, h4, h5, h6⟩ := qok_small h
  have hp : ∀ m : Int, 0 ≤ m ∧ m ≤ 2147483647 → BytesL (putAns m) := by
   rintro m ⟨a, b⟩
   obtain ⟨k, rfl⟩ := Int.eq_ofNat_of_zero_le a
   rw [putAns_yes k (by omega)]
   exact put_bytes 4 k (by omega)
  have ht : ∀ s : ByteArray, s.size ≤ 1920 → BytesL (textAns s) := by
   intro s hs
   unfold textAns
   exact (put_bytes 4 _ (by omega)).append (bs_bytes s)
  have hf : ∀ ys : List Int, Nums ys → BytesL (flatP ys) := by
   intro ys hy
   induction ys with
   | nil => exact bytes_nil
   | cons y ys ih => rw [flatP_cons]; exact (hp y (hy y (by simp))).append (ih fun z hz => hy z (by simp [hz]))
  unfold qcRaw whoRaw
  exact ((hp _ (by omega)).append (ht _ h4)).append ((hp _ (by omega)).append (hf _ h6))
 ·exact bytes_nil
theorem safB_bytes (n f vo lo v : Int) (s : ByteArray) (ys : List Int) (d : ByteArray) : BytesL (safB n f vo lo v s ys d) := by
 unfold safB
 split
 ·rename_i h
  exact rawT_bytes (n := n) (f := f) (t := (vo, lo, (v, s, ys), d)) h
 ·exact bytes_nil
theorem notB_bytes (n f vo lo v : Int) (s : ByteArray) (ys : List Int) (d : ByteArray) : BytesL (notB n f vo lo v s ys d) := by
 unfold notB
 split
 ·rename_i h
  exact noteT_bytes (n := n) (f := f) (t := (vo, lo, (v, s, ys), d)) h
 ·exact bytes_nil

set_option linter.unusedSimpArgs false in
theorem drawSafeOf (ao : Option Addr) (ca : Nat) (zs : List Int) (w : World) (h : DCode w ao zs) :
 Calls Tryz.prog 8 #[.slice ao zs.length ca] w fun e w' => ∃ (n f : Int) (t : Value) (ys : List Int), e = .returned (.tuple #[cv n f, t]) ∧ (4 ≤ n ∧ n ≤ 7) ∧ BytesL ys ∧ ys.length ≤ 100000 ∧ RB w' t ys ∧ Below w.heap.size w w' := by
 obtain ⟨w0, hw0⟩ : ∃ w0, w.alloc (.cells #[.int .i64 0, .int .i64 0] 25) = w0 := ⟨_, rfl⟩
 have B : Below w.heap.size w w0 := hw0 ▸ qalloc _ _
 have R : Loc w0 w.heap.size #[.int .i64 0, .int .i64 0] := hw0 ▸ loc_at w _ _ rfl
 have s0 : w.heap.size + 1 ≤ w0.heap.size := by rw [← hw0]; simp
 have D0 := h.below B
 have NW := hide (new_any ao ca zs w0 D0.len D0.code D0.fit)
 clear h D0
 go_enter Tryz.func8, Tryz.ntmps8
 go_wp2_with fail
 clear hw0
 refine NW.out.mono ?_
 rintro e w1 ⟨rfl, C, b1⟩
 replace B := bu B b1
 replace R := R.up b1
 have s1 := b1.size
 generalize w0.heap.size = g at *
 have hg1 := C.lt
 clear b1 NW
 go_wp2_with fail
 refine (drawConf g g ca ao zs _ (by omega) C).mono ?_
 rintro e w2 ⟨n, f, rfl, ⟨hn0, hn1⟩, c1, e1⟩
 have s2 := e1.size
 replace R := R.grown e1 (by omega)
 replace B := cur_below e1 B B.size (by omega)
 replace C := c1
 clear c1 e1
 obtain ⟨w3, hw3⟩ : ∃ y, w2.alloc (.cells #[.int .i64 n, .int .i64 f] 25) = y := ⟨_, rfl⟩
 have bb : Below w2.heap.size w2 w3 := hw3 ▸ qalloc _ _
 have X : Loc w3 w2.heap.size #[.int .i64 n, .int .i64 f] := hw3 ▸ loc_at w2 _ _ rfl
 have s3 : w2.heap.size + 1 ≤ w3.heap.size := by rw [← hw3]; simp
 replace R := R.up bb
 replace C := C.below (by omega) bb
 replace B := bu B bb
 clear bb
 go_upto_region 3 with fail
 clear hw3
 refine wp_region_noPanic ?_
 refine wp_region_held_drew (S := fun w' => (w'.cell? ⟨w2.heap.size, 0, none⟩ = some (.int .i64 n) ∧ w'.cell? ⟨w2.heap.size, 1, none⟩ = some (.int .i64 f))) (by kernel_rfl) ⟨X.cell 0 rfl, X.cell 1 rfl⟩ (fun hHeld => ?_)
 obtain ⟨wd, hd⟩ : ∃ wd, w3.drew = wd := ⟨_, rfl⟩
 have bd : Below w3.heap.size w3 wd := hd ▸ Below.drew (Below.refl _ _)
 have sd : w3.heap.size ≤ wd.heap.size := bd.size
 replace R := R.up bd
 replace X := X.up bd
 replace C := C.below (by omega) bd
 replace B := bu B bd
 rw [hd] at hHeld ⊢
 clear hd bd
 refine' tj 0 10 rfl ?_ ?_;rotate_left
 ·intro w h; (try dsimp only at h); go_simp; try with_reducible rfl
 simp only [pU]
 refine' tj 1 11 rfl ?_ ?_;rotate_left
 ·intro w h; (try dsimp only at h); go_simp; try with_reducible rfl
 simp only [pU]
 refine' tj 2 12 rfl ?_ ?_;rotate_left
 ·intro w h; (try dsimp only at h); go_simp; try with_reducible rfl
 simp only [pU]
 refine' tj 3 13 rfl ?_ ?_;rotate_left
 ·intro w h; (try dsimp only at h); go_simp; try with_reducible rfl
 simp only [pU]
 refine' tj 4 14 rfl ?_ ?_;rotate_left
 ·intro w h; (try dsimp only at h); go_simp; try with_reducible rfl
 simp only [pU]
 refine rd 5 rfl (fun KK hKK => ?_)
 go_simp
 refine (drawSafeR g g ca ao zs n f wd (by omega) hn0 hn1 C).mono ?_
 rintro e wr4 ⟨vo, lo, v, s, u, d, xs, rfl, hs, hd, hl, O, c1, e1⟩
 have q4 := e1.size
 replace R := R.grown e1 (by omega)
 replace X := X.grown e1 (by omega)
 replace B := cur_below e1 B B.size (by omega)
 replace C := c1
 clear c1 e1
 have tO := World.ownsRow.lt O
 obtain ⟨ua, uc, rfl⟩ := O.form
 obtain ⟨uk, huk⟩ : ∃ k, xs.length = k := ⟨_, rfl⟩
 have SB := hide (specSafeBytes n f vo lo v s ua uc xs d wr4 (by omega) (by omega) (O.ri (by omega)))
 rw [huk] at O tO SB ⊢
 have hbY := safB_bytes n f vo lo v s xs d
 have hlY := safB_len n f vo lo v s xs d
 generalize safB n f vo lo v s xs d = bs at *
 clear O tO
 clear hHeld
 refine hKK.out _ _ ⟨X.cell 0 rfl, X.cell 1 rfl⟩ (fun hHeld => ?_)
 clear hKK KK
 refine rd 6 rfl (fun KK hKK => ?_)
 go_simp
 refine SB.out.mono ?_
 rintro e wr5 ⟨u2, rfl, OU, b1⟩
 have q5 := b1.size
 replace R := R.up b1
 replace X := X.up b1
 replace C := C.below (by omega) b1
 replace B := bu B b1
 clear b1
 clear SB
 clear hHeld
 refine hKK.out _ _ ⟨X.cell 0 rfl, X.cell 1 rfl⟩ (fun hHeld => ?_)
 clear hKK KK
 refine rd 7 rfl (fun KK hKK => ?_)
 go_simp
 refine (bdent_any g g ca ao zs u2 bs wr5 (by omega) C (OB.mono OU (by omega)) hbY (by omega)).mono ?_
 rintro e wr6 ⟨t, ys, rfl, hby, hly, RY, FY, c1, e1⟩
 have q6 := e1.size
 replace R := R.grown e1 (by omega)
 replace X := X.grown e1 (by omega)
 replace B := cur_below e1 B B.size (by omega)
 replace C := c1
 clear c1 e1
 clear OU
 clear hHeld
 refine hKK.out _ _ ⟨X.cell 0 rfl, X.cell 1 rfl⟩ (fun hHeld => ?_)
 clear hKK KK
 have c0 := R.cell 0 rfl
 have c1 := R.cell 1 rfl
 have fc := R.frozen
 refine rd 8 rfl (fun KK hKK => ?_)
 go_simp
 obtain ⟨wa, hwa⟩ : ∃ y, ((wr6.setCell ⟨w.heap.size, 0, none⟩ (.int .i64 n)).setCell ⟨w.heap.size, 1, none⟩ (.int .i64 f)) = y := ⟨_, rfl⟩
 have kwa : Kp wr6 wa (fun k => k = w.heap.size) := hwa ▸ (set_kp _ _ _ _).trans (set_kp _ _ _ _)
 replace R : Loc wa (w.heap.size) #[.int .i64 n, .int .i64 f] := hwa ▸ ((R.set 0 _ rfl).set 1 _ rfl)
 replace X := X.kp kwa (by omega)
 replace RY := RY.kp FY kwa (fun j e => by have : j = w.heap.size := e; omega)
 replace B := Below.kp B kwa B.size (fun k hk => by omega)
 have zwa := kwa.size
 rw [hwa]
 clear hwa kwa c0 c1 fc
 clear hHeld
 refine hKK.out _ _ ⟨X.cell 0 rfl, X.cell 1 rfl⟩ (fun hHeld => ?_)
 clear hKK KK
 refine' tj 9 3 rfl ?_ ?_;rotate_left
 ·intro w h; (try dsimp only at h); go_simp; try with_reducible rfl
 simp only [Act.put, List.setIfInBounds_toArray]
 clear hHeld
 refine wdn ?_
 have r0 := R.cell 0 rfl
 have r1 := R.cell 1 rfl
 clear R X C
 go_wp2
 refine bodyPost_ret (v := .tuple #[cv n f, t]) (by simp [results, Tryz.results8, go_sem, r0, r1]) rfl ?_
 exact ⟨_, _, _, ys, rfl, ⟨hn0, hn1⟩, hby, by omega, RY, B⟩
end Go.Proofs.YtcclbejpgiogaaaGreatDoor
