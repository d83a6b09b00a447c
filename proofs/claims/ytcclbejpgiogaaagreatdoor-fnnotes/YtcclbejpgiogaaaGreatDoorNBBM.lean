/- Texts that belong together: NoteSpecSf, NoteNote, NoteLast. -/
import Derived.Test.YtcclbejpgiogaaaGreatDoorNBBL
import Derived.Test.YtcclbejpgiogaaaGreatDoorNBBJ
import Derived.Deep.DeepCutAuto
import Derived.Laws.EntriesVeiled
import Derived.Test.YtcclbejpgiogaaaGreatDoorNBBF
set_option maxRecDepth 100000
set_option maxHeartbeats 8000000
namespace Go.Proofs.YtcclbejpgiogaaaGreatDoor
open Go.RowKit
set_option linter.unusedSectionVars false
variable [∀ (a b c d : Int), Decidable (Ok4 a b c d)]
variable [∀ (a b c d : Nat), Decidable (okN a b c d)]
variable [∀ (last : Int) (s : St), Decidable (GoodSt last s)]
variable [∀ (x : T4), Decidable (OkT x)]
variable [∀ (n : Int) (s : List Int), Decidable (OkL n s)]
variable [∀ (n f : Int), Decidable (COk n f)]


theorem specSafeOf_any (n f : Int) (ao : Option Addr) (ca : Nat) (xs : List Int) (w : World) (hx : xs.length ≤ 1048576) (hr : RB w (.slice ao xs.length ca) xs) (hb : BytesL xs) (x : SafT) (b : Bool) (hxx : Hid ((safOfA 7 n f xs).getD noSaf = x ∧ (safOfA 7 n f xs).isSome = b)) :
 Calls Tryz.prog 10 #[cv n f, .slice ao xs.length ca] w fun e w' => ∃ u, e = .returned (.tuple #[sv x.1 x.2.1 x.2.2.1.1 x.2.2.1.2.1 u x.2.2.2, .bool b]) ∧ OI w' w.heap.size u x.2.2.1.2.2 ∧ Below w.heap.size w w' := by
 have HX : Hid ((safOfA 2147483647 n f xs).getD noSaf = x ∧ (safOfA 2147483647 n f xs).isSome = b) := by rw [safOf_lim hb]; exact hxx
 clear hxx
 obtain ⟨w0, hw0⟩ : ∃ y, (((w.alloc (.cells #[.int .i64 n, .int .i64 f] 25)).alloc (.cells #[.int .i64 0, .int .i64 0, .int .i64 0, .string ⟨#[]⟩, .slice none 0 0, .string ⟨#[]⟩] 30)).alloc (.cells #[.slice ao xs.length ca, .int .i64 0, .bool true] 68)).alloc (.cells #[.int .i64 0, .int .i64 0, .int .i64 0, .string ⟨#[]⟩, .slice none 0 0, .string ⟨#[]⟩] 30) = y := ⟨_, rfl⟩
 have B0 : Below w.heap.size w w0 := hw0 ▸ ((qalloc2 _ _ _).alloc (by simp; omega) _).alloc (by simp; omega) _
 have LC : Loc w0 w.heap.size #[.int .i64 n, .int .i64 f] := hw0 ▸ (((loc_at w _ _ rfl).alloc _).alloc _).alloc _
 have LZ : Loc w0 (w.heap.size + 1) #[.int .i64 0, .int .i64 0, .int .i64 0, .string ⟨#[]⟩, .slice none 0 0, .string ⟨#[]⟩] := hw0 ▸ ((loc_at (w.alloc _) _ _ (by simp)).alloc _).alloc _
 have LG : Loc w0 (w.heap.size + 1 + 1) #[.slice ao xs.length ca, .int .i64 0, .bool true] := hw0 ▸ (loc_at ((w.alloc _).alloc _) _ _ (by simp)).alloc _
 have LB : Loc w0 (w.heap.size + 1 + 1 + 1) #[.int .i64 0, .int .i64 0, .int .i64 0, .string ⟨#[]⟩, .slice none 0 0, .string ⟨#[]⟩] := hw0 ▸ loc_at (((w.alloc _).alloc _).alloc _) _ _ (by simp)
 have z0 : w.heap.size + 1 + 1 + 1 + 1 ≤ w0.heap.size := by rw [← hw0]; simp
 have NU := hide fun (p : Int) (ok : Bool) (w' : World) (k : Below w.heap.size w w') hl => sNum_any w (w.heap.size + 1 + 1) ao ca xs p ok w' hr hb k hl
 have TE := hide fun (p : Int) (ok : Bool) (w' : World) (k : Below w.heap.size w w') hl => sText_any w (w.heap.size + 1 + 1) ao ca xs p ok w' hr hb k hl
 have QC := hide fun (p : Int) (ok : Bool) (w' : World) (k : Below w.heap.size w w') hl => sQc_any w (w.heap.size + 1 + 1) ao ca xs p ok w' hx hr hb (by omega) k hl
 have H0 := hide hw0
 clear hw0 hr hb
 go_enter Tryz.func10, Tryz.ntmps10
 go_upto_region 3 with fail
 rw [H0.out]
 clear H0
 have C1 := hide (NU.out 0 true w0 B0 LG)
 clear LG
 go_wp2_with fail
 refine C1.out.mono ?_
 rintro e w1 ⟨vo, q1, ok1, rfl, G1, hv, S1, _, LG, kC⟩
 replace LC := LC.kp kC (by omega)
 replace LZ := LZ.kp kC (by omega)
 replace LB := LB.kp kC (by omega)
 have zw1 := kC.size
 replace B0 := Below.kp B0 kC B0.size (fun j e => by omega)
 clear kC
 clear C1 hv
 have y0 := LB.cell 0 rfl
 have y1 := LB.cell 1 rfl
 have y2 := LB.cell 2 rfl
 have y3 := LB.cell 3 rfl
 have y4 := LB.cell 4 rfl
 have y5 := LB.cell 5 rfl
 have fy := LB.frozen
 go_upto_region 4 with fail
 clear fy y0 y1 y2 y3 y4 y5
 obtain ⟨w1s, hw1s⟩ : ∃ y, (w1.setCell ⟨w.heap.size + 1 + 1 + 1, 0, none⟩ (.int .i64 vo)) = y := ⟨_, rfl⟩
 have kS : Kp w1 w1s (fun k => k = w.heap.size + 1 + 1 + 1) := hw1s ▸ set_kp _ _ _ _
 rw [hw1s]
 replace LB : Loc w1s (w.heap.size + 1 + 1 + 1) #[.int .i64 vo, .int .i64 0, .int .i64 0, .string ⟨#[]⟩, .slice none 0 0, .string ⟨#[]⟩] := hw1s ▸ (LB.set 0 _ rfl)
 replace LC := LC.kp kS (by omega)
 replace LZ := LZ.kp kS (by omega)
 replace LG := LG.kp kS (by omega)
 have zw1s := kS.size
 replace B0 := Below.kp B0 kS B0.size (fun j e => by omega)
 clear kS hw1s
 have C1 := hide (NU.out q1 ok1 w1s B0 LG)
 clear LG
 go_wp2_with fail
 refine C1.out.mono ?_
 rintro e w2 ⟨lo, q2, ok2, rfl, G2, hv, S2, _, LG, kC⟩
 replace LC := LC.kp kC (by omega)
 replace LZ := LZ.kp kC (by omega)
 replace LB := LB.kp kC (by omega)
 have zw2 := kC.size
 replace B0 := Below.kp B0 kC B0.size (fun j e => by omega)
 clear kC
 clear C1 hv NU
 have y0 := LB.cell 0 rfl
 have y1 := LB.cell 1 rfl
 have y2 := LB.cell 2 rfl
 have y3 := LB.cell 3 rfl
 have y4 := LB.cell 4 rfl
 have y5 := LB.cell 5 rfl
 have fy := LB.frozen
 go_upto_region 5 with fail
 clear fy y0 y1 y2 y3 y4 y5
 obtain ⟨w2s, hw2s⟩ : ∃ y, (w2.setCell ⟨w.heap.size + 1 + 1 + 1, 1, none⟩ (.int .i64 lo)) = y := ⟨_, rfl⟩
 have kS : Kp w2 w2s (fun k => k = w.heap.size + 1 + 1 + 1) := hw2s ▸ set_kp _ _ _ _
 rw [hw2s]
 replace LB : Loc w2s (w.heap.size + 1 + 1 + 1) #[.int .i64 vo, .int .i64 lo, .int .i64 0, .string ⟨#[]⟩, .slice none 0 0, .string ⟨#[]⟩] := hw2s ▸ (LB.set 1 _ rfl)
 replace LC := LC.kp kS (by omega)
 replace LZ := LZ.kp kS (by omega)
 replace LG := LG.kp kS (by omega)
 have zw2s := kS.size
 replace B0 := Below.kp B0 kS B0.size (fun j e => by omega)
 clear kS hw2s
 have zW := LB.lt
 have C1 := hide (QC.out q2 ok2 w2s B0 LG)
 clear LG
 go_wp2_with fail
 refine C1.out.mono ?_
 rintro e w3 ⟨v, s, ua, uc, ys, q3, ok3, rfl, G3, hs, hl3, S3, LG, o3, kC⟩
 replace LC := LC.kp kC (by omega)
 replace LZ := LZ.kp kC (by omega)
 replace LB := LB.kp kC (by omega)
 have to3 := World.ownsRow.lt o3
 have zw3 := kC.size
 replace B0 := Below.kp B0 kC B0.size (fun j e => by omega)
 clear kC
 clear C1 QC
 have y0 := LB.cell 0 rfl
 have y1 := LB.cell 1 rfl
 have y2 := LB.cell 2 rfl
 have y3 := LB.cell 3 rfl
 have y4 := LB.cell 4 rfl
 have y5 := LB.cell 5 rfl
 have fy := LB.frozen
 go_upto_region 6 with fail
 clear fy y0 y1 y2 y3 y4 y5
 obtain ⟨w3s, hw3s⟩ : ∃ y, (((w3.setCell ⟨w.heap.size + 1 + 1 + 1, 2, none⟩ (.int .i64 v)).setCell ⟨w.heap.size + 1 + 1 + 1, 3, none⟩ (.string s)).setCell ⟨w.heap.size + 1 + 1 + 1, 4, none⟩ (.slice ua ys.length uc)) = y := ⟨_, rfl⟩
 have kS : Kp w3 w3s (fun k => k = w.heap.size + 1 + 1 + 1) := hw3s ▸ ((set_kp _ _ _ _).trans (set_kp _ _ _ _)).trans (set_kp _ _ _ _)
 rw [hw3s]
 replace LB : Loc w3s (w.heap.size + 1 + 1 + 1) #[.int .i64 vo, .int .i64 lo, .int .i64 v, .string s, .slice ua ys.length uc, .string ⟨#[]⟩] := hw3s ▸ (((LB.set 2 _ rfl).set 3 _ rfl).set 4 _ rfl)
 replace LC := LC.kp kS (by omega)
 replace LZ := LZ.kp kS (by omega)
 replace LG := LG.kp kS (by omega)
 replace o3 := o3.kp kS (fun j hj e => by have := to3 j hj; omega)
 have zw3s := kS.size
 replace B0 := Below.kp B0 kS B0.size (fun j e => by omega)
 clear kS hw3s
 have C1 := hide (TE.out q3 ok3 w3s B0 LG)
 clear LG
 go_wp2_with fail
 refine C1.out.mono ?_
 rintro e w4 ⟨d, q4, ok, rfl, G4, hd, S4, _, LG, kC⟩
 replace LC := LC.kp kC (by omega)
 replace LZ := LZ.kp kC (by omega)
 replace LB := LB.kp kC (by omega)
 replace o3 := o3.kp kC (fun j hj e => by have := to3 j hj; omega)
 have zw4 := kC.size
 replace B0 := Below.kp B0 kC B0.size (fun j e => by omega)
 clear kC
 clear C1 TE
 have y0 := LB.cell 0 rfl
 have y1 := LB.cell 1 rfl
 have y2 := LB.cell 2 rfl
 have y3 := LB.cell 3 rfl
 have y4 := LB.cell 4 rfl
 have y5 := LB.cell 5 rfl
 have fy := LB.frozen
 go_upto_region 7 with fail
 clear fy y0 y1 y2 y3 y4 y5
 obtain ⟨w4s, hw4s⟩ : ∃ y, (w4.setCell ⟨w.heap.size + 1 + 1 + 1, 5, none⟩ (.string d)) = y := ⟨_, rfl⟩
 have kS : Kp w4 w4s (fun k => k = w.heap.size + 1 + 1 + 1) := hw4s ▸ set_kp _ _ _ _
 rw [hw4s]
 replace LB : Loc w4s (w.heap.size + 1 + 1 + 1) #[.int .i64 vo, .int .i64 lo, .int .i64 v, .string s, .slice ua ys.length uc, .string d] := hw4s ▸ (LB.set 5 _ rfl)
 replace LC := LC.kp kS (by omega)
 replace LZ := LZ.kp kS (by omega)
 replace LG := LG.kp kS (by omega)
 replace o3 := o3.kp kS (fun j hj e => by have := to3 j hj; omega)
 have zw4s := kS.size
 replace B0 := Below.kp B0 kS B0.size (fun j e => by omega)
 clear kS hw4s
 have HR : Hid (safOfA 2147483647 n f xs = if (ok && (sokB n f vo lo v s ys d && (q4 == (xs.length : Int)))) = true then some (vo, lo, (v, s, ys), d) else none) := hide (safOf_got (got_safe G1 G2 G3 G4))
 have QO := hide (specSafeOk n f vo lo v s ua uc ys d w4s (by omega) (by omega) (o3.ri (by omega)))
 generalize sokB n f vo lo v s ys d = bq at *
 clear G1 G2 G3 G4 S1 S2 S3 S4
 have g1 := LG.cell 1 rfl
 have g2 := LG.cell 2 rfl
 have O3 := hide o3
 clear o3 LG
 obtain ⟨be, hbe⟩ : ∃ y, (q4 == (xs.length : Int)) = y := ⟨_, rfl⟩
 rw [hbe] at HR
 have hne : (q4 != (xs.length : Int)) = !be := by rw [← hbe]; rfl
 cases ok with
 | false =>
  clear QO LC hbe hne g1
  have hx1 : x = noSaf := by have h := HX.out.1; rw [HR.out] at h; exact h.symm
  have hb1 : b = false := by have h := HX.out.2; rw [HR.out] at h; exact h.symm
  subst hx1 hb1
  have y0 := LZ.cell 0 rfl
  have y1 := LZ.cell 1 rfl
  have y2 := LZ.cell 2 rfl
  have y3 := LZ.cell 3 rfl
  have y4 := LZ.cell 4 rfl
  have y5 := LZ.cell 5 rfl
  have fy := LZ.frozen
  clear HR HX O3 LZ LB
  have K5 := kp6 w4s (w.heap.size + 1) (.int .i64 0) (.int .i64 0) (.int .i64 0) (.string ⟨#[]⟩) (.slice none 0 0) (.string ⟨#[]⟩)
  go_wp2
  refine bodyPost_ret (v := .tuple #[sv 0 0 0 ⟨#[]⟩ (.slice none 0 0) ⟨#[]⟩, .bool false]) (by simp [results, Tryz.results10, go_sem, y0, y1, y2, y3, y4, y5]) rfl ?_
  exact ⟨_, rfl, World.ownsRow_nil _ _ _ _, Below.kp B0 K5 B0.size (fun k e => by omega)⟩
 | true =>
  cases be with
  | false =>
   have hne' : (q4 != (xs.length : Int)) = true := hne
   rw [Bool.and_false, Bool.and_false] at HR
   clear QO LC hbe hne
   have hx1 : x = noSaf := by have h := HX.out.1; rw [HR.out] at h; exact h.symm
   have hb1 : b = false := by have h := HX.out.2; rw [HR.out] at h; exact h.symm
   subst hx1 hb1
   have y0 := LZ.cell 0 rfl
   have y1 := LZ.cell 1 rfl
   have y2 := LZ.cell 2 rfl
   have y3 := LZ.cell 3 rfl
   have y4 := LZ.cell 4 rfl
   have y5 := LZ.cell 5 rfl
   have fy := LZ.frozen
   clear HR HX O3 LZ LB
   have K5 := kp6 w4s (w.heap.size + 1) (.int .i64 0) (.int .i64 0) (.int .i64 0) (.string ⟨#[]⟩) (.slice none 0 0) (.string ⟨#[]⟩)
   go_wp2
   refine bodyPost_ret (v := .tuple #[sv 0 0 0 ⟨#[]⟩ (.slice none 0 0) ⟨#[]⟩, .bool false]) (by simp [results, Tryz.results10, go_sem, y0, y1, y2, y3, y4, y5]) rfl ?_
   exact ⟨_, rfl, World.ownsRow_nil _ _ _ _, Below.kp B0 K5 B0.size (fun k e => by omega)⟩
  | true =>
   have hne' : (q4 != (xs.length : Int)) = false := hne
   clear hbe hne
   have c0 := LC.cell 0 rfl
   have c1 := LC.cell 1 rfl
   have d0 := LB.cell 0 rfl
   have d1 := LB.cell 1 rfl
   have d2 := LB.cell 2 rfl
   have d3 := LB.cell 3 rfl
   have d4 := LB.cell 4 rfl
   have d5 := LB.cell 5 rfl
   go_wp2_with fail
   clear c0 c1 d0 d1 d2 d3 d4 d5 g1 g2 hne'
   refine QO.out.mono ?_
   rintro e w6 ⟨rfl, b6⟩
   clear QO
   replace LZ := LZ.up b6
   replace LB := LB.up b6
   replace O3 := hide (O3.out.below b6)
   have z6 := b6.size
   have B6 := bu B0 b6
   clear b6 LC
   cases bq with
   | false =>
    have hx1 : x = noSaf := by have h := HX.out.1; rw [HR.out] at h; exact h.symm
    have hb1 : b = false := by have h := HX.out.2; rw [HR.out] at h; exact h.symm
    subst hx1 hb1
    have y0 := LZ.cell 0 rfl
    have y1 := LZ.cell 1 rfl
    have y2 := LZ.cell 2 rfl
    have y3 := LZ.cell 3 rfl
    have y4 := LZ.cell 4 rfl
    have y5 := LZ.cell 5 rfl
    have fy := LZ.frozen
    clear HR HX O3 LZ LB
    have K5 := kp6 w6 (w.heap.size + 1) (.int .i64 0) (.int .i64 0) (.int .i64 0) (.string ⟨#[]⟩) (.slice none 0 0) (.string ⟨#[]⟩)
    go_wp2
    refine bodyPost_ret (v := .tuple #[sv 0 0 0 ⟨#[]⟩ (.slice none 0 0) ⟨#[]⟩, .bool false]) (by simp [results, Tryz.results10, go_sem, y0, y1, y2, y3, y4, y5]) rfl ?_
    exact ⟨_, rfl, World.ownsRow_nil _ _ _ _, Below.kp B6 K5 B6.size (fun k e => by omega)⟩
   | true =>
    have hx1 : x = (vo, lo, (v, s, ys), d) := by have h := HX.out.1; rw [HR.out] at h; exact h.symm
    have hb1 : b = true := by have h := HX.out.2; rw [HR.out] at h; exact h.symm
    subst hx1 hb1
    clear HR HX
    have e0 := LB.cell 0 rfl
    have e1 := LB.cell 1 rfl
    have e2 := LB.cell 2 rfl
    have e3 := LB.cell 3 rfl
    have e4 := LB.cell 4 rfl
    have e5 := LB.cell 5 rfl
    have y0 := LZ.cell 0 rfl
    have y1 := LZ.cell 1 rfl
    have y2 := LZ.cell 2 rfl
    have y3 := LZ.cell 3 rfl
    have y4 := LZ.cell 4 rfl
    have y5 := LZ.cell 5 rfl
    have fy := LZ.frozen
    clear LB LZ
    have K5 := kp6 w6 (w.heap.size + 1) (.int .i64 vo) (.int .i64 lo) (.int .i64 v) (.string s) (.slice ua ys.length uc) (.string d)
    go_wp2
    refine bodyPost_ret (v := .tuple #[sv vo lo v s (.slice ua ys.length uc) d, .bool true]) (by simp [results, Tryz.results10, go_sem, y0, y1, y2, y3, y4, y5]) rfl ?_
    exact ⟨_, rfl, (O3.out.kp K5 (fun k hk e => by have := to3 k hk; omega)).mono (by omega), Below.kp B6 K5 B6.size (fun k e => by omega)⟩

theorem got_note {n f : Int} {xs : List Int} {p : Int} {ok1 ok2 ok4 : Bool} {ln q1 : Int} {t : SafT} {q2 x q3 : Int} (b : Bool) (h1 : Got true (getNum xs p) ok1 ln q1) (h2 : Got ok1 (getSafe 7 xs q1) ok2 t q2) (hb : (sokT n f t && (q2 - q1 == ln)) = b) (h3 : Got (ok2 && b) (getNum xs q2) ok4 x q3) : Got true (noteP n f xs p) (ok4 && (x == 10)) t q3 := by
 obtain ⟨a1, b1⟩ := h1
 obtain ⟨a2, b2⟩ := h2
 obtain ⟨a3, b3⟩ := h3
 unfold noteP
 cases hg : getNum xs p with
 | none => rw [hg] at a1; simp at a1; subst a1; simp at a2; subst a2; simp at a3; subst a3; exact ⟨by simp, by simp⟩
 | some z =>
  rw [hg] at a1 b1
  simp at a1
  subst a1
  obtain rfl := Option.some.inj (b1 rfl)
  simp only
  cases hg2 : getSafe 7 xs q1 with
  | none => rw [hg2] at a2; simp at a2; subst a2; simp at a3; subst a3; exact ⟨by simp, by simp⟩
  | some z =>
   rw [hg2] at a2 b2
   simp at a2
   subst a2
   obtain rfl := Option.some.inj (b2 rfl)
   simp only
   cases b with
   | false => simp at a3; subst a3; rw [hb]; exact ⟨by simp, by simp⟩
   | true =>
    rw [if_pos hb]
    simp only [Bool.true_and, Bool.and_true] at a3
    cases hg3 : getNum xs q2 with
    | none => rw [hg3] at a3; simp at a3; subst a3; exact ⟨by simp, by simp⟩
    | some z =>
     rw [hg3] at a3 b3
     simp at a3
     subst a3
     obtain rfl := Option.some.inj (b3 rfl)
     simp only
     by_cases h10 : x = 10
     ·rw [if_pos h10]; exact ⟨by simp [h10], fun _ => rfl⟩
     ·rw [if_neg h10]; exact ⟨by simp [h10], by simp [h10]⟩
def NotEnd (n f : Int) (g : Nat) (ao : Option Addr) (ca : Nat) (xs : List Int) (p : Int) (w : World) (e : Ending) (w' : World) : Prop :=
 ∃ (vo lo v : Int) (s : ByteArray) (ua : Option Addr) (uc : Nat) (ys : List Int) (d : ByteArray) (q : Int) (ok' : Bool), e = .returned (sv vo lo v s (.slice ua ys.length uc) d) ∧ Got true (noteP n f xs p) ok' (vo, lo, (v, s, ys), d) q ∧ ys.length ≤ 7 ∧ (0 ≤ q ∧ q ≤ xs.length) ∧ Loc w' g #[.slice ao xs.length ca, .int .i64 p, .int .i64 q, errV ok' p] ∧ OI w' w.heap.size (.slice ua ys.length uc) ys ∧ Kp w w' (fun k => k = g)

theorem rnote_any (W0 : World) (n f : Int) (g : Nat) (ao : Option Addr) (ca : Nat) (xs : List Int) (fr p : Int) (w : World) (hx : xs.length ≤ 33554432) (hp0 : 0 ≤ p) (hp1 : p ≤ xs.length) (hr : RB W0 (.slice ao xs.length ca) xs) (hb : Bytes xs) (hE : Env W0) (h0 : W0.heap.size ≤ g) (hB : Below W0.heap.size W0 w) (hl : Loc w g #[.slice ao xs.length ca, .int .i64 fr, .int .i64 p, .nilIface]) :
 Calls Tryz.prog 42 #[.pointer (some ⟨g, 0, none⟩), cv n f] w (NotEnd n f g ao ca xs p w) := by
 have hgw := hl.lt
 obtain ⟨w9, hw9⟩ : ∃ y, (w.alloc (.cells #[.int .i64 n, .int .i64 f] 25)).alloc (.cells #[.int .i64 0, .int .i64 0, .int .i64 0, .string ⟨#[]⟩, .slice none 0 0, .string ⟨#[]⟩] 30) = y := ⟨_, rfl⟩
 have b9 : Below w.heap.size w w9 := hw9 ▸ qalloc2 _ _ _
 have z9 : w9.heap.size = w.heap.size + 1 + 1 := by rw [← hw9]; simp
 have L9 := hl.below b9 hgw
 have KS : Kp w9 (w9.setCell ⟨g, 1, none⟩ (.int .i64 p)) (fun k => k = g) := set_kp _ _ _ _
 obtain ⟨w0, hw0⟩ : ∃ y, w9.setCell ⟨g, 1, none⟩ (.int .i64 p) = y := ⟨_, rfl⟩
 rw [hw0] at KS
 have LG : Loc w0 g #[.slice ao xs.length ca, .int .i64 p, .int .i64 p, errV true p] := hw0 ▸ L9.set 1 _ rfl
 have LC : Loc w0 w.heap.size #[.int .i64 n, .int .i64 f] := (hw9 ▸ (loc_at w _ _ rfl).alloc _ : Loc w9 w.heap.size #[.int .i64 n, .int .i64 f]).kp KS (by omega)
 have LZ : Loc w0 (w.heap.size + 1) #[.int .i64 0, .int .i64 0, .int .i64 0, .string ⟨#[]⟩, .slice none 0 0, .string ⟨#[]⟩] := (hw9 ▸ loc_at (w.alloc _) _ _ (by simp) : Loc w9 (w.heap.size + 1) #[.int .i64 0, .int .i64 0, .int .i64 0, .string ⟨#[]⟩, .slice none 0 0, .string ⟨#[]⟩]).kp KS (by omega)
 have z0 : w.heap.size + 1 + 1 ≤ w0.heap.size := by have := KS.size; omega
 have K0 : Kp w w0 (fun k => k = g) := (Below.kpOf b9 _).trans KS
 have x1 := L9.cell 1 rfl
 have x2 := L9.cell 2 rfl
 have fx := L9.frozen
 have NU := hide fun (q : Int) (ok : Bool) (w' : World) (k : Kp w w' (fun k => k = g)) hl => rnum_any W0 g ao ca xs p q ok w' hr hb hE (Below.kp hB k hB.size (fun j e => by omega)) hl
 have SA := hide fun (q : Int) (ok : Bool) (w' : World) (k : Kp w w' (fun k => k = g)) hl => rsafe_any W0 g ao ca xs p q ok w' hr hb hE h0 (Below.kp hB k hB.size (fun j e => by omega)) hl
 have EN := hide fun (w' : World) (k : Kp w w' (fun k => k = g)) => hE.below (Below.kp hB k hB.size (fun j e => by omega))
 have N0 := hide (NU.out p true w0 K0 LG)
 have H0 := hide hw0
 clear LG hr hb hw0 hl hB hE L9 b9
 go_enter Tryz.func42, Tryz.ntmps42
 go_upto_region 2 with fail
 rw [H0.out]
 clear hw9 H0 z9 KS x1 x2 fx
 go_wp2_with fail
 refine N0.out.mono ?_
 rintro e w1 ⟨ln, q1, ok1, rfl, G1, hln, S1, LG, K1⟩
 clear N0
 replace LC := LC.kp K1 (by omega)
 replace LZ := LZ.kp K1 (by omega)
 have z1 := K1.size
 replace K1 := K0.trans K1
 clear K0
 have hq1 : 0 ≤ q1 ∧ q1 ≤ xs.length := by unfold Stays at S1; omega
 have g2 := LG.cell 2 rfl
 have SN := hide (SA.out q1 ok1 w1 K1 LG)
 clear SA S1 LG
 go_wp2_with fail
 clear g2
 refine SN.out.mono ?_
 rintro e w2 ⟨vo, lo, v, s, ua, uc, ys, d, q2, ok2, rfl, G2, ⟨hs, hd⟩, h7, S2, LG, oQ, K2⟩
 clear SN
 replace LC := LC.kp K2 (by omega)
 replace LZ := LZ.kp K2 (by omega)
 have z2 := K2.size
 replace K2 := K1.trans K2
 clear K1
 have ltQ := World.ownsRow.lt oQ
 have hq2 : 0 ≤ q2 ∧ q2 ≤ xs.length := by unfold Stays at S2; omega
 clear S2
 go_upto_region 5 with fail
 obtain ⟨w8, hw8⟩ : ∃ y, w2.alloc (.cells #[.int .i64 vo, .int .i64 lo, .int .i64 v, .string s, .slice ua ys.length uc, .string d] 30) = y := ⟨_, rfl⟩
 rw [hw8]
 have b8 : Below w2.heap.size w2 w8 := hw8 ▸ conf_below _ _
 have LQ : Loc w8 w2.heap.size #[.int .i64 vo, .int .i64 lo, .int .i64 v, .string s, .slice ua ys.length uc, .string d] := hw8 ▸ loc_at w2 _ _ rfl
 have z8 : w2.heap.size + 1 ≤ w8.heap.size := by rw [← hw8]; simp
 clear hw8
 replace LC := LC.up b8
 replace LZ := LZ.up b8
 replace LG := LG.up b8
 replace oQ := oQ.below b8
 have K8 := K2.trans (Below.kpOf b8 _)
 clear b8 K2
 have HN : Hid (∀ (b : Bool), (sokB n f vo lo v s ys d && (q2 - q1 == ln)) = b → ∀ (ok4 : Bool) (x q3 : Int), Got (ok2 && b) (getNum xs q2) ok4 x q3 → Got true (noteP n f xs p) (ok4 && (x == 10)) (vo, lo, (v, s, ys), d) q3) := hide fun b hb ok4 x q3 h3 => got_note b G1 G2 hb h3
 have QO := hide (implSafeOk n f vo lo v s ua uc ys d w8 (by omega) (by omega) (EN.out _ K8) (oQ.ri (by omega)))
 generalize sokB n f vo lo v s ys d = bq at *
 have c0 := LC.cell 0 rfl
 have c1 := LC.cell 1 rfl
 have d0 := LQ.cell 0 rfl
 have d1 := LQ.cell 1 rfl
 have d2 := LQ.cell 2 rfl
 have d3 := LQ.cell 3 rfl
 have d4 := LQ.cell 4 rfl
 have d5 := LQ.cell 5 rfl
 go_wp2_with fail
 clear c0 c1 d0 d1 d2 d3 d4 d5
 refine QO.out.mono ?_
 rintro e w3 ⟨rfl, b3⟩
 clear QO EN
 replace LZ := LZ.up b3
 replace LG := LG.up b3
 replace LQ := LQ.up b3
 replace oQ := oQ.below b3
 have z3 := b3.size
 have K3 := K8.trans (Below.kpOf b3 _)
 clear b3 K8 LC G1 G2
 have g2 := LG.cell 2 rfl
 have hwr : IntKind.i64.wrap (q2 - q1) = q2 - q1 := by rw [IntKind.wrap_i64]; omega
 obtain ⟨be, hbe⟩ : ∃ y, (q2 - q1 == ln) = y := ⟨_, rfl⟩
 rw [hbe] at HN
 cases bq with
 | true =>
  go_wp2_with fail
  refine (must_any g _ p q2 ok2 be w3 LG).mono ?_
  rintro e w4 ⟨rfl, LG4, K4⟩
  replace LZ := LZ.kp K4 (by omega)
  replace LQ := LQ.kp K4 (by omega)
  replace oQ := oQ.kp K4 (fun k hk e => by have := ltQ k hk; omega)
  have z4 := K4.size
  replace K4 := K3.trans K4
  clear K3 LG g2 hbe hwr
  have N4 := hide (NU.out q2 (ok2 && be) w4 K4 LG4)
  clear LG4
  go_wp2_with fail
  refine N4.out.mono ?_
  rintro e w5 ⟨y, q3, ok4, rfl, G4, hy, S4, LG, K5⟩
  clear N4
  replace LZ := LZ.kp K5 (by omega)
  replace LQ := LQ.kp K5 (by omega)
  replace oQ := oQ.kp K5 (fun k hk e => by have := ltQ k hk; omega)
  have z5 := K5.size
  replace K5 := K4.trans K5
  clear K4
  have HG := hide (HN.out be rfl ok4 y q3 G4)
  obtain ⟨bt, hbt⟩ : ∃ z, (y == (10 : Int)) = z := ⟨_, rfl⟩
  rw [hbt] at HG
  have hq3 : 0 ≤ q3 ∧ q3 ≤ xs.length := by unfold Stays at S4; omega
  clear G4 S4 HN
  go_wp2_with fail
  refine (must_any g _ p q3 ok4 bt w5 LG).mono ?_
  rintro e w6 ⟨rfl, LG6, K6⟩
  clear hbt
  replace LZ := LZ.kp K6 (by omega)
  replace LQ := LQ.kp K6 (by omega)
  replace oQ := oQ.kp K6 (fun k hk e => by have := ltQ k hk; omega)
  have z6 := K6.size
  replace K6 := K5.trans K6
  clear K5 LG
  have e0 := LQ.cell 0 rfl
  have e1 := LQ.cell 1 rfl
  have e2 := LQ.cell 2 rfl
  have e3 := LQ.cell 3 rfl
  have e4 := LQ.cell 4 rfl
  have e5 := LQ.cell 5 rfl
  have y0 := LZ.cell 0 rfl
  have y1 := LZ.cell 1 rfl
  have y2 := LZ.cell 2 rfl
  have y3 := LZ.cell 3 rfl
  have y4 := LZ.cell 4 rfl
  have y5 := LZ.cell 5 rfl
  have fy := LZ.frozen
  have O6 := hide oQ
  have H6 := hide LG6
  clear oQ LQ LZ LG6
  have K7 := kp6 w6 (w.heap.size + 1) (.int .i64 vo) (.int .i64 lo) (.int .i64 v) (.string s) (.slice ua ys.length uc) (.string d)
  generalize (ok4 && bt) = okf at *
  go_wp2
  refine bodyPost_ret (v := sv vo lo v s (.slice ua ys.length uc) d) (by simp [results, Tryz.results42, go_sem, y0, y1, y2, y3, y4, y5]) rfl ?_
  exact ⟨vo, lo, v, s, ua, uc, ys, d, q3, okf, rfl, HG.out, h7, hq3, H6.out.kp K7 (by omega), (O6.out.kp K7 (fun k hk e => by have := ltQ k hk; omega)).mono (by omega), K6.over K7 (fun j e => .inl (by omega))⟩
 | false =>
  clear hbe hwr
  go_wp2_with fail
  refine (must_any g _ p q2 ok2 false w3 LG).mono ?_
  rintro e w4 ⟨rfl, LG4, K4⟩
  replace LZ := LZ.kp K4 (by omega)
  replace LQ := LQ.kp K4 (by omega)
  replace oQ := oQ.kp K4 (fun k hk e => by have := ltQ k hk; omega)
  have z4 := K4.size
  replace K4 := K3.trans K4
  clear K3 LG g2
  have N4 := hide (NU.out q2 (ok2 && false) w4 K4 LG4)
  clear LG4
  go_wp2_with fail
  refine N4.out.mono ?_
  rintro e w5 ⟨y, q3, ok4, rfl, G4, hy, S4, LG, K5⟩
  clear N4
  replace LZ := LZ.kp K5 (by omega)
  replace LQ := LQ.kp K5 (by omega)
  replace oQ := oQ.kp K5 (fun k hk e => by have := ltQ k hk; omega)
  have z5 := K5.size
  replace K5 := K4.trans K5
  clear K4
  have HG := hide (HN.out false rfl ok4 y q3 G4)
  obtain ⟨bt, hbt⟩ : ∃ z, (y == (10 : Int)) = z := ⟨_, rfl⟩
  rw [hbt] at HG
  have hq3 : 0 ≤ q3 ∧ q3 ≤ xs.length := by unfold Stays at S4; omega
  clear G4 S4 HN
  go_wp2_with fail
  refine (must_any g _ p q3 ok4 bt w5 LG).mono ?_
  rintro e w6 ⟨rfl, LG6, K6⟩
  clear hbt
  replace LZ := LZ.kp K6 (by omega)
  replace LQ := LQ.kp K6 (by omega)
  replace oQ := oQ.kp K6 (fun k hk e => by have := ltQ k hk; omega)
  have z6 := K6.size
  replace K6 := K5.trans K6
  clear K5 LG
  have e0 := LQ.cell 0 rfl
  have e1 := LQ.cell 1 rfl
  have e2 := LQ.cell 2 rfl
  have e3 := LQ.cell 3 rfl
  have e4 := LQ.cell 4 rfl
  have e5 := LQ.cell 5 rfl
  have y0 := LZ.cell 0 rfl
  have y1 := LZ.cell 1 rfl
  have y2 := LZ.cell 2 rfl
  have y3 := LZ.cell 3 rfl
  have y4 := LZ.cell 4 rfl
  have y5 := LZ.cell 5 rfl
  have fy := LZ.frozen
  have O6 := hide oQ
  have H6 := hide LG6
  clear oQ LQ LZ LG6
  have K7 := kp6 w6 (w.heap.size + 1) (.int .i64 vo) (.int .i64 lo) (.int .i64 v) (.string s) (.slice ua ys.length uc) (.string d)
  generalize (ok4 && bt) = okf at *
  go_wp2
  refine bodyPost_ret (v := sv vo lo v s (.slice ua ys.length uc) d) (by simp [results, Tryz.results42, go_sem, y0, y1, y2, y3, y4, y5]) rfl ?_
  exact ⟨vo, lo, v, s, ua, uc, ys, d, q3, okf, rfl, HG.out, h7, hq3, H6.out.kp K7 (by omega), (O6.out.kp K7 (fun k hk e => by have := ltQ k hk; omega)).mono (by omega), K6.over K7 (fun j e => .inl (by omega))⟩

def cellN (w : World) (g j : Nat) : Int := intOf ((w.cell? ⟨g, j, none⟩).getD .nilIface)
theorem cellN_eq {w : World} {g j : Nat} {x : Int} (h : w.cell? ⟨g, j, none⟩ = some (.int .i64 x)) : cellN w g j = x := by unfold cellN; rw [h]; rfl

theorem implLastNote_any (n f : Int) (ao : Option Addr) (ca : Nat) (xs : List Int) (w : World) (hx : xs.length ≤ 33554432) (hr : RB w (.slice ao xs.length ca) xs) (hb : BytesL xs) (hE : Env w) (hT : EnvT w) (x : SafT × Int) (hxx : Hid (lastA n f xs = x)) :
 Calls Tryz.prog 12 #[cv n f, .slice ao xs.length ca] w fun e w' => ∃ u, e = .returned (.tuple #[sv x.1.1 x.1.2.1 x.1.2.2.1.1 x.1.2.2.1.2.1 u x.1.2.2.2, .int .i64 x.2]) ∧ OI w' w.heap.size u x.1.2.2.1.2.2 ∧ Below w.heap.size w w' := by
 obtain ⟨w0, hw0⟩ : ∃ y, (w.alloc (.cells #[.int .i64 n, .int .i64 f] 25)).alloc (.cells #[.int .i64 0, .int .i64 0, .int .i64 0, .string ⟨#[]⟩, .slice none 0 0, .string ⟨#[]⟩] 30) = y := ⟨_, rfl⟩
 have B0 : Below w.heap.size w w0 := hw0 ▸ qalloc2 _ _ _
 have LC : Loc w0 w.heap.size #[.int .i64 n, .int .i64 f] := hw0 ▸ (loc_at w _ _ rfl).alloc _
 have LZ : Loc w0 (w.heap.size + 1) #[.int .i64 0, .int .i64 0, .int .i64 0, .string ⟨#[]⟩, .slice none 0 0, .string ⟨#[]⟩] := hw0 ▸ loc_at (w.alloc _) _ _ (by simp)
 have z0 : w.heap.size + 1 + 1 ≤ w0.heap.size := by rw [← hw0]; simp
 have NO := hide fun (g : Nat) (fr p : Int) (w' : World) (h0 : 0 ≤ p) (h1 : p ≤ xs.length) (hg : w.heap.size ≤ g) (b : Below w.heap.size w w') hl => rnote_any w n f g ao ca xs fr p w' hx h0 h1 hr hb.get hE hg b hl
 have ET := hide fun w' (b : Below w.heap.size w w') => hT.below b
 have HBY := hide hb
 clear hr hE hT hb
 go_enter Tryz.func12, Tryz.ntmps12
 go_wp2_with fail
 clear hw0
 refine (implSafeNew _).mono ?_
 rintro e w1 ⟨rfl, b1⟩
 replace LC := LC.up b1
 replace LZ := LZ.up b1
 have z1 := b1.size
 have B1 := bu B0 b1
 clear b1 B0
 go_upto_region 2 with fail
 obtain ⟨w2, hw2⟩ : ∃ y, w1.alloc (.cells #[.int .i64 0, .int .i64 0, .int .i64 0, .string ⟨#[]⟩, .slice none 0 0, .string ⟨#[]⟩] 30) = y := ⟨_, rfl⟩
 rw [hw2]
 have b2 : Below w1.heap.size w1 w2 := hw2 ▸ conf_below _ _
 have LB : Loc w2 w1.heap.size #[.int .i64 0, .int .i64 0, .int .i64 0, .string ⟨#[]⟩, .slice none 0 0, .string ⟨#[]⟩] := hw2 ▸ loc_at w1 _ _ rfl
 have z2 : w2.heap.size = w1.heap.size + 1 := by rw [← hw2]; simp
 clear hw2
 replace LC := LC.up b2
 replace LZ := LZ.up b2
 have B2 := bu B1 b2
 clear b2 B1
 obtain ⟨hB, ehB⟩ : ∃ y, w1.heap.size = y := ⟨_, rfl⟩
 rw [ehB] at LB ⊢
 have zB : w.heap.size + 1 + 1 ≤ hB := by omega
 have lB := LB.lt
 clear z2 ehB z1
 go_wp2
 obtain ⟨g, eg⟩ : ∃ y, w2.heap.size = y := ⟨_, rfl⟩
 obtain ⟨w3, hw3⟩ : ∃ y, w2.alloc (.cells #[.slice ao xs.length ca, .int .i64 0, .int .i64 0, .nilIface] 62) = y := ⟨_, rfl⟩
 rw [hw3]
 have b3 : Below w2.heap.size w2 w3 := hw3 ▸ conf_below _ _
 have LG : Loc w3 g #[.slice ao xs.length ca, .int .i64 0, .int .i64 0, .nilIface] := hw3 ▸ loc_at w2 _ _ eg
 clear hw3
 replace LC := LC.up b3
 replace LZ := LZ.up b3
 replace LB := LB.up b3
 have B3 := bu B2 b3
 rw [eg] at lB ⊢
 clear b3 B2 eg
 have HI := hide (show lastA n f xs = lastN n f xs (xs.length + 1) 0 newT from rfl)
 go_loopw [5] (fun r wr => ∃ (vo lo v : Int) (s : ByteArray) (ua : Option Addr) (uc : Nat) (ys : List Int) (d : ByteArray) (fr p : Int) (k : Nat), r = .int .i64 0 ∧ Hid (lastA n f xs = lastN n f xs k p (vo, lo, (v, s, ys), d)) ∧ ((xs.length : Int) < p + k ∧ 0 ≤ p ∧ p ≤ xs.length) ∧ ys.length ≤ 7 ∧ Loc wr w.heap.size #[.int .i64 n, .int .i64 f] ∧ Loc wr (w.heap.size + 1) #[.int .i64 0, .int .i64 0, .int .i64 0, .string ⟨#[]⟩, .slice none 0 0, .string ⟨#[]⟩] ∧ Loc wr hB #[.int .i64 vo, .int .i64 lo, .int .i64 v, .string s, .slice ua ys.length uc, .string d] ∧ Loc wr g #[.slice ao xs.length ca, .int .i64 fr, .int .i64 p, .nilIface] ∧ OI wr w.heap.size (.slice ua ys.length uc) ys ∧ (∀ j, (Value.slice ua ys.length uc).ownBlock = some j → j ≠ hB ∧ j ≠ g ∧ j ≠ w.heap.size ∧ j ≠ w.heap.size + 1) ∧ Below w.heap.size w wr) (fun _ wr => xs.length + 1 - (cellN wr g 2).toNat)
 case atStart => exact ⟨0, 0, 0, ⟨#[]⟩, none, 0, [], ⟨#[]⟩, 0, 0, xs.length + 1, rfl, HI, ⟨by omega, by omega, by omega⟩, by simp, LC, LZ, LB, LG, World.ownsRow_nil _ _ _ _, (fun j e => by cases e), B3⟩
 case round =>
  clear LC LZ LB LG B3 HI
  obtain ⟨vo, lo, v, s, ua, uc, ys, d, fr, p, k, rfl, HI, ⟨hk, hp0, hp1⟩, h7, LC, LZ, LB, LG, oB, tB, BR⟩ := hrel
  have zr := BR.size
  have lG := LG.lt
  have HM := hide (cellN_eq (LG.cell 2 rfl))
  have NX := hide (NO.out g fr p wr hp0 hp1 (by omega) BR LG)
  have c0 := LC.cell 0 rfl
  have c1 := LC.cell 1 rfl
  clear LG
  go_wp2_with fail
  clear c0 c1
  refine NX.out.mono ?_
  rintro e w4 ⟨vo', lo', v', s', ua', uc', ys', d', q, ok, rfl, G4, h7', hq, LG, oN, K4⟩
  clear NX
  replace LC := LC.kp K4 (by omega)
  replace LZ := LZ.kp K4 (by omega)
  replace LB := LB.kp K4 (by omega)
  replace oB := oB.kp K4 (fun j hj e => by have := tB j hj; omega)
  have z4 := K4.size
  have B4 := Below.kp BR K4 BR.size (fun j e => by omega)
  have ltN := World.ownsRow.lt oN
  clear K4 BR
  go_upto_region 4 with fail
  obtain ⟨w5, hw5⟩ : ∃ y, w4.alloc (.cells #[.int .i64 vo', .int .i64 lo', .int .i64 v', .string s', .slice ua' ys'.length uc', .string d'] 30) = y := ⟨_, rfl⟩
  rw [hw5]
  have b5 : Below w4.heap.size w4 w5 := hw5 ▸ conf_below _ _
  have LS : Loc w5 w4.heap.size #[.int .i64 vo', .int .i64 lo', .int .i64 v', .string s', .slice ua' ys'.length uc', .string d'] := hw5 ▸ loc_at w4 _ _ rfl
  have z5 : w4.heap.size + 1 ≤ w5.heap.size := by rw [← hw5]; simp
  clear hw5
  replace LC := LC.up b5
  replace LZ := LZ.up b5
  replace LB := LB.up b5
  replace LG := LG.up b5
  replace oB := oB.below b5
  replace oN := oN.below b5
  have B5 := bu B4 b5
  clear b5 B4
  have LA := hide (lacks_any g _ p q ok w5 (ET.out _ B5) LG)
  go_wp2_with fail
  refine LA.out.mono ?_
  rintro e w6 ⟨rfl, b6⟩
  clear LA
  replace LC := LC.up b6
  replace LZ := LZ.up b6
  replace LB := LB.up b6
  replace LG := LG.up b6
  replace LS := LS.up b6
  replace oB := oB.below b6
  replace oN := oN.below b6
  have z6 := b6.size
  have B6 := bu B5 b6
  clear b6 B5
  cases ok with
  | false =>
   have hnone : noteP n f xs p = none := by
    have := G4.1
    simp only [Bool.true_and] at this
    cases hc : noteP n f xs p with
    | none => rfl
    | some z => rw [hc] at this; simp at this
   have hx1 : x = ((vo, lo, (v, s, ys), d), p) := by rw [← hxx.out, HI.out, lastN_none hnone]
   have e0 := LB.cell 0 rfl
   have e1 := LB.cell 1 rfl
   have e2 := LB.cell 2 rfl
   have e3 := LB.cell 3 rfl
   have e4 := LB.cell 4 rfl
   have e5 := LB.cell 5 rfl
   have y0 := LZ.cell 0 rfl
   have y1 := LZ.cell 1 rfl
   have y2 := LZ.cell 2 rfl
   have y3 := LZ.cell 3 rfl
   have y4 := LZ.cell 4 rfl
   have y5 := LZ.cell 5 rfl
   have fy := LZ.frozen
   have O6 := hide oB
   subst hx1
   clear hxx HI G4 hnone oB oN LC LZ LB LG LS NO ET HBY HM ltN
   have K7 := kp6 w6 (w.heap.size + 1) (.int .i64 vo) (.int .i64 lo) (.int .i64 v) (.string s) (.slice ua ys.length uc) (.string d)
   go_wp2
   refine bodyPost_ret (v := .tuple #[sv vo lo v s (.slice ua ys.length uc) d, .int .i64 p]) (by simp [results, Tryz.results12, go_sem, y0, y1, y2, y3, y4, y5]) rfl ?_
   exact ⟨_, rfl, O6.out.kp K7 (fun j hj e => by have := tB j hj; omega), Below.kp B6 K7 B6.size (fun j e => by omega)⟩
  | true =>
   have hs4 := G4.2 rfl
   have st := noteP_step HBY.out hs4
   have HN : Hid (lastA n f xs = lastN n f xs (k - 1) q (vo', lo', (v', s', ys'), d')) := by
    rw [HI.out]
    obtain ⟨j, rfl⟩ : ∃ j, k = j + 1 := ⟨k - 1, by omega⟩
    rw [lastN_some hs4]; exact hide rfl
   have e0 := LS.cell 0 rfl
   have e1 := LS.cell 1 rfl
   have e2 := LS.cell 2 rfl
   have e3 := LS.cell 3 rfl
   have e4 := LS.cell 4 rfl
   have e5 := LS.cell 5 rfl
   have y0 := LB.cell 0 rfl
   have y1 := LB.cell 1 rfl
   have y2 := LB.cell 2 rfl
   have y3 := LB.cell 3 rfl
   have y4 := LB.cell 4 rfl
   have y5 := LB.cell 5 rfl
   have fy := LB.frozen
   have HB := hide LB
   have HG := hide LG
   have HC := hide LC
   have HZ := hide LZ
   have ON := hide oN
   clear HI G4 hs4 oB oN LS LB LG LC LZ NO ET HBY
   have K7 := kp6 w6 hB (.int .i64 vo') (.int .i64 lo') (.int .i64 v') (.string s') (.slice ua' ys'.length uc') (.string d')
   go_wp2
   go_roundw
   case rel =>
    refine ⟨vo', lo', v', s', ua', uc', ys', d', p, q, k - 1, rfl, HN, ⟨by omega, by omega, by omega⟩, h7', HC.out.kp K7 (by omega), HZ.out.kp K7 (by omega), ?_, HG.out.kp K7 (by omega), (ON.out.kp K7 (fun j hj e => by have := ltN j hj; omega)).mono (by omega), (fun j hj => by have := ltN j hj; omega), Below.kp B6 K7 B6.size (fun j e => by omega)⟩
    exact (((((HB.out.set 0 _ rfl).set 1 _ rfl).set 2 _ rfl).set 3 _ rfl).set 4 _ rfl).set 5 _ rfl
   case measure =>
    have hm2 := cellN_eq ((HG.out.kp K7 (by omega)).cell 2 rfl)
    simp only [HM.out, hm2]
    omega
end Go.Proofs.YtcclbejpgiogaaaGreatDoor
