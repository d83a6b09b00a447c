/- Texts that belong together: NoteSafeOf, NotePlain2. -/
import Derived.Test.YtbigcmcliamenaaGreatDoorNABD
import Derived.Deep.DeepCutAuto
import Derived.Laws.EntriesVeiled
import Derived.Test.YtbigcmcliamenaaGreatDoorNAAZ
namespace Go.Proofs.YtbigcmcliamenaaGreatDoor
open Go.RowKit
set_option linter.unusedSectionVars false
variable [∀ (a b c d : Int), Decidable (Ok4 a b c d)]
variable [∀ (a b c d : Nat), Decidable (okN a b c d)]
variable [∀ (last : Int) (s : St), Decidable (GoodSt last s)]
variable [∀ (x : T4), Decidable (OkT x)]
variable [∀ (n : Int) (s : List Int), Decidable (OkL n s)]
variable [∀ (n f : Int), Decidable (COk n f)]

def noSaf : SafT := (0, 0, (0, ⟨#[]⟩, []), ⟨#[]⟩)
theorem safOf_got {L n f : Int} {xs : List Int} {ok : Bool} {t : SafT} {q : Int} (h : Got true (getSafe L xs 0) ok t q) : safOfA L n f xs = if (ok && (sokT n f t && (q == (xs.length : Int)))) = true then some t else none := by
 obtain ⟨h1, h2⟩ := h
 unfold safOfA
 cases hg : getSafe L xs 0 with
 | none => rw [hg] at h1; simp at h1; simp [h1]
 | some x =>
  rw [hg] at h1 h2
  simp only [Option.isSome_some, Bool.and_true] at h1
  subst h1
  obtain rfl := Option.some.inj (h2 rfl)
  simp

set_option maxHeartbeats 8000000 in
set_option maxRecDepth 100000 in
theorem implSafeOf_any (n f : Int) (ao : Option Addr) (ca : Nat) (xs : List Int) (w : World) (hx : xs.length ≤ 33554432) (hr : RB w (.slice ao xs.length ca) xs) (hb : Bytes xs) (hE : Env w) (hT : EnvT w) (x : SafT) (b : Bool) (hxx : Hid ((safOfA 7 n f xs).getD noSaf = x ∧ (safOfA 7 n f xs).isSome = b)) :
 Calls Tryz.prog 15 #[cv n f, .slice ao xs.length ca] w fun e w' => ∃ u, e = .returned (.tuple #[sv x.1 x.2.1 x.2.2.1.1 x.2.2.1.2.1 u x.2.2.2, .bool b]) ∧ OI w' w.heap.size u x.2.2.1.2.2 ∧ Below w.heap.size w w' := by
 obtain ⟨w9, hw9⟩ : ∃ y, (w.alloc (.cells #[.int .i64 n, .int .i64 f] 25)).alloc (.cells #[.int .i64 0, .int .i64 0, .int .i64 0, .string ⟨#[]⟩, .slice none 0 0, .string ⟨#[]⟩] 30) = y := ⟨_, rfl⟩
 have z9 : w9.heap.size = w.heap.size + 1 + 1 := by rw [← hw9]; simp
 obtain ⟨w0, hw0⟩ : ∃ y, w9.alloc (.cells #[.slice ao xs.length ca, .int .i64 0, .int .i64 0, .nilIface] 80) = y := ⟨_, rfl⟩
 have B0 : Below w.heap.size w w0 := hw0 ▸ (hw9 ▸ qalloc2 _ _ _ : Below w.heap.size w w9).alloc (by omega) _
 have LC : Loc w0 w.heap.size #[.int .i64 n, .int .i64 f] := hw0 ▸ (hw9 ▸ (loc_at w _ _ rfl).alloc _ : Loc w9 w.heap.size #[.int .i64 n, .int .i64 f]).alloc _
 have LZ : Loc w0 (w.heap.size + 1) #[.int .i64 0, .int .i64 0, .int .i64 0, .string ⟨#[]⟩, .slice none 0 0, .string ⟨#[]⟩] := hw0 ▸ (hw9 ▸ loc_at (w.alloc _) _ _ (by simp) : Loc w9 (w.heap.size + 1) #[.int .i64 0, .int .i64 0, .int .i64 0, .string ⟨#[]⟩, .slice none 0 0, .string ⟨#[]⟩]).alloc _
 have LG : Loc w0 (w.heap.size + 1 + 1) #[.slice ao xs.length ca, .int .i64 0, .int .i64 0, errV true 0] := hw0 ▸ loc_at w9 _ _ z9
 have z0 : w.heap.size + 1 + 1 + 1 ≤ w0.heap.size := by rw [← hw0]; simp; omega
 have QC := hide (rsafe_any w (w.heap.size + 1 + 1) ao ca xs 0 0 true w0 hr hb hE (by omega) B0 LG)
 have H0 := hide hw0
 clear LG hr hb hw0
 go_enter Tryz.func15, Tryz.ntmps15
 go_upto_region 2 with fail
 rw [unhide H0]
 clear hw9 H0 z9
 go_wp2_with fail
 refine (unhide QC).mono ?_
 rintro e w1 ⟨vo, lo, v, s, ua, uc, ys, d, q, ok, rfl, G1, ⟨hs, hd⟩, h7, S1, LG, oQ, K1⟩
 clear QC
 replace LC := LC.kp K1 (by omega)
 replace LZ := LZ.kp K1 (by omega)
 have B1 := Below.kp B0 K1 B0.size (fun k e => by omega)
 have z1 := K1.size
 have ltQ := World.ownsRow.lt oQ
 clear B0 K1
 go_upto_region 3 with fail
 obtain ⟨w2, hw2⟩ : ∃ y, w1.alloc (.cells #[.int .i64 vo, .int .i64 lo, .int .i64 v, .string s, .slice ua ys.length uc, .string d] 30) = y := ⟨_, rfl⟩
 rw [hw2]
 have b2 : Below w1.heap.size w1 w2 := hw2 ▸ conf_below _ _
 have LQ : Loc w2 w1.heap.size #[.int .i64 vo, .int .i64 lo, .int .i64 v, .string s, .slice ua ys.length uc, .string d] := hw2 ▸ loc_at w1 _ _ rfl
 have z2 : w1.heap.size + 1 ≤ w2.heap.size := by rw [← hw2]; simp
 clear hw2
 replace LC := LC.below b2 LC.lt
 replace LZ := LZ.below b2 LZ.lt
 replace LG := LG.below b2 LG.lt
 replace oQ := oQ.below b2
 have B2 := B1.trans (b2.mono B1.size)
 clear b2 B1
 have HR : Hid (safOfA 7 n f xs = if (ok && (sokB n f vo lo v s ys d && (q == (xs.length : Int)))) = true then some (vo, lo, (v, s, ys), d) else none) := hide (safOf_got G1)
 have QO := hide (implSafeOk n f vo lo v s ua uc ys d w2 (by omega) (by omega) (hE.below B2) (oQ.ri (by omega)))
 generalize sokB n f vo lo v s ys d = bq at *
 have c0 := LC.cell 0 rfl
 have c1 := LC.cell 1 rfl
 have d0 := LQ.cell 0 rfl
 have d1 := LQ.cell 1 rfl
 have d2 := LQ.cell 2 rfl
 have d3 := LQ.cell 3 rfl
 have d4 := LQ.cell 4 rfl
 have d5 := LQ.cell 5 rfl
 go_wp2_with fail
 clear c0 c1 d0 d1 d2 d3 d4 d5
 refine (unhide QO).mono ?_
 rintro e w3 ⟨rfl, b3⟩
 clear QO
 replace LZ := LZ.below b3 LZ.lt
 replace LG := LG.below b3 LG.lt
 replace LQ := LQ.below b3 LQ.lt
 replace oQ := oQ.below b3
 have z3 := b3.size
 have B3 := B2.trans (b3.mono B2.size)
 clear b3 B2 LC
 have g2 := LG.cell 2 rfl
 obtain ⟨be, hbe⟩ : ∃ y, (q == (xs.length : Int)) = y := ⟨_, rfl⟩
 rw [hbe] at HR
 clear G1 S1 hE
 cases bq with
 | true =>
  rw [Bool.true_and] at HR
  go_wp2_with fail
  refine (must_any (w.heap.size + 1 + 1) _ 0 q ok be w3 LG).mono ?_
  rintro e w4 ⟨rfl, LG4, K4⟩
  replace LZ := LZ.kp K4 (by omega)
  replace LQ := LQ.kp K4 (by omega)
  replace oQ := oQ.kp K4 (fun k hk e => by have := ltQ k hk; omega)
  have z4 := K4.size
  have B4 := Below.kp B3 K4 B3.size (fun k e => by omega)
  clear B3 K4 LG g2 hbe
  generalize (ok && be) = okf at *
  have LA := hide (lacks_any (w.heap.size + 1 + 1) _ 0 q okf w4 (hT.below B4) LG4)
  go_wp2_with fail
  refine (unhide LA).mono ?_
  rintro e w5 ⟨rfl, b5⟩
  clear LA
  replace LZ := LZ.below b5 LZ.lt
  replace LQ := LQ.below b5 LQ.lt
  replace oQ := oQ.below b5
  have z5 := b5.size
  have B5 := B4.trans (b5.mono B4.size)
  clear b5 B4 LG4
  have e0 := LQ.cell 0 rfl
  have e1 := LQ.cell 1 rfl
  have e2 := LQ.cell 2 rfl
  have e3 := LQ.cell 3 rfl
  have e4 := LQ.cell 4 rfl
  have e5 := LQ.cell 5 rfl
  have y0 := LZ.cell 0 rfl
  have y1 := LZ.cell 1 rfl
  have y2 := LZ.cell 2 rfl
  have y3 := LZ.cell 3 rfl
  have y4 := LZ.cell 4 rfl
  have y5 := LZ.cell 5 rfl
  have fy := LZ.frozen
  have O5 := hide oQ
  clear oQ LQ LZ
  cases okf with
  | true =>
   have hx1 : x = (vo, lo, (v, s, ys), d) := by have h := (unhide hxx).1; rw [unhide HR] at h; exact h.symm
   have hb1 : b = true := by have h := (unhide hxx).2; rw [unhide HR] at h; exact h.symm
   subst hx1 hb1
   clear HR hxx
   have K5 := kp6 w5 (w.heap.size + 1) (.int .i64 vo) (.int .i64 lo) (.int .i64 v) (.string s) (.slice ua ys.length uc) (.string d)
   go_wp2
   refine bodyPost_ret (v := .tuple #[sv vo lo v s (.slice ua ys.length uc) d, .bool true]) (by simp [results, Tryz.results15, go_sem, y0, y1, y2, y3, y4, y5]) rfl ?_
   exact ⟨_, rfl, ((unhide O5).kp K5 (fun k hk e => by have := ltQ k hk; omega)).mono (by omega), Below.kp B5 K5 B5.size (fun k e => by omega)⟩
  | false =>
   have hx1 : x = noSaf := by have h := (unhide hxx).1; rw [unhide HR] at h; exact h.symm
   have hb1 : b = false := by have h := (unhide hxx).2; rw [unhide HR] at h; exact h.symm
   subst hx1 hb1
   clear HR hxx O5
   have K5 := kp6 w5 (w.heap.size + 1) (.int .i64 0) (.int .i64 0) (.int .i64 0) (.string ⟨#[]⟩) (.slice none 0 0) (.string ⟨#[]⟩)
   go_wp2
   refine bodyPost_ret (v := .tuple #[sv 0 0 0 ⟨#[]⟩ (.slice none 0 0) ⟨#[]⟩, .bool false]) (by simp [results, Tryz.results15, go_sem, y0, y1, y2, y3, y4, y5]) rfl ?_
   exact ⟨_, rfl, World.ownsRow_nil _ _ _ _, Below.kp B5 K5 B5.size (fun k e => by omega)⟩
 | false =>
  rw [Bool.false_and] at HR
  clear hbe
  go_wp2_with fail
  refine (must_any (w.heap.size + 1 + 1) _ 0 q ok false w3 LG).mono ?_
  rintro e w4 ⟨rfl, LG4, K4⟩
  replace LZ := LZ.kp K4 (by omega)
  replace LQ := LQ.kp K4 (by omega)
  replace oQ := oQ.kp K4 (fun k hk e => by have := ltQ k hk; omega)
  have z4 := K4.size
  have B4 := Below.kp B3 K4 B3.size (fun k e => by omega)
  clear B3 K4 LG g2
  generalize (ok && false) = okf at *
  have LA := hide (lacks_any (w.heap.size + 1 + 1) _ 0 q okf w4 (hT.below B4) LG4)
  go_wp2_with fail
  refine (unhide LA).mono ?_
  rintro e w5 ⟨rfl, b5⟩
  clear LA
  replace LZ := LZ.below b5 LZ.lt
  replace LQ := LQ.below b5 LQ.lt
  replace oQ := oQ.below b5
  have z5 := b5.size
  have B5 := B4.trans (b5.mono B4.size)
  clear b5 B4 LG4
  have e0 := LQ.cell 0 rfl
  have e1 := LQ.cell 1 rfl
  have e2 := LQ.cell 2 rfl
  have e3 := LQ.cell 3 rfl
  have e4 := LQ.cell 4 rfl
  have e5 := LQ.cell 5 rfl
  have y0 := LZ.cell 0 rfl
  have y1 := LZ.cell 1 rfl
  have y2 := LZ.cell 2 rfl
  have y3 := LZ.cell 3 rfl
  have y4 := LZ.cell 4 rfl
  have y5 := LZ.cell 5 rfl
  have fy := LZ.frozen
  have O5 := hide oQ
  clear oQ LQ LZ
  cases okf with
  | true =>
   have hx1 : x = (vo, lo, (v, s, ys), d) := by have h := (unhide hxx).1; rw [unhide HR] at h; exact h.symm
   have hb1 : b = true := by have h := (unhide hxx).2; rw [unhide HR] at h; exact h.symm
   subst hx1 hb1
   clear HR hxx
   have K5 := kp6 w5 (w.heap.size + 1) (.int .i64 vo) (.int .i64 lo) (.int .i64 v) (.string s) (.slice ua ys.length uc) (.string d)
   go_wp2
   refine bodyPost_ret (v := .tuple #[sv vo lo v s (.slice ua ys.length uc) d, .bool true]) (by simp [results, Tryz.results15, go_sem, y0, y1, y2, y3, y4, y5]) rfl ?_
   exact ⟨_, rfl, ((unhide O5).kp K5 (fun k hk e => by have := ltQ k hk; omega)).mono (by omega), Below.kp B5 K5 B5.size (fun k e => by omega)⟩
  | false =>
   have hx1 : x = noSaf := by have h := (unhide hxx).1; rw [unhide HR] at h; exact h.symm
   have hb1 : b = false := by have h := (unhide hxx).2; rw [unhide HR] at h; exact h.symm
   subst hx1 hb1
   clear HR hxx O5
   have K5 := kp6 w5 (w.heap.size + 1) (.int .i64 0) (.int .i64 0) (.int .i64 0) (.string ⟨#[]⟩) (.slice none 0 0) (.string ⟨#[]⟩)
   go_wp2
   refine bodyPost_ret (v := .tuple #[sv 0 0 0 ⟨#[]⟩ (.slice none 0 0) ⟨#[]⟩, .bool false]) (by simp [results, Tryz.results15, go_sem, y0, y1, y2, y3, y4, y5]) rfl ?_
   exact ⟨_, rfl, World.ownsRow_nil _ _ _ _, Below.kp B5 K5 B5.size (fun k e => by omega)⟩
end Go.Proofs.YtbigcmcliamenaaGreatDoor
namespace Go.Proofs.YtbigcmcliamenaaGreatDoor
set_option linter.unusedSectionVars false
variable [∀ (a b c d : Int), Decidable (Ok4 a b c d)]
variable [∀ (a b c d : Nat), Decidable (okN a b c d)]
variable [∀ (last : Int) (s : St), Decidable (GoodSt last s)]
variable [∀ (x : T4), Decidable (OkT x)]
variable [∀ (n : Int) (s : List Int), Decidable (OkL n s)]
variable [∀ (n f : Int), Decidable (COk n f)]

def noteT (t : SafT) : List Int := putAns (rawT t).length ++ rawT t ++ [10]
def noteP (n f : Int) (xs : List Int) (p : Int) : Option (SafT × Int) := match getNum xs p with
 | none => none
 | some x => match getSafe 7 xs x.2 with
  | none => none
  | some y => if (sokT n f y.1 && (y.2 - x.2 == x.1)) = true then (match getNum xs y.2 with
   | none => none
   | some z => if z.1 = 10 then some (y.1, z.2) else none) else none
def noteS (n f : Int) (xs : List Int) (p : Int) : Option (SafT × Int) := match getNum xs p with
 | none => none
 | some x => if x.1 < (xs.length : Int) - x.2 ∧ xs.getD (x.2 + x.1).toNat 0 = 10 then (match safOfA 7 n f ((xs.drop x.2.toNat).take x.1.toNat) with
  | none => none
  | some t => some (t, x.2 + x.1 + 1)) else none
theorem put_ten : putAns 10 = [10] := by decide
theorem noteP_iff {xs : List Int} (hb : BytesL xs) (n f p : Int) (t : SafT) (q : Int) : noteP n f xs p = some (t, q) ↔ sokT n f t = true ∧ StandsAt xs p (noteT t) q := by
 unfold noteT
 rw [stands_app]
 constructor
 ·intro h
  unfold noteP at h
  cases hg : getNum xs p with
  | none => rw [hg] at h; cases h
  | some x =>
   rw [hg] at h
   obtain ⟨m, r⟩ := x
   simp only at h
   obtain ⟨hm, hs⟩ := (getNum_iff hb p m r).1 hg
   cases hg1 : getSafe 7 xs r with
   | none => rw [hg1] at h; cases h
   | some y =>
    rw [hg1] at h
    obtain ⟨u, r1⟩ := y
    simp only at h
    by_cases hq : (sokT n f u && (r1 - r == m)) = true
    ·rw [if_pos hq] at h
     simp only [Bool.and_eq_true, beq_iff_eq] at hq
     have hs1 := (getSafe_sok hb 7 (by omega) (by omega) n f r u r1 hq.1).1 hg1
     have hle := stands_le hs1
     cases hg2 : getNum xs r1 with
     | none => rw [hg2] at h; cases h
     | some z =>
      rw [hg2] at h
      obtain ⟨c, r2⟩ := z
      simp only at h
      by_cases hc : c = 10
      ·rw [if_pos hc] at h
       simp only [Option.some.injEq, Prod.mk.injEq] at h
       obtain ⟨rfl, rfl⟩ := h
       subst hc
       have hs2 := ((getNum_iff hb r1 10 r2).1 hg2).2
       rw [put_ten] at hs2
       refine ⟨hq.1, r1, stands_app.2 ⟨r, ?_, hs1⟩, hs2⟩
       rw [show ((rawT u).length : Int) = m from by omega]; exact hs
      ·rw [if_neg hc] at h; cases h
    ·rw [if_neg hq] at h; cases h
 ·rintro ⟨ht, r1, h01, hs2⟩
  obtain ⟨r, hs, hs1⟩ := stands_app.1 h01
  have hl := rawT_len ht
  have hle := stands_le hs1
  unfold noteP
  rw [(getNum_iff hb p _ r).2 ⟨⟨by omega, by omega⟩, hs⟩]
  simp only
  rw [(getSafe_sok hb 7 (by omega) (by omega) n f r t r1 ht).2 hs1]
  simp only
  rw [if_pos (by simp [ht]; omega), (getNum_iff hb r1 10 q).2 ⟨⟨by omega, by omega⟩, by rw [put_ten]; exact hs2⟩]
  simp
theorem BytesL.piece {xs : List Int} (hb : BytesL xs) (k m : Nat) : BytesL ((xs.drop k).take m) := fun y hy => hb y (List.mem_of_mem_drop (List.mem_of_mem_take hy))
theorem noteS_iff {xs : List Int} (hb : BytesL xs) (n f p : Int) (t : SafT) (q : Int) : noteS n f xs p = some (t, q) ↔ sokT n f t = true ∧ StandsAt xs p (noteT t) q := by
 unfold noteT
 rw [stands_app]
 constructor
 ·intro h
  unfold noteS at h
  cases hg : getNum xs p with
  | none => rw [hg] at h; cases h
  | some x =>
   rw [hg] at h
   obtain ⟨m, r⟩ := x
   simp only at h
   obtain ⟨hm, hs⟩ := (getNum_iff hb p m r).1 hg
   have hle := stands_le hs
   by_cases hc : m < (xs.length : Int) - r ∧ xs.getD (r + m).toNat 0 = 10
   ·rw [if_pos hc] at h
    obtain ⟨m, rfl⟩ := Int.eq_ofNat_of_zero_le hm.1
    obtain ⟨r, rfl⟩ := Int.eq_ofNat_of_zero_le (show 0 ≤ r by omega)
    rw [Int.toNat_natCast, Int.toNat_natCast] at h
    cases hg2 : safOfA 7 n f ((xs.drop r).take m) with
    | none => rw [hg2] at h; cases h
    | some u =>
     rw [hg2] at h
     simp only [Option.some.injEq, Prod.mk.injEq] at h
     obtain ⟨rfl, rfl⟩ := h
     obtain ⟨h1, h2⟩ := (safOf_iff (hb.piece r m) 7 (by omega) (by omega) n f u).1 hg2
     have hl : (rawT u).length = m := by rw [← h2]; exact win_len xs r m (by omega)
     refine ⟨h1, (r : Int) + m, stands_app.2 ⟨r, ?_, stands_mk (by omega) h2⟩, ?_⟩
     ·rw [hl]; exact hs
     ·have hk : r + m < xs.length := by omega
      have := stands_one (c := 10) hk (by rw [← hc.2]; congr 1)
      rwa [Int.natCast_add] at this
   ·rw [if_neg hc] at h; cases h
 ·rintro ⟨ht, r1, h01, hs2⟩
  obtain ⟨r, hs, hs1⟩ := stands_app.1 h01
  have hl := rawT_len ht
  have hle := stands_le hs1
  have hle2 := stands_le hs2
  simp only [List.length_cons, List.length_nil] at hle2
  obtain ⟨k, rfl, hk1, hk2, hk3⟩ := stands_cut hs1
  obtain ⟨j, rfl, hj1, hj2, hj3⟩ := stands_cut hs2
  have hj : j = k + (rawT t).length := by omega
  have hg : xs.getD j 0 = 10 := by
   have hlt : j < xs.length := by simp at hj2; omega
   rw [List.length_singleton, List.drop_eq_getElem_cons hlt, List.take_succ_cons, List.take_zero] at hj3
   rw [List.getD_eq_getElem?_getD, List.getElem?_eq_getElem hlt]
   simpa using hj3
  unfold noteS
  rw [(getNum_iff hb p _ k).2 ⟨⟨by omega, by omega⟩, hs⟩]
  simp only
  rw [if_pos ⟨by simp at hj2; omega, by rw [← hg]; congr 1; omega⟩, Int.toNat_natCast, Int.toNat_natCast, hk3, (safOf_iff (by rw [← hk3]; exact hb.piece _ _) 7 (by omega) (by omega) n f t).2 ⟨ht, rfl⟩]
  simp only [Option.some.injEq, Prod.mk.injEq, true_and]
  simp at hj1
  omega
theorem note_eq {xs : List Int} (hb : BytesL xs) (n f p : Int) : noteS n f xs p = noteP n f xs p := by
 apply Option.ext
 rintro ⟨t, q⟩
 rw [noteS_iff hb, noteP_iff hb]
theorem noteT_pos {n f : Int} {t : SafT} (h : sokT n f t = true) : 2 ≤ (noteT t).length := by
 unfold noteT
 have := rawT_pos h
 simp only [List.length_append, List.length_cons, List.length_nil]; omega
theorem noteP_step {xs : List Int} (hb : BytesL xs) {n f p : Int} {t : SafT} {q : Int} (h : noteP n f xs p = some (t, q)) : sokT n f t = true ∧ 0 ≤ p ∧ p < q ∧ q ≤ xs.length := by
 obtain ⟨h1, h2⟩ := (noteP_iff hb n f p t q).1 h
 have := stands_le h2
 have := noteT_pos h1
 exact ⟨h1, by omega, by omega, by omega⟩

def lastN (n f : Int) (xs : List Int) : Nat → Int → SafT → SafT × Int
 | 0, p, t => (t, p)
 | k + 1, p, t => match noteP n f xs p with
  | none => (t, p)
  | some x => lastN n f xs k x.2 x.1
def newT : SafT := (0, 0, (0, ⟨#[]⟩, []), ⟨#[]⟩)
def lastA (n f : Int) (xs : List Int) : SafT × Int := lastN n f xs (xs.length + 1) 0 newT
theorem lastN_none {n f : Int} {xs : List Int} {p : Int} (h : noteP n f xs p = none) (k : Nat) (t : SafT) : lastN n f xs k p t = (t, p) := by
 cases k with
 | zero => rfl
 | succ k => rw [lastN, h]
theorem lastN_some {n f : Int} {xs : List Int} {p : Int} {u : SafT} {q : Int} (h : noteP n f xs p = some (u, q)) (k : Nat) (t : SafT) : lastN n f xs (k + 1) p t = lastN n f xs k q u := by
 rw [lastN, h]
theorem lastN_end {xs : List Int} (hb : BytesL xs) (n f : Int) (k : Nat) (p : Int) (t : SafT) (h0 : 0 ≤ p) (h1 : p ≤ xs.length) (h : (xs.length : Int) < p + k) :
 0 ≤ (lastN n f xs k p t).2 ∧ p ≤ (lastN n f xs k p t).2 ∧ (lastN n f xs k p t).2 ≤ xs.length ∧ noteP n f xs (lastN n f xs k p t).2 = none ∧ ((lastN n f xs k p t).1 = t ∨ sokT n f (lastN n f xs k p t).1 = true) := by
 induction k generalizing p t with
 | zero => omega
 | succ k ih =>
  cases hg : noteP n f xs p with
  | none => rw [lastN_none hg]; exact ⟨h0, by simp, h1, hg, .inl rfl⟩
  | some x =>
   obtain ⟨u, q⟩ := x
   have st := noteP_step hb hg
   rw [lastN_some hg]
   obtain ⟨a, b, c, d, e⟩ := ih q u (by omega) (by omega) (by omega)
   refine ⟨a, by omega, c, d, ?_⟩
   rcases e with e | e
   ·right; rw [e]; exact st.1
   ·exact .inr e
end Go.Proofs.YtbigcmcliamenaaGreatDoor
