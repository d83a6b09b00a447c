/- Lemmas; their conditions stand in each statement. -/
import Derived.Test.YtjkcphnohhpihaaPDAM
import Derived.Test.YtjkcphnohhpihaaPDAE
set_option maxRecDepth 100000
set_option maxHeartbeats 8000000
set_option linter.unusedSectionVars false
namespace Go.Proofs.Ytjkcphnohhpihaa
section
open Go.RowKit
theorem samePart_yes (n : Int) (s : ByteArray) (a b : Value) (xs : List Int) (w : World) (ha : RI w a xs) (hb : RI w b xs) :
 Calls Try.prog 15 #[qv n s a, qv n s b] w fun e w' => e = .returned (.bool true) ∧ Below w.heap.size w w' := by
 obtain ⟨aa, ac, rfl⟩:=ha.form
 obtain ⟨ba, bc, rfl⟩:=hb.form
 obtain ⟨w0, hw0⟩ : ∃ y, (w.alloc (.cells #[.int .i64 n,.string s,.slice aa xs.length ac] 36)).alloc (.cells #[.int .i64 n,.string s,.slice ba xs.length bc] 36) = y:=⟨_, rfl⟩
 have B0 : Below w.heap.size w w0:=hw0 ▸ qalloc2 _ _ _
 have X : Loc w0 w.heap.size #[.int .i64 n,.string s,.slice aa xs.length ac]:=hw0 ▸ (loc_at w _ _ rfl).alloc _
 have Y : Loc w0 (w.heap.size + 1) #[.int .i64 n,.string s,.slice ba xs.length bc]:=hw0 ▸ loc_at (w.alloc _) _ _ (by simp)
 have SI:=hide (sameInts_yes _ _ xs w0 (ha.below B0) (hb.below B0))
 obtain ⟨xl, hxl⟩ : ∃ l, xs.length = l:=⟨_, rfl⟩
 rw [hxl] at hw0 X Y SI ⊢
 have x0:=X.cell 0 rfl
 have x1:=X.cell 1 rfl
 have x2:=X.cell 2 rfl
 have y0:=Y.cell 0 rfl
 have y1:=Y.cell 1 rfl
 have y2:=Y.cell 2 rfl
 clear ha hb X Y hxl
 go_enter Try.func15, Try.ntmps15
 go_wp2_with fail
 clear hw0
 refine SI.out.mono ?_
 rintro e w1 ⟨rfl, nd, rfl⟩
 clear x0 x1 x2 y0 y1 y2
 go_wp2
 go_ret
 exact ⟨rfl, below_drewN' B0 _⟩

theorem sameTable_yes (v u : Value) (ps : List Pt) (w : World) (hl : ps.length ≤ 4194304) (hv : RPt w v ps) (hu : RPt w u ps) :
 Calls Try.prog 14 #[v, u] w fun e w' => e = .returned (.bool true) ∧ Below w.heap.size w w' := by
 obtain ⟨ao, ca, rfl, ha⟩:=hv
 obtain ⟨bo, cb, rfl, hb⟩:=hu
 obtain ⟨n, hn⟩ : ∃ n, ps.length = n:=⟨_, rfl⟩
 have Hn:=hide hn
 rw [hn] at hl ha hb ⊢
 clear hn
 go_enter Try.func14, Try.ntmps14
 go_wp2
 go_loopw [5] (fun i wr => ∃ k : Nat, k ≤ n ∧ i = .int .i64 k ∧ Below w.heap.size w wr) (fun i _ => n - (intOf i).toNat)
 case atStart => exact ⟨0, Nat.zero_le _, rfl, Below.refl _ _⟩
 case round =>
  obtain ⟨k, hk, rfl, br⟩:=hrel
  have hsr:=br.size
  by_cases hlt : k < n
  ·rcases ha with ha | ⟨g, o, rfl, ha⟩
   ·subst ha; have := Hn.out; simp at this; omega
   rcases hb with hb | ⟨g', o', rfl, hb⟩
   ·subst hb; have := Hn.out; simp at this; omega
   obtain ⟨p, a0, a1, a2, ra⟩:=ha k hlt
   obtain ⟨q, b0, b1, b2, rb⟩:=hb k hlt
   have hg : g < w.heap.size:=cell_lt a0
   have hg' : g' < w.heap.size:=cell_lt b0
   generalize (ps.getD k zpt).1 = m at *
   generalize (ps.getD k zpt).2.1 = s at *
   generalize (ps.getD k zpt).2.2 = xs at *
   have K : Hid (∀ w', Below wr.heap.size wr w' → Below wr.heap.size wr w' ∧ (w'.cell? ⟨g, o + k * 3, none⟩ = some (.int .i64 m) ∧ w'.cell? ⟨g, o + k * 3 + 1, none⟩ = some (.string s) ∧ w'.cell? ⟨g, o + k * 3 + 2, none⟩ = some p) ∧ (w'.cell? ⟨g', o' + k * 3, none⟩ = some (.int .i64 m) ∧ w'.cell? ⟨g', o' + k * 3 + 1, none⟩ = some (.string s) ∧ w'.cell? ⟨g', o' + k * 3 + 2, none⟩ = some q)):=fun w' hb' => by
    have hw:=br.trans (hb'.mono hsr)
    exact ⟨hb', ⟨(hw.cell (p := ⟨g, o + k * 3, none⟩) hg).trans a0, (hw.cell (p := ⟨g, o + k * 3 + 1, none⟩) hg).trans a1, (hw.cell (p := ⟨g, o + k * 3 + 2, none⟩) hg).trans a2⟩, ⟨(hw.cell (p := ⟨g', o' + k * 3, none⟩) hg').trans b0, (hw.cell (p := ⟨g', o' + k * 3 + 1, none⟩) hg').trans b1, (hw.cell (p := ⟨g', o' + k * 3 + 2, none⟩) hg').trans b2⟩⟩
   have EQ : Hid (∀ w', Below wr.heap.size wr w' → Calls Try.prog 15 #[qv m s p, qv m s q] w' fun e w'' => e = .returned (.bool true) ∧ Below w'.heap.size w' w''):=hide fun w' hb' => by
    have hw:=br.trans (hb'.mono hsr)
    exact samePart_yes m s p q xs w' (ra.below hw) (rb.below hw)
   obtain ⟨pa, pc, rfl⟩:=ra.form
   obtain ⟨qa, qc, rfl⟩:=rb.form
   have bA : Below wr.heap.size wr wr.drew:=Below.drew (Below.refl _ _)
   have hKeep:=K.out _ bA
   clear ha hb a0 a1 a2 b0 b1 b2 ra rb
   generalize xs.length = xl at *
   go_wp2_with fail
   first | go_region_held3 (fun w' => Below wr.heap.size wr w' ∧ (w'.cell? ⟨g, o + k * 3, none⟩ = some (.int .i64 m) ∧ w'.cell? ⟨g, o + k * 3 + 1, none⟩ = some (.string s) ∧ w'.cell? ⟨g, o + k * 3 + 2, none⟩ = some (.slice pa xl pc)) ∧ (w'.cell? ⟨g', o' + k * 3, none⟩ = some (.int .i64 m) ∧ w'.cell? ⟨g', o' + k * 3 + 1, none⟩ = some (.string s) ∧ w'.cell? ⟨g', o' + k * 3 + 2, none⟩ = some (.slice qa xl qc))) (exact hKeep) (first
    | (go_at_call 15; have hgo := bA; refine (EQ.out _ bA).mono ?_; rintro e wa ⟨rfl, ba⟩
       have bB : Below wr.heap.size wr wa:=bA.trans ba
       have hKeep:=K.out _ bB; clear bA hgo)) | fail
   all_goals
    go_wp2
    go_roundw
    case rel => exact ⟨k + 1, by omega, by go_num, br.trans (bB.mono hsr)⟩
    case measure => simp [intOf]; omega
  have hkn : k = n:=by omega
  subst hkn
  clear ha hb
  go_wp2
  go_ret
  exact ⟨rfl, br⟩
end
section
open Go.RowKit
variable [∀ (a b c d : Int), Decidable (Ok4 a b c d)]
variable [∀ (a b c d : Nat), Decidable (okN a b c d)]
variable [∀ (x : T4), Decidable (OkT x)]
variable [∀ (last : Int) (s : St), Decidable (GoodSt last s)]
variable [∀ (n f : Int), Decidable (COk n f)]
variable [∀ (n : Int) (s : List Int), Decidable (OkL n s)]
theorem drop_place {ps : List Pt} {view : Int} {i : Nat} (hi : i < ps.length) (hv : view ≤ (ps.getD i zpt).1) : (dropP (ps.take i) view).length < (dropP ps view).length ∧ (dropP ps view).getD (dropP (ps.take i) view).length zpt = ps.getD i zpt := by
 have e : ps = ps.take i ++ ps.getD i zpt :: ps.drop (i + 1):=by
  conv => lhs; rw [← List.take_append_drop i ps]
  congr 1
  rw [List.drop_eq_getElem_cons hi]
  simp [List.getElem?_eq_getElem hi]
 have e2 : dropP ps view = dropP (ps.take i) view ++ ps.getD i zpt :: dropP (ps.drop (i + 1)) view:=by
  conv => lhs; rw [e]
  unfold dropP
  rw [List.filter_append, List.filter_cons, if_pos (by simpa using hv)]
 rw [e2]
 constructor
 ·simp
 simp
theorem fnDropsBelow_short (ao : Option Addr) (ca : Nat) (zs : List Int) (w : World) (h : DCode w ao zs) :
 Calls Try.prog 4 #[.slice ao zs.length ca] w fun e w' => e = .returned (.bool true) ∧ Below w.heap.size w w' := by
 have hz:=h.len
 have BG:=hide fun w => big_any ao zs.length ca w (by omega)
 rw [decide_eq_false (show ¬ 1048576 < zs.length by omega)] at BG
 have DT:=hide fun w' (hb : Below w.heap.size w w') => drawTableDrop ao ca zs w' (h.below hb)
 generalize zs.length = zl at *
 clear h
 go_enter Try.func4, Try.ntmps4
 go_wp2_with fail
 refine (BG.out _).mono ?_
 rintro e w1 ⟨rfl, B1⟩
 clear BG
 go_wp2_with fail
 refine (DT.out _ B1).mono ?_
 rintro e w2 ⟨t, ps, view, rfl, hl, SM, TB, b2⟩
 have B2:=bu B1 b2
 have hsm : ∀ q ∈ ps, q.2.1.size ≤ 1048576 ∧ q.2.2.length ≤ 1048576:=fun q hq => by have:=SM.out q hq; omega
 have R2:=TB.rpt (fun q hq => by have:=hsm q hq; omega)
 have ID:=hide fun w' (hb : Below w2.heap.size w2 w') => implTableDrop t ps view w' (by omega) (fun q hq => by have:=hsm q hq; omega) (R2.below hb)
 have SD:=hide fun w' (hb : Below w2.heap.size w2 w') => specTableDrop t ps view w' (by omega) (R2.below hb)
 have RB:=hide fun w' (hb : Below w2.heap.size w2 w') => R2.below hb
 obtain ⟨ta, tc, ht⟩:=TB.form
 have hdl : (dropP ps view).length ≤ ps.length:=List.length_filter_le _ _
 have hds : Hid (∀ q ∈ dropP ps view, q.2.2.length ≤ 4194304):=hide fun q hq => by have:=hsm q (List.mem_filter.1 hq).1; omega
 have PL:=hide fun i hi hv => drop_place (ps:=ps) (view:=view) (i:=i) hi hv
 have DK:=hide fun i hi => drop_take ps i view hi
 have DN:=hide (show dropP (ps.take ps.length) view = dropP ps view by rw [List.take_length])
 obtain ⟨n, hn⟩ : ∃ l, ps.length = l:=⟨_, rfl⟩
 obtain ⟨dl, hdle⟩ : ∃ l, (dropP ps view).length = l:=⟨_, rfl⟩
 rw [hn] at ht hl hdl DN
 rw [hdle] at hdl
 subst ht
 replace hn:=hide hn
 replace hdle:=hide hdle
 clear TB b2 B1 DT hsm SM
 go_wp2_with fail
 refine (ID.out _ (Below.refl _ _)).mono ?_
 rintro e w3 ⟨a, rfl, TA, b3⟩
 have B3:=bu B2 b3
 obtain ⟨aa, ac, ha⟩:=TA.form
 rw [hdle.out] at ha
 subst ha
 have RA:=hide fun w' (hb : Below w3.heap.size w3 w') => (TA.below hb).rpt hds.out
 clear ID TA
 go_wp2_with fail
 refine (SD.out _ b3).mono ?_
 rintro e w4 ⟨c, rfl, TC, b4⟩
 have B4:=bu B3 b4
 have b34:=b4
 have ST:=hide (sameTable_yes (.slice aa dl ac) c (dropP ps view) w4 (by rw [hdle.out]; omega) (RA.out _ b4) (TC.rpt hds.out))
 obtain ⟨ta4, tc4, hc⟩:=TC.form
 rw [hdle.out] at hc
 subst hc
 clear TC SD
 go_wp2_with fail
 refine ST.out.mono ?_
 rintro e w5 ⟨rfl, b5⟩
 have B5:=bu B4 b5
 have R5:=hide (RB.out w5 (b3.trans ((bu b4 b5).mono b3.size)))
 have A5:=hide (RA.out w5 (bu b4 b5))
 clear ST b5 b4 b34 b3 RA RB B4 B3 B2
 go_wp2
 go_loopw [6, 7] (fun x y wr => ∃ (i k : Nat), i ≤ n ∧ k ≤ dl ∧ x = .int .i64 k ∧ y = .int .i64 i ∧ Hid ((dropP (ps.take i) view).length = k) ∧ Below w5.heap.size w5 wr) (fun _ y _ => n - (intOf y).toNat)
 case atStart => exact ⟨0, 0, by omega, by omega, rfl, rfl, hide (by simp [dropP]), Below.refl _ _⟩
 case round =>
  obtain ⟨i, k, hi, hk, rfl, rfl, HK, br⟩:=hrel
  by_cases hlt : i < n
  ·have hix : i < ps.length:=by have:=hn.out; omega
   obtain ⟨g, off, u, rfl, c0, c1, c2, ru⟩:=(R5.out.below br).at i hix
   have D1:=hide (DK.out i hix)
   have P1:=hide (PL.out i hix)
   by_cases hv : view ≤ (ps.getD i zpt).1
   ·obtain ⟨q1, q2⟩:=P1.out hv
    have D2:=D1.out
    rw [if_pos hv] at D2
    have HK2 : Hid ((dropP (ps.take (i + 1)) view).length = k + 1):=hide (by rw [D2, List.length_append, HK.out]; rfl)
    rw [HK.out] at q1 q2
    have q3 : k < dl:=by have:=hdle.out; omega
    obtain ⟨g', off', u', hao, d0, d1, d2, ru'⟩:=(A5.out.below br).at k q1
    cases hao
    rw [q2] at d0 d1 ru'
    have hd : decide ((ps.getD i zpt).1 < view) = false:=decide_eq_false (by omega)
    have SP : Hid (∀ w', Below wr.heap.size wr w' → Calls Try.prog 15 #[qv (ps.getD i zpt).1 (ps.getD i zpt).2.1 u', qv (ps.getD i zpt).1 (ps.getD i zpt).2.1 u] w' fun e w'' => e = .returned (.bool true) ∧ Below w'.heap.size w' w''):=hide fun w' hb => samePart_yes _ _ u' u (ps.getD i zpt).2.2 w' (ru'.below hb) (ru.below hb)
    obtain ⟨xa, xc, rfl⟩:=ru.form
    obtain ⟨ya, yc, rfl⟩:=ru'.form
    have hge : decide ((k : Int) ≥ (dl : Int)) = false:=by simp; omega
    have hge3 : decide (dl ≤ k) = false:=by simp; omega
    clear D1 D2 P1 q1 q2 HK ru ru' hv PL DK
    generalize (ps.getD i zpt).1 = m at *
    generalize (ps.getD i zpt).2.1 = s at *
    generalize (ps.getD i zpt).2.2.length = xl at *
    have lg:=cell_lt c0
    have lg':=cell_lt d0
    have K : Hid (∀ w', Below wr.heap.size wr w' → (fun w' => (w'.cell? ⟨g, off + i * 3, none⟩ = some (.int .i64 m) ∧ w'.cell? ⟨g, off + i * 3 + 1, none⟩ = some (.string s) ∧ w'.cell? ⟨g, off + i * 3 + 2, none⟩ = some (.slice xa xl xc)) ∧ (w'.cell? ⟨g', off' + k * 3, none⟩ = some (.int .i64 m) ∧ w'.cell? ⟨g', off' + k * 3 + 1, none⟩ = some (.string s) ∧ w'.cell? ⟨g', off' + k * 3 + 2, none⟩ = some (.slice ya xl yc))) w'):=hide fun w' hb => ⟨⟨(hb.cell (p:=⟨g, off + i * 3, none⟩) lg).trans c0, (hb.cell (p:=⟨g, off + i * 3 + 1, none⟩) lg).trans c1, (hb.cell (p:=⟨g, off + i * 3 + 2, none⟩) lg).trans c2⟩, ⟨(hb.cell (p:=⟨g', off' + k * 3, none⟩) lg').trans d0, (hb.cell (p:=⟨g', off' + k * 3 + 1, none⟩) lg').trans d1, (hb.cell (p:=⟨g', off' + k * 3 + 2, none⟩) lg').trans d2⟩⟩
    have bA : Below wr.heap.size wr wr.drew:=Below.drew (Below.refl _ _)
    go_upto_region 12 with fail
    refine wrn K bA (fun hHeld => ?_)
    refine tx 0 37 ?_
    refine tx 1 38 ?_
    refine tx 2 39 ?_
    refine tx 3 40 ?_
    refine tx 4 41 ?_
    refine tx 5 42 ?_
    refine tx 6 43 ?_
    refine tx 9 46 ?_
    refine tx 10 47 ?_
    refine tx 7 44 ?_
    refine tx 11 48 ?_
    refine tx 8 45 ?_
    refine tx 12 49 ?_
    refine rd 13 rfl (fun KK hKK => ?_)
    go_simp
    refine (SP.out _ bA).mono ?_
    rintro _ wa ⟨rfl, ba⟩
    have bB : Below wr.heap.size wr wa:=bu bA ba
    clear hHeld
    refine hKK.out _ _ (K.out _ bB) (fun hHeld => ?_)
    clear hKK KK
    refine tx 14 51 ?_
    refine tx 15 52 ?_
    clear hHeld
    refine wdn ?_
    have BB:=bu br bB
    clear c0 c1 c2 d0 d1 d2 K SP
    go_wp2
    go_roundw
    case rel => exact ⟨i + 1, k + 1, by omega, by omega, by go_num, by go_num, HK2, BB⟩
    case measure => simp [intOf]; omega
   have D2:=D1.out
   rw [if_neg hv, List.append_nil] at D2
   have HK2 : Hid ((dropP (ps.take (i + 1)) view).length = k):=hide (by rw [D2]; exact HK.out)
   have hd : decide ((ps.getD i zpt).1 < view) = true:=decide_eq_true (by omega)
   obtain ⟨xa, xc, rfl⟩:=ru.form
   clear D1 D2 P1 HK ru hv PL DK
   generalize (ps.getD i zpt).1 = m at *
   generalize (ps.getD i zpt).2.1 = s at *
   generalize (ps.getD i zpt).2.2.length = xl at *
   go_wp2
   go_roundw
   case rel => exact ⟨i + 1, k, by omega, by omega, rfl, by go_num, HK2, br⟩
   case measure => simp [intOf]; omega
  obtain rfl : i = n:=by omega
  have hkd : k = dl:=by have:=HK.out; rw [DN.out, hdle.out] at this; exact this.symm
  subst hkd
  clear HK PL DK
  have BB:=bu B5 br
  go_wp2
  go_ret
  exact ⟨by simp, BB⟩

theorem fnDropsBelow_long (ao : Option Addr) (n ca : Nat) (w : World) (h : 1048576 < n) (hm : n ≤ maxLen) :
 Calls Try.prog 4 #[.slice ao n ca] w fun e w' => e = .returned (.bool true) ∧ Below w.heap.size w w' := by
 have BG:=hide fun w => big_any ao n ca w (by unfold maxLen at hm; omega)
 rw [decide_eq_true h] at BG
 go_enter Try.func4, Try.ntmps4
 go_wp2_with fail
 refine (BG.out _).mono ?_
 rintro _ w1 ⟨rfl, b1⟩
 go_wp2
 go_ret
 exact ⟨rfl, b1⟩
theorem fnDropsBelow_walk (ao : Option Addr) (ca : Nat) (zs : List Int) (w : World) (hm : zs.length ≤ maxLen) (hx : zs = [] ∨ ∃ b off, ao = some ⟨b, off, none⟩ ∧ ∀ k, k < zs.length → w.cell? ⟨b, off + k, none⟩ = some (.int .u8 (zs.getD k 0))) (hb : ∀ k, k < zs.length → 0 ≤ zs.getD k 0 ∧ zs.getD k 0 ≤ 255) :
 Calls Try.prog 4 #[.slice ao zs.length ca] w fun e w' => e = .returned (.bool true) ∧ Below w.heap.size w w' := by
 by_cases h : zs.length ≤ 1048576
 ·exact fnDropsBelow_short ao ca zs w ⟨h, hx, hb⟩
 exact fnDropsBelow_long ao zs.length ca w (by omega) hm
end
end Go.Proofs.Ytjkcphnohhpihaa
