/- Texts that belong together: NoteSpecLast, RepKeptS, RepKeptI, RepNewS, RepNewI, NotePut, ByteLaw, RepFin, BytesOpen. -/
import Derived.Test.YtndpjhiidmdlhaaGreatDoorRCBK
import Derived.Test.YtndpjhiidmdlhaaGreatDoorRCBJ
import Derived.Test.YtndpjhiidmdlhaaGreatDoorRCAE
import Derived.Deep.DeepCutAuto
import Derived.Laws.EntriesVeiled
import Derived.Test.YtndpjhiidmdlhaaGreatDoorRCBD
import Derived.Test.YtndpjhiidmdlhaaGreatDoorRCBG
import Derived.Laws.ResultCell
import Derived.Test.YtndpjhiidmdlhaaGreatDoorRCAK
import Derived.Test.YtndpjhiidmdlhaaGreatDoorRCBI
import Derived.Test.YtndpjhiidmdlhaaGreatDoorRCAX
import Derived.Test.YtndpjhiidmdlhaaGreatDoorRCAP
import Derived.Test.YtndpjhiidmdlhaaGreatDoorRCAO
import Derived.Test.YtndpjhiidmdlhaaGreatDoorRCAA
import Derived.Test.YtndpjhiidmdlhaaGreatDoorRCAD
import Derived.Test.YtndpjhiidmdlhaaGreatDoorRCAC
import Derived.Test.YtndpjhiidmdlhaaGreatDoorRCBH
import Derived.LaidHandle
set_option maxRecDepth 100000
set_option maxHeartbeats 16000000
namespace Go.Proofs.YtndpjhiidmdlhaaGreatDoor
open Go.RowKit
set_option linter.unusedSectionVars false
variable [∀ (a b c d : Int), Decidable (Ok4 a b c d)]
variable [∀ (a b c d : Nat), Decidable (okN a b c d)]
variable [∀ (last : Int) (s : St), Decidable (GoodSt last s)]
variable [∀ (x : T4), Decidable (OkT x)]
variable [∀ (n : Int) (s : List Int), Decidable (OkL n s)]
variable [∀ (n f : Int), Decidable (COk n f)]

theorem bcut (b off n ca q m : Nat) (w : World) (h : q + m ≤ ca) (hq : q < ca) :
 (Instr.slice 31 (.slice (some ⟨b, off, none⟩) n ca) (some (.int .i64 (q : Int))) (some (.int .i64 ((q : Int) + (m : Int)))) none).run Tryz.prog w = .ok (.slice (some ⟨b, off + q, none⟩) m (ca - q)) w := by
 obtain ⟨i0, hi, hz0, hz1, hz2⟩:=info_parts Tryz.info5
 rw [run_slice_lh (ht := Tryz.underlying31) (kl := .i64) (kh := .i64) (l := (q : Int)) (h := (q : Int) + (m : Int)) (h0 := by omega) (h1 := by omega) (h2 := by omega)]
 have he : Tryz.prog.elem 31 = 5:=by simp [Program.elem, Tryz.underlying31]
 have hs : (sizeOf (Tryz.prog.elem 31)).run Tryz.prog w = .ok 1 w:=by rw [he]; simp [sizeOf, typeInfo, hi, hz1]
 rw [hs]
 have hne : ca ≠ q:=by omega
 have e1 : ((q : Int) + (m : Int)).toNat = q + m:=by omega
 simp [sliced, Result.andThen, hne, e1, Addr.add]
theorem RB.sub {w : World} {b off n ca : Nat} {xs : List Int} (h : RB w (.slice (some ⟨b, off, none⟩) n ca) xs) (q m : Nat) (hq : q + m ≤ xs.length) : RB w (.slice (some ⟨b, off + q, none⟩) m (ca - q)) ((xs.drop q).take m) := by
 obtain ⟨hl, ao, cap, e, hc, h⟩:=h
 cases e
 have hw:=win_len xs q m hq
 refine ⟨by omega, _, _, by rw [hw], ⟨by omega, by unfold maxLen at *; omega⟩, ?_⟩
 rcases h with rfl | ⟨b', off', e, h⟩
 ·left; simp
 ·cases e
  right
  refine ⟨b, off + q, rfl, fun k hk => ?_⟩
  rw [hw] at hk
  exact win_cells h hq k hk
theorem RB.at {w : World} {ao : Option Addr} {n ca : Nat} {xs : List Int} (h : RB w (.slice ao n ca) xs) (hx : 0 < xs.length) : (n = xs.length ∧ n ≤ ca) ∧ ∃ b off, ao = some ⟨b, off, none⟩ ∧ ∀ k, k < xs.length → w.cell? ⟨b, off + k, none⟩ = some (.int .u8 (xs.getD k 0)) := by
 obtain ⟨hl, ao', ca', e, hc, h⟩:=h
 cases e
 rcases h with rfl | ⟨b, off, rfl, h⟩
 ·simp at hx
 ·exact ⟨⟨rfl, hc.1⟩, b, off, rfl, h⟩
theorem note_none {xs : List Int} (hb : BytesL xs) {n f p : Int} (h : getNum xs p = none) : noteP n f xs p = none := by rw [← note_eq hb]; unfold noteS; rw [h]
theorem note_bad {xs : List Int} (hb : BytesL xs) {n f p m q : Int} (h : getNum xs p = some (m, q)) (hc : ¬ (m < (xs.length : Int) - q ∧ xs.getD (q + m).toNat 0 = 10)) : noteP n f xs p = none := by rw [← note_eq hb]; unfold noteS; rw [h]; simp only; rw [if_neg hc]
theorem note_go {xs : List Int} (hb : BytesL xs) {n f p : Int} {m q : Nat} (h : getNum xs p = some ((m : Int), (q : Int))) (hc : (m : Int) < (xs.length : Int) - q) (ht : xs.getD (q + m) 0 = 10) : noteP n f xs p = (safOfA 7 n f ((xs.drop q).take m)).map fun t => (t, ((q + m + 1 : Nat) : Int)) := by
 rw [← note_eq hb]; unfold noteS; rw [h]
 simp only
 rw [if_pos ⟨hc, by rw [← ht]; congr 1⟩, Int.toNat_natCast, Int.toNat_natCast]
 cases safOfA 7 n f ((xs.drop q).take m) with
 | none => rfl
 | some t => simp
theorem specLastNote_any (n f : Int) (ao : Option Addr) (ca : Nat) (xs : List Int) (w : World) (hx : xs.length ≤ 1048576) (hr : RB w (.slice ao xs.length ca) xs) (hb : BytesL xs) (x : SafT × Int) (hxx : Hid (lastA n f xs = x)) :
 Calls Tryz.prog 69 #[cv n f,.slice ao xs.length ca] w fun e w' => ∃ u, e = .returned (.tuple #[sv x.1.1 x.1.2.1 x.1.2.2.1.1 x.1.2.2.1.2.1 u x.1.2.2.2,.int .i64 x.2]) ∧ OI w' w.heap.size u x.1.2.2.1.2.2 ∧ Below w.heap.size w w' := by
 obtain ⟨w0, hw0⟩ : ∃ y, (w.alloc (.cells #[.int .i64 n,.int .i64 f] 39)).alloc (.cells #[.int .i64 0,.int .i64 0,.int .i64 0,.string ⟨#[]⟩,.slice none 0 0,.string ⟨#[]⟩] 43) = y:=⟨_, rfl⟩
 have B0 : Below w.heap.size w w0:=hw0 ▸ qalloc2 _ _ _
 have LC : Loc w0 w.heap.size #[.int .i64 n,.int .i64 f]:=hw0 ▸ (loc_at w _ _ rfl).alloc _
 have LZ : Loc w0 (w.heap.size + 1) #[.int .i64 0,.int .i64 0,.int .i64 0,.string ⟨#[]⟩,.slice none 0 0,.string ⟨#[]⟩]:=hw0 ▸ loc_at (w.alloc _) _ _ (by simp)
 have z0 : w.heap.size + 1 + 1 ≤ w0.heap.size:=by rw [← hw0]; simp
 have RW:=hide fun w' (b : Below w.heap.size w w') => hr.below b
 have HBY:=hide hb
 clear hr hb
 go_enter Tryz.func69, Tryz.ntmps69
 go_wp2_with fail
 clear hw0
 refine (specSafeNew _).mono ?_
 rintro e w1 ⟨rfl, b1⟩
 replace LC:=LC.up b1
 replace LZ:=LZ.up b1
 have z1:=b1.size
 have B1:=bu B0 b1
 clear b1 B0
 go_upto_region 2 with fail
 obtain ⟨w2, hw2⟩ : ∃ y, w1.alloc (.cells #[.int .i64 0,.int .i64 0,.int .i64 0,.string ⟨#[]⟩,.slice none 0 0,.string ⟨#[]⟩] 43) = y:=⟨_, rfl⟩
 rw [hw2]
 have b2 : Below w1.heap.size w1 w2:=hw2 ▸ conf_below _ _
 have LB : Loc w2 w1.heap.size #[.int .i64 0,.int .i64 0,.int .i64 0,.string ⟨#[]⟩,.slice none 0 0,.string ⟨#[]⟩]:=hw2 ▸ loc_at w1 _ _ rfl
 clear hw2
 replace LC:=LC.up b2
 replace LZ:=LZ.up b2
 have B2:=bu B1 b2
 clear b2 B1
 obtain ⟨hB, ehB⟩ : ∃ y, w1.heap.size = y:=⟨_, rfl⟩
 rw [ehB] at LB ⊢
 have zB : w.heap.size + 1 + 1 ≤ hB:=by omega
 clear ehB z1
 go_wp2
 have HI:=hide (show lastA n f xs = lastN n f xs (xs.length + 1) 0 newT from rfl)
 go_loopw [5, 7] (fun r i wr => ∃ (vo lo v : Int) (s : ByteArray) (ua : Option Addr) (uc : Nat) (ys : List Int) (d : ByteArray) (p : Int) (k : Nat), r = .int .i64 0 ∧ i = .int .i64 p ∧ Hid (lastA n f xs = lastN n f xs k p (vo, lo, (v, s, ys), d)) ∧ ((xs.length : Int) < p + k ∧ 0 ≤ p ∧ p ≤ xs.length) ∧ Loc wr w.heap.size #[.int .i64 n,.int .i64 f] ∧ Loc wr (w.heap.size + 1) #[.int .i64 0,.int .i64 0,.int .i64 0,.string ⟨#[]⟩,.slice none 0 0,.string ⟨#[]⟩] ∧ Loc wr hB #[.int .i64 vo,.int .i64 lo,.int .i64 v,.string s,.slice ua ys.length uc,.string d] ∧ OI wr w.heap.size (.slice ua ys.length uc) ys ∧ (∀ j, (Value.slice ua ys.length uc).ownBlock = some j → j ≠ hB ∧ j ≠ w.heap.size ∧ j ≠ w.heap.size + 1) ∧ Below w.heap.size w wr) (fun _ i _ => xs.length + 1 - (intOf i).toNat)
 case atStart => exact ⟨0, 0, 0, ⟨#[]⟩, none, 0, [], ⟨#[]⟩, 0, xs.length + 1, rfl, rfl, HI, ⟨by omega, by omega, by omega⟩, LC, LZ, LB, World.ownsRow_nil _ _ _ _, (fun j e => by cases e), B2⟩
 case round =>
  clear LC LZ LB B2 HI
  obtain ⟨vo, lo, v, s, ua, uc, ys, d, p, k, rfl, rfl, HI, ⟨hk, hp0, hp1⟩, LC, LZ, LB, oB, tB, Bwr⟩:=hrel
  have zr:=Bwr.size
  have lB:=LB.lt
  cases hgn : getNum xs p with
  | none =>
   have hnone:=note_none (n:=n) (f:=f) HBY.out hgn
   have GN:=hide (specGetB (.slice ao xs.length ca) xs p wr (RW.out _ Bwr) HBY.out.get (n:=0) (q:=0) (c:=false) (by rw [hgn]; exact ⟨rfl, rfl, rfl⟩))
   clear hgn
   go_wp2_with fail
   refine GN.out.mono ?_
   rintro _ w21 ⟨rfl, bb⟩
   have Bw21:=bu Bwr bb
   have sw21:=bb.size
   replace LC:=LC.up bb
   replace LZ:=LZ.up bb
   replace LB:=LB.up bb
   replace oB:=oB.below bb
   clear Bwr
   clear bb
   clear GN
   have hx1 : x = ((vo, lo, (v, s, ys), d), p):=by rw [← hxx.out, HI.out, lastN_none hnone]
   have e0:=LB.cell 0 rfl
   have e1:=LB.cell 1 rfl
   have e2:=LB.cell 2 rfl
   have e3:=LB.cell 3 rfl
   have e4:=LB.cell 4 rfl
   have e5:=LB.cell 5 rfl
   have y0:=LZ.cell 0 rfl
   have y1:=LZ.cell 1 rfl
   have y2:=LZ.cell 2 rfl
   have y3:=LZ.cell 3 rfl
   have y4:=LZ.cell 4 rfl
   have y5:=LZ.cell 5 rfl
   have fy:=LZ.frozen
   have O6:=hide oB
   subst hx1
   clear hxx HI hnone oB LC LZ LB RW HBY
   have K7:=kp6 w21 (w.heap.size + 1) (.int .i64 vo) (.int .i64 lo) (.int .i64 v) (.string s) (.slice ua ys.length uc) (.string d)
   go_wp2
   refine bodyPost_ret (v := .tuple #[sv vo lo v s (.slice ua ys.length uc) d,.int .i64 p]) (by simp [results, Tryz.results69, go_sem, y0, y1, y2, y3, y4, y5]) rfl ?_
   exact ⟨_, rfl, O6.out.kp K7 (fun j hj e => by have := tB j hj; omega), Below.kp Bw21 K7 Bw21.size (fun j e => by omega)⟩
  | some z =>
   obtain ⟨m, q⟩:=z
   have bd:=getNum_bd xs HBY.out.get p m q hgn
   have hlt:=getNum_lt HBY.out hgn
   obtain ⟨m, rfl⟩:=Int.eq_ofNat_of_zero_le bd.1
   obtain ⟨q, rfl⟩:=Int.eq_ofNat_of_zero_le (show 0 ≤ q by omega)
   have GN:=hide (specGetB (.slice ao xs.length ca) xs p wr (RW.out _ Bwr) HBY.out.get (n:=(m : Int)) (q:=(q : Int)) (c:=true) (by rw [hgn]; exact ⟨rfl, rfl, rfl⟩))
   have ew1 : IntKind.i64.wrap ((xs.length : Int) - (q : Int)) = (xs.length : Int) - (q : Int):=by rw [IntKind.wrap_i64]; omega
   have ew2 : IntKind.i64.wrap ((q : Int) + (m : Int)) = (q : Int) + (m : Int):=by rw [IntKind.wrap_i64]; omega
   go_wp2_with fail
   refine GN.out.mono ?_
   rintro _ w21 ⟨rfl, bb⟩
   have Bw21:=bu Bwr bb
   have sw21:=bb.size
   replace LC:=LC.up bb
   replace LZ:=LZ.up bb
   replace LB:=LB.up bb
   replace oB:=oB.below bb
   clear Bwr
   clear bb
   clear GN
   by_cases hsz : (m : Int) < (xs.length : Int) - (q : Int)
   ·skip
    have hd : decide ((xs.length : Int) - (q : Int) ≤ (m : Int)) = false:=by simp; omega
    obtain ⟨⟨_, hca⟩, bb0, off, rfl, hcl⟩:=(RW.out _ Bw21).at (by omega)
    have hc:=hcl (q + m) (by omega)
    have hc2 : w21.cell? ⟨bb0, off + (q + m), none⟩ = some (.int .u8 (xs.getD (q + m) 0)):=hc
    clear hcl hc
    by_cases h10 : xs.getD (q + m) 0 = 10
    ·skip
     rw [h10] at hc2
     have HG:=hide (note_go (n:=n) (f:=f) HBY.out hgn (by omega) h10)
     have hsl:=fun w => bcut bb0 off xs.length ca q m w (by omega) (by omega)
     have hwl:=win_len xs q m (by omega)
     have RS:=hide fun w' (b : Below w21.heap.size w21 w') => (RW.out w' (bu Bw21 b)).sub q m (by omega)
     have BS:=hide (HBY.out.piece q m)
     obtain ⟨sub, hsub⟩ : ∃ y, (xs.drop q).take m = y:=⟨_, rfl⟩
     rw [hsub] at HG hwl RS BS
     have SO:=hide fun w' (b : Below w21.heap.size w21 w') => specSafeOf_any n f (some ⟨bb0, off + q, none⟩) (ca - q) sub w' (by omega) (by have:=RS.out w' b; rwa [hwl]) BS.out _ _ (hide ⟨rfl, rfl⟩)
     rw [hwl] at SO
     have HM : Hid (lastA n f xs = lastN n f xs k p (vo, lo, (v, s, ys), d)):=HI
     obtain ⟨fb, hfb⟩ : ∃ y, (safOfA 7 n f sub).isSome = y:=⟨_, rfl⟩
     obtain ⟨tt, htt⟩ : ∃ y, (safOfA 7 n f sub).getD noSaf = y:=⟨_, rfl⟩
     rw [hfb, htt] at SO
     have HS : Hid (fb = true → noteP n f xs p = some (tt, ((q + m + 1 : Nat) : Int))):=hide fun h => by
      rw [HG.out]
      cases hs : safOfA 7 n f sub with
      | none => rw [hs] at hfb; rw [h] at hfb; cases hfb
      | some t => rw [hs] at htt; simp at htt; rw [htt]; rfl
     have HN : Hid (fb = false → noteP n f xs p = none):=hide fun h => by
      rw [HG.out]
      cases hs : safOfA 7 n f sub with
      | none => rfl
      | some t => rw [hs, h] at hfb; cases hfb
     obtain ⟨vo', lo', ⟨v', s', ys'⟩, d'⟩:=tt
     simp only at SO
     clear hfb htt HG hsub hwl RS BS HM h10 hgn ew1
     have hdd : ((10 : Int) != 10) = false:=by decide
     have K : Hid (∀ w', Below w21.heap.size w21 w' → (fun w' => Below w21.heap.size w21 w' ∧ (w'.cell? ⟨w.heap.size, 0, none⟩ = some (.int .i64 n) ∧ w'.cell? ⟨w.heap.size, 1, none⟩ = some (.int .i64 f))) w'):=hide fun w' hb' => ⟨hb', ⟨(LC.up hb').cell 0 rfl, (LC.up hb').cell 1 rfl⟩⟩
     go_upto_region 6 with fail
     go_cut [11, 12] (fun c d1 wx => ∃ h uu, c = .pointer (some ⟨h, 0, none⟩) ∧ d1 = .bool fb ∧ w21.heap.size ≤ h ∧ h < wx.heap.size ∧ Loc wx h #[.int .i64 vo',.int .i64 lo',.int .i64 v',.string s', uu,.string d'] ∧ OI wx w21.heap.size uu ys' ∧ (∀ j, uu.ownBlock = some j → w21.heap.size ≤ j ∧ j < wx.heap.size ∧ j ≠ h) ∧ Below w21.heap.size w21 wx)
     case first =>
      refine wp_region_noPanic ?_
      refine wp_region_held_drew (S := fun w' => Below w21.heap.size w21 w' ∧ (w'.cell? ⟨w.heap.size, 0, none⟩ = some (.int .i64 n) ∧ w'.cell? ⟨w.heap.size, 1, none⟩ = some (.int .i64 f))) (by kernel_rfl) (K.out _ (Below.drew (Below.refl _ _))) (fun hHeld => ?_)
      obtain ⟨wd, hd⟩ : ∃ wd, w21.drew = wd:=⟨_, rfl⟩
      have bd : Below w21.heap.size w21 wd:=hd ▸ Below.drew (Below.refl _ _)
      have szd:=bd.size
      rw [hd] at hHeld ⊢
      clear hd
      refine' tj 0 43 rfl ?_ ?_;rotate_left
      ·intro w h;go_simp;try rfl
      simp only [pU]
      refine' tj 1 44 rfl ?_ ?_;rotate_left
      ·intro w h;go_simp;try rfl
      simp only [pU]
      refine' tj 2 45 rfl ?_ ?_;rotate_left
      ·intro w h;go_simp;try rfl
      simp only [pU]
      refine' tj 3 46 rfl ?_ ?_;rotate_left
      ·intro w h;go_simp;try rfl
      simp only [pU]
      refine' tj 4 47 rfl ?_ ?_;rotate_left
      ·intro w h;go_simp;try rfl
      simp only [pU]
      refine' tj 5 48 rfl ?_ ?_;rotate_left
      ·intro w h;go_simp;try rfl
      simp only [pU]
      refine' tj 6 49 rfl ?_ ?_;rotate_left
      ·intro w h;go_simp;try rfl
      simp only [pU]
      refine wpAnyH_ready (rs := [7, 11]) (by kernel_rfl) (by simp) (AllReadyH.cons rfl (fun KK hKK => ?_) (AllReadyH.cons rfl (fun KK hKK => ?_) AllReadyH.nil))
      ·go_simp
       have hgo:=bd
       refine (SO.out _ hgo).mono ?_
       rintro e wc6_1 ⟨vv, rfl, oS, bnew⟩
       have bc6_2 : Below w21.heap.size w21 wc6_1:=bu bd bnew
       have zzwc6_1:=bnew.size
       have tl:=World.ownsRow.lt oS
       obtain ⟨aa, kk, rfl⟩:=oS.form
       clear hHeld bnew hgo
       refine hKK.out _ _ (K.out _ bc6_2) (fun hHeld => ?_)
       clear hKK KK
       refine' tj 8 42 rfl ?_ ?_;rotate_left
       ·intro w h;go_simp;try rfl
       simp only [pU]
       refine' tj 9 51 rfl ?_ ?_;rotate_left
       ·intro w h;go_simp;try rfl
       simp only [pU]
       refine' tj 10 52 rfl ?_ ?_;rotate_left
       ·intro w h;go_simp;try rfl
       simp only [pU]
       refine rd 11 rfl (fun KK hKK => ?_)
       go_simp
       obtain ⟨wl6_3, hwl6_3⟩ : ∃ x, wc6_1.alloc (.cells #[.int .i64 0,.int .i64 0,.int .i64 0,.string ⟨#[]⟩,.slice none 0 0,.string ⟨#[]⟩] 43) = x:=⟨_, rfl⟩
       have cbl6_4 : Below wc6_1.heap.size wc6_1 wl6_3:=hwl6_3 ▸ qalloc _ _
       have bl6_4 : Below w21.heap.size w21 wl6_3:=bu bc6_2 cbl6_4
       have zzwl6_3 : wl6_3.heap.size = wc6_1.heap.size + 1:=by rw [← hwl6_3]; simp
       have lg : Loc wl6_3 wc6_1.heap.size #[.int .i64 0,.int .i64 0,.int .i64 0,.string ⟨#[]⟩,.slice none 0 0,.string ⟨#[]⟩]:=hwl6_3 ▸ loc_at wc6_1 _ _ rfl
       replace oS:=oS.below cbl6_4
       rw [hwl6_3]
       clear hHeld hwl6_3 cbl6_4
       refine hKK.out _ _ (K.out _ bl6_4) (fun hHeld => ?_)
       clear hKK KK
       have q0:=lg.cell 0 rfl
       have q1:=lg.cell 1 rfl
       have q2:=lg.cell 2 rfl
       have q3:=lg.cell 3 rfl
       have q4:=lg.cell 4 rfl
       have q5:=lg.cell 5 rfl
       have FG:=lg.frozen
       refine rd 12 rfl (fun KK hKK => ?_)
       go_simp
       have bs : Below w21.heap.size w21 ((((((wl6_3.setCell ⟨wc6_1.heap.size, 0, none⟩ (.int .i64 vo')).setCell ⟨wc6_1.heap.size, 1, none⟩ (.int .i64 lo')).setCell ⟨wc6_1.heap.size, 2, none⟩ (.int .i64 v')).setCell ⟨wc6_1.heap.size, 3, none⟩ (.string s')).setCell ⟨wc6_1.heap.size, 4, none⟩ (.slice aa (ys').length kk)).setCell ⟨wc6_1.heap.size, 5, none⟩ (.string d')):=(Below.set (Below.set (Below.set (Below.set (Below.set (Below.set bl6_4 _ _ (by omega)) _ _ (by omega)) _ _ (by omega)) _ _ (by omega)) _ _ (by omega)) _ _ (by omega))
       clear hHeld
       refine hKK.out _ _ (K.out _ bs) (fun hHeld => ?_)
       clear hKK KK
       refine' tj 13 12 rfl ?_ ?_;rotate_left
       ·intro w h;go_simp;try rfl
       simp only [pU]
       clear hHeld
       refine wdn ?_
       go_wp2_with fail
       go_meet
       have k3 : Kp wl6_3 ((((((wl6_3.setCell ⟨wc6_1.heap.size, 0, none⟩ (.int .i64 vo')).setCell ⟨wc6_1.heap.size, 1, none⟩ (.int .i64 lo')).setCell ⟨wc6_1.heap.size, 2, none⟩ (.int .i64 v')).setCell ⟨wc6_1.heap.size, 3, none⟩ (.string s')).setCell ⟨wc6_1.heap.size, 4, none⟩ (.slice aa (ys').length kk)).setCell ⟨wc6_1.heap.size, 5, none⟩ (.string d')) (fun k => k = wc6_1.heap.size):=(((((set_kp _ _ _ _).trans (set_kp _ _ _ _)).trans (set_kp _ _ _ _)).trans (set_kp _ _ _ _)).trans (set_kp _ _ _ _)).trans (set_kp _ _ _ _)
       have ll:=lg.lt
       exact ⟨_, _, rfl, rfl, by omega, by simpa using ll, ((((((lg.set 0 _ rfl).set 1 _ rfl).set 2 _ rfl).set 3 _ rfl).set 4 _ rfl).set 5 _ rfl), (oS.kp k3 (fun j hj e => by have := tl j hj; omega)).mono (by omega), fun j hj => by have := tl j hj; simp; omega, bs⟩
      ·go_simp
       obtain ⟨wl6_5, hwl6_5⟩ : ∃ x, wd.alloc (.cells #[.int .i64 0,.int .i64 0,.int .i64 0,.string ⟨#[]⟩,.slice none 0 0,.string ⟨#[]⟩] 43) = x:=⟨_, rfl⟩
       have cbl6_6 : Below wd.heap.size wd wl6_5:=hwl6_5 ▸ qalloc _ _
       have bl6_6 : Below w21.heap.size w21 wl6_5:=bu bd cbl6_6
       have zzwl6_5 : wl6_5.heap.size = wd.heap.size + 1:=by rw [← hwl6_5]; simp
       have lg : Loc wl6_5 wd.heap.size #[.int .i64 0,.int .i64 0,.int .i64 0,.string ⟨#[]⟩,.slice none 0 0,.string ⟨#[]⟩]:=hwl6_5 ▸ loc_at wd _ _ rfl
       rw [hwl6_5]
       clear hHeld hwl6_5 cbl6_6
       refine hKK.out _ _ (K.out _ bl6_6) (fun hHeld => ?_)
       clear hKK KK
       refine rd 7 rfl (fun KK hKK => ?_)
       go_simp
       have hgo:=bl6_6
       refine (SO.out _ hgo).mono ?_
       rintro e wc6_7 ⟨vv, rfl, oS, bnew⟩
       have bc6_8 : Below w21.heap.size w21 wc6_7:=bu bl6_6 bnew
       have zzwc6_7:=bnew.size
       replace lg:=lg.up bnew
       have tl:=World.ownsRow.lt oS
       obtain ⟨aa, kk, rfl⟩:=oS.form
       clear hHeld bnew hgo
       refine hKK.out _ _ (K.out _ bc6_8) (fun hHeld => ?_)
       clear hKK KK
       refine' tj 8 42 rfl ?_ ?_;rotate_left
       ·intro w h;go_simp;try rfl
       simp only [pU]
       refine' tj 9 51 rfl ?_ ?_;rotate_left
       ·intro w h;go_simp;try rfl
       simp only [pU]
       refine' tj 10 52 rfl ?_ ?_;rotate_left
       ·intro w h;go_simp;try rfl
       simp only [pU]
       have q0:=lg.cell 0 rfl
       have q1:=lg.cell 1 rfl
       have q2:=lg.cell 2 rfl
       have q3:=lg.cell 3 rfl
       have q4:=lg.cell 4 rfl
       have q5:=lg.cell 5 rfl
       have FG:=lg.frozen
       refine rd 12 rfl (fun KK hKK => ?_)
       go_simp
       have bs : Below w21.heap.size w21 ((((((wc6_7.setCell ⟨wd.heap.size, 0, none⟩ (.int .i64 vo')).setCell ⟨wd.heap.size, 1, none⟩ (.int .i64 lo')).setCell ⟨wd.heap.size, 2, none⟩ (.int .i64 v')).setCell ⟨wd.heap.size, 3, none⟩ (.string s')).setCell ⟨wd.heap.size, 4, none⟩ (.slice aa (ys').length kk)).setCell ⟨wd.heap.size, 5, none⟩ (.string d')):=(Below.set (Below.set (Below.set (Below.set (Below.set (Below.set bc6_8 _ _ (by omega)) _ _ (by omega)) _ _ (by omega)) _ _ (by omega)) _ _ (by omega)) _ _ (by omega))
       clear hHeld
       refine hKK.out _ _ (K.out _ bs) (fun hHeld => ?_)
       clear hKK KK
       refine' tj 13 12 rfl ?_ ?_;rotate_left
       ·intro w h;go_simp;try rfl
       simp only [pU]
       clear hHeld
       refine wdn ?_
       go_wp2_with fail
       go_meet
       have k3 : Kp wc6_7 ((((((wc6_7.setCell ⟨wd.heap.size, 0, none⟩ (.int .i64 vo')).setCell ⟨wd.heap.size, 1, none⟩ (.int .i64 lo')).setCell ⟨wd.heap.size, 2, none⟩ (.int .i64 v')).setCell ⟨wd.heap.size, 3, none⟩ (.string s')).setCell ⟨wd.heap.size, 4, none⟩ (.slice aa (ys').length kk)).setCell ⟨wd.heap.size, 5, none⟩ (.string d')) (fun k => k = wd.heap.size):=(((((set_kp _ _ _ _).trans (set_kp _ _ _ _)).trans (set_kp _ _ _ _)).trans (set_kp _ _ _ _)).trans (set_kp _ _ _ _)).trans (set_kp _ _ _ _)
       have ll:=lg.lt
       exact ⟨_, _, rfl, rfl, by omega, by simpa using ll, ((((((lg.set 0 _ rfl).set 1 _ rfl).set 2 _ rfl).set 3 _ rfl).set 4 _ rfl).set 5 _ rfl), (oS.kp k3 (fun j hj e => by have := tl j hj; omega)).mono (by omega), fun j hj => by have := tl j hj; simp; omega, bs⟩
     case rest =>
     clear K
     obtain ⟨wq6, hwq⟩ : ∃ x, x = wc:=⟨_, rfl⟩
     subst hwq
     obtain ⟨hLS, vLS, rfl, rfl, gLS, eLS, LS, oN, toN, bb⟩:=hcut
     obtain ⟨aoN, koN, rfl⟩:=oN.form
     have Bwq6:=bu Bw21 bb
     have swq6:=bb.size
     replace LC:=LC.up bb
     replace LZ:=LZ.up bb
     replace LB:=LB.up bb
     replace oB:=oB.below bb
     clear Bw21
     clear bb
     clear SO hsl hc2 hd hdd
     cases fb with
     | false =>
      have hnone:=HN.out (by trivial)
      clear HS HN oN LS
      have hx1 : x = ((vo, lo, (v, s, ys), d), p):=by rw [← hxx.out, HI.out, lastN_none hnone]
      have e0:=LB.cell 0 rfl
      have e1:=LB.cell 1 rfl
      have e2:=LB.cell 2 rfl
      have e3:=LB.cell 3 rfl
      have e4:=LB.cell 4 rfl
      have e5:=LB.cell 5 rfl
      have y0:=LZ.cell 0 rfl
      have y1:=LZ.cell 1 rfl
      have y2:=LZ.cell 2 rfl
      have y3:=LZ.cell 3 rfl
      have y4:=LZ.cell 4 rfl
      have y5:=LZ.cell 5 rfl
      have fy:=LZ.frozen
      have O6:=hide oB
      subst hx1
      clear hxx HI hnone oB LC LZ LB RW HBY
      have K7:=kp6 wq6 (w.heap.size + 1) (.int .i64 vo) (.int .i64 lo) (.int .i64 v) (.string s) (.slice ua ys.length uc) (.string d)
      go_wp2
      refine bodyPost_ret (v := .tuple #[sv vo lo v s (.slice ua ys.length uc) d,.int .i64 p]) (by simp [results, Tryz.results69, go_sem, y0, y1, y2, y3, y4, y5]) rfl ?_
      exact ⟨_, rfl, O6.out.kp K7 (fun j hj e => by have := tB j hj; omega), Below.kp Bwq6 K7 Bwq6.size (fun j e => by omega)⟩
     | true =>
      have hs4:=HS.out (by trivial)
      have st:=noteP_step HBY.out hs4
      have HL : Hid (lastA n f xs = lastN n f xs (k - 1) ((q + m + 1 : Nat) : Int) (vo', lo', (v', s', ys'), d')):=by
       rw [HI.out]
       obtain ⟨j, rfl⟩ : ∃ j, k = j + 1:=⟨k - 1, by omega⟩
       rw [lastN_some hs4]; exact hide rfl
      have e0:=LS.cell 0 rfl
      have e1:=LS.cell 1 rfl
      have e2:=LS.cell 2 rfl
      have e3:=LS.cell 3 rfl
      have e4:=LS.cell 4 rfl
      have e5:=LS.cell 5 rfl
      have y0:=LB.cell 0 rfl
      have y1:=LB.cell 1 rfl
      have y2:=LB.cell 2 rfl
      have y3:=LB.cell 3 rfl
      have y4:=LB.cell 4 rfl
      have y5:=LB.cell 5 rfl
      have fy:=LB.frozen
      have HB:=hide LB
      have HC:=hide LC
      have HZ:=hide LZ
      have ON:=hide oN
      have ew3 : IntKind.i64.wrap ((q : Int) + (m : Int) + 1) = (q : Int) + (m : Int) + 1:=by rw [IntKind.wrap_i64]; omega
      clear HI HS HN hs4 oB oN LS LB LC LZ
      have K7:=kp6 wq6 hB (.int .i64 vo') (.int .i64 lo') (.int .i64 v') (.string s') (.slice aoN ys'.length koN) (.string d')
      go_wp2
      go_roundw
      case rel =>
       refine ⟨vo', lo', v', s', aoN, koN, ys', d', ((q + m + 1 : Nat) : Int), k - 1, rfl, by push_cast; rfl, HL, ⟨by omega, by omega, by omega⟩, HC.out.kp K7 (by omega), HZ.out.kp K7 (by omega), ?_, (ON.out.kp K7 (fun j hj e => by have := toN j hj; omega)).mono (by omega), (fun j hj => by have := toN j hj; omega), Below.kp Bwq6 K7 Bwq6.size (fun j e => by omega)⟩
       exact (((((HB.out.set 0 _ rfl).set 1 _ rfl).set 2 _ rfl).set 3 _ rfl).set 4 _ rfl).set 5 _ rfl
      case measure => simp [intOf]; omega
    ·skip
     have hnone:=note_bad (n:=n) (f:=f) HBY.out hgn (fun h => h10 (by rw [← h.2]; congr 1))
     have hdd : ((xs.getD (q + m) 0) != 10) = true:=by simpa using h10
     generalize xs.getD (q + m) 0 = c10 at *
     clear hgn
     have hx1 : x = ((vo, lo, (v, s, ys), d), p):=by rw [← hxx.out, HI.out, lastN_none hnone]
     have e0:=LB.cell 0 rfl
     have e1:=LB.cell 1 rfl
     have e2:=LB.cell 2 rfl
     have e3:=LB.cell 3 rfl
     have e4:=LB.cell 4 rfl
     have e5:=LB.cell 5 rfl
     have y0:=LZ.cell 0 rfl
     have y1:=LZ.cell 1 rfl
     have y2:=LZ.cell 2 rfl
     have y3:=LZ.cell 3 rfl
     have y4:=LZ.cell 4 rfl
     have y5:=LZ.cell 5 rfl
     have fy:=LZ.frozen
     have O6:=hide oB
     subst hx1
     clear hxx HI hnone oB LC LZ LB RW HBY
     have K7:=kp6 w21 (w.heap.size + 1) (.int .i64 vo) (.int .i64 lo) (.int .i64 v) (.string s) (.slice ua ys.length uc) (.string d)
     go_wp2
     refine bodyPost_ret (v := .tuple #[sv vo lo v s (.slice ua ys.length uc) d,.int .i64 p]) (by simp [results, Tryz.results69, go_sem, y0, y1, y2, y3, y4, y5]) rfl ?_
     exact ⟨_, rfl, O6.out.kp K7 (fun j hj e => by have := tB j hj; omega), Below.kp Bw21 K7 Bw21.size (fun j e => by omega)⟩
   ·skip
    have hnone:=note_bad (n:=n) (f:=f) HBY.out hgn (fun h => hsz h.1)
    have hd : decide ((xs.length : Int) - (q : Int) ≤ (m : Int)) = true:=by simp; omega
    clear hgn ew2
    have hx1 : x = ((vo, lo, (v, s, ys), d), p):=by rw [← hxx.out, HI.out, lastN_none hnone]
    have e0:=LB.cell 0 rfl
    have e1:=LB.cell 1 rfl
    have e2:=LB.cell 2 rfl
    have e3:=LB.cell 3 rfl
    have e4:=LB.cell 4 rfl
    have e5:=LB.cell 5 rfl
    have y0:=LZ.cell 0 rfl
    have y1:=LZ.cell 1 rfl
    have y2:=LZ.cell 2 rfl
    have y3:=LZ.cell 3 rfl
    have y4:=LZ.cell 4 rfl
    have y5:=LZ.cell 5 rfl
    have fy:=LZ.frozen
    have O6:=hide oB
    subst hx1
    clear hxx HI hnone oB LC LZ LB RW HBY
    have K7:=kp6 w21 (w.heap.size + 1) (.int .i64 vo) (.int .i64 lo) (.int .i64 v) (.string s) (.slice ua ys.length uc) (.string d)
    go_wp2
    refine bodyPost_ret (v := .tuple #[sv vo lo v s (.slice ua ys.length uc) d,.int .i64 p]) (by simp [results, Tryz.results69, go_sem, y0, y1, y2, y3, y4, y5]) rfl ?_
    exact ⟨_, rfl, O6.out.kp K7 (fun j hj e => by have := tB j hj; omega), Below.kp Bw21 K7 Bw21.size (fun j e => by omega)⟩
end Go.Proofs.YtndpjhiidmdlhaaGreatDoor
namespace Go.Proofs.YtndpjhiidmdlhaaGreatDoor
open Go Go.RowKit
set_option linter.unusedSectionVars false
variable [∀ (a b c d : Int), Decidable (Ok4 a b c d)]
variable [∀ (n f : Int), Decidable (COk n f)]
variable [∀ (a b c d : Nat), Decidable (okN a b c d)]
variable [∀ (x : T4), Decidable (OkT x)]
variable [∀ (last : Int) (s : St), Decidable (GoodSt last s)]
variable [∀ (n : Int) (s : List Int), Decidable (OkL n s)]
variable [∀ (x y : T4), Decidable (Bef x y)]
variable [∀ (ts : List T4), Decidable (Asc ts)]
variable [∀ (ts : List T4), Decidable (AllOk ts)]
variable [∀ (ts : List T4), Decidable (POk ts)]

theorem RRep.below {w w' : World} {t : RpT} {a b c d e : Value} (h : RRep w t a b c d e) (hb : Below w.heap.size w w') : RRep w' t a b c d e :=
 ⟨h.q.below hb, h.p.below hb, h.tb.below hb, h.d.below hb, h.h.below hb⟩
def keptB (n f : Int) (t : RpT) : Bool := repB n f t && (ssamB (lastA n f t.dsk).1.1 (lastA n f t.dsk).1.2.1 (lastA n f t.dsk).1.2.2.1.1 (lastA n f t.dsk).1.2.2.1.2.1 (lastA n f t.dsk).1.2.2.1.2.2 (lastA n f t.dsk).1.2.2.2 t.vo t.lo t.n t.s t.qw t.d && ((lastA n f t.dsk).2 == (t.dsk.length : Int)))
theorem specKept (n f : Int) (t : RpT) (ao bo co od oe : Option Addr) (ca cb cc cd ce : Nat) (w : World) (hm : RSm t) (hs : RS t) (hb : BytesL t.dsk) (hl : t.dsk.length ≤ 1048576) (hk : (lastA n f t.dsk).1.2.2.1.2.2.length ≤ 7) (h : RRep w t (.slice ao t.qw.length ca) (.slice bo t.pool.length cb) (.slice co t.tab.length cc) (.slice od t.dsk.length cd) (.slice oe t.held.length ce)) :
 Calls Tryz.prog 19 #[cv n f, rpv t (.slice ao t.qw.length ca) (.slice bo t.pool.length cb) (.slice co t.tab.length cc) (.slice od t.dsk.length cd) (.slice oe t.held.length ce)] w fun e w' => e = .returned (.bool (keptB n f t)) ∧ Below w.heap.size w w' := by
 have RO:=hide fun w h => specRepOk n f t ao bo co od oe ca cb cc cd ce w hm hs h
 unfold keptB
 obtain ⟨x, hx⟩ : ∃ x, lastA n f t.dsk = x:=⟨_, rfl⟩
 rw [hx] at hk ⊢
 have LN:=hide fun w h => specLastNote_any n f od cd t.dsk w hl h hb x (hide hx)
 clear hx
 obtain ⟨⟨p1, p2, ⟨p3, p4, p5⟩, p6⟩, p7⟩:=x
 dsimp only at LN hk ⊢
 have SS:=hide fun a k w h h' => specSafeSame p1 p2 p3 p4 a k p5 p6 t.vo t.lo t.n t.s ao ca t.qw t.d w h h'
 have HR:=hide h
 clear h hs hm hb hl
 generalize repB n f t = b0 at *
 generalize ssamB p1 p2 p3 p4 p5 p6 t.vo t.lo t.n t.s t.qw t.d = b1 at *
 obtain ⟨w0, hw0, Bw0, LC, A, zw0⟩:=bx2 w #[.int .i64 n,.int .i64 f] 39 #[.int .i64 t.id,.int .i64 t.vw,.int .i64 t.ak,.int .i64 t.vo,.int .i64 t.lo,.int .i64 t.n,.string t.s,.slice ao t.qw.length ca,.string t.d,.slice bo t.pool.length cb,.slice co t.tab.length cc,.slice od t.dsk.length cd,.int .i64 t.su,.slice oe t.held.length ce] 49
 go_enter Tryz.func19, Tryz.ntmps19
 have cLC0:=LC.cell 0 rfl
 have cLC1:=LC.cell 1 rfl
 go_wp2_with (first | (refine wload A 49 _ rfl _ rfl rfl Tryz.underlying49 rfl (by kernel_rfl) ?_))
 clear hw0
 refine (RO.out _ (HR.out.below Bw0)).mono ?_
 rintro _ w1 ⟨rfl, bb⟩
 clear cLC0 cLC1
 have Bw1:=bu Bw0 bb
 have sw1:=bb.size
 replace LC:=LC.up bb
 replace A:=A.up bb
 clear Bw0
 clear bb
 cases b0
 ·go_wp2
  go_ret
  exact ⟨by simp, Bw1⟩
 ·have cLC0:=LC.cell 0 rfl
  have cLC1:=LC.cell 1 rfl
  have cA11:=A.cell 11 rfl
  go_wp2_with fail
  refine (LN.out _ (HR.out.d.below Bw1)).mono ?_
  rintro _ w2 ⟨u, rfl, oS, bb⟩
  clear cLC0 cLC1 cA11
  have Bw2:=bu Bw1 bb
  have sw2:=bb.size
  replace LC:=LC.up bb
  replace A:=A.up bb
  clear Bw1
  clear bb
  have toS:=World.ownsRow.lt oS
  obtain ⟨aoS, koS, rfl⟩:=oS.form
  go_upto_region 4 with (refine wstore (loc_at w2 #[.int .i64 0,.int .i64 0,.int .i64 0,.string ⟨#[]⟩,.slice none 0 0,.string ⟨#[]⟩] 43 rfl) 43 #[.int .i64 p1,.int .i64 p2,.int .i64 p3,.string p4,.slice aoS p5.length koS,.string p6] rfl _ _ rfl rfl rfl (by kernel_rfl) rfl (by simp [Value.oneCell']) ?_)
  obtain ⟨w3, hw3⟩ : ∃ y, (w2.alloc (.cells #[.int .i64 0,.int .i64 0,.int .i64 0,.string ⟨#[]⟩,.slice none 0 0,.string ⟨#[]⟩] 43)).setRow w2.heap.size #[.int .i64 p1,.int .i64 p2,.int .i64 p3,.string p4,.slice aoS p5.length koS,.string p6] = y:=⟨_, rfl⟩
  rw [hw3]
  have bb : Below w2.heap.size w2 w3:=hw3 ▸ box_below _ _ _ _
  have S : Loc w3 w2.heap.size #[.int .i64 p1,.int .i64 p2,.int .i64 p3,.string p4,.slice aoS p5.length koS,.string p6]:=hw3 ▸ box_loc _ _ _ _
  have zw3 : w3.heap.size = w2.heap.size + 1:=by rw [← hw3]; exact box_size _ _ _ _
  clear hw3
  have Bw3:=bu Bw2 bb
  have sw3:=bb.size
  replace LC:=LC.up bb
  replace A:=A.up bb
  replace oS:=oS.below bb
  clear Bw2
  clear bb
  go_wp2_with (first | (refine wload S 43 _ rfl _ rfl rfl Tryz.underlying43 rfl (by kernel_rfl) ?_) | (refine wloadM [.int .i64 t.vo, .int .i64 t.lo, .int .i64 t.n, .string t.s, .slice ao t.qw.length ca, .string t.d] (A.range 3 6 rfl) 43 _ rfl _ rfl rfl Tryz.underlying43 rfl (by kernel_rfl) ?_))
  refine (SS.out _ _ _ (oS.ri (by omega)) (HR.out.q.below Bw3)).mono ?_
  rintro _ w4 ⟨rfl, bb⟩
  have Bw4:=bu Bw3 bb
  have sw4:=bb.size
  replace LC:=LC.up bb
  replace A:=A.up bb
  replace S:=S.up bb
  replace oS:=oS.below bb
  clear Bw3
  clear bb
  cases b1
  ·go_wp2
   go_ret
   exact ⟨by simp, Bw4⟩
  ·have cA11:=A.cell 11 rfl
   go_wp2
   go_ret
   exact ⟨by simp, Bw4⟩

set_option linter.unusedSimpArgs false in
theorem implKept (n f : Int) (t : RpT) (ao bo co od oe : Option Addr) (ca cb cc cd ce : Nat) (w : World) (hm : RSm t) (hs : RI_ t) (hb : BytesL t.dsk) (hE : Env w) (hT : EnvT w) (h : RRep w t (.slice ao t.qw.length ca) (.slice bo t.pool.length cb) (.slice co t.tab.length cc) (.slice od t.dsk.length cd) (.slice oe t.held.length ce)) :
 Calls Tryz.prog 20 #[cv n f, rpv t (.slice ao t.qw.length ca) (.slice bo t.pool.length cb) (.slice co t.tab.length cc) (.slice od t.dsk.length cd) (.slice oe t.held.length ce)] w fun e w' => e = .returned (.bool (keptB n f t)) ∧ Below w.heap.size w w' := by
 unfold keptB
 have RO:=hide fun w he h => implRepOk n f t ao bo co od oe ca cb cc cd ce w hm hs he h
 obtain ⟨x, hx⟩ : ∃ x, lastA n f t.dsk = x:=⟨_, rfl⟩
 have lf:=lastA_fact hb n f
 rw [hx] at lf ⊢
 obtain ⟨k, hk⟩ : ∃ k : Nat, x.2 = k:=⟨x.2.toNat, by have:=lf.lo; omega⟩
 have HO:=hide fun w he ht h => holderBy_any n f od cd t.dsk t.su w (by have:=hm.d; omega) h hb he ht x (hide hx) k hk
 obtain ⟨⟨p1, p2, ⟨p3, p4, p5⟩, p6⟩, p7⟩:=x
 simp only at hk HO lf ⊢
 subst hk
 have hq:=lf.q
 simp only at hq
 have HE:=hide hE
 have HT:=hide hT
 have HR:=hide h
 have SS:=hide fun a k w h h' => ssame_any p1 p2 p3 p4 a k p5 p6 t.vo t.lo t.n t.s ao ca t.qw t.d w h h'
 clear h hs hm hb hE hT hx lf
 generalize repB n f t = b0 at *
 generalize ssamB p1 p2 p3 p4 p5 p6 t.vo t.lo t.n t.s t.qw t.d = b1 at *
 obtain ⟨w0, hw0, Bw0, LC, A, zw0⟩:=bx2 w #[.int .i64 n,.int .i64 f] 39 #[.int .i64 t.id,.int .i64 t.vw,.int .i64 t.ak,.int .i64 t.vo,.int .i64 t.lo,.int .i64 t.n,.string t.s,.slice ao t.qw.length ca,.string t.d,.slice bo t.pool.length cb,.slice co t.tab.length cc,.slice od t.dsk.length cd,.int .i64 t.su,.slice oe t.held.length ce] 49
 go_enter Tryz.func20, Tryz.ntmps20
 have cLC0:=LC.cell 0 rfl
 have cLC1:=LC.cell 1 rfl
 go_wp2_with (first | (refine wload A 49 _ rfl _ rfl rfl Tryz.underlying49 rfl (by kernel_rfl) ?_))
 clear hw0
 refine (RO.out _ (HE.out.below Bw0) (HR.out.below Bw0)).mono ?_
 rintro _ w1 ⟨rfl, bb⟩
 clear cLC0 cLC1
 have Bw1:=bu Bw0 bb
 have sw1:=bb.size
 replace LC:=LC.up bb
 replace A:=A.up bb
 clear Bw0
 clear bb
 cases b0
 ·go_wp2
  go_ret
  exact ⟨by simp, Bw1⟩
 ·have cLC0:=LC.cell 0 rfl
  have cLC1:=LC.cell 1 rfl
  go_wp2_with (first | (refine wloadM [.slice od t.dsk.length cd, .int .i64 t.su] (A.range 11 2 rfl) 46 _ rfl _ rfl rfl Tryz.underlying46 rfl (by kernel_rfl) ?_))
  refine (HO.out _ (HE.out.below Bw1) (HT.out.below Bw1) (HR.out.d.below Bw1)).mono ?_
  rintro _ w2 ⟨u, rfl, oS, bb⟩
  clear cLC0 cLC1
  have Bw2:=bu Bw1 bb
  have sw2:=bb.size
  replace LC:=LC.up bb
  replace A:=A.up bb
  clear Bw1
  clear bb
  have toS:=World.ownsRow.lt oS
  obtain ⟨aoS, koS, rfl⟩:=oS.form
  go_upto_region 4 with (refine wstore (loc_at w2 #[.int .i64 0,.int .i64 0,.int .i64 0,.string ⟨#[]⟩,.slice none 0 0,.string ⟨#[]⟩,.slice none 0 0,.int .i64 0] 105 rfl) 105 #[.int .i64 p1,.int .i64 p2,.int .i64 p3,.string p4,.slice aoS p5.length koS,.string p6,.slice od k cd,.int .i64 (k : Int)] rfl _ _ rfl rfl rfl (by kernel_rfl) rfl (by simp [Value.oneCell']) ?_)
  obtain ⟨w3, hw3⟩ : ∃ y, (w2.alloc (.cells #[.int .i64 0,.int .i64 0,.int .i64 0,.string ⟨#[]⟩,.slice none 0 0,.string ⟨#[]⟩,.slice none 0 0,.int .i64 0] 105)).setRow w2.heap.size #[.int .i64 p1,.int .i64 p2,.int .i64 p3,.string p4,.slice aoS p5.length koS,.string p6,.slice od k cd,.int .i64 (k : Int)] = y:=⟨_, rfl⟩
  rw [hw3]
  have bb : Below w2.heap.size w2 w3:=hw3 ▸ box_below _ _ _ _
  have H : Loc w3 w2.heap.size #[.int .i64 p1,.int .i64 p2,.int .i64 p3,.string p4,.slice aoS p5.length koS,.string p6,.slice od k cd,.int .i64 (k : Int)]:=hw3 ▸ box_loc _ _ _ _
  have zw3 : w3.heap.size = w2.heap.size + 1:=by rw [← hw3]; exact box_size _ _ _ _
  clear hw3
  have Bw3:=bu Bw2 bb
  have sw3:=bb.size
  replace LC:=LC.up bb
  replace A:=A.up bb
  replace oS:=oS.below bb
  clear Bw2
  clear bb
  go_wp2_with (first | (refine wloadM [.int .i64 p1, .int .i64 p2, .int .i64 p3, .string p4, .slice aoS p5.length koS, .string p6] (H.range 0 6 rfl) 43 _ rfl _ rfl rfl Tryz.underlying43 rfl (by kernel_rfl) ?_) | (refine wloadM [.int .i64 t.vo, .int .i64 t.lo, .int .i64 t.n, .string t.s, .slice ao t.qw.length ca, .string t.d] (A.range 3 6 rfl) 43 _ rfl _ rfl rfl Tryz.underlying43 rfl (by kernel_rfl) ?_))
  refine (SS.out _ _ _ (oS.ri (by omega)) (HR.out.q.below Bw3)).mono ?_
  rintro _ w4 ⟨rfl, bb⟩
  have Bw4:=bu Bw3 bb
  have sw4:=bb.size
  replace LC:=LC.up bb
  replace A:=A.up bb
  replace H:=H.up bb
  replace oS:=oS.below bb
  clear Bw3
  clear bb
  cases b1
  ·go_wp2
   go_ret
   exact ⟨by simp, Bw4⟩
  ·have cH6:=H.cell 6 rfl
   have cA11:=A.cell 11 rfl
   go_wp2
   go_ret
   exact ⟨by simp, Bw4⟩

def newR (id : Int) : RpT := ⟨id, 1, 0, 0, 0, 0, ⟨#[]⟩, [], ⟨#[]⟩, [], [], [], 0, []⟩
def zeroR : RpT := ⟨0, 0, 0, 0, 0, 0, ⟨#[]⟩, [], ⟨#[]⟩, [], [], [], 0, []⟩
theorem RRep.new (w : World) (id : Int) : RRep w (newR id) (.slice none 0 0) (.slice none 0 0) (.slice none 0 0) (.slice none 0 0) (.slice none 0 0) :=
 ⟨⟨by simp [newR], none, 0, rfl, .inl rfl⟩, ⟨by simp [newR], none, 0, rfl, .inl rfl⟩, ⟨none, 0, rfl, .inl rfl⟩, ⟨by simp [newR], none, 0, rfl, ⟨by simp [newR], by unfold maxLen; omega⟩, .inl rfl⟩, RPo.nil w⟩
theorem RSm.new (id : Int) : RSm (newR id) := ⟨by simp [newR], by simp [newR], by simp [newR], by simp [newR], by simp [newR], fun p hp => by simp [newR] at hp, fun j hj => by simp [newR] at hj⟩
theorem RS.new (id : Int) : RS (newR id) := ⟨(Nat.zero_le _ : 0 ≤ 1048576), (Nat.zero_le _ : 0 ≤ 1048576), fun p hp => by simp [newR] at hp, fun j hj => by simp [newR] at hj⟩

theorem RI_.new (id : Int) : RI_ (newR id) := ⟨(Nat.zero_le _ : 0 ≤ 33554432), (Nat.zero_le _ : 0 ≤ 33554432), fun p hp => by simp [newR] at hp, fun j hj => by simp [newR] at hj⟩
end Go.Proofs.YtndpjhiidmdlhaaGreatDoor
namespace Go.Proofs.YtndpjhiidmdlhaaGreatDoor
open Go.RowKit
set_option linter.unusedSectionVars false
variable [∀ (a b c d : Int), Decidable (Ok4 a b c d)]
variable [∀ (a b c d : Nat), Decidable (okN a b c d)]
variable [∀ (last : Int) (s : St), Decidable (GoodSt last s)]
variable [∀ (x : T4), Decidable (OkT x)]
variable [∀ (n : Int) (s : List Int), Decidable (OkL n s)]
variable [∀ (n f : Int), Decidable (COk n f)]

theorem OB.nil (w : World) (base : Nat) : OB w base (.slice none 0 0) [] := World.ownsRow_nil _ _ _ _

theorem lastA_small {xs : List Int} (hb : BytesL xs) (n f : Int) : (lastA n f xs).1.2.2.1.2.2.length ≤ 7 := by
 have h:=(lastN_end hb n f (xs.length + 1) 0 newT (by omega) (by omega) (by omega)).2.2.2.2
 rcases h with h | h
 ·unfold lastA; rw [h]; exact Nat.zero_le _
 ·exact (sok_small h).2.2.1.2.2.1
end Go.Proofs.YtndpjhiidmdlhaaGreatDoor
namespace Go.Proofs.YtndpjhiidmdlhaaGreatDoor
open Go Go.RowKit
set_option linter.unusedSectionVars false
variable [∀ (a b c d : Int), Decidable (Ok4 a b c d)]
variable [∀ (n f : Int), Decidable (COk n f)]
variable [∀ (a b c d : Nat), Decidable (okN a b c d)]
variable [∀ (x : T4), Decidable (OkT x)]
variable [∀ (last : Int) (s : St), Decidable (GoodSt last s)]
variable [∀ (n : Int) (s : List Int), Decidable (OkL n s)]
variable [∀ (x y : T4), Decidable (Bef x y)]
variable [∀ (ts : List T4), Decidable (Asc ts)]
variable [∀ (ts : List T4), Decidable (AllOk ts)]
variable [∀ (ts : List T4), Decidable (POk ts)]

theorem RRep.zero (w : World) : RRep w zeroR (.slice none 0 0) (.slice none 0 0) (.slice none 0 0) (.slice none 0 0) (.slice none 0 0) :=
 ⟨⟨by simp [zeroR], none, 0, rfl, .inl rfl⟩, ⟨by simp [zeroR], none, 0, rfl, .inl rfl⟩, ⟨none, 0, rfl, .inl rfl⟩, ⟨by simp [zeroR], none, 0, rfl, ⟨by simp [zeroR], by unfold maxLen; omega⟩, .inl rfl⟩, RPo.nil w⟩
theorem RSm.zero : RSm zeroR := ⟨by simp [zeroR], by simp [zeroR], by simp [zeroR], by simp [zeroR], by simp [zeroR], fun p hp => by simp [zeroR] at hp, fun j hj => by simp [zeroR] at hj⟩
theorem rep_ri {t : RpT} {rs : List Pr} (ht : t.tab = rs.map prp) (g : (t.s.size : Int) + t.qw.length + t.d.size + t.pool.length + rs.length + psum rs + t.dsk.length + t.held.length + posum t.held ≤ 1048576) (hh : ∀ p ∈ t.held, (WfL p.2.bw ∧ WfL p.2.pw ∧ WfL p.2.qw) ∧ MI p.2) : RI_ t := by
 obtain ⟨_, ⟨s1, s2⟩, h1, h2⟩:=rep_small ht g
 refine ⟨by omega, by omega, fun p hp => by have := (h1 p hp).1; omega, fun j hj => ⟨?_, (hh _ (by rw [List.getD_eq_getElem?_getD, List.getElem?_eq_getElem hj]; exact List.getElem_mem hj)).2⟩⟩
 have:=h2 j hj
 unfold msz at this
 exact ⟨by omega, by omega, by omega, by omega⟩
theorem bytes_of {xs : List Int} (h : ∀ k, k < xs.length → 0 ≤ xs.getD k 0 ∧ xs.getD k 0 ≤ 255) : BytesL xs := fun y hy => by
 obtain ⟨k, hk, rfl⟩:=List.mem_iff_getElem.1 hy
 have:=h k hk
 rwa [List.getD_eq_getElem?_getD, List.getElem?_eq_getElem hk] at this
theorem fnKept_walk (n f : Int) (t : RpT) (ao bo co od oe : Option Addr) (ca cb cc cd ce : Nat) (rs : List Pr) (w : World) (ht : t.tab = rs.map prp) (hm : RMx t rs) (aq : AIW w ao t.qw) (ap : AR w bo t.pool) (at_ : ATab w co rs) (he : ∀ r ∈ rs, AIW w r.2.2.1 r.2.2.2.2 ∧ WfL r.2.2.2.2) (ad : ABW w od cd t.dsk ∧ ∀ k, k < t.dsk.length → 0 ≤ t.dsk.getD k 0 ∧ t.dsk.getD k 0 ≤ 255) (ah : RG (RPoA t.held) 18 w (.slice oe t.held.length ce) t.held.length) (hh : ∀ p ∈ t.held, (WfL p.2.bw ∧ WfL p.2.pw ∧ WfL p.2.qw) ∧ MI p.2) (hE : Env w) (hT : EnvT w) :
 Calls Tryz.prog 5 #[cv n f, rpv t (.slice ao t.qw.length ca) (.slice bo t.pool.length cb) (.slice co rs.length cc) (.slice od t.dsk.length cd) (.slice oe t.held.length ce)] w fun e w' => e = .returned (.bool true) ∧ Below w.heap.size w w' := by
 have hrl : rs.length = t.tab.length:=by rw [ht]; simp
 rw [hrl]
 by_cases g : (t.s.size : Int) + t.qw.length + t.d.size + t.pool.length + rs.length + psum rs + t.dsk.length + t.held.length + posum t.held ≤ 1048576
 ·obtain ⟨hsm, hrs, hI⟩:=rep_came ht g aq ap at_ he ad.1 ah
  have hri:=rep_ri ht g hh
  have hb:=bytes_of ad.2
  exact fnKept_short (fun w => Env w ∧ EnvT w) (fun _ _ h b => ⟨h.1.below b, h.2.below b⟩) n f t ao bo co od oe ca cb cc cd ce rs w _ ht g at_ (RPoA.low ah) hsm hI ⟨hE, hT⟩ (fun ao bo co od oe ca cb cc cd ce w h => specKept n f t ao bo co od oe ca cb cc cd ce w hsm hrs hb (by omega) (lastA_small hb n f) h) (fun ao bo co od oe ca cb cc cd ce w he h => implKept n f t ao bo co od oe ca cb cc cd ce w hsm hri hb he.1 he.2 h)
 ·exact fnKept_long n f t ao bo co od oe ca cb cc cd ce rs w ht (by omega) at_ (RPoA.low ah) hm
end Go.Proofs.YtndpjhiidmdlhaaGreatDoor
namespace Go.Proofs.YtndpjhiidmdlhaaGreatDoor
open Go.ChangeShapes Go.WideShapes Go.ChangeAt Go.RowKit
set_option linter.unusedSectionVars false
variable [∀ (a b c d : Int), Decidable (Ok4 a b c d)]
variable [∀ (n f : Int), Decidable (COk n f)]

theorem etName : Tryz.prog.globalNamed "errors.errorType" = some 0 := by kernel_rfl
theorem etRow : (Tryz.prog.cutTypes.find? (·.1 == "internal/reflectlite.rtype")).map (·.2) = some 327 := by kernel_rfl
theorem etOne : ((List.range 427).filter fun t => Tryz.prog.rowNamed t [101, 114, 114, 111, 114]) = [214] := by kernel_rfl
theorem etSize : Tryz.prog.types.size = 427 := by kernel_rfl
theorem handle_of_laid {W : World} (h : handlesMet Tryz.prog [("errors.errorType", Rows.laid_errors_errorType)] W) : EnvT W := by
 obtain ⟨name, u, ty, e1, e2, e3, e4, e5⟩:=h _ (List.mem_singleton.2 rfl)
 have en : name = [101, 114, 114, 111, 114]:=(Option.some.inj e1).symm
 subst en
 obtain rfl:=Option.some.inj (etRow.symm.trans e2)
 have hm : ty ∈ (List.range 427).filter fun t => Tryz.prog.rowNamed t [101, 114, 114, 111, 114]:=List.mem_filter.2 ⟨List.mem_range.2 (by rw [← etSize]; exact e3), e4⟩
 rw [etOne] at hm
 obtain rfl:=List.mem_singleton.1 hm
 have hh : typeHandle Tryz.prog 214 = .pointer (some ⟨8, 214, none⟩):=by kernel_rfl
 rw [hh] at e5
 unfold EnvT
 simpa using World.var?_cell etName e5 0
end Go.Proofs.YtndpjhiidmdlhaaGreatDoor
