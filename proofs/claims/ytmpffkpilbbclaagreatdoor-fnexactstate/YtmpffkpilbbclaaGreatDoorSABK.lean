/- Lemmas; their conditions stand in each statement. -/
import Derived.Test.YtmpffkpilbbclaaGreatDoorSABJ
set_option maxRecDepth 100000
set_option maxHeartbeats 16000000
set_option linter.unusedSectionVars false
namespace Go.Proofs.YtmpffkpilbbclaaGreatDoor
section
open Go.RowKit
variable [∀ (a b c d : Int), Decidable (Ok4 a b c d)]
variable [∀ (m a b c d : Int), Decidable (In4 m a b c d)]
variable [∀ (xs ys : List Int), Decidable (LOk xs ys)]
def anyStep (p : List Int × List Int × List Int) (t : T4) : List Int × List Int × List Int :=
 ((payAns p.1 p.2.1 t.1 t.2.1 t.2.2.1 t.2.2.2).1, (payAns p.1 p.2.1 t.1 t.2.1 t.2.2.1 t.2.2.2).2.1, p.2.2 ++ [(payAns p.1 p.2.1 t.1 t.2.1 t.2.2.1 t.2.2.2).2.2])
def anyRun (xs ys : List Int) (ts : List T4) : List Int × List Int × List Int := ts.foldl anyStep (xs, ys, [])
theorem anyRun_succ (xs ys : List Int) (ts : List T4) (k : Nat) (h : k < ts.length) : anyRun xs ys (ts.take (k + 1)) = anyStep (anyRun xs ys (ts.take k)) (ts.getD k (0, 0, 0, 0)) := by
 unfold anyRun
 rw [List.take_succ_eq_append_getElem h, List.getD_eq_getElem?_getD, List.getElem?_eq_getElem h, List.foldl_append]
 rfl
theorem anyRun_len (xs ys : List Int) (ts : List T4) (k : Nat) (h : k ≤ ts.length) : (anyRun xs ys (ts.take k)).1.length = xs.length ∧ (anyRun xs ys (ts.take k)).2.1.length = ys.length ∧ (anyRun xs ys (ts.take k)).2.2.length = k := by
 induction k with
 | zero => simp [anyRun]
 | succ k ih =>
  obtain ⟨h1, h2, h3⟩:=ih (by omega)
  rw [anyRun_succ xs ys ts k (by omega)]
  exact ⟨(payAns_len.1).trans h1, (payAns_len.2).trans h2, by simp [anyStep, h3]⟩
theorem any_good (ts : List T4) : ∀ p : List Int × List Int × List Int, LOk p.1 p.2.1 → ts.foldl anyStep p = ts.foldl payStep p := by
 induction ts with
 | nil => intro p _; rfl
 | cons t ts ih =>
  intro p hp
  have e : anyStep p t = payStep p t:=by unfold anyStep payStep payAns; rw [if_pos hp]
  rw [List.foldl_cons, List.foldl_cons, e]
  exact ih _ (paidB_ok hp)
theorem any_bad (ts : List T4) : ∀ p : List Int × List Int × List Int, ¬ LOk p.1 p.2.1 → ts.foldl anyStep p = (p.1, p.2.1, p.2.2 ++ List.replicate ts.length 1) := by
 induction ts with
 | nil => intro p _; simp
 | cons t ts ih =>
  intro p hp
  have e : anyStep p t = (p.1, p.2.1, p.2.2 ++ [1]):=by unfold anyStep payAns; rw [if_neg hp]
  rw [List.foldl_cons, e, ih (p.1, p.2.1, p.2.2 ++ [1]) hp]
  simp [List.replicate_succ]
theorem anyRun_each (xs ys : List Int) (ts : List T4) : anyRun xs ys ts = eachAns xs ys ts := by
 unfold anyRun eachAns
 by_cases h : LOk xs ys
 ·rw [if_pos h, any_good ts _ h]; rfl
 rw [if_neg h, any_bad ts _ h]; simp
def SpecEnd (w : World) (r : List Int × List Int × List Int) (o : Ending) (w' : World) : Prop :=
 ∃ u v cs, o = .returned (.tuple #[lv u v, cs]) ∧ OI w' w.heap.size u r.1 ∧ OI w' w.heap.size v r.2.1 ∧ OI w' w.heap.size cs r.2.2 ∧ Below w.heap.size w w'

theorem specPayAll (u v p : Value) (xs ys : List Int) (ts : List T4) (w : World) (hu : RI w u xs ∧ RI w v ys) (hp : RT w p ts) (htl : ts.length ≤ 4194304) :
 Calls Tryz.prog 29 #[lv u v, p] w (SpecEnd w (eachAns xs ys ts)) := by
 obtain ⟨i0, hi, hz0, hz1, hz2⟩:=info_parts Tryz.info3
 have LC:=hide fun w h => l3Copy_any u v xs ys w h
 have RU:=hide hu
 have hx : xs.length ≤ 4194304:=hu.1.1
 have hy : ys.length ≤ 4194304:=hu.2.1
 obtain ⟨ua, uc, rfl⟩ : ∃ ua uc, u = .slice ua xs.length uc:=by obtain ⟨_, ua, uc, h, _⟩:=hu.1; exact ⟨ua, uc, h⟩
 obtain ⟨va, vc, rfl⟩ : ∃ va vc, v = .slice va ys.length vc:=by obtain ⟨_, va, vc, h, _⟩:=hu.2; exact ⟨va, vc, h⟩
 obtain ⟨_, pa, pc, rfl, hpc⟩:=hp
 have HPC:=hide hpc
 obtain ⟨n, hn⟩ : ∃ n, ts.length = n:=⟨_, rfl⟩
 have Hn:=hide hn
 have HE:=hide (anyRun_each xs ys ts)
 obtain ⟨ans, hans⟩ : ∃ r, eachAns xs ys ts = r:=⟨_, rfl⟩
 rw [hans] at HE ⊢
 rw [hn] at htl ⊢
 clear hu hpc hn hans
 obtain ⟨w0, hw0⟩ : ∃ w0, (w.alloc (.cells #[.slice ua xs.length uc,.slice va ys.length vc] 60)).alloc (.cells #[.slice none 0 0,.slice none 0 0] 60) = w0:=⟨_, rfl⟩
 have B0 : Below w.heap.size w w0:=hw0 ▸ ((Below.refl w.heap.size w).alloc (Nat.le_refl _) _).alloc (by simp) _
 have L0 : Loc w0 w.heap.size #[.slice ua xs.length uc,.slice va ys.length vc]:=hw0 ▸ (loc_at w _ _ rfl).alloc _
 have R0 : Loc w0 (w.heap.size + 1) #[.slice none 0 0,.slice none 0 0]:=hw0 ▸ loc_at _ _ _ (by simp)
 have lr0:=R0.lt
 have q0:=L0.cell 0 rfl
 have q1:=L0.cell 1 rfl
 go_enter Tryz.func29, Tryz.ntmps29
 go_wp2_with fail
 clear hw0 q0 q1
 refine (LC.out _ ⟨RU.out.1.below B0, RU.out.2.below B0⟩).mono ?_
 rintro _ w1 ⟨uo, vo, rfl, ol, b1⟩
 have s1:=b1.size
 obtain ⟨uoa, uoc, rfl⟩:=ol.has.form
 obtain ⟨voa, voc, rfl⟩:=ol.next.form
 obtain ⟨w2, hw2⟩ : ∃ w2, w1.alloc (.cells #[.slice uoa xs.length uoc,.slice voa ys.length voc] 60) = w2:=⟨_, rfl⟩
 have b2 : Below w0.heap.size w0 w2:=hw2 ▸ b1.alloc b1.size _
 have z2 : w1.heap.size + 1 ≤ w2.heap.size:=by rw [← hw2]; simp
 have B2:=bu B0 b2
 have R2:=R0.up b2
 have G2 : Loc w2 w1.heap.size #[.slice uoa xs.length uoc,.slice voa ys.length voc]:=hw2 ▸ loc_at w1 _ _ rfl
 have ol2 : OL w2 w0.heap.size w1.heap.size (.slice uoa xs.length uoc) (.slice voa ys.length voc) xs ys:=hw2 ▸ ol.alloc _
 obtain ⟨w3, hw3⟩ : ∃ w3, w2.alloc (.cells #[] 3) = w3:=⟨_, rfl⟩
 have b3 : Below w2.heap.size w2 w3:=hw3 ▸ (Below.refl _ _).alloc (Nat.le_refl _) _
 have C3 : OI w3 (w1.heap.size + 1) (.slice (some ⟨w2.heap.size, 0, none⟩) 0 0) []:=hw3 ▸ World.ownsRow_lit w2 #[] 0 z2 (by unfold maxLen; omega) rfl
 have B3:=bu B2 b3
 have R3:=R2.up b3
 have G3:=G2.up b3
 have ol3:=ol2.below b3
 clear ol b1 b2 B0 L0 R0 B2 R2 G2 ol2 b3 LC RU
 go_wp2
 clear hw2 hw3
 go_loopw [7, 8] (fun cv i wr => ∃ (k : Nat) (u v : Value), k ≤ n ∧ i = .int .i64 k ∧ Loc wr w1.heap.size #[u, v] ∧ OI wr w.heap.size u (anyRun xs ys (ts.take k)).1 ∧ OI wr w.heap.size v (anyRun xs ys (ts.take k)).2.1 ∧ OI wr (w1.heap.size + 1) cv (anyRun xs ys (ts.take k)).2.2 ∧ (u.ownBlock ≠ some (w.heap.size + 1) ∧ v.ownBlock ≠ some (w.heap.size + 1)) ∧ Loc wr (w.heap.size + 1) #[.slice none 0 0,.slice none 0 0] ∧ Below w.heap.size w wr) (fun _ i _ => n - (intOf i).toNat)
 case atStart => exact ⟨0, _, _, Nat.zero_le _, rfl, G3, ol3.has.mono (by omega), ol3.next.mono (by omega), C3, ⟨fun e => by have := (World.ownsRow.lt ol3.has _ e).1; omega, fun e => by have := (World.ownsRow.lt ol3.next _ e).1; omega⟩, R3, B3⟩
 case round =>
  clear G3 ol3 C3 R3 B3
  obtain ⟨k, u, v, hk, rfl, G, ou, ov, oc, ⟨lu1, lv1⟩, R, B⟩:=hrel
  have ALEN:=anyRun_len xs ys ts k (by rw [Hn.out]; exact hk)
  have lgg:=G.lt
  have lc:=World.ownsRow.lt oc
  by_cases hlt : k < n
  ·have SUC:=hide (anyRun_succ xs ys ts k (by rw [Hn.out]; exact hlt))
   obtain ⟨g, rfl, hcell⟩ : ∃ g, pa = some ⟨g, 0, none⟩ ∧ ∀ w', Below wr.heap.size wr w' → Cells4K w' g k (ts.getD k (0, 0, 0, 0)):=by
    have hkx : k < ts.length:=by rw [Hn.out]; exact hlt
    rcases HPC.out with h | ⟨g, h1, h2⟩
    ·subst h; simp at hkx
    refine ⟨g, h1, fun w' hb => ?_⟩
    obtain ⟨c0, c1, c2, c3⟩:=h2 k hkx
    have hg : g < w.heap.size:=cell_lt c0
    have bb:=bu B hb
    exact ⟨(bb.cell (p := ⟨g, k * 4, none⟩) hg).trans c0, (bb.cell (p := ⟨g, k * 4 + 1, none⟩) hg).trans c1, (bb.cell (p := ⟨g, k * 4 + 2, none⟩) hg).trans c2, (bb.cell (p := ⟨g, k * 4 + 3, none⟩) hg).trans c3⟩
   obtain ⟨t, ht⟩ : ∃ t, ts.getD k (0, 0, 0, 0) = t:=⟨_, rfl⟩
   rw [ht] at SUC hcell
   obtain ⟨a, b, c, d⟩:=t
   obtain ⟨r, hr⟩ : ∃ r, anyRun xs ys (ts.take k) = r:=⟨_, rfl⟩
   rw [hr] at SUC ou ov oc ALEN
   obtain ⟨s, hs⟩ : ∃ s, payAns r.1 r.2.1 a b c d = s:=⟨_, rfl⟩
   have SP:=hide fun w h => specPay u v a b c d r.1 r.2.1 w h
   rw [hs] at SP
   unfold anyStep at SUC
   simp only [hs] at SUC
   have hk2:=ALEN.2.2
   obtain ⟨ua, uc, rfl⟩:=ou.form
   obtain ⟨va, vc, rfl⟩:=ov.form
   have RX:=hide fun w' (hb : Below wr.heap.size wr w') => And.intro ((ou.below hb).ri (by omega)) ((ov.below hb).ri (by omega))
   clear ht hr hs ou ov
   have K : Hid (∀ w', Below wr.heap.size wr w' → (w'.cell? ⟨w1.heap.size, 0, none⟩ = some (.slice ua r.1.length uc) ∧ w'.cell? ⟨w1.heap.size, 1, none⟩ = some (.slice va r.2.1.length vc)) ∧ (w'.cell? ⟨g, k * 4, none⟩ = some (.int .i64 a) ∧ w'.cell? ⟨g, k * 4 + 1, none⟩ = some (.int .i64 b)) ∧ (w'.cell? ⟨g, k * 4 + 2, none⟩ = some (.int .i64 c) ∧ w'.cell? ⟨g, k * 4 + 3, none⟩ = some (.int .i64 d))):=hide fun w' hb' => by
    have l:=G.up hb'
    obtain ⟨c0, c1, c2, c3⟩:=hcell w' hb'
    exact ⟨⟨l.cell 0 rfl, l.cell 1 rfl⟩, ⟨c0, c1⟩, ⟨c2, c3⟩⟩
   clear hcell ALEN
   go_wp2_with fail
   refine wrn K (Below.drew (Below.refl _ _)) (fun hHeld => ?_)
   obtain ⟨wd, hd⟩ : ∃ wd, wr.drew = wd:=⟨_, rfl⟩
   have bd : Below wr.heap.size wr wd:=hd ▸ Below.drew (Below.refl _ _)
   have szd:=bd.size
   rw [hd] at hHeld ⊢
   clear hd
   refine tx 0 21 ?_
   refine tx 1 22 ?_
   refine tx 2 23 ?_
   refine tx 3 24 ?_
   refine tx 4 25 ?_
   refine wpAnyH_ready (rs := [5, 9]) (by kernel_rfl) (by simp) (AllReadyH.cons rfl (fun KK hKK => ?_) (AllReadyH.cons rfl (fun KK hKK => ?_) AllReadyH.nil))
   ·go_simp
    refine (SP.out _ (RX.out _ bd)).mono ?_
    rintro _ wc1 ⟨up, vp, rfl, olp, bnew⟩
    obtain ⟨pa2, pc2, rfl⟩:=olp.has.form
    obtain ⟨qa2, qc2, rfl⟩:=olp.next.form
    have cbc2:=bnew
    have bc2 : Below wr.heap.size wr wc1:=bu bd bnew
    have zzwc1:=bnew.size
    clear hHeld bnew
    refine hKK.out _ _ (K.out _ bc2) (fun hHeld => ?_)
    clear hKK KK
    refine tx 6 20 ?_
    refine tx 7 27 ?_
    refine tx 8 28 ?_
    refine rd 9 rfl (fun KK hKK => ?_)
    go_simp
    obtain ⟨wl5, hwl5⟩ : ∃ x, wc1.alloc (.cells #[.slice none 0 0,.slice none 0 0] 60) = x:=⟨_, rfl⟩
    have cbl6 : Below wc1.heap.size wc1 wl5:=hwl5 ▸ (Below.refl _ _).alloc (Nat.le_refl _) _
    have bl6 : Below wr.heap.size wr wl5:=bu bc2 cbl6
    have zzwl5 : wc1.heap.size < wl5.heap.size:=by rw [← hwl5]; simp
    have lg : Loc wl5 wc1.heap.size #[.slice none 0 0,.slice none 0 0]:=hwl5 ▸ loc_at wc1 _ _ rfl
    have olp:=olp.below cbl6
    rw [hwl5]
    clear hHeld hwl5
    refine hKK.out _ _ (K.out _ bl6) (fun hHeld => ?_)
    clear hKK KK
    have q0:=lg.cell 0 rfl
    have q1:=lg.cell 1 rfl
    have FG:=lg.frozen
    refine rd 10 rfl (fun KK hKK => ?_)
    go_simp
    have bs : Below wr.heap.size wr ((wl5.setCell ⟨wc1.heap.size, 0, none⟩ (.slice pa2 s.1.length pc2)).setCell ⟨wc1.heap.size, 1, none⟩ (.slice qa2 s.2.1.length qc2)):=Below.set (Below.set bl6 _ _ (by omega)) _ _ (by omega)
    clear hHeld
    refine hKK.out _ _ (K.out _ bs) (fun hHeld => ?_)
    clear hKK KK
    refine tx 11 10 ?_
    clear hHeld
    refine wdn ?_
    have kk : Kp wl5 ((wl5.setCell ⟨wc1.heap.size, 0, none⟩ (.slice pa2 s.1.length pc2)).setCell ⟨wc1.heap.size, 1, none⟩ (.slice qa2 s.2.1.length qc2)) (fun k => k = wc1.heap.size):=(set_kp wl5 _ 0 _).trans (set_kp _ _ 1 _)
    have N5 : Loc ((wl5.setCell ⟨wc1.heap.size, 0, none⟩ (.slice pa2 s.1.length pc2)).setCell ⟨wc1.heap.size, 1, none⟩ (.slice qa2 s.2.1.length qc2)) wc1.heap.size #[(.slice pa2 s.1.length pc2), (.slice qa2 s.2.1.length qc2)]:=(lg.set 0 _ rfl).set 1 _ rfl
    have P5:=olp.kp kk (fun k h1 h2 e => by omega)
    obtain ⟨w5, hw5⟩ : ∃ x, ((wl5.setCell ⟨wc1.heap.size, 0, none⟩ (.slice pa2 s.1.length pc2)).setCell ⟨wc1.heap.size, 1, none⟩ (.slice qa2 s.2.1.length qc2)) = x:=⟨_, rfl⟩
    rw [hw5] at N5 P5 bs ⊢
    have G5:=G.up bs
    have R5:=R.up bs
    have B5:=bu B bs
    have C5:=oc.below bs
    have sz5:=bs.size
    clear hw5 kk olp lg q0 q1 FG
    obtain ⟨w6, hw6⟩ : ∃ x, ((w5.setCell ⟨w1.heap.size, 0, none⟩ (.slice pa2 s.1.length pc2)).setCell ⟨w1.heap.size, 1, none⟩ (.slice qa2 s.2.1.length qc2)) = x:=⟨_, rfl⟩
    have k6 : Kp w5 w6 (fun k => k = w1.heap.size):=hw6 ▸ (set_kp w5 _ 0 _).trans (set_kp _ _ 1 _)
    have G6 : Loc w6 w1.heap.size #[(.slice pa2 s.1.length pc2), (.slice qa2 s.2.1.length qc2)]:=hw6 ▸ (G5.set 0 _ rfl).set 1 _ rfl
    have R6:=R5.kp k6 (by omega)
    have B6:=Below.kp B5 k6 B5.size (fun k e => by omega)
    have P6:=P5.kp k6 (fun k h1 h2 e => by omega)
    have C6:=C5.kp k6 (fun k hk e => by have:=(lc k hk).1; omega)
    have sz6:=k6.size
    have n0:=N5.cell 0 rfl
    have n1:=N5.cell 1 rfl
    have m0:=G5.cell 0 rfl
    have m1:=G5.cell 1 rfl
    have FG:=G5.frozen
    have C6 : w6.ownsRow (w1.heap.size + 1) 3 1 u7 k (r.2.2.map (Value.int .i64)):=by have:=C6; unfold OI at this; rwa [hk2] at this
    have C6:=hide C6
    have G6:=hide G6
    have R6:=hide R6
    have P6:=hide P6
    have B6:=hide B6
    clear k6 C5 P5 N5 R5 B5 bs
    go_wp2_with (first
     | (at_builtin; refine wpList_append_own _ rfl _ _ 24 rfl (w1.heap.size + 1) 3 i0 (.int .i64 0) 1 8 Tryz.underlying24 hi hz0 hz1 hz2 rfl (by decide) u7 _ _ rfl (C6.out.alloc _) ⟨w6.heap.size, 0, none⟩ 1 1 [.int .i64 s.2.2] rfl rfl (one_cell _ _ _) (one_plain _ _) (by unfold maxLen; omega) (by omega) (by simp; omega) ?_; intro v' w8 ho' hg' _
        have k8 : Kp w6 w8 (fun j => u7.ownBlock = some j):=(Below.kpOf ((Below.refl _ _).alloc (Nat.le_refl _) _) _).trans (kp_grown hg')
        have G8:=hide (G6.out.kp k8 (fun e => by have:=(lc _ e).1; omega))
        have R8:=hide (R6.out.kp k8 (fun e => by have:=(lc _ e).1; omega))
        have B8:=hide (Below.kp B6.out k8 B6.out.size (fun j e => by have:=(lc _ e).1; omega))
        have P8:=hide (P6.out.kp k8 (fun j h1 h2 e => by have:=(lc _ e).2; omega))
        have ho1:=hide (show OI w8 (w1.heap.size + 1) v' (r.2.2 ++ [s.2.2]) by unfold OI; rw [List.length_append, hk2]; simpa using ho')
        clear k8 hg' ho' C6 G6 R6 B6 P6))
    clear hw6
    go_roundw
    case rel =>
     refine ⟨k + 1, .slice pa2 s.1.length pc2, .slice qa2 s.2.1.length qc2, by omega, by go_num, ?_⟩
     rw [SUC.out]
     exact ⟨G8.out, P8.out.has.mono (by omega), P8.out.next.mono (by omega), ho1.out, ⟨fun e => by have := (World.ownsRow.lt P8.out.has _ e).1; omega, fun e => by have := (World.ownsRow.lt P8.out.next _ e).1; omega⟩, R8.out, B8.out⟩
    case measure => simp [intOf]; omega
   go_simp
   obtain ⟨wl3, hwl3⟩ : ∃ x, wd.alloc (.cells #[.slice none 0 0,.slice none 0 0] 60) = x:=⟨_, rfl⟩
   have cbl4 : Below wd.heap.size wd wl3:=hwl3 ▸ (Below.refl _ _).alloc (Nat.le_refl _) _
   have bl4 : Below wr.heap.size wr wl3:=bu bd cbl4
   have zzwl3 : wd.heap.size < wl3.heap.size:=by rw [← hwl3]; simp
   have lg : Loc wl3 wd.heap.size #[.slice none 0 0,.slice none 0 0]:=hwl3 ▸ loc_at wd _ _ rfl
   rw [hwl3]
   clear hHeld hwl3
   refine hKK.out _ _ (K.out _ bl4) (fun hHeld => ?_)
   clear hKK KK
   refine rd 5 rfl (fun KK hKK => ?_)
   go_simp
   refine (SP.out _ (RX.out _ bl4)).mono ?_
   rintro _ wc7 ⟨up, vp, rfl, olp, bnew⟩
   obtain ⟨pa2, pc2, rfl⟩:=olp.has.form
   obtain ⟨qa2, qc2, rfl⟩:=olp.next.form
   have cbc8:=bnew
   have bc8 : Below wr.heap.size wr wc7:=bu bl4 bnew
   have zzwc7:=bnew.size
   have lg:=lg.up bnew
   clear hHeld bnew
   refine hKK.out _ _ (K.out _ bc8) (fun hHeld => ?_)
   clear hKK KK
   refine tx 6 20 ?_
   refine tx 7 27 ?_
   refine tx 8 28 ?_
   have q0:=lg.cell 0 rfl
   have q1:=lg.cell 1 rfl
   have FG:=lg.frozen
   refine rd 10 rfl (fun KK hKK => ?_)
   go_simp
   have bs : Below wr.heap.size wr ((wc7.setCell ⟨wd.heap.size, 0, none⟩ (.slice pa2 s.1.length pc2)).setCell ⟨wd.heap.size, 1, none⟩ (.slice qa2 s.2.1.length qc2)):=Below.set (Below.set bc8 _ _ (by omega)) _ _ (by omega)
   clear hHeld
   refine hKK.out _ _ (K.out _ bs) (fun hHeld => ?_)
   clear hKK KK
   refine tx 11 10 ?_
   clear hHeld
   refine wdn ?_
   have kk : Kp wc7 ((wc7.setCell ⟨wd.heap.size, 0, none⟩ (.slice pa2 s.1.length pc2)).setCell ⟨wd.heap.size, 1, none⟩ (.slice qa2 s.2.1.length qc2)) (fun k => k = wd.heap.size):=(set_kp wc7 _ 0 _).trans (set_kp _ _ 1 _)
   have N5 : Loc ((wc7.setCell ⟨wd.heap.size, 0, none⟩ (.slice pa2 s.1.length pc2)).setCell ⟨wd.heap.size, 1, none⟩ (.slice qa2 s.2.1.length qc2)) wd.heap.size #[(.slice pa2 s.1.length pc2), (.slice qa2 s.2.1.length qc2)]:=(lg.set 0 _ rfl).set 1 _ rfl
   have P5:=olp.kp kk (fun k h1 h2 e => by omega)
   obtain ⟨w5, hw5⟩ : ∃ x, ((wc7.setCell ⟨wd.heap.size, 0, none⟩ (.slice pa2 s.1.length pc2)).setCell ⟨wd.heap.size, 1, none⟩ (.slice qa2 s.2.1.length qc2)) = x:=⟨_, rfl⟩
   rw [hw5] at N5 P5 bs ⊢
   have G5:=G.up bs
   have R5:=R.up bs
   have B5:=bu B bs
   have C5:=oc.below bs
   have sz5:=bs.size
   clear hw5 kk olp lg q0 q1 FG
   obtain ⟨w6, hw6⟩ : ∃ x, ((w5.setCell ⟨w1.heap.size, 0, none⟩ (.slice pa2 s.1.length pc2)).setCell ⟨w1.heap.size, 1, none⟩ (.slice qa2 s.2.1.length qc2)) = x:=⟨_, rfl⟩
   have k6 : Kp w5 w6 (fun k => k = w1.heap.size):=hw6 ▸ (set_kp w5 _ 0 _).trans (set_kp _ _ 1 _)
   have G6 : Loc w6 w1.heap.size #[(.slice pa2 s.1.length pc2), (.slice qa2 s.2.1.length qc2)]:=hw6 ▸ (G5.set 0 _ rfl).set 1 _ rfl
   have R6:=R5.kp k6 (by omega)
   have B6:=Below.kp B5 k6 B5.size (fun k e => by omega)
   have P6:=P5.kp k6 (fun k h1 h2 e => by omega)
   have C6:=C5.kp k6 (fun k hk e => by have:=(lc k hk).1; omega)
   have sz6:=k6.size
   have n0:=N5.cell 0 rfl
   have n1:=N5.cell 1 rfl
   have m0:=G5.cell 0 rfl
   have m1:=G5.cell 1 rfl
   have FG:=G5.frozen
   have C6 : w6.ownsRow (w1.heap.size + 1) 3 1 u7 k (r.2.2.map (Value.int .i64)):=by have:=C6; unfold OI at this; rwa [hk2] at this
   have C6:=hide C6
   have G6:=hide G6
   have R6:=hide R6
   have P6:=hide P6
   have B6:=hide B6
   clear k6 C5 P5 N5 R5 B5 bs
   go_wp2_with (first
    | (at_builtin; refine wpList_append_own _ rfl _ _ 24 rfl (w1.heap.size + 1) 3 i0 (.int .i64 0) 1 8 Tryz.underlying24 hi hz0 hz1 hz2 rfl (by decide) u7 _ _ rfl (C6.out.alloc _) ⟨w6.heap.size, 0, none⟩ 1 1 [.int .i64 s.2.2] rfl rfl (one_cell _ _ _) (one_plain _ _) (by unfold maxLen; omega) (by omega) (by simp; omega) ?_; intro v' w8 ho' hg' _
       have k8 : Kp w6 w8 (fun j => u7.ownBlock = some j):=(Below.kpOf ((Below.refl _ _).alloc (Nat.le_refl _) _) _).trans (kp_grown hg')
       have G8:=hide (G6.out.kp k8 (fun e => by have:=(lc _ e).1; omega))
       have R8:=hide (R6.out.kp k8 (fun e => by have:=(lc _ e).1; omega))
       have B8:=hide (Below.kp B6.out k8 B6.out.size (fun j e => by have:=(lc _ e).1; omega))
       have P8:=hide (P6.out.kp k8 (fun j h1 h2 e => by have:=(lc _ e).2; omega))
       have ho1:=hide (show OI w8 (w1.heap.size + 1) v' (r.2.2 ++ [s.2.2]) by unfold OI; rw [List.length_append, hk2]; simpa using ho')
       clear k8 hg' ho' C6 G6 R6 B6 P6))
   clear hw6
   go_roundw
   case rel =>
    refine ⟨k + 1, .slice pa2 s.1.length pc2, .slice qa2 s.2.1.length qc2, by omega, by go_num, ?_⟩
    rw [SUC.out]
    exact ⟨G8.out, P8.out.has.mono (by omega), P8.out.next.mono (by omega), ho1.out, ⟨fun e => by have := (World.ownsRow.lt P8.out.has _ e).1; omega, fun e => by have := (World.ownsRow.lt P8.out.next _ e).1; omega⟩, R8.out, B8.out⟩
   case measure => simp [intOf]; omega
  have hkn : k = n:=by omega
  have e1 : ts.take k = ts:=List.take_of_length_le (by rw [Hn.out]; omega)
  rw [e1, HE.out] at ou ov oc
  obtain ⟨la, lc2, rfl⟩:=ou.form
  obtain ⟨ma, mc, rfl⟩:=ov.form
  have q0:=G.cell 0 rfl
  have q1:=G.cell 1 rfl
  have y0:=R.cell 0 rfl
  have y1:=R.cell 1 rfl
  have FR:=R.frozen
  have ou:=hide ou
  have ov:=hide ov
  have oc:=hide oc
  clear e1 ALEN
  subst hkn
  go_wp2
  refine bodyPost_ret (v := .tuple #[lv (.slice la ans.1.length lc2) (.slice ma ans.2.1.length mc), u7]) (by simp [results, Tryz.results29, go_sem, y0, y1]) rfl ?_
  have K7 : Kp wr ((wr.setCell ⟨w.heap.size + 1, 0, none⟩ (.slice la ans.1.length lc2)).setCell ⟨w.heap.size + 1, 1, none⟩ (.slice ma ans.2.1.length mc)) (fun k => k = w.heap.size + 1):=(set_kp wr _ 0 _).trans (set_kp _ _ 1 _)
  refine ⟨_, _, _, rfl, ?_, ?_, ?_, Below.set (Below.set B _ _ (by omega)) _ _ (by omega)⟩
  ·exact ou.out.kp K7 (fun j hj e => lu1 (by rw [hj, e]))
  ·exact ov.out.kp K7 (fun j hj e => lv1 (by rw [hj, e]))
  exact (oc.out.kp K7 (fun j hj e => by have := (lc j hj).1; omega)).mono (by omega)
theorem Tryz.infoPay : (Tryz.prog.info? 144).map (fun i => (i.zero, i.size, i.bytes)) = some (some .nilFunc, 1, 8) := by kernel_rfl
def phalf (ts : List T4) (k : Nat) : List Value := (ts.take k).map pfun ++ List.replicate (ts.length - k) .nilFunc
theorem phalf_zero (ts : List T4) : phalf ts 0 = List.replicate ts.length .nilFunc := by simp [phalf]
theorem phalf_all (ts : List T4) : phalf ts ts.length = ts.map pfun := by simp [phalf]
theorem phalf_len (ts : List T4) (k : Nat) (h : k ≤ ts.length) : (phalf ts k).length = ts.length := by simp [phalf]; omega
theorem phalf_set (ts : List T4) (k : Nat) (h : k < ts.length) : (phalf ts k).set k (pfun (ts.getD k (0, 0, 0, 0))) = phalf ts (k + 1) := by
 have e : ts.length - k = (ts.length - (k + 1)) + 1:=by omega
 have hk : (ts.take k).length = k:=by simp; omega
 unfold phalf
 rw [List.take_succ_eq_append_getElem h, e, List.replicate_succ, List.map_append, List.set_append_right _ _ (by simp; omega), List.length_map, hk, Nat.sub_self]
 simp [List.getElem?_eq_getElem h]

theorem implPayAll (u v p : Value) (xs ys : List Int) (ts : List T4) (w : World) (hu : RI w u xs ∧ RI w v ys) (hp : RT w p ts) (htl : ts.length ≤ 4194304) :
 Calls Tryz.prog 41 #[lv u v, p] w (EachEnd w (eachAns xs ys ts)) := by
 obtain ⟨i0, hi, hz0, hz1, hz2⟩:=info_parts Tryz.infoPay
 have EA:=hide fun p w h1 h2 => payEach_any u v p xs ys ts w h1 h2
 have RU:=hide hu
 obtain ⟨ua, uc, rfl⟩ : ∃ ua uc, u = .slice ua xs.length uc:=by obtain ⟨_, ua, uc, h, _⟩:=hu.1; exact ⟨ua, uc, h⟩
 obtain ⟨va, vc, rfl⟩ : ∃ va vc, v = .slice va ys.length vc:=by obtain ⟨_, va, vc, h, _⟩:=hu.2; exact ⟨va, vc, h⟩
 obtain ⟨_, pa, pc, rfl, hpc⟩:=hp
 have HPC:=hide hpc
 obtain ⟨n, hn⟩ : ∃ n, ts.length = n:=⟨_, rfl⟩
 have Hn:=hide hn
 rw [hn] at htl ⊢
 clear hu hpc hn
 obtain ⟨r, hr⟩ : ∃ r, eachAns xs ys ts = r:=⟨_, rfl⟩
 rw [hr] at EA ⊢
 clear hr
 obtain ⟨w0, hw0⟩ : ∃ w0, (w.alloc (.cells #[.slice ua xs.length uc,.slice va ys.length vc] 60)).alloc (.cells #[.slice none 0 0,.slice none 0 0] 60) = w0:=⟨_, rfl⟩
 have B0 : Below w.heap.size w w0:=hw0 ▸ ((Below.refl w.heap.size w).alloc (Nat.le_refl _) _).alloc (by simp) _
 have L0 : Loc w0 w.heap.size #[.slice ua xs.length uc,.slice va ys.length vc]:=hw0 ▸ (loc_at w _ _ rfl).alloc _
 have R0 : Loc w0 (w.heap.size + 1) #[.slice none 0 0,.slice none 0 0]:=hw0 ▸ loc_at _ _ _ (by simp)
 have s0 : w0.heap.size = w.heap.size + 2:=by rw [← hw0]; simp
 go_enter Tryz.func41, Tryz.ntmps41
 go_wp2_with (first
  | (at_make; refine wpList_make_full _ rfl _ _ 142 rfl (w.heap.size + 2) 144 i0 .nilFunc 1 Tryz.underlying142 hi hz0 hz1 .i64 .i64 n n n rfl rfl rfl rfl (by rw [hz2]; omega) (by unfold maxLen; omega) (by omega) ?_; intro w1 ho1 hg1
     have k1:=kp_grown hg1
     have L1:=L0.kp k1 (by simp)
     have R1:=R0.kp k1 (by simp)
     have B1:=Below.kp B0 k1 B0.size (by simp)
     have s1:=hg1.size
     rw [s0] at ho1
     clear k1 hg1 L0 R0 B0 hw0))
 have ho1 : w1.ownsRow (w.heap.size + 2) 144 1 (.slice (some ⟨w.heap.size + 2, 0, none⟩) n n) n (phalf ts 0):=by
  have e : (madeCells Value.nilFunc.cells (n * 1)).toList = phalf ts 0:=by
   rw [phalf_zero, Hn.out, Nat.mul_one]; exact toList_madeCells_one _ _
  rw [← e]; exact ho1
 go_loopw [14] (fun i wr => ∃ k : Nat, k ≤ n ∧ i = .int .i64 k ∧ wr.ownsRow (w.heap.size + 2) 144 1 (.slice (some ⟨w.heap.size + 2, 0, none⟩) n n) n (phalf ts k) ∧ Loc wr w.heap.size #[.slice ua xs.length uc,.slice va ys.length vc] ∧ Loc wr (w.heap.size + 1) #[.slice none 0 0,.slice none 0 0] ∧ Below w.heap.size w wr) (fun i _ => n - (intOf i).toNat)
 case atStart => exact ⟨0, Nat.zero_le _, rfl, ho1, L1, R1, B1⟩
 case round =>
  clear ho1 L1 R1 B1
  obtain ⟨k, hk, rfl, ho, L, R, B⟩:=hrel
  have lw:=(World.ownsRow.lt ho (w.heap.size + 2) rfl).2
  by_cases hlt : k < n
  ·have hkx : k < ts.length:=by rw [Hn.out]; exact hlt
   obtain ⟨g, rfl, hc⟩ : ∃ g, pa = some ⟨g, 0, none⟩ ∧ Cells4K wr g k (ts.getD k (0, 0, 0, 0)):=by
    rcases HPC.out with h | ⟨g, h1, h2⟩
    ·subst h; simp at hkx
    obtain ⟨c0, c1, c2, c3⟩:=h2 k hkx
    have hg : g < w.heap.size:=cell_lt c0
    exact ⟨g, h1, (B.cell (p := ⟨g, k * 4, none⟩) hg).trans c0, (B.cell (p := ⟨g, k * 4 + 1, none⟩) hg).trans c1, (B.cell (p := ⟨g, k * 4 + 2, none⟩) hg).trans c2, (B.cell (p := ⟨g, k * 4 + 3, none⟩) hg).trans c3⟩
   have PS:=hide (phalf_set ts k hkx)
   have PL:=phalf_len ts k (by omega)
   obtain ⟨t, ht⟩ : ∃ t, ts.getD k (0, 0, 0, 0) = t:=⟨_, rfl⟩
   rw [ht] at PS hc
   clear ht
   obtain ⟨a, b, c, d⟩:=t
   obtain ⟨c0, c1, c2, c3⟩:=hc
   simp only at c0 c1 c2 c3
   obtain ⟨w2, hw2⟩ : ∃ w2, wr.alloc (.cells (r4 a b c d) 119) = w2:=⟨_, rfl⟩
   have b2 : Below wr.heap.size wr w2:=hw2 ▸ (Below.refl _ _).alloc (Nat.le_refl _) _
   have X2 : Loc w2 wr.heap.size (r4 a b c d):=hw2 ▸ loc_at wr _ _ rfl
   have ho2 : w2.ownsRow (w.heap.size + 2) 144 1 (.slice (some ⟨w.heap.size + 2, 0, none⟩) n n) n (phalf ts k):=hw2 ▸ ho.alloc _
   have L2:=L.up b2
   have R2:=R.up b2
   have B2:=bu B b2
   obtain ⟨x0, x1, x2, x3⟩:=X2.cells4
   obtain ⟨e5, he5⟩ : ∃ e5, w2.cell? ⟨w.heap.size + 2, k, none⟩ = some e5:=⟨_, (ho2.cellAt k (by omega)).trans (List.getElem?_eq_getElem (by rw [PL]; exact hkx))⟩
   have F5:=ho2.frozenAt k
   have HS : Hid ((w2.setCell ⟨w.heap.size + 2, k, none⟩ (pfun (a, b, c, d))).ownsRow (w.heap.size + 2) 144 1 (.slice (some ⟨w.heap.size + 2, 0, none⟩) n n) n (phalf ts (k + 1))):=by
    rw [← PS.out]; exact (ho2.stored k _).1
   clear ho ho2 L R B X2
   go_wp2
   go_roundw
   case rel => exact ⟨k + 1, by omega, by go_num, HS.out, L2.other (by simp) _, R2.other (by simp) _, Below.set B2 _ _ (by omega)⟩
   case measure => simp [intOf]; omega
  have hkn : k = n:=by omega
  have HP : RP wr (.slice (some ⟨w.heap.size + 2, 0, none⟩) n n) ts:=by
   refine ⟨by rw [Hn.out]; omega, _, n, by rw [Hn.out], .inr ⟨_, 0, rfl, fun j hj => ?_⟩⟩
   rw [Hn.out] at hj
   rw [Nat.zero_add, ho.cellAt j (by omega), hkn]
   have e:=phalf_all ts
   rw [Hn.out] at e
   rw [e]
   have hj' : j < ts.length:=by rw [Hn.out]; exact hj
   simp [List.getElem?_map, List.getElem?_eq_getElem hj']
  have HP:=hide HP
  have q0:=L.cell 0 rfl
  have q1:=L.cell 1 rfl
  subst hkn
  clear ho
  go_wp2_with fail
  refine (EA.out _ _ ⟨RU.out.1.below B, RU.out.2.below B⟩ HP.out).mono ?_
  rintro _ w5 ⟨ul, vl, cs, mid, rfl, oc, lt1, hm, ol, b5⟩
  have R5:=R.up b5
  have B5:=bu B b5
  obtain ⟨la, lc, rfl⟩:=ol.has.form
  obtain ⟨ma, mc, rfl⟩:=ol.next.form
  have y0:=R5.cell 0 rfl
  have y1:=R5.cell 1 rfl
  have FR:=R5.frozen
  have tc:=World.ownsRow.lt oc
  have oc:=hide oc
  have ol:=hide ol
  have lr:=R.lt
  clear q0 q1 b5 L R B
  go_wp2
  refine bodyPost_ret (v := .tuple #[lv (.slice la r.1.length lc) (.slice ma r.2.1.length mc), cs]) (by simp [results, Tryz.results41, go_sem, y0, y1]) rfl ?_
  have K7 : Kp w5 ((w5.setCell ⟨w.heap.size + 1, 0, none⟩ (.slice la r.1.length lc)).setCell ⟨w.heap.size + 1, 1, none⟩ (.slice ma r.2.1.length mc)) (fun k => k = w.heap.size + 1):=(set_kp w5 _ 0 _).trans (set_kp _ _ 1 _)
  refine ⟨_, _, _, mid, rfl, ?_, lt1, by omega, ?_, ?_⟩
  ·exact (oc.out.kp K7 (fun j hj => by have := (tc j hj).1; omega)).mono (by omega)
  ·exact (ol.out.kp K7 (fun j h1 _ e => by omega)).mono (Nat.le_refl _) (by simp)
  exact Below.set (Below.set B5 _ _ (by omega)) _ _ (by omega)
end
section
open Go.RowKit
variable [∀ (a b c d : Int), Decidable (Ok4 a b c d)]
variable [∀ (a b c d : Nat), Decidable (okN a b c d)]
variable [∀ (last : Int) (s : St), Decidable (GoodSt last s)]
variable [∀ (x : T4), Decidable (OkT x)]
theorem implTxsIn (s : ByteArray) (w : World) (hs : s.size ≤ 33554432) (hE : Env w) :
 Calls Tryz.prog 43 #[.string s] w fun e w' => ∃ v, e = .returned v ∧ OT w' w.heap.size v (txsInAns s) ∧ Below w.heap.size w w' := by
 have ST:=hide fun w hE => implSteps s w hs hE
 have hl : ((stepsAns s).getD []).length ≤ 30 ∧ ∀ x ∈ (stepsAns s).getD [], x.2.length ≤ 2:=by
  cases h : stepsAns s with
  | none => simp
  | some ss => exact ⟨((names_iff _ _).1 h).2.1, fun x hx => (((names_iff _ _).1 h).2.2.1 x hx).2.1⟩
 unfold txsInAns
 generalize (stepsAns s).isSome = bb at *
 generalize (stepsAns s).getD [] = ss at *
 obtain ⟨hl, h2⟩:=hl
 have H2:=hide h2
 clear h2
 go_enter Tryz.func43, Tryz.ntmps43
 go_wp2_with fail
 refine (ST.out _ hE).mono ?_
 rintro e w1 ⟨v, rfl, o1, b1⟩
 clear ST hE
 obtain ⟨oa, oc, rfl⟩:=o1.form
 obtain ⟨vs, o1⟩:=o1
 have s1:=b1.size
 have hvb:=World.ownsRow.lt o1.row
 have hsb : ∀ k, k < ss.length → ∀ b, (vs.getD k (.slice none 0 0)).ownBlock = some b → w.heap.size ≤ b ∧ b < w1.heap.size:=fun k hk => World.ownsRow.lt (o1.each k hk)
 have HVB:=hide hvb
 have HSB:=hide hsb
 have S1:=hide o1
 clear hvb hsb o1
 go_wp2
 go_loopw [5, 15] (fun out i wr => ∃ k : Nat, k ≤ ss.length ∧ i = .int .i64 k ∧ OT wr w1.heap.size out ((ss.take k).flatMap (·.2)) ∧ OStV wr w.heap.size (.slice oa ss.length oc) ss vs ∧ Below w.heap.size w wr ∧ w1.heap.size ≤ wr.heap.size) (fun _ i _ => ss.length - (intOf i).toNat)
 case atStart => exact ⟨0, Nat.zero_le _, rfl, World.ownsRow_nil _ _ _ _, S1.out, b1, Nat.le_refl _⟩
 case round =>
  clear S1 b1
  obtain ⟨k, hk, rfl, ot, os, br, sz⟩:=hrel
  by_cases hlt : k < ss.length
  ·have hfl:=flat_len (ss.take k) fun x hx => H2.out x (List.mem_of_mem_take hx)
   rw [List.length_take] at hfl
   have hu2:=H2.out (ss.getD k zst) (by rw [List.getD_eq_getElem?_getD, List.getElem?_eq_getElem hlt]; exact List.getElem_mem hlt)
   have HF:=hide (flat_more ss k hlt)
   obtain ⟨ha, hca⟩ : ∃ g, oa = some ⟨g, 0, none⟩:=by
    rcases os.row.2 with ⟨e, h0⟩ | ⟨g, cap, cur, e, _⟩
    ·omega
    cases e; exact ⟨g, rfl⟩
   subst hca
   have c0:=World.ownsRow.cellAt os.row (k * 2 + 0) (by omega)
   have c1:=World.ownsRow.cellAt os.row (k * 2 + 1) (by omega)
   rw [scells_get _ k _ (by simp [os.len]; omega) (by omega), zip_get ss vs os.len k hlt] at c0 c1
   replace c0 : wr.cell? ⟨ha, k * 2, none⟩ = some (.int .i64 (ss.getD k zst).1):=by simpa [scell] using c0
   replace c1 : wr.cell? ⟨ha, k * 2 + 1, none⟩ = some (vs.getD k (.slice none 0 0)):=by simpa [scell] using c1
   obtain ⟨ta, tl, tc, hu⟩ : ∃ ta tl tc, vs.getD k (.slice none 0 0) = .slice ta tl tc:=by
    rcases (os.each k hlt).2 with ⟨e, h0⟩ | ⟨g, cap, cur, e, _⟩
    ·exact ⟨none, 0, 0, e⟩
    exact ⟨_, _, _, e⟩
   have hbX : Below wr.heap.size wr (wr.alloc (.cells #[.int .i64 (ss.getD k zst).1, vs.getD k (.slice none 0 0)] 132)):=(Below.refl _ _).alloc (Nat.le_refl _) _
   have HU:=hide ((os.each k hlt).below hbX)
   have osX:=os.below hbX
   have OT1:=hide (ot.below hbX)
   have LT:=hide (World.ownsRow.lt ot)
   have K1 : Hid (∀ w' (row : Option Nat), (wr.alloc (.cells #[.int .i64 (ss.getD k zst).1, vs.getD k (.slice none 0 0)] 132)).grownBy w' row → (∀ b, row = some b → w1.heap.size ≤ b) → OStV w' w.heap.size (.slice (some ⟨ha, 0, none⟩) ss.length oc) ss vs):=hide fun w' row hg hrow => by
    refine osX.kept hg ?_ fun j hj => ?_
    ·cases hv : (Value.slice (some ⟨ha, 0, none⟩) ss.length oc).ownBlock with
     | none => exact .inl rfl
     | some b =>
      refine .inr fun e => ?_
      have:=hrow b e.symm
      have:=(HVB.out b hv).2
      omega
    cases hv : (vs.getD j (.slice none 0 0)).ownBlock with
    | none => exact .inl rfl
    | some b =>
     refine .inr fun e => ?_
     have:=hrow b e.symm
     have:=(HSB.out j hj b hv).2
     omega
   rw [hu] at c1 HU OT1 K1
   have BX:=bu br hbX
   rw [hu] at BX
   clear os ot osX hbX hu
   generalize (ss.getD k zst).1 = n at *
   generalize (ss.getD k zst).2 = ts at *
   go_wp2_with (first
    | (at_builtin; refine append_ot rfl _ _ rfl w1.heap.size w.heap.size _ (.slice ta tl tc) _ ts rfl rfl OT1.out HU.out (by omega) (by simp; omega) ?_; intro v' w2 ho' hg' hb'; have RS := K1.out w2 _ hg' (fun b e => (LT.out b e).1); have RB := BX.grown hg' BX.size (fun j e => by have := (LT.out j e).1; omega); have SZ := hg'.size; simp only [World.size_alloc] at SZ; rw [← HF.out] at ho'; clear hg' hb'))
   go_roundw
   case rel => exact ⟨k + 1, by omega, by go_num, ho', RS, RB, by omega⟩
   case measure => simp [intOf]; omega
  obtain rfl : k = ss.length:=by omega
  rw [List.take_of_length_le (Nat.le_refl _)] at ot
  have OT1:=hide (row_lower2 ot s1)
  clear ot os
  go_wp2
  go_ret
  exact ⟨_, rfl, OT1.out, br⟩
end
end Go.Proofs.YtmpffkpilbbclaaGreatDoor
