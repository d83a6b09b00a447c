/- Lemmas; their conditions stand in each statement. -/
import Derived.Test.YtjkcphnohhpihaaPDAD
import Derived.Laws.CopyOwn
import Derived.Laws.EntriesVeiled
import Derived.Laws.Cover1
set_option maxRecDepth 100000
set_option maxHeartbeats 4000000
set_option linter.unusedSectionVars false
namespace Go.Proofs.Ytjkcphnohhpihaa
section
open Go.RowKit
abbrev zq : Obj := .cells #[.int .i64 0,.string ⟨#[]⟩,.slice none 0 0] 130

theorem qtold_any (g : Nat) (n : Int) (s : ByteArray) (ao : Option Addr) (ca : Nat) (xs : List Int) (w : World) (hg : Loc w g #[.int .i64 n,.string s,.slice ao xs.length ca]) (ha : RI w (.slice ao xs.length ca) xs) (hs : s.size ≤ 281474976710656) :
 Calls Try.prog 95 #[.pointer (some ⟨g, 0, none⟩)] w fun e w' => ∃ u, e = .returned (qv n s u) ∧ OI w' w.heap.size u xs ∧ Below w.heap.size w w' := by
 have CL:=hide fun w => clone_any s w hs
 have hgl:=hg.lt
 obtain ⟨w0, hw0⟩ : ∃ w0, w.alloc zq = w0:=⟨_, rfl⟩
 have B0 : Below w.heap.size w w0:=hw0 ▸ qalloc _ _
 have Z0 : Loc w0 w.heap.size #[.int .i64 0,.string ⟨#[]⟩,.slice none 0 0]:=hw0 ▸ loc_at w _ _ rfl
 have s0 : w0.heap.size = w.heap.size + 1:=by rw [← hw0]; simp
 have G0:=hg.below B0 hgl
 have K : Hid (∀ w', Below w0.heap.size w0 w' → Below w0.heap.size w0 w' ∧ w'.cell? ⟨g, 0, none⟩ = some (.int .i64 n) ∧ w'.cell? ⟨g, 1, none⟩ = some (.string s)):=hide fun w' hb =>
  ⟨hb, (G0.up hb).cell 0 rfl, (G0.up hb).cell 1 rfl⟩
 have RA:=hide ha
 have HZ:=hide Z0
 have HG:=hide G0
 clear ha hg Z0 G0
 go_enter Try.func95, Try.ntmps95
 go_upto_region 1 with fail
 clear hw0
 go_cut [3] (fun c wx => ∃ h, c = .pointer (some ⟨h, 0, none⟩) ∧ w0.heap.size ≤ h ∧ Loc wx h #[.int .i64 n,.string s,.slice none 0 0] ∧ Below w0.heap.size w0 wx)
 case first =>
  clear HZ HG RA
  refine wrn K (Below.drew (Below.refl _ _)) (fun hHeld => ?_)
  obtain ⟨wd, hd⟩ : ∃ wd, w0.drew = wd:=⟨_, rfl⟩
  have bd : Below w0.heap.size w0 wd:=hd ▸ Below.drew (Below.refl _ _)
  have szd:=bd.size
  rw [hd] at hHeld ⊢
  clear hd
  refine tx 0 4 ?_
  refine tx 1 5 ?_
  refine tx 2 6 ?_
  refine tx 3 7 ?_
  refine tx 4 8 ?_
  refine tx 5 9 ?_
  refine tx 6 10 ?_
  refine tx 7 11 ?_
  refine wpAnyH_ready (rs := [8, 10]) (by kernel_rfl) (by simp) (AllReadyH.cons rfl (fun KK hKK => ?_) (AllReadyH.cons rfl (fun KK hKK => ?_) AllReadyH.nil))
  ·go_simp
   refine (CL.out _).mono ?_
   rintro e wc1 ⟨rfl, bnew⟩
   have bc1 : Below w0.heap.size w0 wc1:=bu bd bnew
   have zzwc1:=bnew.size
   clear hHeld bnew
   refine hKK.out _ _ (K.out _ bc1) (fun hHeld => ?_)
   clear hKK KK
   refine tx 9 13 ?_
   refine rd 10 rfl (fun KK hKK => ?_)
   go_simp
   obtain ⟨wl2, hwl2⟩ : ∃ x, wc1.alloc (.cells #[.int .i64 0,.string ⟨#[]⟩,.slice none 0 0] 130) = x:=⟨_, rfl⟩
   have bl2 : Below w0.heap.size w0 wl2:=hwl2 ▸ bc1.alloc bc1.size _
   have lg : Loc wl2 wc1.heap.size #[.int .i64 0,.string ⟨#[]⟩,.slice none 0 0]:=hwl2 ▸ loc_at wc1 _ _ rfl
   rw [hwl2]
   clear hHeld hwl2
   refine hKK.out _ _ (K.out _ bl2) (fun hHeld => ?_)
   clear hKK KK
   have q0:=lg.cell 0 rfl
   have q1:=lg.cell 1 rfl
   have q2:=lg.cell 2 rfl
   have FG:=lg.frozen
   refine rd 11 rfl (fun KK hKK => ?_)
   go_simp
   have bs : Below w0.heap.size w0 (((wl2.setCell ⟨wc1.heap.size, 0, none⟩ (.int .i64 n)).setCell ⟨wc1.heap.size, 1, none⟩ (.string s)).setCell ⟨wc1.heap.size, 2, none⟩ (.slice none 0 0)):=Below.set (Below.set (Below.set bl2 _ _ (by omega)) _ _ (by omega)) _ _ (by omega)
   clear hHeld
   refine hKK.out _ _ (K.out _ bs) (fun hHeld => ?_)
   clear hKK KK hHeld
   refine wdn ?_
   go_wp2_with fail
   go_meet
   exact ⟨_, rfl, by omega, ((lg.set 0 _ rfl).set 1 _ rfl).set 2 _ rfl, bs⟩
  go_simp
  obtain ⟨wl3, hwl3⟩ : ∃ x, wd.alloc (.cells #[.int .i64 0,.string ⟨#[]⟩,.slice none 0 0] 130) = x:=⟨_, rfl⟩
  have bl3 : Below w0.heap.size w0 wl3:=hwl3 ▸ bd.alloc bd.size _
  have lg : Loc wl3 wd.heap.size #[.int .i64 0,.string ⟨#[]⟩,.slice none 0 0]:=hwl3 ▸ loc_at wd _ _ rfl
  rw [hwl3]
  clear hHeld hwl3
  refine hKK.out _ _ (K.out _ bl3) (fun hHeld => ?_)
  clear hKK KK
  refine rd 8 rfl (fun KK hKK => ?_)
  go_simp
  refine (CL.out _).mono ?_
  rintro e wc4 ⟨rfl, bnew⟩
  have bc4 : Below w0.heap.size w0 wc4:=bu bl3 bnew
  have zzwc4:=bnew.size
  have lg:=lg.up bnew
  clear hHeld bnew
  refine hKK.out _ _ (K.out _ bc4) (fun hHeld => ?_)
  clear hKK KK
  refine tx 9 13 ?_
  have q0:=lg.cell 0 rfl
  have q1:=lg.cell 1 rfl
  have q2:=lg.cell 2 rfl
  have FG:=lg.frozen
  refine rd 11 rfl (fun KK hKK => ?_)
  go_simp
  have bs : Below w0.heap.size w0 (((wc4.setCell ⟨wd.heap.size, 0, none⟩ (.int .i64 n)).setCell ⟨wd.heap.size, 1, none⟩ (.string s)).setCell ⟨wd.heap.size, 2, none⟩ (.slice none 0 0)):=Below.set (Below.set (Below.set bc4 _ _ (by omega)) _ _ (by omega)) _ _ (by omega)
  clear hHeld
  refine hKK.out _ _ (K.out _ bs) (fun hHeld => ?_)
  clear hKK KK hHeld
  refine wdn ?_
  go_wp2_with fail
  go_meet
  exact ⟨_, rfl, by omega, ((lg.set 0 _ rfl).set 1 _ rfl).set 2 _ rfl, bs⟩
 case rest =>
 obtain ⟨h, rfl, hh, LH, bw⟩:=hcut
 have G1:=HG.out.below bw HG.out.lt
 have Z1:=HZ.out.below bw HZ.out.lt
 have R1:=RA.out
 have B1 : Below w.heap.size w wc:=bu B0 bw
 have s1:=bw.size
 have l1:=LH.lt
 have x2:=G1.cell 2 rfl
 have y0:=Z1.cell 0 rfl
 have y1:=Z1.cell 1 rfl
 have y2:=Z1.cell 2 rfl
 have fy:=Z1.frozen
 have h0:=LH.cell 0 rfl
 have h1:=LH.cell 1 rfl
 have h2:=LH.cell 2 rfl
 have fh:=LH.frozen
 have hl:=R1.1
 clear HG HZ RA K CL bw B0
 by_cases hx : xs = []
 ·subst hx
  go_wp2
  refine bodyPost_ret (v := qv n s (.slice none 0 0)) (by simp [results, Try.results95, go_sem, y0, y1, y2]) rfl ?_
  exact ⟨_, rfl, World.ownsRow_nil _ _ _ _, Below.set (Below.set (Below.set B1 _ _ (Nat.le_refl _)) _ _ (Nat.le_refl _)) _ _ (Nat.le_refl _)⟩
 have hp : 0 < xs.length:=List.length_pos_iff.2 hx
 obtain ⟨cs, hcs⟩ : ∃ cs, xs.map (Value.int .i64) = cs:=⟨_, rfl⟩
 have hcl : cs.length = xs.length:=by rw [← hcs]; simp
 have hone : ∀ v ∈ cs, v.oneCell' = true:=by rw [← hcs]; exact ints_plain64 xs
 obtain ⟨ad, rfl, hcells⟩ : ∃ ad, ao = some ad ∧ ∀ j u, cs[j]? = some u → w.cell? (ad.add j) = some u:=by
  obtain ⟨_, ao', ca', e, hr⟩:=R1
  cases e
  rcases hr with rfl | ⟨b, off, rfl, hr⟩
  ·exact absurd rfl hx
  exact ⟨_, rfl, hcs ▸ inews_cells hr⟩
 have hrows : ∀ w', Below w.heap.size w w' → ∀ j u, cs[j]? = some u → w'.cell? (ad.add j) = some u:=fun w' hb j u hj => (hb.cell (cell_lt (hcells j u hj))).trans (hcells j u hj)
 have HR:=hide hrows
 have HC:=hide hcs
 obtain ⟨i0, hi, hz0, hz1, hz2⟩:=info_parts Try.info3
 obtain ⟨m, hm⟩ : ∃ m, xs.length = m:=⟨_, rfl⟩
 rw [hm] at hl hcl hp x2 G1
 have Hm:=hide hm
 clear R1 hcells hrows hcs hm hx
 have hgt : decide ((0 : Int) < (m : Int)) = true:=by simpa using hp
 go_upto_region 4 with (first | (at_make; refine wpList_make_full _ rfl _ _ 34 rfl wc.heap.size 3 i0 (.int .i64 0) 1 Try.underlying34 hi hz0 hz1 .i64 .i64 m m m rfl rfl rfl rfl (by rw [hz2]; omega) (by unfold maxLen; omega) (Nat.le_refl _) ?_; intro w2 ho2 hg2
                                 have b2 : Below wc.heap.size wc w2:=(Below.refl _ _).grown hg2 (Nat.le_refl _) (by simp)
                                 have L2:=LH.up b2
                                 have k2:=L2.cell 2 rfl
                                 have f2:=L2.frozen))
 obtain ⟨hlen, hrow⟩:=ho2
 rcases hrow with ⟨e, _⟩ | ⟨row, cap, cur, e, hrb, hrh, _, hcm, hcz, hct⟩
 ·cases e
 cases e
 have hlt2 : wc.heap.size < w2.heap.size:=(Array.getElem?_eq_some_iff.1 hrh).1
 obtain ⟨w3, hw3⟩ : ∃ w3, w2.setCell ⟨h, 2, none⟩ (.slice (some ⟨wc.heap.size, 0, none⟩) m m) = w3:=⟨_, rfl⟩
 have B3 : Below w.heap.size w w3:=hw3 ▸ Below.set (bu B1 b2) (g:=h) 2 _ (by omega)
 have K3 : Kp w2 w3 (fun k => k = h):=hw3 ▸ set_kp w2 h 2 _
 have L3 : Loc w3 h #[.int .i64 n,.string s,.slice (some ⟨wc.heap.size, 0, none⟩) m m]:=hw3 ▸ L2.set 2 _ rfl
 have Z3:=(Z1.up b2).kp K3 (by omega)
 have G3:=(G1.up b2).kp K3 (by omega)
 have H3 : w3.heap[wc.heap.size]? = some (.cells cur.toList.toArray 3 (0, 0)):=by rw [K3.block _ hlt2 (by omega)]; simpa using hrh
 have c3:=HR.out w3 B3
 have z3:=K3.size
 have p2:=L3.cell 2 rfl
 have q2:=G3.cell 2 rfl
 have hcz' : cur.toList.length = m:=by simpa using hcz
 rw [hw3]
 clear hw3 k2 f2 h0 h1 h2 fh y0 y1 y2 fy x2
 have H3h:=hide H3
 have C3:=hide c3
 go_region_law (refine step_copy_splice rfl (.tmp 28) (.tmp 32) 34 34 rfl 3 Try.underlying34 (by rw [hi]; simp [hz1]) (some ⟨wc.heap.size, 0, none⟩) (some ad) m m m ca (by simp [Act.eval]) (by simp [Act.eval]) wc.heap.size 0 cur.toList 3 H3h.out cs (by rw [hcl]; simp) (fun _ => ⟨rfl, _, rfl, C3.out⟩) (by omega) hone wc.heap.size w3 ⟨rfl, rfl, rfl, Nat.le_refl _, fun _ _ => rfl⟩ (Nat.le_refl _) ?_; intro w4 hg4 hb4)
 all_goals
  have L4:=L3.below hb4 l1
  have Z4:=Z3.below hb4 (by omega)
  have B4 : Below w.heap.size w w4:=B3.trans (hb4.mono (by omega))
  have h0:=L4.cell 0 rfl
  have h1:=L4.cell 1 rfl
  have h2:=L4.cell 2 rfl
  have y0:=Z4.cell 0 rfl
  have y1:=Z4.cell 1 rfl
  have y2:=Z4.cell 2 rfl
  have fy:=Z4.frozen
  have O4 : OI w4 w.heap.size (.slice (some ⟨wc.heap.size, 0, none⟩) m m) xs:=by
   refine ⟨by rw [Hm.out]; simp [Hm.out], .inr ⟨wc.heap.size, m, _, by rw [Hm.out], by omega, hg4.out, by rw [Hm.out]; exact Nat.le_refl _, hcm, ?_, ?_⟩⟩
   ·rw [List.size_toArray, length_splice _ _ _ (by omega), hcz', Nat.mul_one]
   rw [HC.out]; simp [splice, Hm.out, hcl]
  have HO:=hide O4
  clear L3 Z3 G3 H3 c3 p2 q2 K3 L4 Z4 O4 hg4 hb4 LH Z1 G1 b2 L2 hlen hct hcz hrh
  go_wp2
  refine bodyPost_ret (v := qv n s (.slice (some ⟨wc.heap.size, 0, none⟩) m m)) (by simp [results, Try.results95, go_sem, y0, y1, y2]) rfl ?_
  have K5 : Kp w4 (((w4.setCell ⟨w.heap.size, 0, none⟩ (.int .i64 n)).setCell ⟨w.heap.size, 1, none⟩ (.string s)).setCell ⟨w.heap.size, 2, none⟩ (.slice (some ⟨wc.heap.size, 0, none⟩) m m)) (fun k => k = w.heap.size):=((set_kp _ _ _ _).trans (set_kp _ _ _ _)).trans (set_kp _ _ _ _)
  exact ⟨_, rfl, HO.out.kp K5 (fun k hk => by simp [Value.ownBlock] at hk; omega), Below.set (Below.set (Below.set B4 _ _ (Nat.le_refl _)) _ _ (Nat.le_refl _)) _ _ (Nat.le_refl _)⟩
end
section
open Go.RowKit
variable [∀ (a b c d : Int), Decidable (Ok4 a b c d)]
variable [∀ (n f : Int), Decidable (COk n f)]
theorem ptold_any (n : Int) (s : ByteArray) (v : Value) (xs : List Int) (w : World) (h : RI w v xs) (hs : s.size ≤ 281474976710656) :
 Calls Try.prog 94 #[qv n s v] w fun e w' => ∃ u, e = .returned (qv n s u) ∧ OI w' w.heap.size u xs ∧ Below w.heap.size w w' := by
 obtain ⟨ao, ca, rfl⟩:=h.form
 obtain ⟨w0, hw0⟩ : ∃ y, ((w.alloc (.cells #[.int .i64 n,.string s,.slice ao xs.length ca] 36)).alloc zpo).alloc (.cells #[.int .i64 n,.string s,.slice ao xs.length ca] 130) = y:=⟨_, rfl⟩
 have B0 : Below w.heap.size w w0:=hw0 ▸ ((qalloc2 _ _ _).alloc (by simp; omega) _)
 have LZ : Loc w0 (w.heap.size + 1) #[.int .i64 0,.string ⟨#[]⟩,.slice none 0 0]:=hw0 ▸ (loc_at (w.alloc _) _ _ (by simp)).alloc _
 have LQ : Loc w0 (w.heap.size + 1 + 1) #[.int .i64 n,.string s,.slice ao xs.length ca]:=hw0 ▸ (loc_at ((w.alloc _).alloc _) _ _ (by simp))
 have s0 : w0.heap.size = w.heap.size + 1 + 1 + 1:=by rw [← hw0]; simp
 have TO:=hide (qtold_any (w.heap.size + 1 + 1) n s ao ca xs w0 LQ (h.below B0) hs)
 have HZ:=hide LZ
 clear h LZ LQ
 go_enter Try.func94, Try.ntmps94
 go_wp2_with fail
 clear hw0
 refine TO.out.mono ?_
 rintro e w2 ⟨u, rfl, o2, b2⟩
 have B2 : Below w.heap.size w w2:=bu B0 b2
 have Z2:=HZ.out.below b2 HZ.out.lt
 have y0:=Z2.cell 0 rfl
 have y1:=Z2.cell 1 rfl
 have y2:=Z2.cell 2 rfl
 have fy:=Z2.frozen
 have lt2:=World.ownsRow.lt o2
 obtain ⟨ua, uc, rfl⟩:=o2.form
 have O2:=hide o2
 clear o2 b2 Z2 HZ TO
 go_wp2
 refine bodyPost_ret (v := qv n s (.slice ua xs.length uc)) (by simp [results, Try.results94, go_sem, y0, y1, y2]) rfl ?_
 have K5 : Kp w2 (((w2.setCell ⟨w.heap.size + 1, 0, none⟩ (.int .i64 n)).setCell ⟨w.heap.size + 1, 1, none⟩ (.string s)).setCell ⟨w.heap.size + 1, 2, none⟩ (.slice ua xs.length uc)) (fun k => k = w.heap.size + 1):=((set_kp _ _ _ _).trans (set_kp _ _ _ _)).trans (set_kp _ _ _ _)
 exact ⟨_, rfl, (O2.out.kp K5 (fun k hk => by have := lt2 k hk; omega)).mono (by omega), Below.kp B2 K5 B2.size (fun k hk => by omega)⟩

theorem tableOf_any (ao : Option Addr) (n ca : Nat) (w : World) :
 Calls Try.prog 20 #[.slice ao n ca] w fun e w' => e = .returned (.agg #[.slice ao n ca,.func (.func 34) #[] #[]]) ∧ Below w.heap.size w w' := by
 go_enter Try.func20, Try.ntmps20
 go_wp2
 refine bodyPost_ret (v := .agg #[.slice ao n ca,.func (.func 34) #[] #[]]) (by simp [results, Try.results20, go_sem]) rfl ?_
 exact ⟨rfl, (Below.refl _ _).alloc (Nat.le_refl _) _⟩
theorem toldEachP_any (v : Value) (ps : List Pt) (w : World) (hl : ps.length ≤ 4194305) (hs : ∀ p ∈ ps, p.2.1.size ≤ 281474976710656) (h : RPt w v ps) :
 Calls Try.prog 19 #[v] w fun e w' => ∃ u, e = .returned u ∧ OPt w' w.heap.size u ps ∧ Below w.heap.size w w' := by
 obtain ⟨i0, hi, hz0, hz1, hz2⟩:=info_parts Try.infoPt
 obtain ⟨ao, ca, rfl⟩:=h.form
 have HS0:=hide hs
 have H:=hide h
 clear hs
 obtain ⟨n, hn⟩ : ∃ n, ps.length = n:=⟨_, rfl⟩
 have Hn:=hide hn
 rw [hn] at hl H ⊢
 clear h hn
 go_enter Try.func19, Try.ntmps19
 go_wp2_with (first | (at_make; refine wpList_make_full _ rfl _ _ 24 rfl w.heap.size 36 i0 (qv 0 ⟨#[]⟩ (.slice none 0 0)) 3 Try.underlying24 hi hz0 hz1 .i64 .i64 _ _ n rfl rfl rfl rfl (by rw [hz2]; omega) (by unfold maxLen; omega) (Nat.le_refl _) ?_; intro w0 ho0 hg0))
 have T0 : OPtV w0 w.heap.size (.slice (some ⟨w.heap.size, 0, none⟩) n n) (pthalf ps 0) (List.replicate n (.slice none 0 0)):=by
  rw [made_pcells] at ho0
  have:=opt_zero ho0
  simpa [pthalf, Hn.out] using this
 have B0 : Below w.heap.size w w0:=(Below.refl _ _).grown hg0 (Nat.le_refl _) (by simp)
 clear ho0 hg0 hz0 hz1 hz2 hi
 go_loopw [11] (fun i wr => ∃ (k : Nat) (vs : List Value), k ≤ n ∧ i = .int .i64 k ∧ OPtV wr w.heap.size (.slice (some ⟨w.heap.size, 0, none⟩) n n) (pthalf ps k) vs ∧ Below w.heap.size w wr) (fun i _ => n - (intOf i).toNat)
 case atStart => exact ⟨0, _, Nat.zero_le _, rfl, T0, B0⟩
 case round =>
  clear T0
  obtain ⟨k, vs, hk, rfl, T, br⟩:=hrel
  by_cases hlt : k < n
  ·have hkx : k < ps.length:=by have:=Hn.out; omega
   have hlen:=pthalf_len ps k (by omega)
   have HR:=H.out.below br
   obtain ⟨g, off, u, rfl, c0, c1, c2, ru⟩:=HR.at k hkx
   have HS:=hide (pthalf_set ps k hkx)
   have hsz:=HS0.out _ (pt_mem hkx)
   obtain ⟨x, hx⟩ : ∃ x, ps.getD k zpt = x:=⟨_, rfl⟩
   rw [hx] at c0 c1 ru HS hsz
   clear hx
   obtain ⟨m, s, xs⟩:=x
   simp only at c0 c1 ru hsz
   have TP:=hide fun w h => ptold_any m s u xs w h hsz
   obtain ⟨ua, uc, rfl⟩:=ru.form
   have RU:=hide ru
   have HT:=hide T
   generalize xs.length = xl at *
   obtain ⟨w1, hw1⟩ : ∃ y, wr.alloc (.cells #[.int .i64 m,.string s,.slice ua xl uc] 36) = y:=⟨_, rfl⟩
   have b1 : Below wr.heap.size wr w1:=hw1 ▸ qalloc _ _
   have L1 : Loc w1 wr.heap.size #[.int .i64 m,.string s,.slice ua xl uc]:=hw1 ▸ loc_at wr _ _ rfl
   have p0:=L1.cell 0 rfl
   have p1:=L1.cell 1 rfl
   have p2:=L1.cell 2 rfl
   have s1:=b1.size
   replace RU:=hide (RU.out.below b1)
   replace HT:=hide (HT.out.below b1)
   replace br:=bu br b1
   clear HR H ru T b1 hsz
   go_wp2_with fail
   clear hw1 p0 p1 p2 L1
   refine (TP.out _ RU.out).mono ?_
   rintro e w2 ⟨u2, rfl, o2, b2⟩
   have T2:=HT.out.below b2
   have B2:=bu br b2
   have lt2:=World.ownsRow.lt o2
   have hrow:=T2.row
   rw [hlen, Hn.out] at hrow
   have hplen : (pcells (((pthalf ps k).map phd).zip vs)).length = n * 3:=by rw [pcells_len]; simp [T2.len, hlen, Hn.out]
   have gt : ∀ j, j < n * 3 → ∃ u, w2.cell? ⟨w.heap.size, j, none⟩ = some u:=fun j hj => ⟨_, (hrow.cellAt j hj).trans (List.getElem?_eq_getElem (by rw [hplen]; exact hj))⟩
   obtain ⟨y0, d0⟩:=gt (k * 3) (by omega)
   obtain ⟨y1, d1⟩:=gt (k * 3 + 1) (by omega)
   obtain ⟨y2, d2⟩:=gt (k * 3 + 2) (by omega)
   have f0:=hrow.frozenAt (k * 3)
   have f1:=hrow.frozenAt (k * 3 + 1)
   have f2:=hrow.frozenAt (k * 3 + 2)
   have R:=hide (show OPtV (((w2.setCell ⟨w.heap.size, k * 3, none⟩ (.int .i64 m)).setCell ⟨w.heap.size, k * 3 + 1, none⟩ (.string s)).setCell ⟨w.heap.size, k * 3 + 2, none⟩ u2) w.heap.size (.slice (some ⟨w.heap.size, 0, none⟩) n n) (pthalf ps (k + 1)) (vs.set k u2) by
    have T3:=T2
    have en : n = (pthalf ps k).length:=by rw [hlen, Hn.out]
    rw [← HS.out]
    have:=opt_set (m:=m) (s:=s) (u:=u2) (xs:=xs) (k:=k) (cap:=n) (g:=w.heap.size) (w:=w2) (base:=w.heap.size) (ps:=pthalf ps k) (vs:=vs) (by rw [← en]; exact T3) (by rw [hlen]; exact hkx) (OI.mono o2 br.size) (fun j hj _ b hb e => by
     have h1:=World.ownsRow.lt (HT.out.each j hj) b hb
     have h2:=lt2 b e
     omega)
    rw [← en] at this
    exact this)
   have BR:=hide (((B2.setCell (p:=⟨w.heap.size, k * 3, none⟩) (Nat.le_refl _) (.int .i64 m)).setCell (p:=⟨w.heap.size, k * 3 + 1, none⟩) (Nat.le_refl _) (.string s)).setCell (p:=⟨w.heap.size, k * 3 + 2, none⟩) (Nat.le_refl _) u2)
   obtain ⟨va, vc, rfl⟩:=o2.form
   generalize xs.length = zl at *
   clear T2 B2 hrow hplen gt o2 lt2 HT TP RU c0 c1 c2
   go_wp2
   go_roundw
   case rel => exact ⟨k + 1, _, by omega, by go_num, R.out, BR.out⟩
   case measure => simp [intOf]; omega
  have hkn : pthalf ps k = ps:=by
   have:=Hn.out
   unfold pthalf
   rw [List.take_of_length_le (by omega), show ps.length - k = 0 by omega]
   simp
  rw [hkn] at T
  have T':=hide T
  clear T hkn H
  go_wp2
  go_ret
  exact ⟨_, rfl, ⟨_, T'.out⟩, br⟩
end
section
open Go.RowKit
structure XPt (w0 w : World) (v : Value) (ps : List Pt) (us : List Value) : Prop where
 len : us.length = ps.length
 row : w.ownsRow w0.heap.size 36 3 v ps.length (pcells ((ps.map phd).zip us))
 each : ∀ k, k < ps.length → RI w0 (us.getD k (.slice none 0 0)) (ps.getD k zpt).2.2
theorem xpt_nil (w0 w : World) : XPt w0 w (.slice none 0 0) [] [] :=
 ⟨rfl, World.ownsRow_nil _ _ _ _, fun k hk => by simp at hk⟩
theorem XPt.below {w0 w w' : World} {v : Value} {ps : List Pt} {us : List Value} (h : XPt w0 w v ps us) (hb : Below w.heap.size w w') : XPt w0 w' v ps us :=
 ⟨h.len, World.ownsRow.kept (row := none) h.row ⟨hb.os, hb.tape, hb.output, hb.size, fun k hk _ => hb.block k hk⟩ (by cases v.ownBlock <;> simp), h.each⟩
theorem XPt.form {w0 w : World} {v : Value} {ps : List Pt} {us : List Value} (h : XPt w0 w v ps us) : ∃ ao ca, v = .slice ao ps.length ca := by
 rcases h.row.2 with ⟨rfl, h0⟩ | ⟨g, cap, cur, rfl, _⟩
 ·exact ⟨none, 0, by rw [h0]⟩
 exact ⟨_, _, rfl⟩
theorem XPt.rpt {w0 w : World} {v : Value} {ps : List Pt} {us : List Value} (h : XPt w0 w v ps us) (hb : Below w0.heap.size w0 w) : RPt w v ps := by
 have hz : ((ps.map phd).zip us).length = ps.length:=by simp [h.len]
 rcases h.row.2 with ⟨rfl, h0⟩ | ⟨g, cap, cur, rfl, _⟩
 ·exact ⟨none, 0, by rw [h0], .inl (List.length_eq_zero_iff.1 h0)⟩
 refine ⟨_, cap, rfl, .inr ⟨g, 0, rfl, fun k hk => ?_⟩⟩
 have c0:=World.ownsRow.cellAt h.row (k * 3 + 0) (by omega)
 have c1:=World.ownsRow.cellAt h.row (k * 3 + 1) (by omega)
 have c2:=World.ownsRow.cellAt h.row (k * 3 + 2) (by omega)
 rw [pcells_get _ k _ (by omega) (by omega), pzip_get ps us h.len k hk] at c0 c1 c2
 refine ⟨_, ?_, ?_, ?_, (h.each k hk).below hb⟩
 ·rw [Nat.zero_add]; exact c0
 ·rw [Nat.zero_add]; exact c1
 rw [Nat.zero_add]; exact c2
theorem xpt_more {w0 w' : World} {v' : Value} {ps : List Pt} {us : List Value} {m : Int} {s : ByteArray} {u : Value} {xs : List Int} (hl : us.length = ps.length) (he : ∀ k, k < ps.length → RI w0 (us.getD k (.slice none 0 0)) (ps.getD k zpt).2.2) (hu : RI w0 u xs)
 (hr : w'.ownsRow w0.heap.size 36 3 v' (ps.length + 1) (pcells ((ps.map phd).zip us) ++ pcell ((m, s), u))) : XPt w0 w' v' (ps ++ [(m, s, xs)]) (us ++ [u]) := by
 refine ⟨by simp [hl], ?_, fun k hk => ?_⟩
 ·have e : ((ps ++ [(m, s, xs)]).map phd).zip (us ++ [u]) = (ps.map phd).zip us ++ [((m, s), u)]:=by
   rw [List.map_append, List.zip_append (by simp [hl])]; rfl
  rw [e, pcells_append, List.length_append]
  simpa [pcells] using hr
 rw [List.length_append, List.length_singleton] at hk
 by_cases e : k < ps.length
 ·rw [List.getD_eq_getElem?_getD, List.getElem?_append_left (by rw [hl]; exact e), ← List.getD_eq_getElem?_getD, List.getD_eq_getElem?_getD (l := ps ++ _), List.getElem?_append_left e, ← List.getD_eq_getElem?_getD]
  exact he k e
 obtain rfl : k = ps.length:=by omega
 have e1 : (us ++ [u]).getD ps.length (.slice none 0 0) = u:=by rw [← hl]; simp
 have e2 : (ps ++ [(m, s, xs)]).getD ps.length zpt = (m, s, xs):=by simp
 rw [e1, e2]
 exact hu
theorem append_x {ops : Array Oper} {rest : List Oper} {o : Oper} {a : Act} {Q : Exit → Act → World → Prop} {w : World} (hgd : o.guard = none) (s x : Operand)
 (ho : o.op = .call { callee := .builtin .append, args := #[s, x], argTypes := #[24, 24] }) (w0 : World) (v : Value) (ps : List Pt) (us : List Value) (g cp : Nat) (m : Int) (nm : ByteArray) (u : Value) (xs : List Int) (hs : a.eval s = v) (hx : a.eval x = .slice (some ⟨g, 0, none⟩) 1 cp)
 (htab : XPt w0 w v ps us) (c0 : w.cell? ⟨g, 0, none⟩ = some (.int .i64 m)) (c1 : w.cell? ⟨g, 1, none⟩ = some (.string nm)) (c2 : w.cell? ⟨g, 2, none⟩ = some u) (hu : RI w0 u xs)
 (hl : ps.length ≤ 4194304) (hbase : w0.heap.size ≤ w.heap.size)
 (h : ∀ v' w', XPt w0 w' v' (ps ++ [(m, nm, xs)]) (us ++ [u]) → w.grownBy w' v.ownBlock → wpList Try.prog ops Q rest (a.put o.dst v') w') :
 wpList Try.prog ops Q (o :: rest) a w := by
 obtain ⟨i0, hi, hz0, hz1, hz2⟩:=info_parts Try.infoPt
 have hn : ∀ j y, (pcell ((m, nm), u))[j]? = some y → w.cell? ((⟨g, 0, none⟩ : Addr).add j) = some y:=by
  intro j y hj
  match j, hj with
  | 0, hj => simp [pcell] at hj; subst hj; simpa [Addr.add] using c0
  | 1, hj => simp [pcell] at hj; subst hj; simpa [Addr.add] using c1
  | 2, hj => simp [pcell] at hj; subst hj; simpa [Addr.add] using c2
  | j + 3, hj => simp [pcell] at hj
 have hp : ∀ y ∈ pcell ((m, nm), u), y.oneCell' = true:=by
  intro y hy
  simp [pcell] at hy
  rcases hy with rfl | rfl | rfl
  ·rfl
  ·rfl
  obtain ⟨a, c, rfl⟩:=hu.form; rfl
 refine wpList_append_own_at _ hgd s x 24 ho w0.heap.size 36 i0 (qv 0 ⟨#[]⟩ (.slice none 0 0)) 3 48 Try.underlying24 hi hz0 hz1 hz2 rfl (by decide) v ps.length (pcells ((ps.map phd).zip us)) hs htab.row ⟨g, 0, none⟩ 1 cp (pcell ((m, nm), u)) hx (by simp [pcell]) hn hp (by unfold maxLen; omega) (by omega) hbase ?_
 intro v' w' ho' hg' _ _
 exact h v' w' (xpt_more htab.len htab.each hu ho') hg'
end
section
open Go.RowKit
variable [∀ (a b c d : Int), Decidable (Ok4 a b c d)]
variable [∀ (n f : Int), Decidable (COk n f)]
theorem dropClo (m : Int) (s : ByteArray) (u : Value) (view : Int) (g : Nat) (w : World) (hg : w.cell? ⟨g, 0, none⟩ = some (.int .i64 view)) :
 Calls Try.prog 22 #[qv m s u,.pointer (some ⟨g, 0, none⟩)] w fun e w' => e = .returned (.bool (decide (view ≤ m))) ∧ Below w.heap.size w w' := by
 obtain ⟨w0, hw0⟩ : ∃ y, w.alloc (.cells #[.int .i64 m,.string s, u] 36) = y:=⟨_, rfl⟩
 have B0 : Below w.heap.size w w0:=hw0 ▸ qalloc _ _
 have L0 : Loc w0 w.heap.size #[.int .i64 m,.string s, u]:=hw0 ▸ loc_at w _ _ rfl
 have hg0:=(B0.cell (p:=⟨g, 0, none⟩) (cell_lt hg)).trans hg
 have a0:=L0.cell 0 rfl
 clear L0 hg
 go_enter Try.func22, Try.ntmps22
 go_wp2_with fail
 go_ret
 exact ⟨by simp, B0⟩

theorem pick_parts (v : Value) (ps : List Pt) (view : Int) (g : Nat) (fv : Value) (w : World) (hl : ps.length ≤ 4194304) (h : RPt w v ps) (hg : w.cell? ⟨g, 0, none⟩ = some (.int .i64 view)) :
 Calls Try.prog 21 #[.agg #[v, fv],.int .i64 ps.length,.func (.func 22) #[] #[.pointer (some ⟨g, 0, none⟩)]] w fun e w' => ∃ u us, e = .returned u ∧ XPt w w' u (dropP ps view) us ∧ Below w.heap.size w w' := by
 obtain ⟨ao, ca, rfl⟩:=h.form
 obtain ⟨n, hn⟩ : ∃ n, ps.length = n:=⟨_, rfl⟩
 have Hn:=hide hn
 obtain ⟨rs, HRS⟩ : ∃ r, Hid (dropP ps view = r):=⟨_, hide rfl⟩
 rw [HRS.out]
 obtain ⟨w0, hw0⟩ : ∃ y, w.alloc (.cells #[.slice ao n ca, fv] 45) = y:=⟨_, rfl⟩
 have B0 : Below w.heap.size w w0:=hw0 ▸ qalloc _ _
 have L0 : Loc w0 w.heap.size #[.slice ao n ca, fv]:=hw0 ▸ loc_at w _ _ rfl
 have q0:=L0.cell 0 rfl
 have H:=hide h
 have HG:=hide hg
 rw [hn] at hl H ⊢
 clear h hn hg L0
 go_enter Try.func21, Try.ntmps21
 go_wp2
 clear hw0
 go_loopw [7, 13] (fun t i wr => ∃ (k : Nat) (ds : List Pt) (us : List Value) (ta : Option Addr) (tc : Nat), k ≤ n ∧ i = .int .i64 k ∧ t = .slice ta ds.length tc ∧ ds.length ≤ k ∧ Hid (dropP (ps.take k) view = ds) ∧ XPt w wr (.slice ta ds.length tc) ds us ∧ Below w.heap.size w wr) (fun _ i _ => n - (intOf i).toNat)
 case atStart => exact ⟨0, [], [], none, 0, Nat.zero_le _, rfl, rfl, Nat.le_refl _, hide (by simp [dropP]), xpt_nil _ _, B0⟩
 case round =>
  clear B0 q0
  obtain ⟨k, ds, us, ta, tc, hk, rfl, rfl, hdl, HD, T, br⟩:=hrel
  by_cases hlt : k < n
  ·have hkx : k < ps.length:=by have:=Hn.out; omega
   have HT:=hide (drop_take ps k view hkx)
   rw [HD.out] at HT
   obtain ⟨b, off, u, rfl, c0, c1, c2, ru⟩:=H.out.at k hkx
   have lb:=cell_lt c0
   have c0:=(br.cell (p:=⟨b, off + k * 3, none⟩) lb).trans c0
   have c1:=(br.cell (p:=⟨b, off + k * 3 + 1, none⟩) lb).trans c1
   have c2:=(br.cell (p:=⟨b, off + k * 3 + 2, none⟩) lb).trans c2
   obtain ⟨x, hx⟩ : ∃ x, ps.getD k zpt = x:=⟨_, rfl⟩
   rw [hx] at c0 c1 ru HT
   clear hx
   obtain ⟨m, s, xs⟩:=x
   simp only at c0 c1 ru
   obtain ⟨ua, uc, rfl⟩:=ru.form
   have RU:=hide ru
   obtain ⟨w1, hw1⟩ : ∃ y, wr.alloc (.cells #[.int .i64 m,.string s,.slice ua xs.length uc] 36) = y:=⟨_, rfl⟩
   have b1 : Below wr.heap.size wr w1:=hw1 ▸ qalloc _ _
   have L1 : Loc w1 wr.heap.size #[.int .i64 m,.string s,.slice ua xs.length uc]:=hw1 ▸ loc_at wr _ _ rfl
   have p0:=L1.cell 0 rfl
   have p1:=L1.cell 1 rfl
   have p2:=L1.cell 2 rfl
   have TT:=hide (T.below b1)
   replace br:=bu br b1
   have cg:=(br.cell (p:=⟨g, 0, none⟩) (cell_lt HG.out)).trans HG.out
   have DC:=hide (dropClo m s (.slice ua xs.length uc) view g w1 cg)
   have hne : ((ds.length : Int) == (n : Int)) = false:=by simp; omega
   obtain ⟨dl, hdl2⟩ : ∃ l, ds.length = l:=⟨_, rfl⟩
   replace hdl2:=hide hdl2
   generalize xs.length = xl at *
   clear ru T H b1 cg lb
   by_cases hv : view ≤ m
   ·rw [decide_eq_true hv] at DC
    rw [if_pos hv] at HT
    clear hv
    go_wp2_with fail
    clear hw1 p0 p1 p2 c0 c1 c2
    refine DC.out.mono ?_
    rintro e w2 ⟨rfl, b2⟩
    have L2:=L1.up b2
    have p0:=L2.cell 0 rfl
    have p1:=L2.cell 1 rfl
    have p2:=L2.cell 2 rfl
    obtain ⟨w3, hw3⟩ : ∃ y, w2.alloc (.cells #[.int .i64 m,.string s,.slice ua xl uc] 36) = y:=⟨_, rfl⟩
    have b3 : Below w2.heap.size w2 w3:=hw3 ▸ qalloc _ _
    have L3 : Loc w3 w2.heap.size #[.int .i64 m,.string s,.slice ua xl uc]:=hw3 ▸ loc_at w2 _ _ rfl
    have d0:=L3.cell 0 rfl
    have d1:=L3.cell 1 rfl
    have d2:=L3.cell 2 rfl
    have T3:=hide ((TT.out.below b2).below b3)
    have B3:=(bu br b2).trans (b3.mono (Nat.le_trans br.size b2.size))
    have s3:=B3.size
    clear L1 L2 L3 b2 b3 TT DC
    go_wp2_with (first
     | (at_builtin; clear hw3 p0 p1 p2; refine append_x rfl _ _ rfl w (.slice ta ds.length tc) ds us w2.heap.size 1 m s _ xs rfl rfl T3.out d0 d1 d2 RU.out (by omega) s3 ?_; intro v4 w4 ho4 hg4
        have r4:=World.ownsRow.lt T3.out.row
        have B4:=B3.grown hg4 s3 (fun j e => (r4 j e).1)
        obtain ⟨a4, c4, hv4⟩:=ho4.form
        have hl4 : (ds ++ [(m, s, xs)]).length ≤ k + 1:=by simp; omega
        have HT4:=hide HT.out
        generalize ds ++ [(m, s, xs)] = es at *
        subst hv4
        have O4:=hide ho4
        clear T3 B3 ho4 hg4 r4 d0 d1 d2 HD hdl2))
    go_roundw
    case rel => exact ⟨k + 1, _, _, a4, c4, by omega, by go_num, rfl, hl4, HT4, O4.out, B4⟩
    case measure => simp [intOf]; omega
   rw [decide_eq_false hv] at DC
   rw [if_neg hv, List.append_nil] at HT
   clear hv
   go_wp2_with fail
   clear hw1 p0 p1 p2 c0 c1 c2
   refine DC.out.mono ?_
   rintro e w2 ⟨rfl, b2⟩
   have T2:=hide (TT.out.below b2)
   have B2:=bu br b2
   clear L1 TT DC b2
   go_wp2
   go_roundw
   case rel => exact ⟨k + 1, ds, us, ta, tc, by omega, by go_num, rfl, by omega, HT, T2.out, B2⟩
   case measure => simp [intOf]; omega
  have hkn : ps.take k = ps:=List.take_of_length_le (by have:=Hn.out; omega)
  rw [hkn] at HD
  have hd2 : decide ((k : Int) < (n : Int)) = false:=by simp; omega
  obtain rfl : rs = ds:=HRS.out.symm.trans HD.out
  have T':=hide T
  clear T hkn H HD hdl HRS
  go_wp2
  go_ret
  exact ⟨_, us, rfl, T'.out, br⟩

theorem implTableDrop (v : Value) (ps : List Pt) (view : Int) (w : World) (hl : ps.length ≤ 4194304) (hs : ∀ p ∈ ps, p.2.1.size ≤ 281474976710656) (h : RPt w v ps) :
 Calls Try.prog 8 #[v,.int .i64 view] w fun e w' => ∃ u, e = .returned u ∧ OPt w' w.heap.size u (dropP ps view) ∧ Below w.heap.size w w' := by
 obtain ⟨ao, ca, rfl⟩:=h.form
 obtain ⟨w0, hw0⟩ : ∃ y, w.alloc (.cells #[.int .i64 view] 3) = y:=⟨_, rfl⟩
 have B0 : Below w.heap.size w w0:=hw0 ▸ qalloc _ _
 have L0 : Loc w0 w.heap.size #[.int .i64 view]:=hw0 ▸ loc_at w _ _ rfl
 have c0:=L0.cell 0 rfl
 have hlen : (dropP ps view).length ≤ ps.length:=List.length_filter_le _ _
 have hs2 : ∀ p ∈ dropP ps view, p.2.1.size ≤ 281474976710656:=fun p hp => hs p (List.mem_filter.1 hp).1
 have PK:=hide fun g fv w h hg => pick_parts (.slice ao ps.length ca) ps view g fv w hl h hg
 have TP:=hide fun u w h => toldEachP_any u (dropP ps view) w (by omega) hs2 h
 have TO:=hide fun w => tableOf_any ao ps.length ca w
 have HR:=hide (h.below B0)
 generalize dropP ps view = ds at *
 generalize ps.length = n at *
 clear h hs hs2 L0
 go_enter Try.func8, Try.ntmps8
 go_wp2_with fail
 clear hw0
 refine (TO.out _).mono ?_
 rintro e w1 ⟨rfl, b1⟩
 have R1:=HR.out.below b1
 have g1:=(b1.cell (p:=⟨w.heap.size, 0, none⟩) (cell_lt c0)).trans c0
 have B1:=bu B0 b1
 clear b1 c0 TO HR
 go_wp2_with fail
 refine (PK.out _ _ _ R1 g1).mono ?_
 rintro e w2 ⟨u, us, rfl, X, b2⟩
 have B2:=bu B1 b2
 have R2:=X.rpt b2
 have s2:=B2.size
 obtain ⟨ua, uc, rfl⟩:=X.form
 clear X b2 PK R1 g1
 go_wp2_with fail
 refine (TP.out _ _ R2).mono ?_
 rintro e w3 ⟨t, rfl, o3, b3⟩
 have B3:=B2.trans (b3.mono s2)
 obtain ⟨ta, tc, rfl⟩:=o3.form
 go_wp2
 go_ret
 exact ⟨_, rfl, o3.mono s2, B3⟩
theorem fnTableDrop_long (al : Option Addr) (cl : Nat) (rs : List Pr) (view : Int) (w : World) (h : ATab w al rs) (hb : ∀ r ∈ rs, r.2.1.size ≤ maxLen ∧ r.2.2.2.2.length ≤ maxLen) (hm : rs.length ≤ maxLen) (hs : 1048576 < rs.length + psum rs) :
 Calls Try.prog 3 #[.slice al rs.length cl,.int .i64 view] w fun e w' => e = .returned (.bool true) ∧ Below w.heap.size w w' := by
 have ZN:=hide (szPartS_no al cl rs 1048576 w h hb (by omega) hm (by omega) (by omega))
 generalize rs.length = n at *
 clear h hb hm hs
 go_enter Try.func3, Try.ntmps3
 go_wp2_with fail
 refine ZN.out.mono ?_
 rintro e w1 ⟨rfl, b1⟩
 go_wp2
 go_ret
 exact ⟨rfl, b1⟩

abbrev AllP (w : World) (rs : List Pr) : Prop := ∀ r ∈ rs, r.2.1.size ≤ maxLen ∧ r.2.2.2.2.length ≤ maxLen ∧ AIW w r.2.2.1 r.2.2.2.2 ∧ WfL r.2.2.2.2
theorem fnTableDrop_walk (al : Option Addr) (cl : Nat) (rs : List Pr) (view : Int) (w : World) (hm : rs.length ≤ maxLen) (h : ATab w al rs) (he : AllP w rs) :
 Calls Try.prog 3 #[.slice al rs.length cl,.int .i64 view] w fun e w' => e = .returned (.bool true) ∧ Below w.heap.size w w' := by
 by_cases h2 : 1048576 < rs.length + psum rs
 ·exact fnTableDrop_long al cl rs view w h (fun r hr => ⟨(he r hr).1, (he r hr).2.1⟩) hm h2
 exact fnTableDrop_short (fun v ps view w hl hs hr => implTableDrop v ps view w (by omega) (fun p hp => by have := (hs p hp).1; omega) hr) al cl rs view w h (fun r hr => (he r hr).2.2.1) (by omega)
end
end Go.Proofs.Ytjkcphnohhpihaa
