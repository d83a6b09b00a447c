/- Texts that belong together: SafeQc, SafeTold. -/
import Derived.Test.YtmpmedbojfjnaaaGreatDoorFSAU
import Derived.Test.YtmpmedbojfjnaaaGreatDoorFSBD
namespace Go.Proofs.YtmpmedbojfjnaaaGreatDoor
open Go.RowKit

set_option maxHeartbeats 1600000 in
set_option maxRecDepth 100000 in
theorem later_at (p q : Addr) (n m : Int) (w : World) (hp : w.cell? p = some (.int .i64 n)) (hq : w.cell? q = some (.int .i64 m)) (sp : p.spot = none) (sq : q.spot = none) (b : Bool) (hb : decide (m < n) = b) :
 Calls Tryz.prog 123 #[.pointer (some p), .pointer (some q)] w fun e w' => e = .returned (.pointer (some (if b = true then p else q))) ∧ Below w.heap.size w w' := by
 obtain ⟨pb, po, ps⟩ := p
 obtain ⟨qb, qo, qs⟩ := q
 simp only at sp sq
 subst sp sq
 cases b
 ·have h : ¬ m < n := by simpa using hb
  simp only [Bool.false_eq_true, if_false]
  clear hb
  go_enter Tryz.func123, Tryz.ntmps123
  go_wp2_with fail
  go_quiet (fail)
  go_wp2
  go_ret
  exact ⟨rfl, below_drewN' (Below.refl _ _) _⟩
 ·have h : m < n := by simpa using hb
  simp only [if_true]
  clear hb
  go_enter Tryz.func123, Tryz.ntmps123
  go_wp2_with fail
  go_quiet (fail)
  go_wp2
  go_ret
  exact ⟨rfl, below_drewN' (Below.refl _ _) _⟩

set_option maxHeartbeats 4000000 in
set_option maxRecDepth 100000 in
theorem qtold_in (g : Nat) (x0 x1 : Value) (n : Int) (s : ByteArray) (ao : Option Addr) (ca : Nat) (xs : List Int) (w : World) (x5 : Value) (hg : Loc w g #[x0, x1, .int .i64 n, .string s, .slice ao xs.length ca, x5]) (ha : RI w (.slice ao xs.length ca) xs) (hs : s.size ≤ 281474976710656) :
 Calls Tryz.prog 97 #[.pointer (some ⟨g, 2, none⟩)] w fun e w' => ∃ u, e = .returned (qv n s u) ∧ OI w' w.heap.size u xs ∧ Below w.heap.size w w' := by
 have CL := hide fun w => clone_any s w hs
 have hgl := hg.lt
 obtain ⟨w0, hw0⟩ : ∃ w0, w.alloc zq = w0 := ⟨_, rfl⟩
 have B0 : Below w.heap.size w w0 := hw0 ▸ qalloc _ _
 have Z0 : Loc w0 w.heap.size #[.int .i64 0, .string ⟨#[]⟩, .slice none 0 0] := hw0 ▸ loc_at w _ _ rfl
 have s0 : w0.heap.size = w.heap.size + 1 := by rw [← hw0]; simp
 have G0 := hg.below B0 hgl
 have K : Hid (∀ w', Below w0.heap.size w0 w' → Below w0.heap.size w0 w' ∧ w'.cell? ⟨g, 2, none⟩ = some (.int .i64 n) ∧ w'.cell? ⟨g, 3, none⟩ = some (.string s)) := hide fun w' hb =>
  ⟨hb, (G0.below hb G0.lt).cell 2 rfl, (G0.below hb G0.lt).cell 3 rfl⟩
 have RA := hide ha
 have HZ := hide Z0
 have HG := hide G0
 clear ha hg Z0 G0
 go_enter Tryz.func97, Tryz.ntmps97
 go_upto_region 1 with fail
 clear hw0
 go_cut [3] (fun c wx => ∃ h, c = .pointer (some ⟨h, 0, none⟩) ∧ w0.heap.size ≤ h ∧ Loc wx h #[.int .i64 n, .string s, .slice none 0 0] ∧ Below w0.heap.size w0 wx)
 case first =>
  clear HZ HG RA
  refine wp_region_noPanic ?_
  refine wp_region_held_drew (S := fun w' => Below w0.heap.size w0 w' ∧ w'.cell? ⟨g, 2, none⟩ = some (.int .i64 n) ∧ w'.cell? ⟨g, 3, none⟩ = some (.string s)) (by kernel_rfl) (unhide K _ (Below.drew (Below.refl _ _))) (fun hHeld => ?_)
  obtain ⟨wd, hd⟩ : ∃ wd, w0.drew = wd := ⟨_, rfl⟩
  have bd : Below w0.heap.size w0 wd := hd ▸ Below.drew (Below.refl _ _)
  have szd := bd.size
  rw [hd] at hHeld ⊢
  clear hd
  refine tk 0 4 (v := ?_) rfl (hy := .inl ⟨by rfl, ?_⟩) (h := ?_); rotate_left
  ·intro w hSw; (try dsimp only at hSw); go_simp; (try with_reducible rfl)
  simp only [ps]
  refine tk 1 5 (v := ?_) rfl (hy := .inl ⟨by rfl, ?_⟩) (h := ?_); rotate_left
  ·intro w hSw; (try dsimp only at hSw); go_simp; (try with_reducible rfl)
  simp only [ps]
  refine tk 2 6 (v := ?_) rfl (hy := .inl ⟨by rfl, ?_⟩) (h := ?_); rotate_left
  ·intro w hSw; (try dsimp only at hSw); go_simp; (try with_reducible rfl)
  simp only [ps]
  refine tk 3 7 (v := ?_) rfl (hy := .inl ⟨by rfl, ?_⟩) (h := ?_); rotate_left
  ·intro w hSw; (try dsimp only at hSw); go_simp; (try with_reducible rfl)
  simp only [ps]
  refine tk 4 8 (v := ?_) rfl (hy := .inl ⟨by rfl, ?_⟩) (h := ?_); rotate_left
  ·intro w hSw; (try dsimp only at hSw); go_simp; (try with_reducible rfl)
  simp only [ps]
  refine tk 5 9 (v := ?_) rfl (hy := .inl ⟨by rfl, ?_⟩) (h := ?_); rotate_left
  ·intro w hSw; (try dsimp only at hSw); go_simp; (try with_reducible rfl)
  simp only [ps]
  refine tk 6 10 (v := ?_) rfl (hy := .inl ⟨by rfl, ?_⟩) (h := ?_); rotate_left
  ·intro w hSw; (try dsimp only at hSw); go_simp; (try with_reducible rfl)
  simp only [ps]
  refine tk 7 11 (v := ?_) rfl (hy := .inl ⟨by rfl, ?_⟩) (h := ?_); rotate_left
  ·intro w hSw; (try dsimp only at hSw); go_simp; (try with_reducible rfl)
  simp only [ps]
  refine wpAnyH_ready (rs := [8, 10]) (by kernel_rfl) (by simp) (AllReadyH.cons rfl (fun KK hKK => ?_) (AllReadyH.cons rfl (fun KK hKK => ?_) AllReadyH.nil))
  ·go_simp
   refine (unhide CL _).mono ?_
   rintro e wc1 ⟨rfl, bnew⟩
   have bc1 : Below w0.heap.size w0 wc1 := bd.trans (bnew.mono bd.size)
   have zzwc1 := bnew.size
   clear hHeld bnew
   refine hKK.out _ _ (unhide K _ bc1) (fun hHeld => ?_)
   clear hKK KK
   refine tk 9 13 (v := ?_) rfl (hy := .inl ⟨by rfl, ?_⟩) (h := ?_); rotate_left
   ·intro w hSw; (try dsimp only at hSw); go_simp; (try with_reducible rfl)
   simp only [ps]
   refine ready_at (i := 10) rfl (by kernel_rfl) (fun KK hKK => ?_)
   go_simp
   obtain ⟨wl2, hwl2⟩ : ∃ x, wc1.alloc (.cells #[.int .i64 0, .string ⟨#[]⟩, .slice none 0 0] 28) = x := ⟨_, rfl⟩
   have bl2 : Below w0.heap.size w0 wl2 := hwl2 ▸ bc1.alloc bc1.size _
   have lg : Loc wl2 wc1.heap.size #[.int .i64 0, .string ⟨#[]⟩, .slice none 0 0] := hwl2 ▸ loc_at wc1 _ _ rfl
   rw [hwl2]
   clear hHeld hwl2
   refine hKK.out _ _ (unhide K _ bl2) (fun hHeld => ?_)
   clear hKK KK
   have q0 := lg.cell 0 rfl
   have q1 := lg.cell 1 rfl
   have q2 := lg.cell 2 rfl
   have FG := lg.frozen
   refine ready_at (i := 11) rfl (by kernel_rfl) (fun KK hKK => ?_)
   go_simp
   have bs : Below w0.heap.size w0 (((wl2.setCell ⟨wc1.heap.size, 0, none⟩ (.int .i64 n)).setCell ⟨wc1.heap.size, 1, none⟩ (.string s)).setCell ⟨wc1.heap.size, 2, none⟩ (.slice none 0 0)) := Below.set (Below.set (Below.set bl2 _ _ (by omega)) _ _ (by omega)) _ _ (by omega)
   clear hHeld
   refine hKK.out _ _ (unhide K _ bs) (fun hHeld => ?_)
   clear hKK KK
   clear hHeld
   refine wpAnyH_done (by kernel_rfl) ?_ _
   refine NoPanic.normal ?_
   go_wp2_with fail
   go_meet
   exact ⟨_, rfl, by omega, ((lg.set 0 _ rfl).set 1 _ rfl).set 2 _ rfl, bs⟩
  ·go_simp
   obtain ⟨wl3, hwl3⟩ : ∃ x, wd.alloc (.cells #[.int .i64 0, .string ⟨#[]⟩, .slice none 0 0] 28) = x := ⟨_, rfl⟩
   have bl3 : Below w0.heap.size w0 wl3 := hwl3 ▸ bd.alloc bd.size _
   have lg : Loc wl3 wd.heap.size #[.int .i64 0, .string ⟨#[]⟩, .slice none 0 0] := hwl3 ▸ loc_at wd _ _ rfl
   rw [hwl3]
   clear hHeld hwl3
   refine hKK.out _ _ (unhide K _ bl3) (fun hHeld => ?_)
   clear hKK KK
   refine ready_at (i := 8) rfl (by kernel_rfl) (fun KK hKK => ?_)
   go_simp
   refine (unhide CL _).mono ?_
   rintro e wc4 ⟨rfl, bnew⟩
   have bc4 : Below w0.heap.size w0 wc4 := bl3.trans (bnew.mono bl3.size)
   have zzwc4 := bnew.size
   have lg := lg.below bnew lg.lt
   clear hHeld bnew
   refine hKK.out _ _ (unhide K _ bc4) (fun hHeld => ?_)
   clear hKK KK
   refine tk 9 13 (v := ?_) rfl (hy := .inl ⟨by rfl, ?_⟩) (h := ?_); rotate_left
   ·intro w hSw; (try dsimp only at hSw); go_simp; (try with_reducible rfl)
   simp only [ps]
   have q0 := lg.cell 0 rfl
   have q1 := lg.cell 1 rfl
   have q2 := lg.cell 2 rfl
   have FG := lg.frozen
   refine ready_at (i := 11) rfl (by kernel_rfl) (fun KK hKK => ?_)
   go_simp
   have bs : Below w0.heap.size w0 (((wc4.setCell ⟨wd.heap.size, 0, none⟩ (.int .i64 n)).setCell ⟨wd.heap.size, 1, none⟩ (.string s)).setCell ⟨wd.heap.size, 2, none⟩ (.slice none 0 0)) := Below.set (Below.set (Below.set bc4 _ _ (by omega)) _ _ (by omega)) _ _ (by omega)
   clear hHeld
   refine hKK.out _ _ (unhide K _ bs) (fun hHeld => ?_)
   clear hKK KK
   clear hHeld
   refine wpAnyH_done (by kernel_rfl) ?_ _
   refine NoPanic.normal ?_
   go_wp2_with fail
   go_meet
   exact ⟨_, rfl, by omega, ((lg.set 0 _ rfl).set 1 _ rfl).set 2 _ rfl, bs⟩
 case rest =>
  obtain ⟨h, rfl, hh, LH, bw⟩ := hcut
  have G1 := (unhide HG).below bw (unhide HG).lt
  have Z1 := (unhide HZ).below bw (unhide HZ).lt
  have R1 := unhide RA
  have B1 : Below w.heap.size w wc := B0.trans (bw.mono B0.size)
  have s1 := bw.size
  have l1 := LH.lt
  have x2 := G1.cell 4 rfl
  have y0 := Z1.cell 0 rfl
  have y1 := Z1.cell 1 rfl
  have y2 := Z1.cell 2 rfl
  have fy := Z1.frozen
  have h0 := LH.cell 0 rfl
  have h1 := LH.cell 1 rfl
  have h2 := LH.cell 2 rfl
  have fh := LH.frozen
  have hl := R1.1
  clear HG HZ RA K CL bw B0
  by_cases hx : xs = []
  ·subst hx
   go_wp2
   refine bodyPost_ret (v := qv n s (.slice none 0 0)) (by simp [results, Tryz.results97, go_sem, y0, y1, y2]) rfl ?_
   exact ⟨_, rfl, World.ownsRow_nil _ _ _ _, Below.set (Below.set (Below.set B1 _ _ (Nat.le_refl _)) _ _ (Nat.le_refl _)) _ _ (Nat.le_refl _)⟩
  ·have hp : 0 < xs.length := List.length_pos_iff.2 hx
   obtain ⟨cs, hcs⟩ : ∃ cs, xs.map (Value.int .i64) = cs := ⟨_, rfl⟩
   have hcl : cs.length = xs.length := by rw [← hcs]; simp
   have hone : ∀ v ∈ cs, v.oneCell' = true := by rw [← hcs]; exact ints_plain64 xs
   obtain ⟨ad, rfl, hcells⟩ : ∃ ad, ao = some ad ∧ ∀ j u, cs[j]? = some u → w.cell? (ad.add j) = some u := by
    obtain ⟨_, ao', ca', e, hr⟩ := R1
    cases e
    rcases hr with rfl | ⟨b, off, rfl, hr⟩
    ·exact absurd rfl hx
    ·exact ⟨_, rfl, hcs ▸ inews_cells hr⟩
   have hrows : ∀ w', Below w.heap.size w w' → ∀ j u, cs[j]? = some u → w'.cell? (ad.add j) = some u := fun w' hb j u hj => (hb.cell (cell_lt (hcells j u hj))).trans (hcells j u hj)
   have HR := hide hrows
   have HC := hide hcs
   obtain ⟨i0, hi, hz0, hz1, hz2⟩ := info_parts Tryz.info3
   obtain ⟨m, hm⟩ : ∃ m, xs.length = m := ⟨_, rfl⟩
   rw [hm] at hl hcl hp x2 G1
   have Hm := hide hm
   clear R1 hcells hrows hcs hm hx
   have hgt : decide ((0 : Int) < (m : Int)) = true := by simpa using hp
   go_upto_region 4 with (first | (at_make; refine wpList_make_full _ rfl _ _ 26 rfl wc.heap.size 3 i0 (.int .i64 0) 1 Tryz.underlying26 hi hz0 hz1 .i64 .i64 m m m rfl rfl rfl rfl (by rw [hz2]; omega) (by unfold maxLen; omega) (Nat.le_refl _) ?_; intro w2 ho2 hg2
                                   have b2 : Below wc.heap.size wc w2 := (Below.refl _ _).grown hg2 (Nat.le_refl _) (by simp)
                                   have L2 := LH.below b2 LH.lt
                                   have k2 := L2.cell 2 rfl
                                   have f2 := L2.frozen))
   obtain ⟨hlen, hrow⟩ := ho2
   rcases hrow with ⟨e, _⟩ | ⟨row, cap, cur, e, hrb, hrh, _, hcm, hcz, hct⟩
   ·cases e
   cases e
   have hlt2 : wc.heap.size < w2.heap.size := (Array.getElem?_eq_some_iff.1 hrh).1
   obtain ⟨w3, hw3⟩ : ∃ w3, w2.setCell ⟨h, 2, none⟩ (.slice (some ⟨wc.heap.size, 0, none⟩) m m) = w3 := ⟨_, rfl⟩
   have B3 : Below w.heap.size w w3 := hw3 ▸ Below.set (B1.trans (b2.mono B1.size)) (g := h) 2 _ (by omega)
   have K3 : Kp w2 w3 (fun k => k = h) := hw3 ▸ set_kp w2 h 2 _
   have L3 : Loc w3 h #[.int .i64 n, .string s, .slice (some ⟨wc.heap.size, 0, none⟩) m m] := hw3 ▸ L2.set 2 _ rfl
   have Z3 := (Z1.below b2 Z1.lt).kp K3 (by omega)
   have G3 := (G1.below b2 G1.lt).kp K3 (by omega)
   have H3 : w3.heap[wc.heap.size]? = some (.cells cur.toList.toArray 3 (0, 0)) := by rw [K3.block _ hlt2 (by omega)]; simpa using hrh
   have c3 := unhide HR w3 B3
   have z3 := K3.size
   have p2 := L3.cell 2 rfl
   have q2 := G3.cell 4 rfl
   have hcz' : cur.toList.length = m := by simpa using hcz
   rw [hw3]
   clear hw3 k2 f2 h0 h1 h2 fh y0 y1 y2 fy x2
   have H3h := hide H3
   have C3 := hide c3
   go_region_law (refine step_copy_splice rfl (.tmp 28) (.tmp 32) 26 26 rfl 3 Tryz.underlying26 (by rw [hi]; simp [hz1]) (some ⟨wc.heap.size, 0, none⟩) (some ad) m m m ca (by simp [Act.eval]) (by simp [Act.eval]) wc.heap.size 0 cur.toList 3 (unhide H3h) cs (by rw [hcl]; simp) (fun _ => ⟨rfl, _, rfl, unhide C3⟩) (by omega) hone wc.heap.size w3 ⟨rfl, rfl, rfl, Nat.le_refl _, fun _ _ => rfl⟩ (Nat.le_refl _) ?_; intro w4 hg4 hb4)
   all_goals
    have L4 := L3.below hb4 l1
    have Z4 := Z3.below hb4 (by omega)
    have B4 : Below w.heap.size w w4 := B3.trans (hb4.mono (by omega))
    have h0 := L4.cell 0 rfl
    have h1 := L4.cell 1 rfl
    have h2 := L4.cell 2 rfl
    have y0 := Z4.cell 0 rfl
    have y1 := Z4.cell 1 rfl
    have y2 := Z4.cell 2 rfl
    have fy := Z4.frozen
    have O4 : OI w4 w.heap.size (.slice (some ⟨wc.heap.size, 0, none⟩) m m) xs := by
     refine ⟨by rw [unhide Hm]; simp [unhide Hm], .inr ⟨wc.heap.size, m, _, by rw [unhide Hm], by omega, hg4.out, by rw [unhide Hm]; exact Nat.le_refl _, hcm, ?_, ?_⟩⟩
     ·rw [List.size_toArray, length_splice _ _ _ (by omega), hcz', Nat.mul_one]
     ·rw [unhide HC]; simp [splice, unhide Hm, hcl]
    have HO := hide O4
    clear L3 Z3 G3 H3 c3 p2 q2 K3 L4 Z4 O4 hg4 hb4 LH Z1 G1 b2 L2 hlen hct hcz hrh
    go_wp2
    refine bodyPost_ret (v := qv n s (.slice (some ⟨wc.heap.size, 0, none⟩) m m)) (by simp [results, Tryz.results97, go_sem, y0, y1, y2]) rfl ?_
    have K5 : Kp w4 (((w4.setCell ⟨w.heap.size, 0, none⟩ (.int .i64 n)).setCell ⟨w.heap.size, 1, none⟩ (.string s)).setCell ⟨w.heap.size, 2, none⟩ (.slice (some ⟨wc.heap.size, 0, none⟩) m m)) (fun k => k = w.heap.size) := ((set_kp _ _ _ _).trans (set_kp _ _ _ _)).trans (set_kp _ _ _ _)
    exact ⟨_, rfl, (unhide HO).kp K5 (fun k hk => by simp [Value.ownBlock] at hk; omega), Below.set (Below.set (Below.set B4 _ _ (Nat.le_refl _)) _ _ (Nat.le_refl _)) _ _ (Nat.le_refl _)⟩

set_option maxHeartbeats 16000000 in
set_option maxRecDepth 100000 in
theorem stold_any (vo lo v : Int) (s : ByteArray) (ao : Option Addr) (ca : Nat) (xs : List Int) (d : ByteArray) (w : World) (hs : s.size ≤ 281474976710656) (hd : d.size ≤ 281474976710656) (ha : RI w (.slice ao xs.length ca) xs) :
 Calls Tryz.prog 56 #[sv vo lo v s (.slice ao xs.length ca) d] w fun e w' => ∃ u, e = .returned (sv vo lo v s u d) ∧ OI w' w.heap.size u xs ∧ Below w.heap.size w w' := by
 have TO := hide fun g x0 x1 x5 w' (b : Below w.heap.size w w') (h : Loc w' g #[x0, x1, .int .i64 v, .string s, .slice ao xs.length ca, x5]) => qtold_in g x0 x1 v s ao ca xs w' x5 h (ha.below b (Nat.le_refl _)) hs
 have CL := hide fun w' => clone_any d w' hd
 clear ha
 obtain ⟨w0, hw0⟩ : ∃ w0, ((w.alloc (.cells #[.int .i64 vo, .int .i64 lo, .int .i64 v, .string s, .slice ao xs.length ca, .string d] 30)).alloc (.cells #[.int .i64 0, .int .i64 0, .int .i64 0, .string ⟨#[]⟩, .slice none 0 0, .string ⟨#[]⟩] 30)) = w0 := ⟨_, rfl⟩
 have Bw0 : Below w.heap.size w w0 := hw0 ▸ ((Below.refl _ _).alloc (Nat.le_refl _) _).alloc (by simp) _
 have LS : Loc w0 (w.heap.size) #[.int .i64 vo, .int .i64 lo, .int .i64 v, .string s, .slice ao xs.length ca, .string d] := hw0 ▸ (loc_at (w) _ _ rfl).alloc _
 have LZ : Loc w0 (w.heap.size + 1) #[.int .i64 0, .int .i64 0, .int .i64 0, .string ⟨#[]⟩, .slice none 0 0, .string ⟨#[]⟩] := hw0 ▸ loc_at (w.alloc _) _ _ (by simp)
 have zw0 : w.heap.size + 1 + 1 ≤ w0.heap.size := by rw [← hw0]; simp
 go_enter Tryz.func56, Tryz.ntmps56
 have cLS0 := LS.cell 0 rfl
 have cLS1 := LS.cell 1 rfl
 have cLS2 := LS.cell 2 rfl
 have cLS3 := LS.cell 3 rfl
 have cLS4 := LS.cell 4 rfl
 have cLS5 := LS.cell 5 rfl
 go_wp2_with fail
 clear hw0
 refine (unhide TO _ _ _ _ _ Bw0 LS).mono ?_
 rintro _ w1 ⟨u1, rfl, o1, bb⟩
 clear cLS0 cLS1 cLS2 cLS3 cLS4 cLS5
 have Bw1 := Bw0.trans (bb.mono Bw0.size)
 have sw1 := bb.size
 replace LS := LS.below bb LS.lt
 replace LZ := LZ.below bb LZ.lt
 clear Bw0
 clear bb
 have to1 := World.ownsRow.lt o1
 obtain ⟨ao1, ko1, rfl⟩ := o1.form
 have cLS0 := LS.cell 0 rfl
 have cLS1 := LS.cell 1 rfl
 have cLS2 := LS.cell 2 rfl
 have cLS3 := LS.cell 3 rfl
 have cLS4 := LS.cell 4 rfl
 have cLS5 := LS.cell 5 rfl
 have fLS := LS.frozen
 go_upto_region 2 with fail
 clear cLS0 cLS1 cLS2 cLS3 cLS4 cLS5
 clear fLS
 obtain ⟨w2, hw2⟩ : ∃ y, (((w1.setCell ⟨w.heap.size, 2, none⟩ (.int .i64 v)).setCell ⟨w.heap.size, 3, none⟩ (.string s)).setCell ⟨w.heap.size, 4, none⟩ (.slice ao1 xs.length ko1)) = y := ⟨_, rfl⟩
 have kN : Kp w1 w2 (fun k => k = w.heap.size) := hw2 ▸ ((set_kp _ _ _ _).trans (set_kp _ _ _ _)).trans (set_kp _ _ _ _)
 replace LS : Loc w2 (w.heap.size) #[.int .i64 vo, .int .i64 lo, .int .i64 v, .string s, .slice ao1 xs.length ko1, .string d] := hw2 ▸ (((LS.set 2 _ rfl).set 3 _ rfl).set 4 _ rfl)
 replace LZ := LZ.kp kN (by omega)
 replace o1 := o1.kp kN (fun j hj e => by have := to1 j hj; omega)
 have Bw2 := Below.kp Bw1 kN Bw1.size (fun k hk => by omega)
 have sw2 := kN.size
 rw [hw2]
 clear hw2 kN Bw1
 have cLS0 := LS.cell 0 rfl
 have cLS1 := LS.cell 1 rfl
 have cLS2 := LS.cell 2 rfl
 have cLS3 := LS.cell 3 rfl
 have cLS4 := LS.cell 4 rfl
 have cLS5 := LS.cell 5 rfl
 go_wp2_with fail
 refine (unhide CL _).mono ?_
 rintro _ w3 ⟨rfl, bb⟩
 clear cLS0 cLS1 cLS2 cLS3 cLS4 cLS5
 have Bw3 := Bw2.trans (bb.mono Bw2.size)
 have sw3 := bb.size
 replace LS := LS.below bb LS.lt
 replace LZ := LZ.below bb LZ.lt
 replace o1 := o1.below bb
 clear Bw2
 clear bb
 have cLS0 := LS.cell 0 rfl
 have cLS1 := LS.cell 1 rfl
 have cLS2 := LS.cell 2 rfl
 have cLS3 := LS.cell 3 rfl
 have cLS4 := LS.cell 4 rfl
 have cLS5 := LS.cell 5 rfl
 have fLS := LS.frozen
 go_upto_region 3 with fail
 clear cLS0 cLS1 cLS2 cLS3 cLS4 cLS5
 clear fLS
 obtain ⟨w4, hw4⟩ : ∃ y, (w3.setCell ⟨w.heap.size, 5, none⟩ (.string d)) = y := ⟨_, rfl⟩
 have kN : Kp w3 w4 (fun k => k = w.heap.size) := hw4 ▸ set_kp _ _ _ _
 replace LS : Loc w4 (w.heap.size) #[.int .i64 vo, .int .i64 lo, .int .i64 v, .string s, .slice ao1 xs.length ko1, .string d] := hw4 ▸ (LS.set 5 _ rfl)
 replace LZ := LZ.kp kN (by omega)
 replace o1 := o1.kp kN (fun j hj e => by have := to1 j hj; omega)
 have Bw4 := Below.kp Bw3 kN Bw3.size (fun k hk => by omega)
 have sw4 := kN.size
 rw [hw4]
 clear hw4 kN Bw3
 have K6 := kp6 w4 (w.heap.size + 1) (.int .i64 vo) (.int .i64 lo) (.int .i64 v) (.string s) (.slice ao1 xs.length ko1) (.string d)
 have cLZ0 := LZ.cell 0 rfl
 have cLZ1 := LZ.cell 1 rfl
 have cLZ2 := LZ.cell 2 rfl
 have cLZ3 := LZ.cell 3 rfl
 have cLZ4 := LZ.cell 4 rfl
 have cLZ5 := LZ.cell 5 rfl
 have cLS0 := LS.cell 0 rfl
 have cLS1 := LS.cell 1 rfl
 have cLS2 := LS.cell 2 rfl
 have cLS3 := LS.cell 3 rfl
 have cLS4 := LS.cell 4 rfl
 have cLS5 := LS.cell 5 rfl
 have fLZ := LZ.frozen
 go_wp2
 refine bodyPost_ret (v := sv (vo) (lo) (v) (s) (.slice ao1 xs.length ko1) (d)) (by simp [results, Tryz.results56, go_sem, cLZ0, cLZ1, cLZ2, cLZ3, cLZ4, cLZ5]) rfl ?_
 exact ⟨_, rfl, (o1.kp K6 (fun j hj e => by have := to1 j hj; omega)).mono (by omega), Below.kp Bw4 K6 Bw4.size (fun k hk => by omega)⟩

set_option maxHeartbeats 16000000 in
set_option maxRecDepth 100000 in
theorem l11Copy_any (vo lo v : Int) (s : ByteArray) (ao : Option Addr) (ca : Nat) (xs : List Int) (d : ByteArray) (w : World) (ha : RI w (.slice ao xs.length ca) xs) :
 Calls Tryz.prog 60 #[sv vo lo v s (.slice ao xs.length ca) d] w fun e w' => ∃ u, e = .returned (sv vo lo v s u d) ∧ OI w' w.heap.size u xs ∧ Below w.heap.size w w' := by
 have CP := hide fun w' (b : Below w.heap.size w w') => l7Copy_any v s (.slice ao xs.length ca) xs w' (ha.below b (Nat.le_refl _))
 clear ha
 obtain ⟨w0, hw0⟩ : ∃ w0, ((w.alloc (.cells #[.int .i64 vo, .int .i64 lo, .int .i64 v, .string s, .slice ao xs.length ca, .string d] 30)).alloc (.cells #[.int .i64 0, .int .i64 0, .int .i64 0, .string ⟨#[]⟩, .slice none 0 0, .string ⟨#[]⟩] 30)) = w0 := ⟨_, rfl⟩
 have Bw0 : Below w.heap.size w w0 := hw0 ▸ ((Below.refl _ _).alloc (Nat.le_refl _) _).alloc (by simp) _
 have LS : Loc w0 (w.heap.size) #[.int .i64 vo, .int .i64 lo, .int .i64 v, .string s, .slice ao xs.length ca, .string d] := hw0 ▸ (loc_at (w) _ _ rfl).alloc _
 have LZ : Loc w0 (w.heap.size + 1) #[.int .i64 0, .int .i64 0, .int .i64 0, .string ⟨#[]⟩, .slice none 0 0, .string ⟨#[]⟩] := hw0 ▸ loc_at (w.alloc _) _ _ (by simp)
 have zw0 : w.heap.size + 1 + 1 ≤ w0.heap.size := by rw [← hw0]; simp
 go_enter Tryz.func60, Tryz.ntmps60
 have cLS0 := LS.cell 0 rfl
 have cLS1 := LS.cell 1 rfl
 have cLS2 := LS.cell 2 rfl
 have cLS3 := LS.cell 3 rfl
 have cLS4 := LS.cell 4 rfl
 have cLS5 := LS.cell 5 rfl
 go_wp2_with fail
 clear hw0
 refine (unhide CP _ Bw0).mono ?_
 rintro _ w1 ⟨u1, rfl, o1, bb⟩
 clear cLS0 cLS1 cLS2 cLS3 cLS4 cLS5
 have Bw1 := Bw0.trans (bb.mono Bw0.size)
 have sw1 := bb.size
 replace LS := LS.below bb LS.lt
 replace LZ := LZ.below bb LZ.lt
 clear Bw0
 clear bb
 have to1 := World.ownsRow.lt o1
 obtain ⟨ao1, ko1, rfl⟩ := o1.form
 have cLS0 := LS.cell 0 rfl
 have cLS1 := LS.cell 1 rfl
 have cLS2 := LS.cell 2 rfl
 have cLS3 := LS.cell 3 rfl
 have cLS4 := LS.cell 4 rfl
 have cLS5 := LS.cell 5 rfl
 have fLS := LS.frozen
 go_upto_region 2 with fail
 clear cLS0 cLS1 cLS2 cLS3 cLS4 cLS5
 clear fLS
 obtain ⟨w2, hw2⟩ : ∃ y, (((w1.setCell ⟨w.heap.size, 2, none⟩ (.int .i64 v)).setCell ⟨w.heap.size, 3, none⟩ (.string s)).setCell ⟨w.heap.size, 4, none⟩ (.slice ao1 xs.length ko1)) = y := ⟨_, rfl⟩
 have kN : Kp w1 w2 (fun k => k = w.heap.size) := hw2 ▸ ((set_kp _ _ _ _).trans (set_kp _ _ _ _)).trans (set_kp _ _ _ _)
 replace LS : Loc w2 (w.heap.size) #[.int .i64 vo, .int .i64 lo, .int .i64 v, .string s, .slice ao1 xs.length ko1, .string d] := hw2 ▸ (((LS.set 2 _ rfl).set 3 _ rfl).set 4 _ rfl)
 replace LZ := LZ.kp kN (by omega)
 replace o1 := o1.kp kN (fun j hj e => by have := to1 j hj; omega)
 have Bw2 := Below.kp Bw1 kN Bw1.size (fun k hk => by omega)
 have sw2 := kN.size
 rw [hw2]
 clear hw2 kN Bw1
 have K6 := kp6 w2 (w.heap.size + 1) (.int .i64 vo) (.int .i64 lo) (.int .i64 v) (.string s) (.slice ao1 xs.length ko1) (.string d)
 have cLZ0 := LZ.cell 0 rfl
 have cLZ1 := LZ.cell 1 rfl
 have cLZ2 := LZ.cell 2 rfl
 have cLZ3 := LZ.cell 3 rfl
 have cLZ4 := LZ.cell 4 rfl
 have cLZ5 := LZ.cell 5 rfl
 have cLS0 := LS.cell 0 rfl
 have cLS1 := LS.cell 1 rfl
 have cLS2 := LS.cell 2 rfl
 have cLS3 := LS.cell 3 rfl
 have cLS4 := LS.cell 4 rfl
 have cLS5 := LS.cell 5 rfl
 have fLZ := LZ.frozen
 go_wp2
 refine bodyPost_ret (v := sv (vo) (lo) (v) (s) (.slice ao1 xs.length ko1) (d)) (by simp [results, Tryz.results60, go_sem, cLZ0, cLZ1, cLZ2, cLZ3, cLZ4, cLZ5]) rfl ?_
 exact ⟨_, rfl, (o1.kp K6 (fun j hj e => by have := to1 j hj; omega)).mono (by omega), Below.kp Bw2 K6 Bw2.size (fun k hk => by omega)⟩
end Go.Proofs.YtmpmedbojfjnaaaGreatDoor
