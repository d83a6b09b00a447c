/- Lemmas; their conditions stand in each statement. -/
import Derived.Test.YtjkcphnohhpihaaGreatDoorPPAQ
import Derived.Test.YtjkcphnohhpihaaGreatDoorPPAP
import Derived.Laws.EntriesVeiled
import Derived.Laws.Cover1
set_option maxRecDepth 100000
set_option maxHeartbeats 8000000
set_option linter.unusedSectionVars false
namespace Go.Proofs.YtjkcphnohhpihaaGreatDoor
section
open Go.RowKit
variable [∀ (a b c d : Int), Decidable (Ok4 a b c d)]
variable [∀ (n f : Int), Decidable (COk n f)]
theorem pmk_get (k0 : Nat) (ps : List Pt) (k : Nat) (hk : k < ps.length) : (pmk k0 ps).getD k zpt = ((pend k0 (ps.take k) : Int), markT (pend k0 (ps.take k) + 1), imarks (pend k0 (ps.take k) + 2) (ps.getD k zpt).2.2.length) := by
 induction ps generalizing k0 k with
 | nil => simp at hk
 | cons p ps ih =>
  cases k with
  | zero => rfl
  | succ k =>
   have:=ih (k0 + 2 + p.2.2.length) k (by simpa using hk)
   simpa [pmk, pend] using this

theorem heldPartS_any (v : Value) (ps : List Pt) (k0 : Nat) (w : World) (hn : ps.length ≤ 4194304) (hp : pend k0 ps ≤ 100000000) (h : RPt w v (pmk k0 ps)) :
 Calls Tryz.prog 16 #[v,.int .i64 k0] w fun e w' => e = .returned (.int .i64 (pend k0 ps)) ∧ Below w.heap.size w w' := by
 obtain ⟨ao, ca, rfl⟩:=h.form
 rw [pmk_len] at h ⊢
 obtain ⟨n, hn'⟩ : ∃ n, ps.length = n:=⟨_, rfl⟩
 have Hn:=hide hn'
 rw [hn'] at hn h ⊢
 have H:=hide h
 clear h hn'
 go_enter Tryz.func16, Tryz.ntmps16
 go_wp2
 go_loopw [1, 5] (fun c i wr => ∃ k : Nat, k ≤ n ∧ i = .int .i64 k ∧ c = .int .i64 ((pend k0 (ps.take k) : Nat) : Int) ∧ Below w.heap.size w wr) (fun _ i _ => n - (intOf i).toNat)
 case atStart => exact ⟨0, Nat.zero_le _, rfl, by simp [pend], Below.refl _ _⟩
 case round =>
  obtain ⟨k, hk, rfl, rfl, br⟩:=hrel
  have hpk:=pend_le k0 ps k
  by_cases hlt : k < n
  ·have hkx : k < ps.length:=by have:=Hn.out; omega
   have hge:=pmk_get k0 ps k hkx
   have HPT:=hide (pend_take k0 ps k hkx)
   have hpk1:=pend_le k0 ps (k + 1)
   rw [HPT.out] at hpk1
   obtain ⟨g, o, u, rfl, c0, c1, c2, ru⟩:=(H.out.below br).at k (by rw [pmk_len]; exact hkx)
   rw [hge] at c0 c1 ru
   simp only at c0 c1 ru
   generalize (ps.getD k zpt).2.2.length = xl at *
   generalize pend k0 (ps.take k) = q at *
   have MT:=hide fun w => markText_any (q + 1) w (by omega) (by omega)
   generalize markT (q + 1) = mt at *
   have K : Hid (∀ w', Below wr.heap.size wr w' → Below wr.heap.size wr w' ∧ w'.cell? ⟨g, o + k * 3, none⟩ = some (.int .i64 q) ∧ w'.cell? ⟨g, o + k * 3 + 1, none⟩ = some (.string mt) ∧ w'.cell? ⟨g, o + k * 3 + 2, none⟩ = some u):=hide fun w' hb' =>
    ⟨hb', (hb'.cell (p := ⟨g, o + k * 3, none⟩) (cell_lt c0)).trans c0, (hb'.cell (p := ⟨g, o + k * 3 + 1, none⟩) (cell_lt c1)).trans c1, (hb'.cell (p := ⟨g, o + k * 3 + 2, none⟩) (cell_lt c2)).trans c2⟩
   have RU:=hide fun w' (hb' : Below wr.heap.size wr w') => ru.below hb'
   obtain ⟨ua, uc, rfl⟩:=ru.form
   rw [imarks_len] at K RU c2
   have HE:=hide fun w h => iheld_any (.slice ua xl uc) xl (q + 2) w (by omega) h
   have bA : Below wr.heap.size wr wr.drew:=Below.drew (Below.refl _ _)
   have hKeep:=K.out _ bA
   clear hge ru H
   go_upto_region 7 with fail
   first | go_region_held3 (fun w' => Below wr.heap.size wr w' ∧ w'.cell? ⟨g, o + k * 3, none⟩ = some (.int .i64 q) ∧ w'.cell? ⟨g, o + k * 3 + 1, none⟩ = some (.string mt) ∧ w'.cell? ⟨g, o + k * 3 + 2, none⟩ = some (.slice ua xl uc)) (exact hKeep) (first
    | (go_at_call 51; have hgo := bA; refine (MT.out _).mono ?_; rintro e wa ⟨rfl, ba⟩
       have bB : Below wr.heap.size wr wa:=bu bA ba
       have hKeep:=K.out _ bB; clear bA hgo ba)) | fail
   all_goals
    have e2:=hKeep.2.2.2
    have hd1 : decide ((q : Int) + 1 + 1 + (xl : Int) < 0) = false:=by simp; omega
    clear hKeep c0 c1 c2
    go_wp2_with fail
    refine (HE.out _ (RU.out _ bB)).mono ?_
    rintro e w4 ⟨rfl, rfl⟩
    clear e2 RU HE K
    go_wp2
    go_roundw
    case rel => exact ⟨k + 1, by omega, by go_num, by rw [HPT.out]; simp, bu br bB⟩
    case measure => simp [intOf]; omega
  have hkn : ps.take k = ps:=List.take_of_length_le (by have:=Hn.out; omega)
  rw [hkn]
  clear hpk H
  go_wp2
  go_ret
  exact ⟨rfl, br⟩

theorem szPartS_no (al : Option Addr) (cl : Nat) (rs : List Pr) (left : Int) (w : World) (h : ATab w al rs) (hb : ∀ r ∈ rs, r.2.1.size ≤ maxLen ∧ r.2.2.2.2.length ≤ maxLen) (h0 : 0 ≤ left) (hm : rs.length ≤ maxLen) (hs : left < (rs.length : Int) + psum rs) (hl : left ≤ 1048576) :
 Calls Tryz.prog 5 #[.slice al rs.length cl,.int .i64 left] w fun e w' => e = .returned (.int .i64 (-1)) ∧ Below w.heap.size w w' := by
 obtain ⟨n, hn⟩ : ∃ n, rs.length = n:=⟨_, rfl⟩
 have Hn:=hide hn
 have H:=hide h
 have HB:=hide hb
 unfold maxLen at hm
 rw [hn] at hs hm ⊢
 clear hn h hb
 by_cases h1 : left < n
 ·have hd0 : decide (left - (n : Int) < 0) = true:=by simp; omega
  clear H HB
  go_enter Tryz.func5, Tryz.ntmps5
  go_wp2
  go_ret
  exact ⟨rfl, Below.refl _ _⟩
 have hd0 : decide (left - (n : Int) < 0) = false:=by simp; omega
 go_enter Tryz.func5, Tryz.ntmps5
 go_wp2
 go_loopw [1, 5] (fun a i wr => ∃ k : Nat, k ≤ n ∧ i = .int .i64 k ∧ a = .int .i64 (left - n - (psum (rs.take k) : Nat)) ∧ (psum (rs.take k) : Int) ≤ left - n ∧ Below w.heap.size w wr) (fun _ i _ => n - (intOf i).toNat)
 case atStart => exact ⟨0, Nat.zero_le _, rfl, by simp [psum], by simp [psum]; omega, Below.refl _ _⟩
 case round =>
  obtain ⟨k, hk, rfl, rfl, hp, br⟩:=hrel
  by_cases hlt : k < n
  ·have hkx : k < rs.length:=by have:=Hn.out; omega
   have HP1:=hide (psum_take rs k hkx)
   have hbk:=HB.out (rs.getD k prz) (by rw [List.getD_eq_getElem?_getD, List.getElem?_eq_getElem hkx]; exact List.getElem_mem hkx)
   rcases H.out with h | ⟨g, off, rfl, h⟩
   ·subst h; simp at hkx
   obtain ⟨c0, c1, c2⟩:=h k hkx
   have hg : g < w.heap.size:=cell_lt c0
   replace c0:=(br.cell (p:=⟨g, off + k * 3, none⟩) hg).trans c0
   replace c1:=(br.cell (p:=⟨g, off + k * 3 + 1, none⟩) hg).trans c1
   replace c2:=(br.cell (p:=⟨g, off + k * 3 + 2, none⟩) hg).trans c2
   clear h H HB
   generalize (rs.getD k prz).1 = m at *
   generalize (rs.getD k prz).2.1 = s at *
   generalize (rs.getD k prz).2.2.2.2.length = x at *
   generalize (rs.getD k prz).2.2.1 = ao at *
   generalize (rs.getD k prz).2.2.2.1 = ca at *
   generalize psum (rs.take k) = q at *
   obtain ⟨hb1, hb2⟩:=hbk
   unfold maxLen at hb1 hb2
   by_cases hfit : (s.size : Int) + x ≤ left - n - q
   ·have SZ:=hide fun w => szPart_yes m s ao x ca (left - n - q) w hfit (by omega)
    have hd1 : decide (left - (n : Int) - (q : Int) - (s.size : Int) - (x : Int) < 0) = false:=by simp; omega
    go_wp2_with fail
    refine (SZ.out _).mono ?_
    rintro e w1 ⟨rfl, b1⟩
    have B1:=bu br b1
    clear c0 c1 c2 SZ b1
    go_wp2
    go_roundw
    case rel => exact ⟨k + 1, by omega, by go_num, by rw [HP1.out]; simp; omega, by rw [HP1.out]; simp; omega, B1⟩
    case measure => simp [intOf]; omega
   have SZ:=hide fun w => szPart_no m s ao x ca (left - n - q) w (by omega) (by omega) (by omega) (by omega) (by omega)
   go_wp2_with fail
   refine (SZ.out _).mono ?_
   rintro e w1 ⟨rfl, b1⟩
   have B1:=bu br b1
   clear c0 c1 c2 SZ b1
   go_wp2
   go_ret
   exact ⟨rfl, B1⟩
  have hkn : rs.take k = rs:=List.take_of_length_le (by have:=Hn.out; omega)
  rw [hkn] at hp
  omega
theorem psum_each {rs : List Pr} {r : Pr} (h : r ∈ rs) : r.2.1.size + r.2.2.2.2.length ≤ psum rs := by
 induction rs with
 | nil => simp at h
 | cons x rs ih =>
  rcases List.mem_cons.1 h with rfl | h
  ·simp only [psum]; omega
  have:=ih h; simp only [psum]; omega
theorem prp_mem {rs : List Pr} {p : Pt} (h : p ∈ rs.map prp) : p.2.1.size + p.2.2.length ≤ psum rs := by
 obtain ⟨r, hr, rfl⟩:=List.mem_map.1 h
 exact psum_each hr
theorem ATab.below {W W' : World} {ao : Option Addr} {rs : List Pr} (h : ATab W ao rs) (hb : Below W.heap.size W W') : ATab W' ao rs := by
 rcases h with h | ⟨g, off, rfl, h⟩
 ·exact .inl h
 refine .inr ⟨g, off, rfl, fun k hk => ?_⟩
 obtain ⟨c0, c1, c2⟩:=h k hk
 have hg:=cell_lt c0
 exact ⟨(hb.cell (p := ⟨g, off + k * 3, none⟩) hg).trans c0, (hb.cell (p := ⟨g, off + k * 3 + 1, none⟩) hg).trans c1, (hb.cell (p := ⟨g, off + k * 3 + 2, none⟩) hg).trans c2⟩
def whos : List Pt → Nat
 | [] => 0
 | p :: ps => p.2.2.length + whos ps
theorem pend_sum (k : Nat) (ps : List Pt) : pend k ps = k + 2 * ps.length + whos ps := by
 induction ps generalizing k with
 | nil => simp [pend, whos]
 | cons p ps ih => simp only [pend, whos, ih, List.length_cons]; omega
theorem pmk_small (k : Nat) (ps : List Pt) (h : ∀ p ∈ ps, p.2.2.length ≤ 4194304) : ∀ p ∈ pmk k ps, p.2.2.length ≤ 4194304 := by
 induction ps generalizing k with
 | nil => simp [pmk]
 | cons x ps ih =>
  intro p hp
  simp only [pmk, List.mem_cons] at hp
  rcases hp with rfl | hp
  ·simp only [imarks_len]; exact h x (by simp)
  exact ih _ (fun y hy => h y (by simp [hy])) p hp
theorem whos_le (rs : List Pr) : whos (rs.map prp) ≤ psum rs := by
 induction rs with
 | nil => simp [whos]
 | cons r rs ih => simp only [List.map_cons, whos, psum]; have : (prp r).2.2.length = r.2.2.2.2.length := rfl; omega
end
section
open Go.RowKit
variable [∀ (a b c d : Int), Decidable (Ok4 a b c d)]
variable [∀ (n f : Int), Decidable (COk n f)]
variable [∀ (n : Int) (s : List Int), Decidable (OkL n s)]
variable [∀ (a b c d : Nat), Decidable (okN a b c d)]
variable [∀ (last : Int) (s : St), Decidable (GoodSt last s)]
variable [∀ (x : T4), Decidable (OkT x)]
theorem whos_add (ps : List Pt) (p : Pt) : whos (addP ps p) ≤ whos ps + p.2.2.length := by
 induction ps with
 | nil => simp [addP, whos]
 | cons x ps ih =>
  unfold addP
  split
  ·simp only [whos]; omega
  split
  ·have:=join_size x.2.2 p.2.2
   simp only [whos, joinP]; omega
  simp only [whos]; omega

theorem fnTableAdd_short (E : World → Prop) (hE : ∀ w w', E w → Below w.heap.size w w' → E w')
 (n f : Int) (al : Option Addr) (cl : Nat) (rs : List Pr) (m : Int) (s : ByteArray) (pa : Option Addr) (pc : Nat) (xs : List Int) (w : World) (IM0 : ∀ (v u : Value) (w : World), E w → RPt w v (rs.map prp) → CapP v → RI w u xs → Calls Tryz.prog 11 #[cv n f, v, qv m s u] w fun e w' => ∃ t, e = .returned (.tuple #[t,.bool (tokB n f (addP (rs.map prp) (m, s, xs)) && pokB n f m s xs)]) ∧ OPt w' w.heap.size t (if (tokB n f (addP (rs.map prp) (m, s, xs)) && pokB n f m s xs) then addP (rs.map prp) (m, s, xs) else rs.map prp) ∧ Below w.heap.size w w')
 (h : ATab w al rs) (ha : ∀ r ∈ rs, AIW w r.2.2.1 r.2.2.2.2) (hp : RI w (.slice pa xs.length pc) xs) (hs : rs.length + psum rs + s.size + xs.length ≤ 1048576) (he : E w) :
 Calls Tryz.prog 3 #[cv n f,.slice al rs.length cl, qv m s (.slice pa xs.length pc)] w fun e w' => e = .returned (.bool true) ∧ Below w.heap.size w w' := by
 have RA:=hide fun w' (hb : Below w.heap.size w w') => (ATab.rpt (ca:=cl) h ha (fun r hr => by have:=psum_each hr; omega)).below hb
 have HA:=hide fun w' (hb : Below w.heap.size w w') => h.below hb
 have RP:=hide fun w' (hb : Below w.heap.size w w') => hp.below hb
 have ZA:=hide fun w h => szPartS_yes al cl rs 1048576 w h (by omega) (by omega)
 have ZB:=hide fun w => szPart_yes m s pa xs.length pc (1048576 - rs.length - psum rs) w (by omega) (by omega)
 have HE:=hide fun w' (hb : Below w.heap.size w w') => hE w w' he hb
 have hpm : ∀ p ∈ rs.map prp, p.2.1.size ≤ 1048576 ∧ p.2.2.length ≤ 1048576:=fun p hp => by have:=prp_mem hp; omega
 have hpl : (rs.map prp).length = rs.length:=by simp
 have hd0 : decide ((1048576 : Int) - (rs.length : Int) - (psum rs : Int) < 0) = false:=by simp; omega
 have hd1 : decide ((1048576 : Int) - (rs.length : Int) - (psum rs : Int) - (s.size : Int) - (xs.length : Int) < 0) = false:=by simp; omega
 obtain ⟨len, hlen⟩ : ∃ l, rs.length = l:=⟨_, rfl⟩
 obtain ⟨pl, hpx⟩ : ∃ l, xs.length = l:=⟨_, rfl⟩
 rw [hlen] at hpl RA ZA ZB hd0 hd1 hs ⊢
 rw [hpx] at RP ZB hd1 hs ⊢
 have hps:=pend_sum 1 (rs.map prp)
 have hpw:=whos_le rs
 generalize psum rs = sm at *
 generalize rs.map prp = ps at *
 have hw : ∀ p ∈ ps, p.2.2.length ≤ 4194304:=fun p hp => by have:=hpm p hp; omega
 have TO:=hide fun w => toConf_any n f w
 have TP:=hide fun w h => toPartS_any (.slice al len cl) ps w (by omega) h
 have TQ:=hide fun w h => toPart_any m s (.slice pa pl pc) xs w h
 have SP:=hide fun v u w h h' => specTableAdd n f v ps m s u xs w (by omega) (by omega) (by omega) hpm h h'
 have IM:=hide fun v u w e h c h' => IM0 v u w e h c h'
 have EQ:=hide fun v u w h h' => eqPartS_yes v u ps w (by omega) h h'
 have EP:=hide fun u v w h h' => eqPart_yes m s u v xs w h h'
 obtain ⟨rb, hrb⟩ : ∃ b, (tokB n f (addP ps (m, s, xs)) && pokB n f m s xs) = b:=⟨_, rfl⟩
 rw [hrb] at SP IM
 have hrl : ∀ q ∈ (if rb = true then addP ps (m, s, xs) else ps), q.2.2.length ≤ 4194304:=by
  split
  ·exact fun q hq => (addP_small hpm (by omega) (by omega) ps (fun q hq => hq) q hq).2
  exact hw
 have hrn : (if rb = true then addP ps (m, s, xs) else ps).length ≤ 1048577:=by
  split
  ·have:=addP_len ps (m, s, xs); omega
  omega
 have hrw : whos (if rb = true then addP ps (m, s, xs) else ps) ≤ whos ps + xs.length:=by
  split
  ·exact whos_add ps (m, s, xs)
  omega
 have hrp:=pend_sum 1 (if rb = true then addP ps (m, s, xs) else ps)
 generalize (if rb = true then addP ps (m, s, xs) else ps) = rl at *
 have hpe : pend 1 ps ≤ 5000000:=by omega
 have hre : pend 1 rl ≤ 9000000:=by omega
 clear hps hrp hrw hpw
 have ER:=hide fun v u w h h' => eqPartS_yes v u rl w (by omega) h h'
 have hq : (rb != rb) = false:=by simp
 obtain ⟨w0, hw0, Bw0, LC, LA, _⟩:=bx2 w #[.int .i64 n,.int .i64 f] 23 #[.int .i64 m,.string s,.slice pa pl pc] 27
 have zw0 : w0.heap.size = w.heap.size + 2:=by rw [← hw0]; simp
 clear h ha he hE IM0 hp hrb hlen
 go_enter Tryz.func3, Tryz.ntmps3
 go_wp2_with fail
 clear hw0
 refine (ZA.out _ (HA.out _ Bw0)).mono ?_
 rintro _ w1 ⟨rfl, bb⟩
 have Bw1:=bu Bw0 bb
 have sw1:=bb.size
 replace LC:=LC.up bb
 replace LA:=LA.up bb
 clear Bw0 bb ZA HA
 obtain ⟨cLA0,cLA1,cLA2⟩:=cc3 LA 0 1 2
 go_wp2_with fail
 refine (ZB.out _).mono ?_
 rintro _ w2 ⟨rfl, bb⟩
 clear cLA0 cLA1 cLA2
 have Bw2:=bu Bw1 bb
 have sw2:=bb.size
 replace LC:=LC.up bb
 replace LA:=LA.up bb
 clear Bw1 bb ZB
 obtain ⟨cLC0,cLC1⟩:=cc2 LC 0 1
 obtain ⟨cLA0,cLA1,cLA2⟩:=cc3 LA 0 1 2
 have K:=kw (ka (kc2 LC 0 1) (kc3 LA 0 1 2))
 go_upto_region 8 with fail
 refine wra K (fun bA hHeld => ?_)
 refine tx 0 30 ?_
 refine tx 2 32 ?_
 refine tx 4 34 ?_
 refine rd 1 rfl (fun KK hKK => ?_)
 go_simp
 have hgo:=bA
 refine (TO.out _).mono ?_
 rintro e wz8_1 ⟨rfl, bb⟩
 have bz1 : Below w2.heap.size w2 wz8_1:=bu bA bb
 clear bA hgo bb hHeld
 refine hKK.out _ _ (K.out _ bz1) (fun hHeld => ?_)
 clear hKK KK
 refine rd 3 rfl (fun KK hKK => ?_)
 go_simp
 have hgo:=bz1
 refine (TP.out _ (RA.out _ (bu Bw2 hgo))).mono ?_
 rintro e wz8_2 ⟨v1, rfl, o1, bb⟩
 have bz2 : Below w2.heap.size w2 wz8_2:=bu bz1 bb
 have R1:=hide (fun w' (hb : Below wz8_2.heap.size wz8_2 w') => (o1.below hb).rpt hw)
 obtain ⟨a1, k1, rfl⟩:=OPt.form o1
 rw [hpl] at R1 ⊢
 clear o1 bz1 hgo bb hHeld
 refine hKK.out _ _ (K.out _ bz2) (fun hHeld => ?_)
 clear hKK KK
 refine rd 5 rfl (fun KK hKK => ?_)
 go_simp
 have hgo:=bz2
 refine (TQ.out _ (RP.out _ (bu Bw2 hgo))).mono ?_
 rintro e wz8_3 ⟨u1, rfl, p1, bb⟩
 have bz3 : Below w2.heap.size w2 wz8_3:=bu bz2 bb
 have RQ:=hide (p1.ri (by omega))
 have R1':=hide (R1.out _ (by assumption))
 skip
 obtain ⟨b1, j1, rfl⟩:=p1.form
 rw [hpx] at RQ ⊢
 clear p1 bz2 hgo bb hHeld
 refine hKK.out _ _ (K.out _ bz3) (fun hHeld => ?_)
 clear hKK KK
 refine rd 6 rfl (fun KK hKK => ?_)
 go_simp
 have hgo:=bz3
 refine (SP.out _ _ _ R1'.out RQ.out).mono ?_
 rintro e wz8_4 ⟨tW, rfl, oW, bb⟩
 have bz4 : Below w2.heap.size w2 wz8_4:=bu bz3 bb
 clear R1' RQ bz3 hgo bb hHeld
 refine hKK.out _ _ (K.out _ bz4) (fun hHeld => ?_)
 clear hKK KK
 refine tx 7 29 ?_
 refine tx 8 37 ?_
 refine tx 9 38 ?_
 refine tx 10 8 ?_
 refine tx 11 9 ?_
 clear hHeld
 refine wdn ?_
 have bb:=bz4
 have Bwz8_4:=bu Bw2 bb
 have swz8_4:=bb.size
 replace LC:=LC.up bb
 replace LA:=LA.up bb
 clear Bw2 bb bz4 K cLC0 cLC1 cLA0 cLA1 cLA2
 have dW:=oW
 obtain ⟨vsoW, oW⟩:=oW
 obtain ⟨aoW, koW, rfl⟩:=OPt.form ⟨_, oW⟩
 replace oW:=oW.opr
 go_wp2_with fail
 refine (TP.out _ (RA.out _ Bwz8_4)).mono ?_
 rintro _ w3 ⟨v2, rfl, oX, bb⟩
 have Bw3:=bu Bwz8_4 bb
 have sw3:=bb.size
 replace LC:=LC.up bb
 replace LA:=LA.up bb
 replace oW:=oW.below bb
 clear Bwz8_4 bb
 obtain ⟨vsoX, oX⟩:=oX
 obtain ⟨aoX, koX, rfl⟩:=OPt.form ⟨_, oX⟩
 replace oX:=oX.opr
 rw [hpl] at oX ⊢
 obtain ⟨cLA0,cLA1,cLA2⟩:=cc3 LA 0 1 2
 go_wp2_with fail
 refine (TQ.out _ (RP.out _ Bw3)).mono ?_
 rintro _ w4 ⟨u2, rfl, oP, bb⟩
 clear cLA0 cLA1 cLA2
 have Bw4:=bu Bw3 bb
 have sw4:=bb.size
 replace LC:=LC.up bb
 replace LA:=LA.up bb
 replace oW:=oW.below bb
 replace oX:=oX.below bb
 clear Bw3 bb
 have toP:=World.ownsRow.lt oP
 obtain ⟨aoP, koP, rfl⟩:=oP.form
 rw [hpx] at oP toP ⊢
 go_upto_region 11 with fail
 obtain ⟨w5, hw5⟩ : ∃ y, w4.alloc (.cells #[.int .i64 m,.string s,.slice aoP pl koP] 36) = y:=⟨_, rfl⟩
 have bb : Below w4.heap.size w4 w5:=hw5 ▸ qalloc _ _
 have LX : Loc w5 w4.heap.size #[.int .i64 m,.string s,.slice aoP pl koP]:=hw5 ▸ loc_at w4 _ _ rfl
 have zw5 : w4.heap.size + 1 ≤ w5.heap.size:=by rw [← hw5]; simp
 rw [hw5]
 clear hw5
 have Bw5:=bu Bw4 bb
 have sw5:=bb.size
 replace LC:=LC.up bb
 replace LA:=LA.up bb
 replace oW:=oW.below bb
 replace oX:=oX.below bb
 replace oP:=oP.below bb
 clear Bw4 bb
 have CX:=hide oX.cap
 have RX:=hide fun w' (hb' : Below w5.heap.size w5 w') => (oX.below hb').rpt hw
 have RO:=hide fun w' (hb' : Below w5.heap.size w5 w') => (oP.below hb').ri (by omega)
 have K:=kw (ka (kc2 LC 0 1) (kc3 LX 0 1 2))
 refine wra K (fun bA hHeld => ?_)
 refine tx 0 44 ?_
 refine tx 2 46 ?_
 refine tx 3 47 ?_
 refine rd 1 rfl (fun KK hKK => ?_)
 go_simp
 have hgo:=bA
 refine (TO.out _).mono ?_
 rintro e wz11_1 ⟨rfl, bb⟩
 have bz1 : Below w5.heap.size w5 wz11_1:=bu bA bb
 have sgA:=bz1.size
 clear bA hgo bb hHeld
 refine hKK.out _ _ (K.out _ bz1) (fun hHeld => ?_)
 clear hKK KK
 refine rd 4 rfl (fun KK hKK => ?_)
 go_simp
 have hgo:=bz1
 refine (IM.out _ _ _ (HE.out _ (bu Bw5 hgo)) (RX.out _ hgo) CX.out (RO.out _ hgo)).mono ?_
 rintro e wz11_2 ⟨tG, rfl, oG, bb⟩
 have bz2 : Below w5.heap.size w5 wz11_2:=bu bz1 bb
 clear RX RO CX bz1 hgo bb hHeld
 refine hKK.out _ _ (K.out _ bz2) (fun hHeld => ?_)
 clear hKK KK
 refine tx 5 43 ?_
 refine tx 6 49 ?_
 refine tx 7 50 ?_
 refine tx 8 12 ?_
 refine tx 9 13 ?_
 clear hHeld
 refine wdn ?_
 have bb:=bz2
 have Bwz11_2:=bu Bw5 bb
 have swz11_2:=bb.size
 replace LC:=LC.up bb
 replace LA:=LA.up bb
 replace LX:=LX.up bb
 replace oW:=oW.below bb
 replace oX:=oX.below bb
 replace oP:=oP.below bb
 clear Bw5 bb bz2 K
 obtain ⟨vsoG, oG⟩:=oG
 obtain ⟨aoG, koG, rfl⟩:=OPt.form ⟨_, oG⟩
 replace oG:=oG.opr
 go_wp2_with fail
 refine (ER.out _ _ _ (oG.rpt hrl) (oW.rpt hrl)).mono ?_
 rintro _ w6 ⟨rfl, bb⟩
 have Bw6:=bu Bwz11_2 bb
 have sw6:=bb.size
 replace LC:=LC.up bb
 replace LA:=LA.up bb
 replace LX:=LX.up bb
 replace oW:=oW.below bb
 replace oX:=oX.below bb
 replace oP:=oP.below bb
 replace oG:=oG.below bb
 clear Bwz11_2 bb
 go_wp2_with fail
 refine (TP.out _ (RA.out _ Bw6)).mono ?_
 rintro _ w7 ⟨v3, rfl, oY, bb⟩
 have Bw7:=bu Bw6 bb
 have sw7:=bb.size
 replace LC:=LC.up bb
 replace LA:=LA.up bb
 replace LX:=LX.up bb
 replace oW:=oW.below bb
 replace oX:=oX.below bb
 replace oP:=oP.below bb
 replace oG:=oG.below bb
 clear Bw6 bb
 obtain ⟨aY, kY, rfl⟩:=OPt.form oY
 rw [hpl] at oY ⊢
 go_wp2_with fail
 refine (EQ.out _ _ _ (oX.rpt hw) (oY.rpt hw)).mono ?_
 rintro _ w8 ⟨rfl, bb⟩
 have Bw8:=bu Bw7 bb
 have sw8:=bb.size
 replace LC:=LC.up bb
 replace LA:=LA.up bb
 replace LX:=LX.up bb
 replace oW:=oW.below bb
 replace oX:=oX.below bb
 replace oP:=oP.below bb
 replace oG:=oG.below bb
 clear Bw7 bb oY EQ
 have RO:=hide fun w' (hb' : Below w8.heap.size w8 w') => (oP.below hb').ri (by omega)
 have K:=kw (ka (kc3 LA 0 1 2) (kc3 LX 0 1 2))
 go_upto_region 16 with fail
 refine wra K (fun bA hHeld => ?_)
 refine tx 0 65 ?_
 refine tx 1 66 ?_
 refine rd 2 rfl (fun KK hKK => ?_)
 go_simp
 have hgo:=bA
 refine (TQ.out _ (RP.out _ (bu Bw8 hgo))).mono ?_
 rintro e wz16_1 ⟨u3, rfl, o3, bb⟩
 have bz1 : Below w8.heap.size w8 wz16_1:=bu bA bb
 have R3:=hide (o3.ri (by omega))
 obtain ⟨b3, j3, rfl⟩:=o3.form
 rw [hpx] at R3 ⊢
 clear o3 bA hgo bb hHeld
 refine hKK.out _ _ (K.out _ bz1) (fun hHeld => ?_)
 clear hKK KK
 refine rd 3 rfl (fun KK hKK => ?_)
 go_simp
 have hgo:=bz1
 refine (EP.out _ _ _ (RO.out _ hgo) R3.out).mono ?_
 rintro e wz16_2 ⟨rfl, bb⟩
 have bz2 : Below w8.heap.size w8 wz16_2:=bu bz1 bb
 clear RO R3 bz1 hgo bb hHeld
 refine hKK.out _ _ (K.out _ bz2) (fun hHeld => ?_)
 clear hKK KK
 refine tx 4 69 ?_
 clear hHeld
 refine wdn ?_
 have bb:=bz2
 have Bwz16_2:=bu Bw8 bb
 have swz16_2:=bb.size
 replace LC:=LC.up bb
 replace LA:=LA.up bb
 replace LX:=LX.up bb
 replace oW:=oW.below bb
 replace oX:=oX.below bb
 replace oP:=oP.below bb
 replace oG:=oG.below bb
 clear Bw8 bb bz2 K EP
 go_wp2_with fail
 refine (markPartS_any _ _ _ ps _ 1 _ (by omega) hw (by omega) oX).mono ?_
 rintro _ w9 ⟨rfl, om, k1⟩
 clear oX
 have Bw9:=Below.kp Bwz16_2 k1 Bwz16_2.size (fun k hk => by omega)
 have sw9:=k1.size
 replace LC:=LC.kp k1 (fun h => by omega)
 replace LA:=LA.kp k1 (fun h => by omega)
 replace LX:=LX.kp k1 (fun h => by omega)
 replace oW:=oW.kp k1 (fun j h1 h2 h3 => by omega)
 replace oP:=oP.kp k1 (fun j hj h => by have:=toP j hj; omega)
 replace oG:=oG.kp k1 (fun j h1 h2 h3 => by omega)
 clear Bwz16_2 k1 om
 have hkk : decide (((pend 1 ps : Nat) : Int) + (pl : Int) < 0) = false:=by simp; omega
 obtain ⟨cLX0,cLX1,cLX2⟩:=cc3 LX 0 1 2
 go_wp2_with fail
 refine (markPart_any m s _ _ xs (pend 1 ps) _ (by omega) (by omega) oP).mono ?_
 rintro _ w10 ⟨rfl, om, k2⟩
 rw [hpx]
 clear oP cLX0 cLX1 cLX2
 have Bw10:=Below.kp Bw9 k2 Bw9.size (fun k hk => by have:=toP k hk; omega)
 have sw10:=k2.size
 replace LC:=LC.kp k2 (fun h => by have:=toP _ h; omega)
 replace LA:=LA.kp k2 (fun h => by have:=toP _ h; omega)
 replace LX:=LX.kp k2 (fun h => by have:=toP _ h; omega)
 replace oW:=oW.kp k2 (fun j h1 h2 h3 => by have:=toP _ h3; omega)
 replace oG:=oG.kp k2 (fun j h1 h2 h3 => by have:=toP _ h3; omega)
 clear Bw9 k2 om LX
 go_wp2_with fail
 refine (ER.out _ _ _ (oG.rpt hrl) (oW.rpt hrl)).mono ?_
 rintro _ w11 ⟨rfl, bb⟩
 have Bw11:=bu Bw10 bb
 have sw11:=bb.size
 replace LC:=LC.up bb
 replace LA:=LA.up bb
 replace oW:=oW.below bb
 replace oG:=oG.below bb
 clear Bw10 bb
 go_wp2_with fail
 refine (markPartS_any _ _ _ rl _ 1 _ (by omega) hrl (by omega) oG).mono ?_
 rintro _ w12 ⟨rfl, om, k3⟩
 clear oG
 have Bw12:=Below.kp Bw11 k3 Bw11.size (fun k hk => by omega)
 have sw12:=k3.size
 replace LC:=LC.kp k3 (fun h => by omega)
 replace LA:=LA.kp k3 (fun h => by omega)
 replace oW:=oW.kp k3 (fun j h1 h2 h3 => by omega)
 clear Bw11 k3
 have oG:=om
 clear om
 have hrm:=pmk_small 1 rl hrl
 have hkm : decide (((pend 1 rl : Nat) : Int) < 0) = false:=by simp
 go_wp2_with fail
 refine (heldPartS_any _ rl 1 _ (by omega) (by omega) (oG.rpt hrm)).mono ?_
 rintro _ w13 ⟨rfl, bb⟩
 have Bw13:=bu Bw12 bb
 have sw13:=bb.size
 replace LC:=LC.up bb
 replace LA:=LA.up bb
 replace oW:=oW.below bb
 replace oG:=oG.below bb
 clear Bw12 bb
 have K:=kw (ka (kc2 LC 0 1) (kc3 LA 0 1 2))
 go_upto_region 31 with fail
 refine wra K (fun bA hHeld => ?_)
 refine tx 0 101 ?_
 refine tx 2 103 ?_
 refine tx 4 105 ?_
 refine rd 1 rfl (fun KK hKK => ?_)
 go_simp
 have hgo:=bA
 refine (TO.out _).mono ?_
 rintro e wz31_1 ⟨rfl, bb⟩
 have bz1 : Below w13.heap.size w13 wz31_1:=bu bA bb
 clear bA hgo bb hHeld
 refine hKK.out _ _ (K.out _ bz1) (fun hHeld => ?_)
 clear hKK KK
 refine rd 3 rfl (fun KK hKK => ?_)
 go_simp
 have hgo:=bz1
 refine (TP.out _ (RA.out _ (bu Bw13 hgo))).mono ?_
 rintro e wz31_2 ⟨v5, rfl, o5, bb⟩
 have bz2 : Below w13.heap.size w13 wz31_2:=bu bz1 bb
 have R1:=hide (fun w' (hb : Below wz31_2.heap.size wz31_2 w') => (o5.below hb).rpt hw)
 have C1:=hide (OPt.cap o5)
 obtain ⟨a5, k5, rfl⟩:=OPt.form o5
 rw [hpl] at R1 C1 ⊢
 clear o5 bz1 hgo bb hHeld
 refine hKK.out _ _ (K.out _ bz2) (fun hHeld => ?_)
 clear hKK KK
 refine rd 5 rfl (fun KK hKK => ?_)
 go_simp
 have hgo:=bz2
 refine (TQ.out _ (RP.out _ (bu Bw13 hgo))).mono ?_
 rintro e wz31_3 ⟨u5, rfl, p5, bb⟩
 have bz3 : Below w13.heap.size w13 wz31_3:=bu bz2 bb
 have RQ:=hide (p5.ri (by omega))
 have R1':=hide (R1.out _ (by assumption))
 obtain ⟨b5, j5, rfl⟩:=p5.form
 rw [hpx] at RQ ⊢
 clear p5 bz2 hgo bb hHeld
 refine hKK.out _ _ (K.out _ bz3) (fun hHeld => ?_)
 clear hKK KK
 refine rd 6 rfl (fun KK hKK => ?_)
 go_simp
 have hgo:=bz3
 refine (IM.out _ _ _ (HE.out _ (bu Bw13 hgo)) R1'.out C1.out RQ.out).mono ?_
 rintro e wz31_4 ⟨tH, rfl, oH, bb⟩
 have bz4 : Below w13.heap.size w13 wz31_4:=bu bz3 bb
 clear R1' RQ C1 bz3 hgo bb hHeld
 refine hKK.out _ _ (K.out _ bz4) (fun hHeld => ?_)
 clear hKK KK
 refine tx 7 100 ?_
 refine tx 8 108 ?_
 refine tx 9 109 ?_
 refine tx 10 17 ?_
 refine tx 11 18 ?_
 clear hHeld
 refine wdn ?_
 have bb:=bz4
 have Bwz31_4:=bu Bw13 bb
 have swz31_4:=bb.size
 replace LC:=LC.up bb
 replace LA:=LA.up bb
 replace oW:=oW.below bb
 replace oG:=oG.below bb
 clear Bw13 bb bz4 K
 obtain ⟨aH, kH, rfl⟩:=OPt.form oH
 go_wp2_with fail
 refine (ER.out _ _ _ (oH.rpt hrl) (oW.rpt hrl)).mono ?_
 rintro _ w14 ⟨rfl, bb⟩
 have Bw14:=bu Bwz31_4 bb
 have sw14:=bb.size
 replace LC:=LC.up bb
 replace LA:=LA.up bb
 replace oW:=oW.below bb
 replace oG:=oG.below bb
 clear Bwz31_4 bb oH
 go_wp2_with fail
 refine (heldPartS_any _ rl 1 _ (by omega) (by omega) (oG.rpt hrm)).mono ?_
 rintro _ w15 ⟨rfl, bb⟩
 have Bw15:=bu Bw14 bb
 have sw15:=bb.size
 replace LC:=LC.up bb
 replace LA:=LA.up bb
 replace oW:=oW.below bb
 replace oG:=oG.below bb
 clear Bw14 bb
 go_wp2
 go_ret
 exact ⟨rfl, Bw15⟩
end
section
open Go.RowKit
def cmpI (x y : Int) : Int := if x < y then -1 else if y < x then 1 else 0
def cmpS (s t : ByteArray) : Int := if Op.bytesLess s.toList t.toList = true then -1 else if Op.bytesLess t.toList s.toList = true then 1 else 0
def cmpP (a b : Pt) : Int := if cmpI a.1 b.1 ≠ 0 then cmpI a.1 b.1 else cmpS a.2.1 b.2.1
theorem cmpS_lt (s t : ByteArray) : cmpS s t < 0 ↔ Op.bytesLess s.toList t.toList = true := by
 unfold cmpS
 split
 ·simp_all
 split <;> simp_all
theorem cmpS_eq (s t : ByteArray) : cmpS s t = 0 ↔ s.toList = t.toList := by
 unfold cmpS
 constructor
 ·intro h
  split at h
  ·simp at h
  split at h
  ·simp at h
  rename_i h1 h2
  exact Classical.byContradiction fun hn => h2 (less_total (by simpa using h1) hn)
 intro h
 rw [h]
 simp [less_irrefl]
theorem cmpS_in (s t : ByteArray) : -1 ≤ cmpS s t ∧ cmpS s t ≤ 1 := by
 unfold cmpS
 repeat' split
 all_goals omega
theorem cmpP_lt (a b : Pt) : cmpP a b < 0 ↔ befP a b = true := by
 have hs:=cmpS_lt a.2.1 b.2.1
 unfold cmpP cmpI
 simp only [befP, Bool.or_eq_true, decide_eq_true_eq, Bool.and_eq_true]
 rcases Int.lt_trichotomy a.1 b.1 with h | h | h
 ·simp [h]
 ·simp [h, hs]
 have h1 : ¬ a.1 < b.1:=by omega
 have h2 : ¬ a.1 = b.1:=by omega
 simp [h, h1, h2]
theorem cmpP_eq (a b : Pt) : cmpP a b = 0 ↔ samP a b = true := by
 have hs:=cmpS_eq a.2.1 b.2.1
 unfold cmpP cmpI
 simp only [samP, decide_eq_true_eq, Bool.and_eq_true, beq_iff_eq]
 rcases Int.lt_trichotomy a.1 b.1 with h | h | h
 ·have h2 : ¬ a.1 = b.1:=by omega
  simp [h, h2]
 ·simp [h, hs]
 have h1 : ¬ a.1 < b.1:=by omega
 have h2 : ¬ a.1 = b.1:=by omega
 simp [h, h1, h2]
theorem cmpP_in (a b : Pt) : -1 ≤ cmpP a b ∧ cmpP a b ≤ 1 := by
 have hs:=cmpS_in a.2.1 b.2.1
 unfold cmpP cmpI
 repeat' split
 all_goals omega
def putP (p : Pt) : List Pt → List Pt
 | [] => [p]
 | x :: xs => if samP x p = true then joinP x p :: xs else p :: x :: xs
theorem putP_cons (p x : Pt) (xs : List Pt) : putP p (x :: xs) = if samP x p = true then joinP x p :: xs else p :: x :: xs := rfl
def insP (ps : List Pt) (p : Pt) (k : Nat) : List Pt := ps.take k ++ putP p (ps.drop k)
def PlaceP (ps : List Pt) (p : Pt) (k : Nat) : Prop := k ≤ ps.length ∧ (∀ i, k = i + 1 → befP (ps.getD i zpt) p = true) ∧ (k < ps.length → befP (ps.getD k zpt) p = false)
def Bf (a b : Pt) : Prop := befP a b = true
theorem row_pair (ps : List Pt) : rowP ps = true ↔ ps.Pairwise Bf := by
 induction ps with
 | nil => simp [rowP]
 | cons t ts ih =>
  cases ts with
  | nil => simp [rowP]
  | cons u ts =>
   rw [rowP, Bool.and_eq_true, ih]
   constructor
   ·rintro ⟨h1, h2⟩
    refine List.Pairwise.cons ?_ h2
    intro v hv
    rcases List.mem_cons.1 hv with rfl | hv
    ·exact h1
    exact bef_trans h1 ((List.pairwise_cons.1 h2).1 v hv)
   intro h
   obtain ⟨h1, h2⟩:=List.pairwise_cons.1 h
   exact ⟨h1 u (by simp), h2⟩
theorem put_pair {ps qs : List Pt} {p : Pt} (h : (qs ++ putP p ps).Pairwise Bf) : (qs ++ ps).Pairwise Bf := by
 cases ps with
 | nil =>
  rw [List.append_nil]
  exact (List.pairwise_append.1 h).1
 | cons x xs =>
  rw [putP_cons] at h
  split at h
  ·obtain ⟨h1, h2, h3⟩:=List.pairwise_append.1 h
   obtain ⟨h4, h5⟩:=List.pairwise_cons.1 h2
   refine List.pairwise_append.2 ⟨h1, List.pairwise_cons.2 ⟨fun y hy => h4 y hy, h5⟩, fun a ha b hb => ?_⟩
   rcases List.mem_cons.1 hb with rfl | hb
   ·exact h3 a ha (joinP b p) (by simp)
   exact h3 a ha b (by simp [hb])
  exact h.sublist (List.sublist_append_right [p] (x :: xs) |>.append_left qs)
theorem ins_pair {ps : List Pt} {p : Pt} {k : Nat} (h : (insP ps p k).Pairwise Bf) : ps.Pairwise Bf := by
 have:=put_pair h
 rwa [List.take_append_drop] at this
theorem add_ins (ps : List Pt) (p : Pt) : ∃ k, addP ps p = insP ps p k := by
 induction ps with
 | nil => exact ⟨0, rfl⟩
 | cons x xs ih =>
  unfold addP
  split
  ·obtain ⟨k, hk⟩:=ih
   exact ⟨k + 1, by rw [hk]; simp [insP]⟩
  exact ⟨0, by simp [insP, putP]⟩
theorem ins_add {ps : List Pt} {p : Pt} {k : Nat} (hp : ps.Pairwise Bf) (h : PlaceP ps p k) : insP ps p k = addP ps p := by
 induction ps generalizing k with
 | nil =>
  obtain rfl : k = 0:=by have:=h.1; simp at this; exact this
  rfl
 | cons x xs ih =>
  obtain ⟨h1, h2, h3⟩:=h
  obtain ⟨p1, p2⟩:=List.pairwise_cons.1 hp
  cases k with
  | zero =>
   have h3 : befP x p = false:=by simpa using h3 (by simp)
   simp [insP, putP, addP, h3]
  | succ k =>
   have hk : k ≤ xs.length:=by simpa using h1
   have hx : befP x p = true:=by
    have:=h2 k rfl
    cases k with
    | zero => simpa using this
    | succ j =>
     have hj : j < xs.length:=by omega
     have hm : xs.getD j zpt ∈ xs:=pt_mem hj
     exact bef_trans (p1 _ hm) (by simpa using this)
   have:=ih p2 (k:=k) ⟨hk, fun i hi => by have:=h2 (i + 1) (by omega); simpa using this, fun hl => by have:=h3 (by simpa using hl); simpa using this⟩
   rw [addP, if_pos hx, ← this]
   simp [insP]
theorem ins_mem {ps : List Pt} {p q : Pt} {k : Nat} (h : q ∈ insP ps p k) : q ∈ ps ∨ q = p ∨ ∃ x ∈ ps, samP x p = true ∧ q = joinP x p := by
 unfold insP at h
 rcases List.mem_append.1 h with h | h
 ·exact .inl (List.mem_of_mem_take h)
 have hd : ∀ y ∈ ps.drop k, y ∈ ps:=fun y hy => List.mem_of_mem_drop hy
 generalize ps.drop k = ds at *
 cases ds with
 | nil => simp [putP] at h; exact .inr (.inl h)
 | cons x xs =>
  rw [putP_cons] at h
  split at h
  ·rename_i hs
   rcases List.mem_cons.1 h with rfl | h
   ·exact .inr (.inr ⟨x, hd x (by simp), hs, rfl⟩)
   exact .inl (hd q (by simp [h]))
  rcases List.mem_cons.1 h with rfl | h
  ·exact .inr (.inl rfl)
  exact .inl (hd q h)
theorem isNaN_i (x : Int) (w : World) : Calls Tryz.prog 114 #[.int .i64 x] w fun e w' => e = .returned (.bool false) ∧ w' = w := by
 go_enter Tryz.func114, Tryz.ntmps114
 go_wp2
 go_ret
 exact ⟨by simp, rfl⟩

theorem compare_i (x y : Int) (w : World) : Calls Tryz.prog 90 #[.int .i64 x,.int .i64 y] w fun e w' => e = .returned (.int .i64 (cmpI x y)) ∧ w' = w := by
 have NN:=hide isNaN_i
 unfold cmpI
 by_cases h1 : x < y
 ·rw [if_pos h1]
  go_enter Tryz.func90, Tryz.ntmps90
  go_wp2_with (first | (go_at_call 114; refine (NN.out _ _).mono ?_; rintro e w' ⟨rfl, rfl⟩))
  go_ret
  exact ⟨rfl, rfl⟩
 rw [if_neg h1]
 by_cases h2 : y < x
 ·rw [if_pos h2]
  go_enter Tryz.func90, Tryz.ntmps90
  go_wp2_with (first | (go_at_call 114; refine (NN.out _ _).mono ?_; rintro e w' ⟨rfl, rfl⟩))
  go_ret
  exact ⟨rfl, rfl⟩
 rw [if_neg h2]
 go_enter Tryz.func90, Tryz.ntmps90
 go_wp2_with (first | (go_at_call 114; refine (NN.out _ _).mono ?_; rintro e w' ⟨rfl, rfl⟩))
 go_ret
 exact ⟨rfl, rfl⟩

theorem isNaN_s (s : ByteArray) (w : World) : Calls Tryz.prog 123 #[.string s] w fun e w' => e = .returned (.bool false) ∧ w' = w := by
 go_enter Tryz.func123, Tryz.ntmps123
 go_wp2
 go_ret
 exact ⟨by simp, rfl⟩

theorem compare_s (s t : ByteArray) (w : World) : Calls Tryz.prog 110 #[.string s,.string t] w fun e w' => e = .returned (.int .i64 (cmpS s t)) ∧ w' = w := by
 have NN:=hide isNaN_s
 unfold cmpS
 by_cases h1 : Op.bytesLess s.toList t.toList = true
 ·rw [if_pos h1]
  go_enter Tryz.func110, Tryz.ntmps110
  go_wp2_with (first | (go_at_call 123; refine (NN.out _ _).mono ?_; rintro e w' ⟨rfl, rfl⟩))
  go_ret
  exact ⟨rfl, rfl⟩
 rw [if_neg h1]
 have h1 : Op.bytesLess s.toList t.toList = false:=by simpa using h1
 by_cases h2 : Op.bytesLess t.toList s.toList = true
 ·rw [if_pos h2]
  have h3 : (s.toList == t.toList) = false:=by
   simp only [beq_eq_false_iff_ne]; intro e; rw [e, less_irrefl] at h2; cases h2
  go_enter Tryz.func110, Tryz.ntmps110
  go_wp2_with (first | (go_at_call 123; refine (NN.out _ _).mono ?_; rintro e w' ⟨rfl, rfl⟩))
  go_ret
  exact ⟨rfl, rfl⟩
 rw [if_neg h2]
 have h2 : Op.bytesLess t.toList s.toList = false:=by simpa using h2
 have h3 : (s.toList == t.toList) = true:=by
  rw [beq_iff_eq]; exact Classical.byContradiction fun e => by have := less_total h1 e; rw [h2] at this; cases this
 go_enter Tryz.func110, Tryz.ntmps110
 go_wp2_with (first | (go_at_call 123; refine (NN.out _ _).mono ?_; rintro e w' ⟨rfl, rfl⟩))
 go_ret
 exact ⟨rfl, rfl⟩

theorem or_two (a b : Int) (g : Nat) (w : World) (h0 : w.cell? ⟨g, 0, none⟩ = some (.int .i64 a)) (h1 : w.cell? ⟨g, 1, none⟩ = some (.int .i64 b)) :
 Calls Tryz.prog 109 #[.slice (some ⟨g, 0, none⟩) 2 2] w fun e w' => e = .returned (.int .i64 (if a ≠ 0 then a else b)) ∧ w' = w := by
 by_cases ha : a = 0
 ·have e : (if a ≠ 0 then a else b) = b:=by simp [ha]
  rw [e]
  subst ha
  clear e
  by_cases hb : b = 0
  ·subst hb
   go_enter Tryz.func109, Tryz.ntmps109
   go_wp2
   refine wp_loop_rounds 3 ?_
   rw [rounds_succ]
   go_wp2
   rw [rounds_succ]
   go_wp2
   rw [rounds_succ]
   go_wp2
   go_ret
   exact ⟨rfl, rfl⟩
  go_enter Tryz.func109, Tryz.ntmps109
  go_wp2
  refine wp_loop_rounds 2 ?_
  rw [rounds_succ]
  go_wp2
  rw [rounds_succ]
  go_wp2
  go_ret
  exact ⟨rfl, rfl⟩
 have e : (if a ≠ 0 then a else b) = a:=by simp [ha]
 rw [e]
 clear e
 go_enter Tryz.func109, Tryz.ntmps109
 go_wp2
 refine wp_loop_rounds 1 ?_
 rw [rounds_succ]
 go_wp2
 go_ret
 exact ⟨rfl, rfl⟩
end
end Go.Proofs.YtjkcphnohhpihaaGreatDoor
