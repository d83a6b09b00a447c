/- Lemmas; their conditions stand in each statement. -/
import Derived.Test.YtjkcphnohhpihaaGreatDoorPPAU
set_option maxRecDepth 100000
set_option maxHeartbeats 8000000
set_option linter.unusedSectionVars false
namespace Go.Proofs.YtjkcphnohhpihaaGreatDoor
section
open Go.RowKit
variable [∀ (n : Int) (s : List Int), Decidable (OkL n s)]
variable [∀ (a b c d : Int), Decidable (Ok4 a b c d)]
variable [∀ (n f : Int), Decidable (COk n f)]
variable [∀ (a b c d : Nat), Decidable (okN a b c d)]
variable [∀ (last : Int) (s : St), Decidable (GoodSt last s)]
variable [∀ (x : T4), Decidable (OkT x)]
theorem ins_end {ps : List Pt} {p : Pt} {k : Nat} (h : ps.length ≤ k) : ps.take k ++ [p] ++ [] = insP ps p k := by
 unfold insP
 rw [List.drop_eq_nil_of_le h]
 simp [putP]
theorem ins_yes {ps : List Pt} {p : Pt} {k : Nat} (h : k < ps.length) (hs : samP (ps.getD k zpt) p = true) : ps.take k ++ [joinP (ps.getD k zpt) p] ++ (ps.drop k).drop 1 = insP ps p k := by
 unfold insP
 rw [drop_at h, putP_cons, if_pos hs]
 simp
theorem ins_no {ps : List Pt} {p : Pt} {k : Nat} (h : k < ps.length) (hs : samP (ps.getD k zpt) p = false) : ps.take k ++ [p] ++ ps.drop k = insP ps p k := by
 unfold insP
 rw [drop_at h, putP_cons, if_neg (by rw [hs]; simp)]
 simp
theorem getD_drop (ps : List Pt) (k j : Nat) : (ps.drop k).getD j zpt = ps.getD (k + j) zpt := by simp
theorem getD_dropV (us : List Value) (k j : Nat) : (us.drop k).getD j (.slice none 0 0) = us.getD (k + j) (.slice none 0 0) := by simp

theorem withPart_any (ao : Option Addr) (ca : Nat) (ps : List Pt) (m : Int) (s : ByteArray) (ua : Option Addr) (uc : Nat) (xs : List Int) (a : Addr) (w : World) (hl : ps.length ≤ 1048577) (hca : ps.length ≤ ca) (hx : xs.length ≤ 1048576) (hw : ∀ q ∈ ps, q.2.1.size ≤ 281474976710656 ∧ q.2.2.length ≤ 1048576 ∧ WfL q.2.2) (wx : WfL xs) (h : RPt w (.slice ao ps.length ca) ps) (hu : RI w (.slice ua xs.length uc) xs) (G : Gv w a) :
 Calls Tryz.prog 48 #[.slice ao ps.length ca, qv m s (.slice ua xs.length uc)] w fun e w' => ∃ (r : Value) (k : Nat), e = .returned r ∧ PlaceP ps (m, s, xs) k ∧ RPt w' r (insP ps (m, s, xs) k) ∧ Below w.heap.size w w' := by
 have hgl:=G.lt
 obtain ⟨us, PV0, EU0⟩:=h.px
 have HPV:=hide PV0
 have HEU:=hide EU0
 have HUL:=hide PV0.1
 have HG:=hide fun w' (hb : Below w.heap.size w w') => G.below hb hgl
 have HU:=hide fun w' (hb : Below w.heap.size w w') => hu.below hb
 have HW:=hide hw
 have JP0 : Hid (∀ k (_ : k < ps.length) w' (_ : Below w.heap.size w w'), Calls Tryz.prog 58 #[qv (ps.getD k zpt).1 (ps.getD k zpt).2.1 (us.getD k (.slice none 0 0)), qv m s (.slice ua xs.length uc)] w' fun e w2 => ∃ r, e = .returned (.tuple #[qv (if samP (ps.getD k zpt) (m, s, xs) then (ps.getD k zpt).1 else 0) (if samP (ps.getD k zpt) (m, s, xs) then (ps.getD k zpt).2.1 else ⟨#[]⟩) r, if samP (ps.getD k zpt) (m, s, xs) then .nilIface else apV a]) ∧ OI w2 w'.heap.size r (if samP (ps.getD k zpt) (m, s, xs) then joinL (ps.getD k zpt).2.2 xs else []) ∧ Below w'.heap.size w' w2):=hide fun k hk w' hb => by
  have hq:=hw _ (pt_mem hk)
  exact joinParts_any (ps.getD k zpt).1 m (ps.getD k zpt).2.1 s (us.getD k (.slice none 0 0)) (.slice ua xs.length uc) (ps.getD k zpt).2.2 xs a w' (by omega) hq.1 hq.2.2 wx ((EU0 k hk).below hb) (hu.below hb) (G.below hb hgl)
 have HJL : Hid (∀ k, k < ps.length → (joinL (ps.getD k zpt).2.2 xs).length ≤ 4194304):=hide fun k hk => by
  have:=join_size (ps.getD k zpt).2.2 xs
  have:=(hw _ (pt_mem hk)).2.1
  omega
 obtain ⟨w0, hw0, Bw0, P, _⟩:=bx1 w #[.int .i64 m,.string s,.slice ua xs.length uc] 36
 have SE:=hide (searchP (.slice ao ps.length ca) ps m s ua xs.length uc xs w0 (by omega) (h.below Bw0))
 obtain ⟨n, hn⟩ : ∃ n, ps.length = n:=⟨_, rfl⟩
 have Hn:=hide hn
 obtain ⟨xl, hxl⟩ : ∃ n, xs.length = n:=⟨_, rfl⟩
 rw [hn] at hl hca SE HPV ⊢
 rw [hxl] at SE P hw0 HU JP0 ⊢
 have p0:=P.cell 0 rfl
 have p1:=P.cell 1 rfl
 have p2:=P.cell 2 rfl
 clear h hu G PV0 EU0 hw wx hn hxl hx
 go_enter Tryz.func48, Tryz.ntmps48
 go_wp2_with fail
 clear hw0 p0 p1 p2
 refine SE.out.mono ?_
 rintro e w1 ⟨k, b, rfl, HP, b1⟩
 have Bw1:=bu Bw0 b1
 replace P:=P.up b1
 replace HP:=hide HP
 have hk : k ≤ n:=by have:=HP.out.1; have:=Hn.out; omega
 clear b1 Bw0 SE
 have CA : ∀ w, (Instr.slice 30 (.slice ao n ca) none (some (.int .i64 (k : Int))) (some (.int .i64 (k : Int)))).run Tryz.prog w = .ok (.slice ao k k) w:=fun w => cut3_to ao n ca k w (by omega)
 have CB : ∀ w, (Instr.slice 30 (.slice ao n ca) (some (.int .i64 (k : Int))) none none).run Tryz.prog w = .ok (.slice (if ca = k then ao else ao.map (·.add (k * 3))) (n - k) (ca - k)) w:=fun w => cut3_from ao n ca k w hk
 have HB : Hid (∀ g off, ao = some ⟨g, off, none⟩ → k < n → (if ca = k then ao else ao.map (·.add (k * 3))) = some ⟨g, off + k * 3, none⟩):=hide fun g off e hlt => by
  rw [if_neg (by omega), e]
  have : ((⟨g, off, none⟩ : Addr).add (k * 3)) = ⟨g, off + k * 3, none⟩:=by unfold Addr.add; split <;> simp_all
  simp [this]
 have HPB : Hid (∀ cap', PX w (.slice (if ca = k then ao else ao.map (·.add (k * 3))) (n - k) cap') (ps.drop k) (us.drop k)):=hide fun cap' => HPV.out.drop k hk cap' HB.out
 generalize (if ca = k then ao else ao.map (·.add (k * 3))) = bo at *
 obtain ⟨nk, hnk⟩ : ∃ x, n - k = x:=⟨_, rfl⟩
 obtain ⟨ck, hck⟩ : ∃ x, ca - k = x:=⟨_, rfl⟩
 have hck2 : nk ≤ ck:=by omega
 have hnk2 : nk ≤ n:=by omega
 rw [hnk] at CB HPB
 rw [hck] at CB
 have HNK:=hide hnk
 have hnk3 : nk = 0 ∨ k < n:=by omega
 clear hnk hck
 go_upto_region 2 with fail
 refine wp_region_noPanic ?_
 refine wp_region_held_drew (S := (fun _ => True)) (by kernel_rfl) trivial (fun hHeld => ?_)
 refine tx 0 17 ?_
 refine tx 1 18 ?_
 refine tx 2 19 ?_
 refine tx 3 20 ?_
 refine tx 4 21 ?_
 refine tx 5 22 ?_
 refine tx 6 23 ?_
 refine tx 7 7 ?_
 refine tx 8 8 ?_
 clear hHeld
 refine wdn ?_
 obtain ⟨w2, hw2⟩ : ∃ y, w1.drew = y:=⟨_, rfl⟩
 have bb : Below w1.heap.size w1 w2:=hw2 ▸ Below.drew (Below.refl _ _)
 rw [hw2]
 have Bw2:=bu Bw1 bb
 replace P:=P.up bb
 clear hw2 bb Bw1 CA CB
 by_cases hz : nk = 0
 ·subst hz
  have hkn : Hid (ps.length ≤ k):=hide (by have:=Hn.out; have:=HNK.out; omega)
  have HBE : Hid (PX w (.slice bo 0 ck) ([] : List Pt) ([] : List Value)):=hide ⟨rfl, bo, ck, rfl, .inl rfl⟩
  have hd : decide (((0 : Nat) : Int) > 0) = false:=by simp
  clear JP0 HJL HPB HB
  have p0:=P.cell 0 rfl
  have p1:=P.cell 1 rfl
  have p2:=P.cell 2 rfl
  have sW:=Bw2.size
  have EUW : Hid (∀ k, k < ps.length → RI w2 (us.getD k (.slice none 0 0)) (ps.getD k zpt).2.2):=hide fun k hk => (HEU.out k hk).below Bw2
  have RUW:=hide (HU.out _ Bw2)
  have EQW : Hid (∀ j, j < (([] : List Pt)).length → RI w2 ((([] : List Value)).getD j (.slice none 0 0)) ((([] : List Pt)).getD j zpt).2.2):=hide (fun j hj => by simp at hj)
  obtain ⟨w3, hw3⟩ : ∃ y, w2.alloc (.cells #[.int .i64 m,.string s,.slice ua xl uc] 36) = y:=⟨_, rfl⟩
  have b3 : Below w2.heap.size w2 w3:=hw3 ▸ qalloc _ _
  have L3 : Loc w3 w2.heap.size #[.int .i64 m,.string s,.slice ua xl uc]:=hw3 ▸ loc_at w2 _ _ rfl
  have d0:=L3.cell 0 rfl
  have d1:=L3.cell 1 rfl
  have d2:=L3.cell 2 rfl
  have B3:=Bw2.trans (b3.mono sW)
  have PL3:=hide (HPV.out.below B3)
  have PB3 : Hid (PX w3 (.slice bo 0 ck) (([] : List Pt)) (([] : List Value))):=hide (HBE.out.below B3)
  have INS:=hide (ins_end (p:=(m, s, xs)) hkn.out)
  have s3:=b3.size
  have hlq : (([] : List Pt)).length ≤ n:=by have:=Hn.out; simp
  skip
  skip
  skip
  go_wp2_with (first
   | (at_builtin; clear hw3 p0 p1 p2; refine append_first rfl _ _ rfl w2 ao n ca k ps us w2.heap.size _ _ _ xs rfl rfl PL3.out hk EUW.out d0 d1 d2 RUW.out (by have := Hn.out; omega) s3 ?_; intro v4 w4 X4 g4
      have b4 : Below w2.heap.size w2 w4:=b3.grown g4 s3 (fun j e => by cases e)
      have b34 : Below w3.heap.size w3 w4:=(Below.refl _ _).grown g4 (Nat.le_refl _) (fun j e => by cases e)
      have PB4:=hide (PB3.out.below b34)
      skip
      obtain ⟨a4, c4, hv4⟩:=X4.form
      have hle : (ps.take k ++ [(m, s, xs)]).length ≤ n + 1:=by simp; omega
      generalize ps.take k ++ [(m, s, xs)] = es at *
      subst hv4
      replace X4:=hide X4
      clear b34 PB3 g4 PL3 d0 d1 d2)
   | (at_builtin; refine append_xp rfl _ _ rfl w2 (.slice a4 es.length c4) (.slice bo 0 ck) es [] _ [] rfl rfl X4.out PB4.out EQW.out (by omega) b4.size ?_; intro v5 w5 X5 g5
      have r5:=World.ownsRow.lt X4.out.row
      have b5:=b4.grown g5 b4.size (fun j e => (r5 j e).1)
      have B5:=Bw2.trans (b5.mono sW)
      have R5:=X5.rpt b5
      rw [INS.out] at R5
      obtain ⟨a5, c5, hv5⟩:=R5.form
      subst hv5
      replace R5:=hide R5
      clear r5 g5 X5 X4 PB4 b4))
  go_ret
  first | exact ⟨_, k, rfl, HP.out, R5.out, B5⟩ | exact ⟨_, rfl, k, HP.out, R5.out, B5⟩
 have hlt : k < n:=by omega
 have hd : decide ((nk : Int) > 0) = true:=by simp; omega
 have hkx : k < ps.length:=by have:=Hn.out; omega
 have hPl:=P.lt
 have ES:=hide (fun hs => ins_yes (ps:=ps) (p:=(m, s, xs)) hkx hs)
 have EN:=hide (fun hs => ins_no (ps:=ps) (p:=(m, s, xs)) hkx hs)
 have JP:=hide (JP0.out k hkx)
 have JL:=hide (HJL.out k hkx)
 obtain ⟨g, off, hao, hcl⟩ : ∃ g off, ao = some ⟨g, off, none⟩ ∧ ∀ j u, (pcells ((ps.map phd).zip us))[j]? = some u → w.cell? ⟨g, off + j, none⟩ = some u:=by
  obtain ⟨_, ao', cap0, e, h⟩:=HPV.out
  cases e
  rcases h with h | h
  ·rw [h] at hkx; simp at hkx
  exact h
 have hbo:=HB.out g off hao hlt
 subst hbo
 have PC:=pcells_get ((ps.map phd).zip us) k
 rw [pzip_get ps us HUL.out k hkx] at PC
 have hzl : k < ((ps.map phd).zip us).length:=by simp [HUL.out]; omega
 have x0:=hcl _ _ ((PC 0 hzl (by omega)).trans rfl)
 have x1:=hcl _ _ ((PC 1 hzl (by omega)).trans rfl)
 have x2:=hcl _ _ ((PC 2 hzl (by omega)).trans rfl)
 obtain ⟨xa, xc, hxv⟩:=(HEU.out k hkx).form
 rw [hxv] at x2 JP
 have lg:=cell_lt x0
 have x0:=(Bw2.cell (p:=⟨g, off + (k * 3 + 0), none⟩) lg).trans x0
 have x1:=(Bw2.cell (p:=⟨g, off + (k * 3 + 1), none⟩) lg).trans x1
 have x2:=(Bw2.cell (p:=⟨g, off + (k * 3 + 2), none⟩) lg).trans x2
 rw [show off + (k * 3 + 0) = off + k * 3 by omega] at x0
 rw [show off + (k * 3 + 1) = off + k * 3 + 1 by omega] at x1
 rw [show off + (k * 3 + 2) = off + k * 3 + 2 by omega] at x2
 simp only [phd] at x0 x1
 obtain ⟨sm, hsm⟩ : ∃ b, samP (ps.getD k zpt) (m, s, xs) = b:=⟨_, rfl⟩
 rw [hsm] at ES EN JP
 have ej : Hid (sm = true → joinP (ps.getD k zpt) (m, s, xs) = (if sm = true then (ps.getD k zpt).1 else 0, if sm = true then (ps.getD k zpt).2.1 else ⟨#[]⟩, if sm = true then joinL (ps.getD k zpt).2.2 xs else [])):=hide fun h => by subst h; rfl
 have JL2 : (if sm = true then joinL (ps.getD k zpt).2.2 xs else []).length ≤ 4194304:=by split; exact JL.out; simp
 have IS : Hid (∀ w, Calls Tryz.prog 59 #[if sm = true then .nilIface else apV a, apV a] w fun e w' => e = .returned (.bool (!sm)) ∧ Below w.heap.size w w'):=hide fun w => by
  cases sm
  ·exact (is_same a w).mono fun _ _ h => ⟨h.1, h.2 ▸ Below.refl _ _⟩
  exact (is_nil a w).mono fun _ _ h => ⟨h.1, h.2 ▸ Below.refl _ _⟩
 generalize (if sm = true then (ps.getD k zpt).1 else 0) = m1 at *
 generalize (if sm = true then (ps.getD k zpt).2.1 else ⟨#[]⟩) = s1 at *
 generalize (if sm = true then joinL (ps.getD k zpt).2.2 xs else []) = x1' at *
 generalize (if sm = true then Value.nilIface else apV a) = ev at *
 generalize joinP (ps.getD k zpt) (m, s, xs) = jp at *
 generalize (ps.getD k zpt).1 = ym at *
 generalize (ps.getD k zpt).2.1 = ys at *
 generalize (ps.getD k zpt).2.2.length = yl at *
 clear hcl PC hzl hxv hsm JP0 HJL JL hkx HB hao lg hnk3
 have K : Hid (∀ w', Below w2.heap.size w2 w' → (fun w' => Below w2.heap.size w2 w' ∧ (w'.cell? ⟨w.heap.size, 0, none⟩ = some (.int .i64 m) ∧ w'.cell? ⟨w.heap.size, 1, none⟩ = some (.string s) ∧ w'.cell? ⟨w.heap.size, 2, none⟩ = some (.slice ua xl uc)) ∧ w'.cell? ⟨g, off + k * 3, none⟩ = some (.int .i64 ym) ∧ w'.cell? ⟨g, off + k * 3 + 1, none⟩ = some (.string ys) ∧ w'.cell? ⟨g, off + k * 3 + 2, none⟩ = some (.slice xa yl xc)) w'):=hide fun w' hb' => ⟨hb', ⟨(P.up hb').cell 0 rfl, (P.up hb').cell 1 rfl, (P.up hb').cell 2 rfl⟩, (hb'.cell (p:=⟨g, off + k * 3, none⟩) (cell_lt x0)).trans x0, (hb'.cell (p:=⟨g, off + k * 3 + 1, none⟩) (cell_lt x1)).trans x1, (hb'.cell (p:=⟨g, off + k * 3 + 2, none⟩) (cell_lt x2)).trans x2⟩
 go_upto_region 4 with fail
 go_cut [9, 10] (fun c d1 wx => ∃ h uu, c = .pointer (some ⟨h, 0, none⟩) ∧ d1 = ev ∧ w2.heap.size ≤ h ∧ h < wx.heap.size ∧ Loc wx h #[.int .i64 m1,.string s1, uu] ∧ OI wx w2.heap.size uu x1' ∧ (∀ j, uu.ownBlock = some j → w2.heap.size ≤ j ∧ j < wx.heap.size ∧ j ≠ h) ∧ Below w2.heap.size w2 wx)
 case first =>
  refine wrn K (Below.drew (Below.refl _ _)) (fun hHeld => ?_)
  obtain ⟨wd, hd⟩ : ∃ wd, w2.drew = wd:=⟨_, rfl⟩
  have bd : Below w2.heap.size w2 wd:=hd ▸ Below.drew (Below.refl _ _)
  have szd:=bd.size
  rw [hd] at hHeld ⊢
  clear hd
  refine tx 0 28 ?_
  refine tx 3 31 ?_
  refine tx 1 29 ?_
  refine tx 2 30 ?_
  refine wpAnyH_ready (rs := [4, 8]) (by kernel_rfl) (by simp) (AllReadyH.cons rfl (fun KK hKK => ?_) (AllReadyH.cons rfl (fun KK hKK => ?_) AllReadyH.nil))
  ·go_simp
   have hgo:=bd
   refine (JP.out _ (bu Bw2 hgo)).mono ?_
   rintro e wc4_1 ⟨r, rfl, oJ, bnew⟩
   have bc4_2 : Below w2.heap.size w2 wc4_1:=bu bd bnew
   have zzwc4_1:=bnew.size
   have tl:=World.ownsRow.lt oJ
   obtain ⟨aa, kk, rfl⟩:=oJ.form
   clear hHeld bnew hgo
   refine hKK.out _ _ (K.out _ bc4_2) (fun hHeld => ?_)
   clear hKK KK
   refine tx 5 27 ?_
   refine tx 6 33 ?_
   refine tx 7 34 ?_
   refine rd 8 rfl (fun KK hKK => ?_)
   go_simp
   obtain ⟨wl4_3, hwl4_3⟩ : ∃ x, wc4_1.alloc (.cells #[.int .i64 0,.string ⟨#[]⟩,.slice none 0 0] 36) = x:=⟨_, rfl⟩
   have cbl4_4 : Below wc4_1.heap.size wc4_1 wl4_3:=hwl4_3 ▸ qalloc _ _
   have bl4_4 : Below w2.heap.size w2 wl4_3:=bu bc4_2 cbl4_4
   have zzwl4_3 : wl4_3.heap.size = wc4_1.heap.size + 1:=by rw [← hwl4_3]; simp
   have lg : Loc wl4_3 wc4_1.heap.size #[.int .i64 0,.string ⟨#[]⟩,.slice none 0 0]:=hwl4_3 ▸ loc_at wc4_1 _ _ rfl
   replace oJ:=oJ.below cbl4_4
   rw [hwl4_3]
   clear hHeld hwl4_3 cbl4_4
   refine hKK.out _ _ (K.out _ bl4_4) (fun hHeld => ?_)
   clear hKK KK
   have q0:=lg.cell 0 rfl
   have q1:=lg.cell 1 rfl
   have q2:=lg.cell 2 rfl
   have FG:=lg.frozen
   refine rd 9 rfl (fun KK hKK => ?_)
   go_simp
   have bs : Below w2.heap.size w2 (((wl4_3.setCell ⟨wc4_1.heap.size, 0, none⟩ (.int .i64 m1)).setCell ⟨wc4_1.heap.size, 1, none⟩ (.string s1)).setCell ⟨wc4_1.heap.size, 2, none⟩ (.slice aa (x1').length kk)):=(Below.set (Below.set (Below.set bl4_4 _ _ (by omega)) _ _ (by omega)) _ _ (by omega))
   clear hHeld
   refine hKK.out _ _ (K.out _ bs) (fun hHeld => ?_)
   clear hKK KK
   refine tx 10 10 ?_
   clear hHeld
   refine wdn ?_
   go_wp2_with fail
   go_meet
   have k3 : Kp wl4_3 (((wl4_3.setCell ⟨wc4_1.heap.size, 0, none⟩ (.int .i64 m1)).setCell ⟨wc4_1.heap.size, 1, none⟩ (.string s1)).setCell ⟨wc4_1.heap.size, 2, none⟩ (.slice aa (x1').length kk)) (fun k => k = wc4_1.heap.size):=((set_kp _ _ _ _).trans (set_kp _ _ _ _)).trans (set_kp _ _ _ _)
   have ll:=lg.lt
   exact ⟨_, _, rfl, rfl, by omega, by simpa using ll, (((lg.set 0 _ rfl).set 1 _ rfl).set 2 _ rfl), (oJ.kp k3 (fun j hj e => by have := tl j hj; omega)).mono (by omega), fun j hj => by have := tl j hj; simp; omega, bs⟩
  go_simp
  obtain ⟨wl4_5, hwl4_5⟩ : ∃ x, wd.alloc (.cells #[.int .i64 0,.string ⟨#[]⟩,.slice none 0 0] 36) = x:=⟨_, rfl⟩
  have cbl4_6 : Below wd.heap.size wd wl4_5:=hwl4_5 ▸ qalloc _ _
  have bl4_6 : Below w2.heap.size w2 wl4_5:=bu bd cbl4_6
  have zzwl4_5 : wl4_5.heap.size = wd.heap.size + 1:=by rw [← hwl4_5]; simp
  have lg : Loc wl4_5 wd.heap.size #[.int .i64 0,.string ⟨#[]⟩,.slice none 0 0]:=hwl4_5 ▸ loc_at wd _ _ rfl
  rw [hwl4_5]
  clear hHeld hwl4_5 cbl4_6
  refine hKK.out _ _ (K.out _ bl4_6) (fun hHeld => ?_)
  clear hKK KK
  refine rd 4 rfl (fun KK hKK => ?_)
  go_simp
  have hgo:=bl4_6
  refine (JP.out _ (bu Bw2 hgo)).mono ?_
  rintro e wc4_7 ⟨r, rfl, oJ, bnew⟩
  have bc4_8 : Below w2.heap.size w2 wc4_7:=bu bl4_6 bnew
  have zzwc4_7:=bnew.size
  replace lg:=lg.up bnew
  have tl:=World.ownsRow.lt oJ
  obtain ⟨aa, kk, rfl⟩:=oJ.form
  clear hHeld bnew hgo
  refine hKK.out _ _ (K.out _ bc4_8) (fun hHeld => ?_)
  clear hKK KK
  refine tx 5 27 ?_
  refine tx 6 33 ?_
  refine tx 7 34 ?_
  have q0:=lg.cell 0 rfl
  have q1:=lg.cell 1 rfl
  have q2:=lg.cell 2 rfl
  have FG:=lg.frozen
  refine rd 9 rfl (fun KK hKK => ?_)
  go_simp
  have bs : Below w2.heap.size w2 (((wc4_7.setCell ⟨wd.heap.size, 0, none⟩ (.int .i64 m1)).setCell ⟨wd.heap.size, 1, none⟩ (.string s1)).setCell ⟨wd.heap.size, 2, none⟩ (.slice aa (x1').length kk)):=(Below.set (Below.set (Below.set bc4_8 _ _ (by omega)) _ _ (by omega)) _ _ (by omega))
  clear hHeld
  refine hKK.out _ _ (K.out _ bs) (fun hHeld => ?_)
  clear hKK KK
  refine tx 10 10 ?_
  clear hHeld
  refine wdn ?_
  go_wp2_with fail
  go_meet
  have k3 : Kp wc4_7 (((wc4_7.setCell ⟨wd.heap.size, 0, none⟩ (.int .i64 m1)).setCell ⟨wd.heap.size, 1, none⟩ (.string s1)).setCell ⟨wd.heap.size, 2, none⟩ (.slice aa (x1').length kk)) (fun k => k = wd.heap.size):=((set_kp _ _ _ _).trans (set_kp _ _ _ _)).trans (set_kp _ _ _ _)
  have ll:=lg.lt
  exact ⟨_, _, rfl, rfl, by omega, by simpa using ll, (((lg.set 0 _ rfl).set 1 _ rfl).set 2 _ rfl), (oJ.kp k3 (fun j hj e => by have := tl j hj; omega)).mono (by omega), fun j hj => by have := tl j hj; simp; omega, bs⟩
 case rest =>
 clear K
 obtain ⟨wq4, hwq⟩ : ∃ x, x = wc:=⟨_, rfl⟩
 subst hwq
 obtain ⟨hJ, vJ, rfl, rfl, gJ, eJ, J, oJ, toJ, bb⟩:=hcut
 obtain ⟨aoJ, koJ, rfl⟩:=oJ.form
 have Bwq4:=bu Bw2 bb
 have swq4:=bb.size
 replace P:=P.up bb
 clear Bw2 bb x0 x1 x2 JP
 obtain ⟨jl, hjl⟩ : ∃ l, x1'.length = l:=⟨_, rfl⟩
 replace hjl:=hide hjl
 skip
 have cg:=(HG.out _ Bwq4).cell 0 rfl
 go_wp2_with fail
 refine (IS.out _).mono ?_
 rintro _ w1 ⟨rfl, bb⟩
 have Bw1:=bu Bwq4 bb
 have sw1:=bb.size
 replace P:=P.up bb
 replace J:=J.up bb
 replace oJ:=oJ.below bb
 clear Bwq4 bb cg IS
 cases sm with
 | false =>
  have INSE:=hide (EN.out rfl)
  clear ES EN ej J oJ toJ
  have p0:=P.cell 0 rfl
  have p1:=P.cell 1 rfl
  have p2:=P.cell 2 rfl
  have sW:=Bw1.size
  have EUW : Hid (∀ k, k < ps.length → RI w1 (us.getD k (.slice none 0 0)) (ps.getD k zpt).2.2):=hide fun k hk => (HEU.out k hk).below Bw1
  have RUW:=hide (HU.out _ Bw1)
  have EQW : Hid (∀ j, j < (ps.drop k).length → RI w1 ((us.drop k).getD j (.slice none 0 0)) ((ps.drop k).getD j zpt).2.2):=hide (fun j hj => by rw [getD_dropV, getD_drop]; exact EUW.out _ (by simp at hj; omega))
  obtain ⟨w3, hw3⟩ : ∃ y, w1.alloc (.cells #[.int .i64 m,.string s,.slice ua xl uc] 36) = y:=⟨_, rfl⟩
  have b3 : Below w1.heap.size w1 w3:=hw3 ▸ qalloc _ _
  have L3 : Loc w3 w1.heap.size #[.int .i64 m,.string s,.slice ua xl uc]:=hw3 ▸ loc_at w1 _ _ rfl
  have d0:=L3.cell 0 rfl
  have d1:=L3.cell 1 rfl
  have d2:=L3.cell 2 rfl
  have B3:=Bw1.trans (b3.mono sW)
  have PL3:=hide (HPV.out.below B3)
  have PB3 : Hid (PX w3 (.slice (some ⟨g, off + k * 3, none⟩) nk ck) (ps.drop k) (us.drop k)):=hide ((unhide (hide (HPB.out ck))).below B3)
  have INS:=hide INSE.out
  have s3:=b3.size
  have hlq : (ps.drop k).length ≤ n:=by have:=Hn.out; simp; omega
  generalize ps.drop k = qs at *
  generalize us.drop k = ws at *
  skip
  go_wp2_with (first
   | (at_builtin; clear hw3 p0 p1 p2; refine append_first rfl _ _ rfl w1 ao n ca k ps us w1.heap.size _ _ _ xs rfl rfl PL3.out hk EUW.out d0 d1 d2 RUW.out (by have := Hn.out; omega) s3 ?_; intro v4 w4 X4 g4
      have b4 : Below w1.heap.size w1 w4:=b3.grown g4 s3 (fun j e => by cases e)
      have b34 : Below w3.heap.size w3 w4:=(Below.refl _ _).grown g4 (Nat.le_refl _) (fun j e => by cases e)
      have PB4:=hide (PB3.out.below b34)
      skip
      obtain ⟨a4, c4, hv4⟩:=X4.form
      have hle : (ps.take k ++ [(m, s, xs)]).length ≤ n + 1:=by simp; omega
      generalize ps.take k ++ [(m, s, xs)] = es at *
      subst hv4
      replace X4:=hide X4
      clear b34 PB3 g4 PL3 d0 d1 d2)
   | (at_builtin; refine append_xp rfl _ _ rfl w1 (.slice a4 es.length c4) (.slice (some ⟨g, off + k * 3, none⟩) nk ck) es qs _ ws rfl rfl X4.out PB4.out EQW.out (by omega) b4.size ?_; intro v5 w5 X5 g5
      have r5:=World.ownsRow.lt X4.out.row
      have b5:=b4.grown g5 b4.size (fun j e => (r5 j e).1)
      have B5:=Bw1.trans (b5.mono sW)
      have R5:=X5.rpt b5
      rw [INS.out] at R5
      obtain ⟨a5, c5, hv5⟩:=R5.form
      subst hv5
      replace R5:=hide R5
      clear r5 g5 X5 X4 PB4 b4))
  go_ret
  first | exact ⟨_, k, rfl, HP.out, R5.out, B5⟩ | exact ⟨_, rfl, k, HP.out, R5.out, B5⟩
 | true =>
  have INSE:=hide (ES.out rfl)
  rw [ej.out rfl] at INSE
  have CC : ∀ w, (Instr.slice 30 (.slice (some ⟨g, off + k * 3, none⟩) nk ck) (some (.int .i64 1)) none none).run Tryz.prog w = .ok (.slice (if ck = 1 then some ⟨g, off + k * 3, none⟩ else (some (⟨g, off + k * 3, none⟩ : Addr)).map (·.add (1 * 3))) (nk - 1) (ck - 1)) w:=fun w => by simpa using cut3_from (some ⟨g, off + k * 3, none⟩) nk ck 1 w (by omega)
  have HP1 : Hid (PX w (.slice (if ck = 1 then some ⟨g, off + k * 3, none⟩ else (some (⟨g, off + k * 3, none⟩ : Addr)).map (·.add (1 * 3))) (nk - 1) (ck - 1)) ((ps.drop k).drop 1) ((us.drop k).drop 1)):=hide ((HPB.out ck).drop 1 (by omega) (ck - 1) (fun g' off' e hlt' => by cases e; rw [if_neg (by omega)]; simp [Addr.add]))
  generalize (if ck = 1 then some ⟨g, off + k * 3, none⟩ else (some (⟨g, off + k * 3, none⟩ : Addr)).map (·.add (1 * 3))) = bo2 at *
  have hn1 : nk - 1 ≤ n:=by omega
  generalize nk - 1 = nk1 at *
  generalize ck - 1 = ck1 at *
  clear ES EN ej HPB
  go_upto_region 6 with fail
  refine wp_region_noPanic ?_
  refine wp_region_held_drew (S := (fun w' => w'.cell? ⟨hJ, 0, none⟩ = some (.int .i64 m1) ∧ w'.cell? ⟨hJ, 1, none⟩ = some (.string s1) ∧ w'.cell? ⟨hJ, 2, none⟩ = some (.slice aoJ x1'.length koJ))) (by kernel_rfl) ⟨J.cell 0 rfl, J.cell 1 rfl, J.cell 2 rfl⟩ (fun hHeld => ?_)
  obtain ⟨wd, hd'⟩ : ∃ y, w1.drew = y:=⟨_, rfl⟩
  have bd : Below w1.heap.size w1 wd:=hd' ▸ Below.drew (Below.refl _ _)
  replace P:=P.up bd
  replace J:=J.up bd
  replace oJ:=oJ.below bd
  have Bwd:=bu Bw1 bd
  have szd:=bd.size
  rw [hd'] at hHeld ⊢
  clear hd' bd
  refine tx 0 39 ?_
  refine tx 1 40 ?_
  refine tx 2 41 ?_
  have c0:=P.cell 0 rfl
  have c1:=P.cell 1 rfl
  have c2:=P.cell 2 rfl
  have fc:=P.frozen
  refine rd 3 rfl (fun KK hKK => ?_)
  go_simp
  obtain ⟨wa, hwa⟩ : ∃ y, (((wd.setCell ⟨w.heap.size, 0, none⟩ (.int .i64 m1)).setCell ⟨w.heap.size, 1, none⟩ (.string s1)).setCell ⟨w.heap.size, 2, none⟩ (.slice aoJ x1'.length koJ)) = y:=⟨_, rfl⟩
  have kwa : Kp wd wa (fun k => k = w.heap.size):=hwa ▸ ((set_kp _ _ _ _).trans (set_kp _ _ _ _)).trans (set_kp _ _ _ _)
  replace P : Loc wa w.heap.size #[.int .i64 m1,.string s1,.slice aoJ x1'.length koJ]:=hwa ▸ (((P.set 0 _ rfl).set 1 _ rfl).set 2 _ rfl)
  replace J:=J.kp kwa (by omega)
  replace oJ:=oJ.kp kwa (fun j hj e => by have:=toJ j hj; omega)
  have Bwa:=Below.kp Bwd kwa Bwd.size (fun k hk => by omega)
  have zwa:=kwa.size
  rw [hwa]
  clear hwa kwa c0 c1 c2 fc Bwd hHeld
  refine hKK.out _ _ ⟨J.cell 0 rfl, J.cell 1 rfl, J.cell 2 rfl⟩ (fun hHeld => ?_)
  clear hKK KK
  refine tx 4 8 ?_
  clear hHeld
  refine wdn ?_
  clear CC J
  have p0:=P.cell 0 rfl
  have p1:=P.cell 1 rfl
  have p2:=P.cell 2 rfl
  have sW:=Bwa.size
  have EUW : Hid (∀ k, k < ps.length → RI wa (us.getD k (.slice none 0 0)) (ps.getD k zpt).2.2):=hide fun k hk => (HEU.out k hk).below Bwa
  have RUW:=hide (oJ.ri JL2)
  have EQW : Hid (∀ j, j < ((ps.drop k).drop 1).length → RI wa (((us.drop k).drop 1).getD j (.slice none 0 0)) (((ps.drop k).drop 1).getD j zpt).2.2):=hide (fun j hj => by rw [getD_dropV, getD_dropV, getD_drop, getD_drop]; exact EUW.out _ (by simp at hj; omega))
  obtain ⟨w3, hw3⟩ : ∃ y, wa.alloc (.cells #[.int .i64 m1,.string s1,.slice aoJ x1'.length koJ] 36) = y:=⟨_, rfl⟩
  have b3 : Below wa.heap.size wa w3:=hw3 ▸ qalloc _ _
  have L3 : Loc w3 wa.heap.size #[.int .i64 m1,.string s1,.slice aoJ x1'.length koJ]:=hw3 ▸ loc_at wa _ _ rfl
  have d0:=L3.cell 0 rfl
  have d1:=L3.cell 1 rfl
  have d2:=L3.cell 2 rfl
  have B3:=Bwa.trans (b3.mono sW)
  have PL3:=hide (HPV.out.below B3)
  have PB3 : Hid (PX w3 (.slice bo2 nk1 ck1) ((ps.drop k).drop 1) ((us.drop k).drop 1)):=hide (HP1.out.below B3)
  have INS:=hide INSE.out
  have s3:=b3.size
  have hlq : ((ps.drop k).drop 1).length ≤ n:=by have:=Hn.out; simp; omega
  generalize (ps.drop k).drop 1 = qs at *
  generalize (us.drop k).drop 1 = ws at *
  skip
  go_wp2_with (first
   | (at_builtin; clear hw3 p0 p1 p2; refine append_first rfl _ _ rfl wa ao n ca k ps us wa.heap.size _ _ _ x1' rfl rfl PL3.out hk EUW.out d0 d1 d2 RUW.out (by have := Hn.out; omega) s3 ?_; intro v4 w4 X4 g4
      have b4 : Below wa.heap.size wa w4:=b3.grown g4 s3 (fun j e => by cases e)
      have b34 : Below w3.heap.size w3 w4:=(Below.refl _ _).grown g4 (Nat.le_refl _) (fun j e => by cases e)
      have PB4:=hide (PB3.out.below b34)
      skip
      obtain ⟨a4, c4, hv4⟩:=X4.form
      have hle : (ps.take k ++ [(m1, s1, x1')]).length ≤ n + 1:=by simp; omega
      generalize ps.take k ++ [(m1, s1, x1')] = es at *
      subst hv4
      replace X4:=hide X4
      clear b34 PB3 g4 PL3 d0 d1 d2)
   | (at_builtin; refine append_xp rfl _ _ rfl wa (.slice a4 es.length c4) (.slice bo2 nk1 ck1) es qs _ ws rfl rfl X4.out PB4.out EQW.out (by omega) b4.size ?_; intro v5 w5 X5 g5
      have r5:=World.ownsRow.lt X4.out.row
      have b5:=b4.grown g5 b4.size (fun j e => (r5 j e).1)
      have B5:=Bwa.trans (b5.mono sW)
      have R5:=X5.rpt b5
      rw [INS.out] at R5
      obtain ⟨a5, c5, hv5⟩:=R5.form
      subst hv5
      replace R5:=hide R5
      clear r5 g5 X5 X4 PB4 b4))
  go_ret
  first | exact ⟨_, k, rfl, HP.out, R5.out, B5⟩ | exact ⟨_, rfl, k, HP.out, R5.out, B5⟩
end
section
open Go.RowKit
variable [∀ (a b c d : Int), Decidable (Ok4 a b c d)]
variable [∀ (n f : Int), Decidable (COk n f)]
variable [∀ (n : Int) (s : List Int), Decidable (OkL n s)]
variable [∀ (a b c d : Nat), Decidable (okN a b c d)]
variable [∀ (last : Int) (s : St), Decidable (GoodSt last s)]
variable [∀ (x : T4), Decidable (OkT x)]
theorem ascendsP_any (v : Value) (ps : List Pt) (w : World) (hl : ps.length ≤ 4194304) (h : RPt w v ps) :
 Calls Tryz.prog 79 #[.agg #[v,.func (.func 72) #[] #[]]] w fun e w' => e = .returned (.bool (rowP ps)) ∧ Below w.heap.size w w' := by
 obtain ⟨ao, ca, rfl⟩:=h.form
 have H:=hide h
 obtain ⟨n, hn⟩ : ∃ n, ps.length = n:=⟨_, rfl⟩
 have Hn:=hide hn
 have HI:=hide (row_iff ps)
 rw [hn] at hl H ⊢
 clear h hn
 generalize rowP ps = rb at *
 obtain ⟨w0, hw0⟩ : ∃ y, w.alloc (.cells #[.slice ao n ca,.func (.func 72) #[] #[]] 100) = y:=⟨_, rfl⟩
 have B0 : Below w.heap.size w w0:=hw0 ▸ qalloc _ _
 have L0 : Loc w0 w.heap.size #[.slice ao n ca,.func (.func 72) #[] #[]]:=hw0 ▸ loc_at w _ _ rfl
 go_enter Tryz.func79, Tryz.ntmps79
 go_wp2
 clear hw0
 go_loopw [3] (fun i wr => ∃ m : Nat, 1 ≤ m ∧ m ≤ n + 1 ∧ i = .int .i64 m ∧ Hid (∀ j, j + 1 < m → j + 1 < n → befP (ps.getD j zpt) (ps.getD (j + 1) zpt) = true) ∧ Loc wr w.heap.size #[.slice ao n ca,.func (.func 72) #[] #[]] ∧ Below w.heap.size w wr) (fun i _ => n + 1 - (intOf i).toNat)
 case atStart => exact ⟨1, Nat.le_refl _, by omega, by go_num, hide (fun j hj => absurd hj (by omega)), L0, B0⟩
 case round =>
  clear L0 B0
  obtain ⟨m, hm1, hm, rfl, HA, L, br⟩:=hrel
  have q0:=L.cell 0 rfl
  have q1:=L.cell 1 rfl
  by_cases hlt : m < n
  ·obtain ⟨k, hk⟩ : ∃ k, m = k + 1:=⟨m - 1, by omega⟩
   have hk1 : (m : Int) - 1 = (k : Int):=by omega
   have hwk : IntKind.i64.wrap (k : Int) = (k : Int):=by rw [IntKind.wrap_i64]; omega
   have hkn : k < n:=by omega
   have HR:=H.out.below br
   obtain ⟨g, off, u, rfl, c0, c1, c2, ru⟩:=HR.at k (by rw [Hn.out]; omega)
   obtain ⟨g', off', u', e, d0, d1, d2, ru'⟩:=HR.at m (by rw [Hn.out]; omega)
   cases e
   obtain ⟨xc, xe, rfl⟩:=ru.form
   obtain ⟨yc, ye, rfl⟩:=ru'.form
   have CT:=hide fun w => compareParts_any (ps.getD k zpt).1 (ps.getD m zpt).1 (ps.getD k zpt).2.1 (ps.getD m zpt).2.1 (.slice xc (ps.getD k zpt).2.2.length xe) (.slice yc (ps.getD m zpt).2.2.length ye) (ps.getD k zpt).2.2 (ps.getD m zpt).2.2 w
   have HS:=hide fun (h : befP (ps.getD k zpt) (ps.getD m zpt) = true) => (show ∀ j, j + 1 < m + 1 → j + 1 < n → befP (ps.getD j zpt) (ps.getD (j + 1) zpt) = true from fun j hj hj2 => by
    by_cases e : j = k
    ·rw [e, ← hk]; exact h
    exact HA.out j (by omega) hj2)
   have HN : Hid (¬ befP (ps.getD k zpt) (ps.getD m zpt) = true → rb = false):=hide fun h => by
    cases hrb : rb with
    | false => rfl
    | true => exact absurd (by have := HI.out.1 hrb k (by rw [Hn.out]; omega); rwa [← hk] at this) h
   have hcm:=hide (cmpP_lt (ps.getD k zpt) (ps.getD m zpt))
   have ecmp : cmpP ((ps.getD k zpt).1, (ps.getD k zpt).2.1, (ps.getD k zpt).2.2) ((ps.getD m zpt).1, (ps.getD m zpt).2.1, (ps.getD m zpt).2.2) = cmpP (ps.getD k zpt) (ps.getD m zpt):=rfl
   rw [ecmp] at CT
   clear HA HR ru ru' ecmp
   generalize cmpP (ps.getD k zpt) (ps.getD m zpt) = q at *
   generalize befP (ps.getD k zpt) (ps.getD m zpt) = BF at *
   generalize (ps.getD k zpt).1 = xa at *
   generalize (ps.getD k zpt).2.1 = xb at *
   generalize (ps.getD k zpt).2.2.length = xd at *
   generalize (ps.getD m zpt).1 = ya at *
   generalize (ps.getD m zpt).2.1 = yb at *
   generalize (ps.getD m zpt).2.2.length = yd at *
   have lg:=cell_lt c0
   have K : Hid (∀ w', Below wr.heap.size wr w' → (fun w' => (w'.cell? ⟨w.heap.size, 0, none⟩ = some (.slice (some ⟨g, off, none⟩) n ca) ∧ w'.cell? ⟨w.heap.size, 1, none⟩ = some (.func (.func 72) #[] #[])) ∧ (w'.cell? ⟨g, off + k * 3, none⟩ = some (.int .i64 xa) ∧ w'.cell? ⟨g, off + k * 3 + 1, none⟩ = some (.string xb) ∧ w'.cell? ⟨g, off + k * 3 + 2, none⟩ = some (.slice xc xd xe)) ∧ (w'.cell? ⟨g, off + m * 3, none⟩ = some (.int .i64 ya) ∧ w'.cell? ⟨g, off + m * 3 + 1, none⟩ = some (.string yb) ∧ w'.cell? ⟨g, off + m * 3 + 2, none⟩ = some (.slice yc yd ye))) w'):=hide fun w' hb => by
    have l:=L.up hb
    exact ⟨⟨l.cell 0 rfl, l.cell 1 rfl⟩, ⟨(hb.cell (p := ⟨g, off + k * 3, none⟩) lg).trans c0, (hb.cell (p := ⟨g, off + k * 3 + 1, none⟩) lg).trans c1, (hb.cell (p := ⟨g, off + k * 3 + 2, none⟩) lg).trans c2⟩, ⟨(hb.cell (p := ⟨g, off + m * 3, none⟩) lg).trans d0, (hb.cell (p := ⟨g, off + m * 3 + 1, none⟩) lg).trans d1, (hb.cell (p := ⟨g, off + m * 3 + 2, none⟩) lg).trans d2⟩⟩
   have bA : Below wr.heap.size wr wr.drew:=Below.drew (Below.refl _ _)
   replace hk:=hide hk
   clear c0 c1 c2 d0 d1 d2
   go_upto_region 4 with fail
   refine wrn K bA (fun hHeld => ?_)
   refine tx 0 11 ?_
   refine tx 1 12 ?_
   refine tx 2 13 ?_
   refine tx 3 14 ?_
   refine tx 4 15 ?_
   refine tx 5 16 ?_
   refine tx 6 17 ?_
   refine tx 7 18 ?_
   refine tx 8 19 ?_
   refine tx 9 20 ?_
   refine tx 10 21 ?_
   refine tx 11 22 ?_
   refine tx 12 23 ?_
   refine rd 13 rfl (fun KK hKK => ?_)
   go_simp
   refine (CT.out _).mono ?_
   rintro _ wa ⟨rfl, ba⟩
   have bB : Below wr.heap.size wr wa:=bu bA ba
   clear hHeld
   refine hKK.out _ _ (K.out _ bB) (fun hHeld => ?_)
   clear hKK KK
   refine tx 14 25 ?_
   clear hHeld
   refine wdn ?_
   have LB:=L.up bB
   have BB:=bu br bB
   by_cases hq : q < 0
   ·have HM:=hide (HS.out (hcm.out.1 hq))
    have hqd : decide (q ≥ 0) = false:=by simp; omega
    clear HS HN hcm
    go_wp2
    go_roundw
    case rel => exact ⟨m + 1, by omega, by omega, by go_num, HM, LB, BB⟩
    case measure => simp [intOf]; omega
   have HM:=HN.out (fun h => hq (hcm.out.2 h))
   have hqd : decide (q ≥ 0) = true:=by simp; omega
   clear HS HN hcm
   go_wp2
   go_ret
   exact ⟨rfl, BB⟩
  have HM : rb = true:=HI.out.2 (fun j hj => by have:=Hn.out; exact HA.out j (by omega) (by omega))
  have hd2 : decide ((m : Int) < (n : Int)) = false:=by simp; omega
  clear HA H
  go_wp2
  go_ret
  exact ⟨by rw [HM]; rfl, br⟩
end
end Go.Proofs.YtjkcphnohhpihaaGreatDoor
namespace Go.Proofs
open Go.Shelf
def Tryz.lays217_ren : Go.Shelf.Ren := ⟨fun | 217 => 170 | 266 => 180 | n => n, fun | 9 => 9 | 5 => 5 | 3 => 3 | n => n, fun | n => n⟩
theorem Tryz.lays217 : Go.Proofs.Lays.n217 Tryz.prog Tryz.lays217_ren := {
 mixed := by kernel_rfl
 f217 := Tryz.func170.trans (congrArg some (by kernel_rfl))
 f266 := Tryz.func180.trans (congrArg some (by kernel_rfl))
 t3 := Tryz.underlying3
 a3 := Tryz.isAgg3
 z3 := Tryz.sizeOf3
 v3 := Tryz.zeroValue3
 t5 := Tryz.underlying5
 a5 := Tryz.isAgg5
 z5 := Tryz.sizeOf5
 v5 := Tryz.zeroValue5
 t9 := Tryz.underlying9
 a9 := Tryz.isAgg9
 z9 := Tryz.sizeOf9
 v9 := Tryz.zeroValue9 }
open Go.RowKit Go.Lib in
theorem Tryz.stringslite_IndexByte (s : ByteArray) (c : Int) (w : World) :
 Calls Tryz.prog 170 #[.string s,.int .u8 c] w fun e w' => e = .returned (.int .i64 (Lib.indexByte s.data.toList c.toNat.toUInt8)) ∧ w' = w := Any.stringslite_IndexByte Tryz.lays217 s c w
def Tryz.lays103_ren : Go.Shelf.Ren := ⟨fun | 103 => 152 | 210 => 162 | 206 => 174 | n => n, fun | 9 => 9 | 4 => 4 | 24 => 196 | 3 => 3 | n => n, fun | n => n⟩
theorem Tryz.lays103 : Go.Proofs.Lays.n103 Tryz.prog Tryz.lays103_ren := {
 mixed := by kernel_rfl
 f103 := Tryz.func152.trans (congrArg some (by kernel_rfl))
 f206 := Tryz.func174.trans (congrArg some (by kernel_rfl))
 f210 := Tryz.func162.trans (congrArg some (by kernel_rfl))
 t3 := Tryz.underlying3
 a3 := Tryz.isAgg3
 z3 := Tryz.sizeOf3
 v3 := Tryz.zeroValue3
 t4 := Tryz.underlying4
 a4 := Tryz.isAgg4
 z4 := Tryz.sizeOf4
 v4 := Tryz.zeroValue4
 t9 := Tryz.underlying9
 a9 := Tryz.isAgg9
 z9 := Tryz.sizeOf9
 v9 := Tryz.zeroValue9
 t24 := Tryz.underlying196
 a24 := Tryz.isAgg196
 z24 := Tryz.sizeOf196
 v24 := Tryz.zeroValue196 }
open Go.RowKit in
theorem Tryz.strings_CutPrefix (s p : ByteArray) (w : World) :
 Calls Tryz.prog 152 #[.string s,.string p] w fun e w' => e = .returned (.tuple #[.string ⟨(Lib.trimPrefix s.data.toList p.data.toList).toArray⟩,.bool (Lib.hasPrefix s.data.toList p.data.toList)]) ∧ w' = w := Any.strings_CutPrefix Tryz.lays103 s p w
end Go.Proofs
