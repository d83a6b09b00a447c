/- WithPart: impl.withPart. -/
import Derived.Test.YtmpmedbojfjnaaaGreatDoorFPBM
import Derived.Test.YtmpmedbojfjnaaaGreatDoorFPBN
import Derived.Test.YtmpmedbojfjnaaaGreatDoorFPBE
import Derived.Test.YtmpmedbojfjnaaaGreatDoorFPAY
namespace Go.Proofs.YtmpmedbojfjnaaaGreatDoor
open Go.RowKit
set_option linter.unusedSectionVars false
variable [∀ (n : Int) (s : List Int), Decidable (OkL n s)]
variable [∀ (a b c d : Int), Decidable (Ok4 a b c d)]
variable [∀ (n f : Int), Decidable (COk n f)]
variable [∀ (a b c d : Nat), Decidable (okN a b c d)]
variable [∀ (last : Int) (s : St), Decidable (GoodSt last s)]
variable [∀ (x : T4), Decidable (OkT x)]

theorem ins_end {ps : List Pt} {p : Pt} {k : Nat} (h : ps.length ≤ k) : ps.take k ++ [p] ++ [] = insP ps p k := by
 unfold insP
 rw [List.drop_eq_nil_of_le h]
 simp [putP]
theorem ins_yes {ps : List Pt} {p : Pt} {k : Nat} (h : k < ps.length) (hs : samP (ps.getD k zpt) p = true) : ps.take k ++ [joinP (ps.getD k zpt) p] ++ (ps.drop k).drop 1 = insP ps p k := by
 unfold insP
 rw [drop_at h, putP_cons, if_pos hs]
 simp
theorem ins_no {ps : List Pt} {p : Pt} {k : Nat} (h : k < ps.length) (hs : samP (ps.getD k zpt) p = false) : ps.take k ++ [p] ++ ps.drop k = insP ps p k := by
 unfold insP
 rw [drop_at h, putP_cons, if_neg (by rw [hs]; simp)]
 simp
theorem getD_drop (ps : List Pt) (k j : Nat) : (ps.drop k).getD j zpt = ps.getD (k + j) zpt := by simp
theorem getD_dropV (us : List Value) (k j : Nat) : (us.drop k).getD j (.slice none 0 0) = us.getD (k + j) (.slice none 0 0) := by simp

set_option maxHeartbeats 8000000 in
set_option maxRecDepth 100000 in
theorem withPart_any (ao : Option Addr) (ca : Nat) (ps : List Pt) (m : Int) (s : ByteArray) (ua : Option Addr) (uc : Nat) (xs : List Int) (a : Addr) (w : World) (hl : ps.length ≤ 1048577) (hca : ps.length ≤ ca) (hx : xs.length ≤ 1048576) (hw : ∀ q ∈ ps, q.2.1.size ≤ 281474976710656 ∧ q.2.2.length ≤ 1048576 ∧ WfL q.2.2) (wx : WfL xs) (h : RPt w (.slice ao ps.length ca) ps) (hu : RI w (.slice ua xs.length uc) xs) (G : Gv w a) :
 Calls Tryz.prog 93 #[.slice ao ps.length ca, qv m s (.slice ua xs.length uc)] w fun e w' => ∃ (r : Value) (k : Nat), e = .returned r ∧ PlaceP ps (m, s, xs) k ∧ RPt w' r (insP ps (m, s, xs) k) ∧ Below w.heap.size w w' := by
 have hgl := G.lt
 obtain ⟨us, PV0, EU0⟩ := h.px
 have HPV := hide PV0
 have HEU := hide EU0
 have HUL := hide PV0.1
 have HG := hide fun w' (hb : Below w.heap.size w w') => G.below hb hgl
 have HU := hide fun w' (hb : Below w.heap.size w w') => hu.below hb (Nat.le_refl _)
 have HW := hide hw
 have JP0 : Hid (∀ k (_ : k < ps.length) w' (_ : Below w.heap.size w w'), Calls Tryz.prog 87 #[qv (ps.getD k zpt).1 (ps.getD k zpt).2.1 (us.getD k (.slice none 0 0)), qv m s (.slice ua xs.length uc)] w' fun e w2 => ∃ r, e = .returned (.tuple #[qv (if samP (ps.getD k zpt) (m, s, xs) then (ps.getD k zpt).1 else 0) (if samP (ps.getD k zpt) (m, s, xs) then (ps.getD k zpt).2.1 else ⟨#[]⟩) r, if samP (ps.getD k zpt) (m, s, xs) then .nilIface else apV a]) ∧ OI w2 w'.heap.size r (if samP (ps.getD k zpt) (m, s, xs) then joinL (ps.getD k zpt).2.2 xs else []) ∧ Below w'.heap.size w' w2) := hide fun k hk w' hb => by
  have hq := hw _ (pt_mem hk)
  exact joinParts_any (ps.getD k zpt).1 m (ps.getD k zpt).2.1 s (us.getD k (.slice none 0 0)) (.slice ua xs.length uc) (ps.getD k zpt).2.2 xs a w' (by omega) hq.1 hq.2.2 wx ((EU0 k hk).below hb (Nat.le_refl _)) (hu.below hb (Nat.le_refl _)) (G.below hb hgl)
 have HJL : Hid (∀ k, k < ps.length → (joinL (ps.getD k zpt).2.2 xs).length ≤ 4194304) := hide fun k hk => by
  have := join_size (ps.getD k zpt).2.2 xs
  have := (hw _ (pt_mem hk)).2.1
  omega
 obtain ⟨w0, hw0⟩ : ∃ y, w.alloc (.cells #[.int .i64 m, .string s, .slice ua xs.length uc] 52) = y := ⟨_, rfl⟩
 have Bw0 : Below w.heap.size w w0 := hw0 ▸ qalloc _ _
 have P : Loc w0 w.heap.size #[.int .i64 m, .string s, .slice ua xs.length uc] := hw0 ▸ loc_at w _ _ rfl
 have SE := hide (searchP (.slice ao ps.length ca) ps m s ua xs.length uc xs w0 (by omega) (h.below Bw0 (Nat.le_refl _)))
 obtain ⟨n, hn⟩ : ∃ n, ps.length = n := ⟨_, rfl⟩
 have Hn := hide hn
 obtain ⟨xl, hxl⟩ : ∃ n, xs.length = n := ⟨_, rfl⟩
 rw [hn] at hl hca SE HPV ⊢
 rw [hxl] at SE P hw0 HU JP0 ⊢
 have p0 := P.cell 0 rfl
 have p1 := P.cell 1 rfl
 have p2 := P.cell 2 rfl
 clear h hu G PV0 EU0 hw wx hn hxl hx
 go_enter Tryz.func93, Tryz.ntmps93
 go_wp2_with fail
 clear hw0 p0 p1 p2
 refine (unhide SE).mono ?_
 rintro e w1 ⟨k, b, rfl, HP, b1⟩
 have Bw1 := Bw0.trans (b1.mono Bw0.size)
 replace P := P.below b1 P.lt
 replace HP := hide HP
 have hk : k ≤ n := by have := (unhide HP).1; have := unhide Hn; omega
 clear b1 Bw0 SE
 have CA : ∀ w, (Instr.slice 57 (.slice ao n ca) none (some (.int .i64 (k : Int))) (some (.int .i64 (k : Int)))).run Tryz.prog w = .ok (.slice ao k k) w := fun w => cut3_to ao n ca k w (by omega)
 have CB : ∀ w, (Instr.slice 57 (.slice ao n ca) (some (.int .i64 (k : Int))) none none).run Tryz.prog w = .ok (.slice (if ca = k then ao else ao.map (·.add (k * 3))) (n - k) (ca - k)) w := fun w => cut3_from ao n ca k w hk
 have HB : Hid (∀ g off, ao = some ⟨g, off, none⟩ → k < n → (if ca = k then ao else ao.map (·.add (k * 3))) = some ⟨g, off + k * 3, none⟩) := hide fun g off e hlt => by
  rw [if_neg (by omega), e]
  have : ((⟨g, off, none⟩ : Addr).add (k * 3)) = ⟨g, off + k * 3, none⟩ := by unfold Addr.add; split <;> simp_all
  simp [this]
 have HPB : Hid (∀ cap', PX w (.slice (if ca = k then ao else ao.map (·.add (k * 3))) (n - k) cap') (ps.drop k) (us.drop k)) := hide fun cap' => (unhide HPV).drop k hk cap' (unhide HB)
 generalize (if ca = k then ao else ao.map (·.add (k * 3))) = bo at *
 obtain ⟨nk, hnk⟩ : ∃ x, n - k = x := ⟨_, rfl⟩
 obtain ⟨ck, hck⟩ : ∃ x, ca - k = x := ⟨_, rfl⟩
 have hck2 : nk ≤ ck := by omega
 have hnk2 : nk ≤ n := by omega
 rw [hnk] at CB HPB
 rw [hck] at CB
 have HNK := hide hnk
 have hnk3 : nk = 0 ∨ k < n := by omega
 clear hnk hck
 go_upto_region 2 with fail
 refine wp_region_noPanic ?_
 refine wp_region_held_drew (S := (fun _ => True)) (by kernel_rfl) trivial (fun hHeld => ?_)
 refine tk 0 17 (v := ?_) rfl (hy := .inl ⟨by rfl, ?_⟩) (h := ?_); rotate_left
 ·intro w hSw; (try dsimp only at hSw); go_simp; (try with_reducible rfl)
 simp only [pU]
 refine tk 1 18 (v := ?_) rfl (hy := .inl ⟨by rfl, ?_⟩) (h := ?_); rotate_left
 ·intro w hSw; (try dsimp only at hSw); go_simp; (try with_reducible rfl)
 simp only [pU]
 refine tk 2 19 (v := ?_) rfl (hy := .inl ⟨by rfl, ?_⟩) (h := ?_); rotate_left
 ·intro w hSw; (try dsimp only at hSw); go_simp; (try with_reducible rfl)
 simp only [pU]
 refine tk 3 20 (v := ?_) rfl (hy := .inl ⟨by rfl, ?_⟩) (h := ?_); rotate_left
 ·intro w hSw; (try dsimp only at hSw); go_simp; (try with_reducible rfl)
 simp only [pU]
 refine tk 4 21 (v := ?_) rfl (hy := .inl ⟨by rfl, ?_⟩) (h := ?_); rotate_left
 ·intro w hSw; (try dsimp only at hSw); go_simp; (try with_reducible rfl)
 simp only [pU]
 refine tk 5 22 (v := ?_) rfl (hy := .inl ⟨by rfl, ?_⟩) (h := ?_); rotate_left
 ·intro w hSw; (try dsimp only at hSw); go_simp; (try with_reducible rfl)
 simp only [pU]
 refine tk 6 23 (v := ?_) rfl (hy := .inl ⟨by rfl, ?_⟩) (h := ?_); rotate_left
 ·intro w hSw; (try dsimp only at hSw); go_simp; (try with_reducible rfl)
 simp only [pU]
 refine tk 7 7 (v := ?_) rfl (hy := .inl ⟨by rfl, ?_⟩) (h := ?_); rotate_left
 ·intro w hSw; (try dsimp only at hSw); go_simp; (try with_reducible rfl)
 simp only [pU]
 refine tk 8 8 (v := ?_) rfl (hy := .inl ⟨by rfl, ?_⟩) (h := ?_); rotate_left
 ·intro w hSw; (try dsimp only at hSw); go_simp; (try with_reducible rfl)
 simp only [pU]
 clear hHeld
 refine wpAnyH_done (by kernel_rfl) ?_ _
 refine NoPanic.normal ?_
 obtain ⟨w2, hw2⟩ : ∃ y, w1.drew = y := ⟨_, rfl⟩
 have bb : Below w1.heap.size w1 w2 := hw2 ▸ Below.drew (Below.refl _ _)
 rw [hw2]
 have Bw2 := Bw1.trans (bb.mono Bw1.size)
 replace P := P.below bb P.lt
 clear hw2 bb Bw1
 clear CA CB
 by_cases hz : nk = 0
 ·subst hz
  have hkn : Hid (ps.length ≤ k) := hide (by have := unhide Hn; have := unhide HNK; omega)
  have HBE : Hid (PX w (.slice bo 0 ck) ([] : List Pt) ([] : List Value)) := hide ⟨rfl, bo, ck, rfl, .inl rfl⟩
  have hd : decide (((0 : Nat) : Int) > 0) = false := by simp
  clear JP0 HJL HPB HB
  have p0 := P.cell 0 rfl
  have p1 := P.cell 1 rfl
  have p2 := P.cell 2 rfl
  have sW := Bw2.size
  have EUW : Hid (∀ k, k < ps.length → RI w2 (us.getD k (.slice none 0 0)) (ps.getD k zpt).2.2) := hide fun k hk => (unhide HEU k hk).below Bw2 (Nat.le_refl _)
  have RUW := hide (unhide HU _ Bw2)
  have EQW : Hid (∀ j, j < (([] : List Pt)).length → RI w2 ((([] : List Value)).getD j (.slice none 0 0)) ((([] : List Pt)).getD j zpt).2.2) := hide (fun j hj => by simp at hj)
  obtain ⟨w3, hw3⟩ : ∃ y, w2.alloc (.cells #[.int .i64 m, .string s, .slice ua xl uc] 52) = y := ⟨_, rfl⟩
  have b3 : Below w2.heap.size w2 w3 := hw3 ▸ qalloc _ _
  have L3 : Loc w3 w2.heap.size #[.int .i64 m, .string s, .slice ua xl uc] := hw3 ▸ loc_at w2 _ _ rfl
  have d0 := L3.cell 0 rfl
  have d1 := L3.cell 1 rfl
  have d2 := L3.cell 2 rfl
  have B3 := Bw2.trans (b3.mono sW)
  have PL3 := hide ((unhide HPV).below B3)
  have PB3 : Hid (PX w3 (.slice bo 0 ck) (([] : List Pt)) (([] : List Value))) := hide ((unhide HBE).below B3)
  have INS := hide (ins_end (p := (m, s, xs)) (unhide hkn))
  have s3 := b3.size
  have hlq : (([] : List Pt)).length ≤ n := by have := unhide Hn; simp
  skip
  skip
  skip
  go_wp2_with (first
   | (at_builtin; clear hw3 p0 p1 p2; refine append_first rfl _ _ rfl w2 ao n ca k ps us w2.heap.size _ _ _ xs rfl rfl (unhide PL3) hk (unhide EUW) d0 d1 d2 (unhide RUW) (by have := unhide Hn; omega) s3 ?_; intro v4 w4 X4 g4
      have b4 : Below w2.heap.size w2 w4 := b3.grown g4 s3 (fun j e => by cases e)
      have b34 : Below w3.heap.size w3 w4 := (Below.refl _ _).grown g4 (Nat.le_refl _) (fun j e => by cases e)
      have PB4 := hide ((unhide PB3).below b34)
      skip
      obtain ⟨a4, c4, hv4⟩ := X4.form
      have hle : (ps.take k ++ [(m, s, xs)]).length ≤ n + 1 := by simp; omega
      generalize ps.take k ++ [(m, s, xs)] = es at *
      subst hv4
      replace X4 := hide X4
      clear b34 PB3 g4 PL3 d0 d1 d2)
   | (at_builtin; refine append_xp rfl _ _ rfl w2 (.slice a4 es.length c4) (.slice bo 0 ck) es [] _ [] rfl rfl (unhide X4) (unhide PB4) (unhide EQW) (by omega) b4.size ?_; intro v5 w5 X5 g5
      have r5 := World.ownsRow.lt (unhide X4).row
      have b5 := b4.grown g5 b4.size (fun j e => (r5 j e).1)
      have B5 := Bw2.trans (b5.mono sW)
      have R5 := X5.rpt b5
      rw [unhide INS] at R5
      obtain ⟨a5, c5, hv5⟩ := R5.form
      subst hv5
      replace R5 := hide R5
      clear r5 g5 X5 X4 PB4 b4))
  go_ret
  first | exact ⟨_, k, rfl, unhide HP, unhide R5, B5⟩ | exact ⟨_, rfl, k, unhide HP, unhide R5, B5⟩
 ·have hlt : k < n := by omega
  have hd : decide ((nk : Int) > 0) = true := by simp; omega
  have hkx : k < ps.length := by have := unhide Hn; omega
  have hPl := P.lt
  have ES := hide (fun hs => ins_yes (ps := ps) (p := (m, s, xs)) hkx hs)
  have EN := hide (fun hs => ins_no (ps := ps) (p := (m, s, xs)) hkx hs)
  have JP := hide (unhide JP0 k hkx)
  have JL := hide (unhide HJL k hkx)
  obtain ⟨g, off, hao, hcl⟩ : ∃ g off, ao = some ⟨g, off, none⟩ ∧ ∀ j u, (pcells ((ps.map phd).zip us))[j]? = some u → w.cell? ⟨g, off + j, none⟩ = some u := by
   obtain ⟨_, ao', cap0, e, h⟩ := unhide HPV
   cases e
   rcases h with h | h
   ·rw [h] at hkx; simp at hkx
   ·exact h
  have hbo := unhide HB g off hao hlt
  subst hbo
  have PC := pcells_get ((ps.map phd).zip us) k
  rw [pzip_get ps us (unhide HUL) k hkx] at PC
  have hzl : k < ((ps.map phd).zip us).length := by simp [unhide HUL]; omega
  have x0 := hcl _ _ ((PC 0 hzl (by omega)).trans rfl)
  have x1 := hcl _ _ ((PC 1 hzl (by omega)).trans rfl)
  have x2 := hcl _ _ ((PC 2 hzl (by omega)).trans rfl)
  obtain ⟨xa, xc, hxv⟩ := (unhide HEU k hkx).form
  rw [hxv] at x2 JP
  have lg := cell_lt x0
  have x0 := (Bw2.cell (p := ⟨g, off + (k * 3 + 0), none⟩) lg).trans x0
  have x1 := (Bw2.cell (p := ⟨g, off + (k * 3 + 1), none⟩) lg).trans x1
  have x2 := (Bw2.cell (p := ⟨g, off + (k * 3 + 2), none⟩) lg).trans x2
  rw [show off + (k * 3 + 0) = off + k * 3 by omega] at x0
  rw [show off + (k * 3 + 1) = off + k * 3 + 1 by omega] at x1
  rw [show off + (k * 3 + 2) = off + k * 3 + 2 by omega] at x2
  simp only [phd] at x0 x1
  obtain ⟨sm, hsm⟩ : ∃ b, samP (ps.getD k zpt) (m, s, xs) = b := ⟨_, rfl⟩
  rw [hsm] at ES EN JP
  have ej : Hid (sm = true → joinP (ps.getD k zpt) (m, s, xs) = (if sm = true then (ps.getD k zpt).1 else 0, if sm = true then (ps.getD k zpt).2.1 else ⟨#[]⟩, if sm = true then joinL (ps.getD k zpt).2.2 xs else [])) := hide fun h => by subst h; rfl
  have JL2 : (if sm = true then joinL (ps.getD k zpt).2.2 xs else []).length ≤ 4194304 := by split; exact unhide JL; simp
  have IS : Hid (∀ w, Calls Tryz.prog 88 #[if sm = true then .nilIface else apV a, apV a] w fun e w' => e = .returned (.bool (!sm)) ∧ Below w.heap.size w w') := hide fun w => by
   cases sm
   ·exact (is_same a w).mono fun _ _ h => ⟨h.1, h.2 ▸ Below.refl _ _⟩
   ·exact (is_nil a w).mono fun _ _ h => ⟨h.1, h.2 ▸ Below.refl _ _⟩
  generalize (if sm = true then (ps.getD k zpt).1 else 0) = m1 at *
  generalize (if sm = true then (ps.getD k zpt).2.1 else ⟨#[]⟩) = s1 at *
  generalize (if sm = true then joinL (ps.getD k zpt).2.2 xs else []) = x1' at *
  generalize (if sm = true then Value.nilIface else apV a) = ev at *
  generalize joinP (ps.getD k zpt) (m, s, xs) = jp at *
  generalize (ps.getD k zpt).1 = ym at *
  generalize (ps.getD k zpt).2.1 = ys at *
  generalize (ps.getD k zpt).2.2.length = yl at *
  clear hcl PC hzl hxv hsm JP0 HJL JL hkx HB hao lg hnk3
  have K : Hid (∀ w', Below w2.heap.size w2 w' → (fun w' => Below w2.heap.size w2 w' ∧ (w'.cell? ⟨w.heap.size, 0, none⟩ = some (.int .i64 m) ∧ w'.cell? ⟨w.heap.size, 1, none⟩ = some (.string s) ∧ w'.cell? ⟨w.heap.size, 2, none⟩ = some (.slice ua xl uc)) ∧ w'.cell? ⟨g, off + k * 3, none⟩ = some (.int .i64 ym) ∧ w'.cell? ⟨g, off + k * 3 + 1, none⟩ = some (.string ys) ∧ w'.cell? ⟨g, off + k * 3 + 2, none⟩ = some (.slice xa yl xc)) w') := hide fun w' hb' => ⟨hb', ⟨(P.below hb' P.lt).cell 0 rfl, (P.below hb' P.lt).cell 1 rfl, (P.below hb' P.lt).cell 2 rfl⟩, (hb'.cell (p := ⟨g, off + k * 3, none⟩) (cell_lt x0)).trans x0, (hb'.cell (p := ⟨g, off + k * 3 + 1, none⟩) (cell_lt x1)).trans x1, (hb'.cell (p := ⟨g, off + k * 3 + 2, none⟩) (cell_lt x2)).trans x2⟩
  go_upto_region 4 with fail
  go_cut [9, 10] (fun c d1 wx => ∃ h uu, c = .pointer (some ⟨h, 0, none⟩) ∧ d1 = ev ∧ w2.heap.size ≤ h ∧ h < wx.heap.size ∧ Loc wx h #[.int .i64 m1, .string s1, uu] ∧ OI wx w2.heap.size uu x1' ∧ (∀ j, uu.ownBlock = some j → w2.heap.size ≤ j ∧ j < wx.heap.size ∧ j ≠ h) ∧ Below w2.heap.size w2 wx)
  case first =>
   refine wp_region_noPanic ?_
   refine wp_region_held_drew (S := fun w' => Below w2.heap.size w2 w' ∧ (w'.cell? ⟨w.heap.size, 0, none⟩ = some (.int .i64 m) ∧ w'.cell? ⟨w.heap.size, 1, none⟩ = some (.string s) ∧ w'.cell? ⟨w.heap.size, 2, none⟩ = some (.slice ua xl uc)) ∧ w'.cell? ⟨g, off + k * 3, none⟩ = some (.int .i64 ym) ∧ w'.cell? ⟨g, off + k * 3 + 1, none⟩ = some (.string ys) ∧ w'.cell? ⟨g, off + k * 3 + 2, none⟩ = some (.slice xa yl xc)) (by kernel_rfl) (unhide K _ (Below.drew (Below.refl _ _))) (fun hHeld => ?_)
   obtain ⟨wd, hd⟩ : ∃ wd, w2.drew = wd := ⟨_, rfl⟩
   have bd : Below w2.heap.size w2 wd := hd ▸ Below.drew (Below.refl _ _)
   have szd := bd.size
   rw [hd] at hHeld ⊢
   clear hd
   refine tk 0 28 (v := ?_) rfl (hy := .inl ⟨by rfl, ?_⟩) (h := ?_); rotate_left
   ·intro w hSw; (try dsimp only at hSw); go_simp; (try with_reducible rfl)
   simp only [pU]
   refine tk 3 31 (v := ?_) rfl (hy := .inl ⟨by rfl, ?_⟩) (h := ?_); rotate_left
   ·intro w hSw; (try dsimp only at hSw); go_simp; (try with_reducible rfl)
   simp only [pU]
   refine tk 1 29 (v := ?_) rfl (hy := .inl ⟨by rfl, ?_⟩) (h := ?_); rotate_left
   ·intro w hSw; (try dsimp only at hSw); go_simp; (try with_reducible rfl)
   simp only [pU]
   refine tk 2 30 (v := ?_) rfl (hy := .inl ⟨by rfl, ?_⟩) (h := ?_); rotate_left
   ·intro w hSw; (try dsimp only at hSw); go_simp; (try with_reducible rfl)
   simp only [pU]
   refine wpAnyH_ready (rs := [4, 8]) (by kernel_rfl) (by simp) (AllReadyH.cons rfl (fun KK hKK => ?_) (AllReadyH.cons rfl (fun KK hKK => ?_) AllReadyH.nil))
   ·go_simp
    have hgo := bd
    refine (unhide JP _ (Bw2.trans (hgo.mono Bw2.size))).mono ?_
    rintro e wc4_1 ⟨r, rfl, oJ, bnew⟩
    have bc4_2 : Below w2.heap.size w2 wc4_1 := bd.trans (bnew.mono bd.size)
    have zzwc4_1 := bnew.size
    have tl := World.ownsRow.lt oJ
    obtain ⟨aa, kk, rfl⟩ := oJ.form
    clear hHeld bnew hgo
    refine hKK.out _ _ (unhide K _ bc4_2) (fun hHeld => ?_)
    clear hKK KK
    refine tk 5 27 (v := ?_) rfl (hy := .inl ⟨by rfl, ?_⟩) (h := ?_); rotate_left
    ·intro w hSw; (try dsimp only at hSw); go_simp; (try with_reducible rfl)
    simp only [pU]
    refine tk 6 33 (v := ?_) rfl (hy := .inl ⟨by rfl, ?_⟩) (h := ?_); rotate_left
    ·intro w hSw; (try dsimp only at hSw); go_simp; (try with_reducible rfl)
    simp only [pU]
    refine tk 7 34 (v := ?_) rfl (hy := .inl ⟨by rfl, ?_⟩) (h := ?_); rotate_left
    ·intro w hSw; (try dsimp only at hSw); go_simp; (try with_reducible rfl)
    simp only [pU]
    refine ready_at (i := 8) rfl (by kernel_rfl) (fun KK hKK => ?_)
    go_simp
    obtain ⟨wl4_3, hwl4_3⟩ : ∃ x, wc4_1.alloc (.cells #[.int .i64 0, .string ⟨#[]⟩, .slice none 0 0] 52) = x := ⟨_, rfl⟩
    have cbl4_4 : Below wc4_1.heap.size wc4_1 wl4_3 := hwl4_3 ▸ qalloc _ _
    have bl4_4 : Below w2.heap.size w2 wl4_3 := bc4_2.trans (cbl4_4.mono bc4_2.size)
    have zzwl4_3 : wl4_3.heap.size = wc4_1.heap.size + 1 := by rw [← hwl4_3]; simp
    have lg : Loc wl4_3 wc4_1.heap.size #[.int .i64 0, .string ⟨#[]⟩, .slice none 0 0] := hwl4_3 ▸ loc_at wc4_1 _ _ rfl
    replace oJ := oJ.below cbl4_4
    rw [hwl4_3]
    clear hHeld hwl4_3 cbl4_4
    refine hKK.out _ _ (unhide K _ bl4_4) (fun hHeld => ?_)
    clear hKK KK
    have q0 := lg.cell 0 rfl
    have q1 := lg.cell 1 rfl
    have q2 := lg.cell 2 rfl
    have FG := lg.frozen
    refine ready_at (i := 9) rfl (by kernel_rfl) (fun KK hKK => ?_)
    go_simp
    have bs : Below w2.heap.size w2 (((wl4_3.setCell ⟨wc4_1.heap.size, 0, none⟩ (.int .i64 m1)).setCell ⟨wc4_1.heap.size, 1, none⟩ (.string s1)).setCell ⟨wc4_1.heap.size, 2, none⟩ (.slice aa (x1').length kk)) := (Below.set (Below.set (Below.set bl4_4 _ _ (by omega)) _ _ (by omega)) _ _ (by omega))
    clear hHeld
    refine hKK.out _ _ (unhide K _ bs) (fun hHeld => ?_)
    clear hKK KK
    refine tk 10 10 (v := ?_) rfl (hy := .inl ⟨by rfl, ?_⟩) (h := ?_); rotate_left
    ·intro w hSw; (try dsimp only at hSw); go_simp; (try with_reducible rfl)
    simp only [pU]
    clear hHeld
    refine wpAnyH_done (by kernel_rfl) ?_ _
    refine NoPanic.normal ?_
    go_wp2_with fail
    go_meet
    have k3 : Kp wl4_3 (((wl4_3.setCell ⟨wc4_1.heap.size, 0, none⟩ (.int .i64 m1)).setCell ⟨wc4_1.heap.size, 1, none⟩ (.string s1)).setCell ⟨wc4_1.heap.size, 2, none⟩ (.slice aa (x1').length kk)) (fun k => k = wc4_1.heap.size) := ((set_kp _ _ _ _).trans (set_kp _ _ _ _)).trans (set_kp _ _ _ _)
    have ll := lg.lt
    exact ⟨_, _, rfl, rfl, by omega, by simpa using ll, (((lg.set 0 _ rfl).set 1 _ rfl).set 2 _ rfl), (oJ.kp k3 (fun j hj e => by have := tl j hj; omega)).mono (by omega), fun j hj => by have := tl j hj; simp; omega, bs⟩
   ·go_simp
    obtain ⟨wl4_5, hwl4_5⟩ : ∃ x, wd.alloc (.cells #[.int .i64 0, .string ⟨#[]⟩, .slice none 0 0] 52) = x := ⟨_, rfl⟩
    have cbl4_6 : Below wd.heap.size wd wl4_5 := hwl4_5 ▸ qalloc _ _
    have bl4_6 : Below w2.heap.size w2 wl4_5 := bd.trans (cbl4_6.mono bd.size)
    have zzwl4_5 : wl4_5.heap.size = wd.heap.size + 1 := by rw [← hwl4_5]; simp
    have lg : Loc wl4_5 wd.heap.size #[.int .i64 0, .string ⟨#[]⟩, .slice none 0 0] := hwl4_5 ▸ loc_at wd _ _ rfl
    rw [hwl4_5]
    clear hHeld hwl4_5 cbl4_6
    refine hKK.out _ _ (unhide K _ bl4_6) (fun hHeld => ?_)
    clear hKK KK
    refine ready_at (i := 4) rfl (by kernel_rfl) (fun KK hKK => ?_)
    go_simp
    have hgo := bl4_6
    refine (unhide JP _ (Bw2.trans (hgo.mono Bw2.size))).mono ?_
    rintro e wc4_7 ⟨r, rfl, oJ, bnew⟩
    have bc4_8 : Below w2.heap.size w2 wc4_7 := bl4_6.trans (bnew.mono bl4_6.size)
    have zzwc4_7 := bnew.size
    replace lg := lg.below bnew lg.lt
    have tl := World.ownsRow.lt oJ
    obtain ⟨aa, kk, rfl⟩ := oJ.form
    clear hHeld bnew hgo
    refine hKK.out _ _ (unhide K _ bc4_8) (fun hHeld => ?_)
    clear hKK KK
    refine tk 5 27 (v := ?_) rfl (hy := .inl ⟨by rfl, ?_⟩) (h := ?_); rotate_left
    ·intro w hSw; (try dsimp only at hSw); go_simp; (try with_reducible rfl)
    simp only [pU]
    refine tk 6 33 (v := ?_) rfl (hy := .inl ⟨by rfl, ?_⟩) (h := ?_); rotate_left
    ·intro w hSw; (try dsimp only at hSw); go_simp; (try with_reducible rfl)
    simp only [pU]
    refine tk 7 34 (v := ?_) rfl (hy := .inl ⟨by rfl, ?_⟩) (h := ?_); rotate_left
    ·intro w hSw; (try dsimp only at hSw); go_simp; (try with_reducible rfl)
    simp only [pU]
    have q0 := lg.cell 0 rfl
    have q1 := lg.cell 1 rfl
    have q2 := lg.cell 2 rfl
    have FG := lg.frozen
    refine ready_at (i := 9) rfl (by kernel_rfl) (fun KK hKK => ?_)
    go_simp
    have bs : Below w2.heap.size w2 (((wc4_7.setCell ⟨wd.heap.size, 0, none⟩ (.int .i64 m1)).setCell ⟨wd.heap.size, 1, none⟩ (.string s1)).setCell ⟨wd.heap.size, 2, none⟩ (.slice aa (x1').length kk)) := (Below.set (Below.set (Below.set bc4_8 _ _ (by omega)) _ _ (by omega)) _ _ (by omega))
    clear hHeld
    refine hKK.out _ _ (unhide K _ bs) (fun hHeld => ?_)
    clear hKK KK
    refine tk 10 10 (v := ?_) rfl (hy := .inl ⟨by rfl, ?_⟩) (h := ?_); rotate_left
    ·intro w hSw; (try dsimp only at hSw); go_simp; (try with_reducible rfl)
    simp only [pU]
    clear hHeld
    refine wpAnyH_done (by kernel_rfl) ?_ _
    refine NoPanic.normal ?_
    go_wp2_with fail
    go_meet
    have k3 : Kp wc4_7 (((wc4_7.setCell ⟨wd.heap.size, 0, none⟩ (.int .i64 m1)).setCell ⟨wd.heap.size, 1, none⟩ (.string s1)).setCell ⟨wd.heap.size, 2, none⟩ (.slice aa (x1').length kk)) (fun k => k = wd.heap.size) := ((set_kp _ _ _ _).trans (set_kp _ _ _ _)).trans (set_kp _ _ _ _)
    have ll := lg.lt
    exact ⟨_, _, rfl, rfl, by omega, by simpa using ll, (((lg.set 0 _ rfl).set 1 _ rfl).set 2 _ rfl), (oJ.kp k3 (fun j hj e => by have := tl j hj; omega)).mono (by omega), fun j hj => by have := tl j hj; simp; omega, bs⟩
  case rest =>
   clear K
   obtain ⟨wq4, hwq⟩ : ∃ x, x = wc := ⟨_, rfl⟩
   subst hwq
   obtain ⟨hJ, vJ, rfl, rfl, gJ, eJ, J, oJ, toJ, bb⟩ := hcut
   obtain ⟨aoJ, koJ, rfl⟩ := oJ.form
   have Bwq4 := Bw2.trans (bb.mono Bw2.size)
   have swq4 := bb.size
   replace P := P.below bb P.lt
   clear Bw2
   clear bb
   clear x0 x1 x2 JP
   obtain ⟨jl, hjl⟩ : ∃ l, x1'.length = l := ⟨_, rfl⟩
   replace hjl := hide hjl
   skip
   have cg := (unhide HG _ Bwq4).cell 0 rfl
   go_wp2_with fail
   refine (unhide IS _).mono ?_
   rintro _ w1 ⟨rfl, bb⟩
   have Bw1 := Bwq4.trans (bb.mono Bwq4.size)
   have sw1 := bb.size
   replace P := P.below bb P.lt
   replace J := J.below bb J.lt
   replace oJ := oJ.below bb
   clear Bwq4
   clear bb
   clear cg IS
   cases sm with
   | false =>
    have INSE := hide (unhide EN rfl)
    clear ES EN ej J oJ toJ
    have p0 := P.cell 0 rfl
    have p1 := P.cell 1 rfl
    have p2 := P.cell 2 rfl
    have sW := Bw1.size
    have EUW : Hid (∀ k, k < ps.length → RI w1 (us.getD k (.slice none 0 0)) (ps.getD k zpt).2.2) := hide fun k hk => (unhide HEU k hk).below Bw1 (Nat.le_refl _)
    have RUW := hide (unhide HU _ Bw1)
    have EQW : Hid (∀ j, j < (ps.drop k).length → RI w1 ((us.drop k).getD j (.slice none 0 0)) ((ps.drop k).getD j zpt).2.2) := hide (fun j hj => by rw [getD_dropV, getD_drop]; exact unhide EUW _ (by simp at hj; omega))
    obtain ⟨w3, hw3⟩ : ∃ y, w1.alloc (.cells #[.int .i64 m, .string s, .slice ua xl uc] 52) = y := ⟨_, rfl⟩
    have b3 : Below w1.heap.size w1 w3 := hw3 ▸ qalloc _ _
    have L3 : Loc w3 w1.heap.size #[.int .i64 m, .string s, .slice ua xl uc] := hw3 ▸ loc_at w1 _ _ rfl
    have d0 := L3.cell 0 rfl
    have d1 := L3.cell 1 rfl
    have d2 := L3.cell 2 rfl
    have B3 := Bw1.trans (b3.mono sW)
    have PL3 := hide ((unhide HPV).below B3)
    have PB3 : Hid (PX w3 (.slice (some ⟨g, off + k * 3, none⟩) nk ck) (ps.drop k) (us.drop k)) := hide ((unhide (hide (unhide HPB ck))).below B3)
    have INS := hide (unhide INSE)
    have s3 := b3.size
    have hlq : (ps.drop k).length ≤ n := by have := unhide Hn; simp; omega
    generalize ps.drop k = qs at *
    generalize us.drop k = ws at *
    skip
    go_wp2_with (first
     | (at_builtin; clear hw3 p0 p1 p2; refine append_first rfl _ _ rfl w1 ao n ca k ps us w1.heap.size _ _ _ xs rfl rfl (unhide PL3) hk (unhide EUW) d0 d1 d2 (unhide RUW) (by have := unhide Hn; omega) s3 ?_; intro v4 w4 X4 g4
        have b4 : Below w1.heap.size w1 w4 := b3.grown g4 s3 (fun j e => by cases e)
        have b34 : Below w3.heap.size w3 w4 := (Below.refl _ _).grown g4 (Nat.le_refl _) (fun j e => by cases e)
        have PB4 := hide ((unhide PB3).below b34)
        skip
        obtain ⟨a4, c4, hv4⟩ := X4.form
        have hle : (ps.take k ++ [(m, s, xs)]).length ≤ n + 1 := by simp; omega
        generalize ps.take k ++ [(m, s, xs)] = es at *
        subst hv4
        replace X4 := hide X4
        clear b34 PB3 g4 PL3 d0 d1 d2)
     | (at_builtin; refine append_xp rfl _ _ rfl w1 (.slice a4 es.length c4) (.slice (some ⟨g, off + k * 3, none⟩) nk ck) es qs _ ws rfl rfl (unhide X4) (unhide PB4) (unhide EQW) (by omega) b4.size ?_; intro v5 w5 X5 g5
        have r5 := World.ownsRow.lt (unhide X4).row
        have b5 := b4.grown g5 b4.size (fun j e => (r5 j e).1)
        have B5 := Bw1.trans (b5.mono sW)
        have R5 := X5.rpt b5
        rw [unhide INS] at R5
        obtain ⟨a5, c5, hv5⟩ := R5.form
        subst hv5
        replace R5 := hide R5
        clear r5 g5 X5 X4 PB4 b4))
    go_ret
    first | exact ⟨_, k, rfl, unhide HP, unhide R5, B5⟩ | exact ⟨_, rfl, k, unhide HP, unhide R5, B5⟩
   | true =>
    have INSE := hide (unhide ES rfl)
    rw [unhide ej rfl] at INSE
    have CC : ∀ w, (Instr.slice 57 (.slice (some ⟨g, off + k * 3, none⟩) nk ck) (some (.int .i64 1)) none none).run Tryz.prog w = .ok (.slice (if ck = 1 then some ⟨g, off + k * 3, none⟩ else (some (⟨g, off + k * 3, none⟩ : Addr)).map (·.add (1 * 3))) (nk - 1) (ck - 1)) w := fun w => by simpa using cut3_from (some ⟨g, off + k * 3, none⟩) nk ck 1 w (by omega)
    have HP1 : Hid (PX w (.slice (if ck = 1 then some ⟨g, off + k * 3, none⟩ else (some (⟨g, off + k * 3, none⟩ : Addr)).map (·.add (1 * 3))) (nk - 1) (ck - 1)) ((ps.drop k).drop 1) ((us.drop k).drop 1)) := hide ((unhide HPB ck).drop 1 (by omega) (ck - 1) (fun g' off' e hlt' => by cases e; rw [if_neg (by omega)]; simp [Addr.add]))
    generalize (if ck = 1 then some ⟨g, off + k * 3, none⟩ else (some (⟨g, off + k * 3, none⟩ : Addr)).map (·.add (1 * 3))) = bo2 at *
    have hn1 : nk - 1 ≤ n := by omega
    generalize nk - 1 = nk1 at *
    generalize ck - 1 = ck1 at *
    clear ES EN ej HPB
    go_upto_region 6 with fail
    refine wp_region_noPanic ?_
    refine wp_region_held_drew (S := (fun w' => w'.cell? ⟨hJ, 0, none⟩ = some (.int .i64 m1) ∧ w'.cell? ⟨hJ, 1, none⟩ = some (.string s1) ∧ w'.cell? ⟨hJ, 2, none⟩ = some (.slice aoJ x1'.length koJ))) (by kernel_rfl) ⟨J.cell 0 rfl, J.cell 1 rfl, J.cell 2 rfl⟩ (fun hHeld => ?_)
    obtain ⟨wd, hd'⟩ : ∃ y, w1.drew = y := ⟨_, rfl⟩
    have bd : Below w1.heap.size w1 wd := hd' ▸ Below.drew (Below.refl _ _)
    replace P := P.below bd P.lt
    replace J := J.below bd J.lt
    replace oJ := oJ.below bd
    have Bwd := Bw1.trans (bd.mono Bw1.size)
    have szd := bd.size
    rw [hd'] at hHeld ⊢
    clear hd' bd
    refine tk 0 39 (v := ?_) rfl (hy := .inl ⟨by rfl, ?_⟩) (h := ?_); rotate_left
    ·intro w hSw; (try dsimp only at hSw); go_simp; (try with_reducible rfl)
    simp only [pU]
    refine tk 1 40 (v := ?_) rfl (hy := .inl ⟨by rfl, ?_⟩) (h := ?_); rotate_left
    ·intro w hSw; (try dsimp only at hSw); go_simp; (try with_reducible rfl)
    simp only [pU]
    refine tk 2 41 (v := ?_) rfl (hy := .inl ⟨by rfl, ?_⟩) (h := ?_); rotate_left
    ·intro w hSw; (try dsimp only at hSw); go_simp; (try with_reducible rfl)
    simp only [pU]
    have c0 := P.cell 0 rfl
    have c1 := P.cell 1 rfl
    have c2 := P.cell 2 rfl
    have fc := P.frozen
    refine ready_at (i := 3) rfl (by kernel_rfl) (fun KK hKK => ?_)
    go_simp
    obtain ⟨wa, hwa⟩ : ∃ y, (((wd.setCell ⟨w.heap.size, 0, none⟩ (.int .i64 m1)).setCell ⟨w.heap.size, 1, none⟩ (.string s1)).setCell ⟨w.heap.size, 2, none⟩ (.slice aoJ x1'.length koJ)) = y := ⟨_, rfl⟩
    have kwa : Kp wd wa (fun k => k = w.heap.size) := hwa ▸ ((set_kp _ _ _ _).trans (set_kp _ _ _ _)).trans (set_kp _ _ _ _)
    replace P : Loc wa w.heap.size #[.int .i64 m1, .string s1, .slice aoJ x1'.length koJ] := hwa ▸ (((P.set 0 _ rfl).set 1 _ rfl).set 2 _ rfl)
    replace J := J.kp kwa (by omega)
    replace oJ := oJ.kp kwa (fun j hj e => by have := toJ j hj; omega)
    have Bwa := Below.kp Bwd kwa Bwd.size (fun k hk => by omega)
    have zwa := kwa.size
    rw [hwa]
    clear hwa kwa c0 c1 c2 fc Bwd
    clear hHeld
    refine hKK.out _ _ ⟨J.cell 0 rfl, J.cell 1 rfl, J.cell 2 rfl⟩ (fun hHeld => ?_)
    clear hKK KK
    refine tk 4 8 (v := ?_) rfl (hy := .inl ⟨by rfl, ?_⟩) (h := ?_); rotate_left
    ·intro w hSw; (try dsimp only at hSw); go_simp; (try with_reducible rfl)
    simp only [pU]
    clear hHeld
    refine wpAnyH_done (by kernel_rfl) ?_ _
    refine NoPanic.normal ?_
    clear CC J
    have p0 := P.cell 0 rfl
    have p1 := P.cell 1 rfl
    have p2 := P.cell 2 rfl
    have sW := Bwa.size
    have EUW : Hid (∀ k, k < ps.length → RI wa (us.getD k (.slice none 0 0)) (ps.getD k zpt).2.2) := hide fun k hk => (unhide HEU k hk).below Bwa (Nat.le_refl _)
    have RUW := hide (oJ.ri JL2)
    have EQW : Hid (∀ j, j < ((ps.drop k).drop 1).length → RI wa (((us.drop k).drop 1).getD j (.slice none 0 0)) (((ps.drop k).drop 1).getD j zpt).2.2) := hide (fun j hj => by rw [getD_dropV, getD_dropV, getD_drop, getD_drop]; exact unhide EUW _ (by simp at hj; omega))
    obtain ⟨w3, hw3⟩ : ∃ y, wa.alloc (.cells #[.int .i64 m1, .string s1, .slice aoJ x1'.length koJ] 52) = y := ⟨_, rfl⟩
    have b3 : Below wa.heap.size wa w3 := hw3 ▸ qalloc _ _
    have L3 : Loc w3 wa.heap.size #[.int .i64 m1, .string s1, .slice aoJ x1'.length koJ] := hw3 ▸ loc_at wa _ _ rfl
    have d0 := L3.cell 0 rfl
    have d1 := L3.cell 1 rfl
    have d2 := L3.cell 2 rfl
    have B3 := Bwa.trans (b3.mono sW)
    have PL3 := hide ((unhide HPV).below B3)
    have PB3 : Hid (PX w3 (.slice bo2 nk1 ck1) ((ps.drop k).drop 1) ((us.drop k).drop 1)) := hide ((unhide HP1).below B3)
    have INS := hide (unhide INSE)
    have s3 := b3.size
    have hlq : ((ps.drop k).drop 1).length ≤ n := by have := unhide Hn; simp; omega
    generalize (ps.drop k).drop 1 = qs at *
    generalize (us.drop k).drop 1 = ws at *
    skip
    go_wp2_with (first
     | (at_builtin; clear hw3 p0 p1 p2; refine append_first rfl _ _ rfl wa ao n ca k ps us wa.heap.size _ _ _ x1' rfl rfl (unhide PL3) hk (unhide EUW) d0 d1 d2 (unhide RUW) (by have := unhide Hn; omega) s3 ?_; intro v4 w4 X4 g4
        have b4 : Below wa.heap.size wa w4 := b3.grown g4 s3 (fun j e => by cases e)
        have b34 : Below w3.heap.size w3 w4 := (Below.refl _ _).grown g4 (Nat.le_refl _) (fun j e => by cases e)
        have PB4 := hide ((unhide PB3).below b34)
        skip
        obtain ⟨a4, c4, hv4⟩ := X4.form
        have hle : (ps.take k ++ [(m1, s1, x1')]).length ≤ n + 1 := by simp; omega
        generalize ps.take k ++ [(m1, s1, x1')] = es at *
        subst hv4
        replace X4 := hide X4
        clear b34 PB3 g4 PL3 d0 d1 d2)
     | (at_builtin; refine append_xp rfl _ _ rfl wa (.slice a4 es.length c4) (.slice bo2 nk1 ck1) es qs _ ws rfl rfl (unhide X4) (unhide PB4) (unhide EQW) (by omega) b4.size ?_; intro v5 w5 X5 g5
        have r5 := World.ownsRow.lt (unhide X4).row
        have b5 := b4.grown g5 b4.size (fun j e => (r5 j e).1)
        have B5 := Bwa.trans (b5.mono sW)
        have R5 := X5.rpt b5
        rw [unhide INS] at R5
        obtain ⟨a5, c5, hv5⟩ := R5.form
        subst hv5
        replace R5 := hide R5
        clear r5 g5 X5 X4 PB4 b4))
    go_ret
    first | exact ⟨_, k, rfl, unhide HP, unhide R5, B5⟩ | exact ⟨_, rfl, k, unhide HP, unhide R5, B5⟩
end Go.Proofs.YtmpmedbojfjnaaaGreatDoor
