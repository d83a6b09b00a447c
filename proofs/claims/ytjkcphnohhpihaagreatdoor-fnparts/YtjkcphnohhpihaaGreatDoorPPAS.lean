/- Lemmas; their conditions stand in each statement. -/
import Derived.Test.YtjkcphnohhpihaaGreatDoorPPAR
set_option maxRecDepth 100000
set_option maxHeartbeats 8000000
namespace Go.Proofs.YtjkcphnohhpihaaGreatDoor
section
open Go.RowKit
theorem compare_i' (x y : Int) (w : World) : Calls Tryz.prog 90 #[.int .i64 x,.int .i64 y] w fun e w' => e = .returned (.int .i64 (cmpI x y)) ∧ Below w.heap.size w w' :=
 (compare_i x y w).mono fun _ _ h => ⟨h.1, h.2 ▸ Below.refl _ _⟩
theorem compare_s' (s t : ByteArray) (w : World) : Calls Tryz.prog 110 #[.string s,.string t] w fun e w' => e = .returned (.int .i64 (cmpS s t)) ∧ Below w.heap.size w w' :=
 (compare_s s t w).mono fun _ _ h => ⟨h.1, h.2 ▸ Below.refl _ _⟩
theorem compareParts_any (m n : Int) (s t : ByteArray) (u v : Value) (xs ys : List Int) (w : World) :
 Calls Tryz.prog 72 #[qv m s u, qv n t v] w fun e w' => e = .returned (.int .i64 (cmpP (m, s, xs) (n, t, ys))) ∧ Below w.heap.size w w' := by
 have OR : Hid (∀ g w, w.cell? ⟨g, 0, none⟩ = some (.int .i64 (cmpI m n)) → w.cell? ⟨g, 1, none⟩ = some (.int .i64 (cmpS s t)) → Calls Tryz.prog 109 #[.slice (some ⟨g, 0, none⟩) 2 2] w fun e w' => e = .returned (.int .i64 (cmpP (m, s, xs) (n, t, ys))) ∧ Below w.heap.size w w') :=
  hide fun g w h0 h1 => (or_two (cmpI m n) (cmpS s t) g w h0 h1).mono fun _ _ h => ⟨h.1, h.2 ▸ Below.refl _ _⟩
 generalize cmpP (m, s, xs) (n, t, ys) = q at *
 obtain ⟨w0, hw0, Bw0, LX, LY, _⟩:=bx2 w #[.int .i64 m,.string s, u] 36 #[.int .i64 n,.string t, v] 36
 go_enter Tryz.func72, Tryz.ntmps72
 have K:=kw (ka (kc3 LX 0 1 2) (kc3 LY 0 1 2))
 go_upto_region 1 with fail
 clear hw0
 refine wra K (fun bA hHeld => ?_)
 refine tx 0 5 ?_
 refine tx 2 7 ?_
 refine tx 5 10 ?_
 refine tx 7 12 ?_
 refine tx 1 6 ?_
 refine tx 3 8 ?_
 refine tx 6 11 ?_
 refine tx 8 13 ?_
 refine rd 4 rfl (fun KK hKK => ?_)
 go_simp
 have hgo:=bA
 refine (compare_i' m n _).mono ?_
 rintro e wz1_1 ⟨rfl, bb⟩
 have bz1 : Below w0.heap.size w0 wz1_1:=bu bA bb
 clear bA hgo bb hHeld
 refine hKK.out _ _ (K.out _ bz1) (fun hHeld => ?_)
 clear hKK KK
 refine rd 9 rfl (fun KK hKK => ?_)
 go_simp
 have hgo:=bz1
 refine (compare_s' s t _).mono ?_
 rintro e wz1_2 ⟨rfl, bb⟩
 have bz2 : Below w0.heap.size w0 wz1_2:=bu bz1 bb
 clear bz1 hgo bb hHeld
 refine hKK.out _ _ (K.out _ bz2) (fun hHeld => ?_)
 clear hKK KK
 refine rd 10 rfl (fun KK hKK => ?_)
 go_simp
 obtain ⟨wz1_3, hwz1_3⟩ : ∃ x, (wz1_2).alloc (.cells #[.int .i64 (cmpI m n),.int .i64 (cmpS s t)] 3) = x:=⟨_, rfl⟩
 have bz3 : Below w0.heap.size w0 wz1_3:=hwz1_3 ▸ bz2.alloc bz2.size _
 have LE : Loc wz1_3 (wz1_2).heap.size #[.int .i64 (cmpI m n),.int .i64 (cmpS s t)]:=hwz1_3 ▸ loc_at (wz1_2) _ _ rfl
 rw [hwz1_3]
 clear bz2 hwz1_3 hHeld
 refine hKK.out _ _ (K.out _ bz3) (fun hHeld => ?_)
 clear hKK KK
 refine rd 11 rfl (fun KK hKK => ?_)
 go_simp
 have hgo:=bz3
 refine (OR.out _ _ (LE.cell 0 rfl) (LE.cell 1 rfl)).mono ?_
 rintro e wz1_4 ⟨rfl, bb⟩
 have bz4 : Below w0.heap.size w0 wz1_4:=bu bz3 bb
 replace LE:=LE.up bb
 clear bz3 hgo bb hHeld
 refine hKK.out _ _ (K.out _ bz4) (fun hHeld => ?_)
 clear hKK KK
 refine tx 12 4 ?_
 clear hHeld
 refine wdn ?_
 have bb:=bz4
 have Bwz1_4:=bu Bw0 bb
 have swz1_4:=bb.size
 replace LX:=LX.up bb
 replace LY:=LY.up bb
 clear Bw0 bb bz4 K
 go_wp2
 go_ret
 exact ⟨rfl, Bwz1_4⟩
theorem searchP (v : Value) (ps : List Pt) (m0 : Int) (s0 : ByteArray) (pa : Option Addr) (pl pc : Nat) (xs0 : List Int) (w : World) (hl : ps.length ≤ 4194304) (h : RPt w v ps) :
 Calls Tryz.prog 93 #[v, qv m0 s0 (.slice pa pl pc),.func (.func 72) #[] #[]] w fun e w' => ∃ (k : Nat) (b : Bool), e = .returned (.tuple #[.int .i64 k,.bool b]) ∧ PlaceP ps (m0, s0, xs0) k ∧ Below w.heap.size w w' := by
 obtain ⟨ao, ca, rfl⟩:=h.form
 have H:=hide h
 obtain ⟨n, hn⟩ : ∃ n, ps.length = n:=⟨_, rfl⟩
 have Hn:=hide hn
 have HP : Hid (∀ k, k ≤ n → (∀ i, k = i + 1 → befP (ps.getD i zpt) (m0, s0, xs0) = true) → (k < n → befP (ps.getD k zpt) (m0, s0, xs0) = false) → PlaceP ps (m0, s0, xs0) k):=hide fun k h0 h1 h2 => ⟨by omega, h1, fun h => h2 (by omega)⟩
 rw [hn] at hl H ⊢
 clear h hn
 obtain ⟨w0, hw0⟩ : ∃ y, w.alloc (.cells #[.int .i64 m0,.string s0,.slice pa pl pc] 36) = y:=⟨_, rfl⟩
 have B0 : Below w.heap.size w w0:=hw0 ▸ qalloc _ _
 have L0 : Loc w0 w.heap.size #[.int .i64 m0,.string s0,.slice pa pl pc]:=hw0 ▸ loc_at w _ _ rfl
 go_enter Tryz.func93, Tryz.ntmps93
 go_wp2
 clear hw0
 go_loopw [9, 10] (fun i j wr => ∃ lo hi : Nat, lo ≤ hi ∧ hi ≤ n ∧ i = .int .i64 lo ∧ j = .int .i64 hi ∧ Hid (∀ p, lo = p + 1 → befP (ps.getD p zpt) (m0, s0, xs0) = true) ∧ Hid (hi < n → befP (ps.getD hi zpt) (m0, s0, xs0) = false) ∧ Loc wr w.heap.size #[.int .i64 m0,.string s0,.slice pa pl pc] ∧ Below w.heap.size w wr) (fun i j _ => (intOf j).toNat - (intOf i).toNat)
 case atStart => exact ⟨0, n, Nat.zero_le _, Nat.le_refl _, by go_num, rfl, hide (fun p hp => by omega), hide (fun h => absurd h (Nat.lt_irrefl n)), L0, B0⟩
 case round =>
  clear L0 B0
  obtain ⟨lo, hi, hlh, hhn, rfl, rfl, H1, H2, L, br⟩:=hrel
  have bA : Below wr.heap.size wr wr.drew:=Below.drew (Below.refl _ _)
  by_cases hlt : lo < hi
  ·obtain ⟨m, hm⟩ : ∃ m, (lo + hi) / 2 = m:=⟨_, rfl⟩
   have hm1 : lo ≤ m:=by omega
   have hm2 : m < hi:=by omega
   have hmn : m < n:=by omega
   have em : ((lo : Int) + (hi : Int)) / 2 = (m : Int):=by omega
   have hwm : IntKind.i64.wrap (m : Int) = (m : Int):=by rw [IntKind.wrap_i64]; omega
   replace hm:=hide hm
   have HR:=H.out.below br
   obtain ⟨g, off, u, rfl, c0, c1, c2, ru⟩:=HR.at m (by rw [Hn.out]; omega)
   obtain ⟨yc, ye, rfl⟩:=ru.form
   have CT:=hide fun w => compareParts_any (ps.getD m zpt).1 m0 (ps.getD m zpt).2.1 s0 (.slice yc (ps.getD m zpt).2.2.length ye) (.slice pa pl pc) (ps.getD m zpt).2.2 xs0 w
   have ecmp : cmpP ((ps.getD m zpt).1, (ps.getD m zpt).2.1, (ps.getD m zpt).2.2) (m0, s0, xs0) = cmpP (ps.getD m zpt) (m0, s0, xs0):=rfl
   rw [ecmp] at CT
   have hcm:=hide (cmpP_lt (ps.getD m zpt) (m0, s0, xs0))
   have hqi:=cmpP_in (ps.getD m zpt) (m0, s0, xs0)
   have lg:=cell_lt c0
   clear ecmp ru HR
   have HM1 : Hid (befP (ps.getD m zpt) (m0, s0, xs0) = true → ∀ p, m + 1 = p + 1 → befP (ps.getD p zpt) (m0, s0, xs0) = true):=hide fun h p hp => by rw [show p = m from by omega]; exact h
   have HM2 : Hid (befP (ps.getD m zpt) (m0, s0, xs0) = false → m < n → befP (ps.getD m zpt) (m0, s0, xs0) = false):=hide fun h _ => h
   obtain ⟨bf, hbf⟩ : ∃ b, befP (ps.getD m zpt) (m0, s0, xs0) = b:=⟨_, rfl⟩
   have HB:=hide hbf
   rw [hbf] at hcm
   clear hbf
   generalize cmpP (ps.getD m zpt) (m0, s0, xs0) = q at *
   generalize (ps.getD m zpt).1 = ya at *
   generalize (ps.getD m zpt).2.1 = yb at *
   generalize (ps.getD m zpt).2.2.length = yd at *
   have K : Hid (∀ w', Below wr.heap.size wr w' → (fun w' => (w'.cell? ⟨g, off + m * 3, none⟩ = some (.int .i64 ya) ∧ w'.cell? ⟨g, off + m * 3 + 1, none⟩ = some (.string yb) ∧ w'.cell? ⟨g, off + m * 3 + 2, none⟩ = some (.slice yc yd ye)) ∧ (w'.cell? ⟨w.heap.size, 0, none⟩ = some (.int .i64 m0) ∧ w'.cell? ⟨w.heap.size, 1, none⟩ = some (.string s0) ∧ w'.cell? ⟨w.heap.size, 2, none⟩ = some (.slice pa pl pc))) w'):=hide fun w' hb => by
    have l:=L.up hb
    exact ⟨⟨(hb.cell (p := ⟨g, off + m * 3, none⟩) lg).trans c0, (hb.cell (p := ⟨g, off + m * 3 + 1, none⟩) lg).trans c1, (hb.cell (p := ⟨g, off + m * 3 + 2, none⟩) lg).trans c2⟩, ⟨l.cell 0 rfl, l.cell 1 rfl, l.cell 2 rfl⟩⟩
   clear c0 c1 c2
   go_upto_region 5 with fail
   refine wrn K bA (fun hHeld => ?_)
   refine tx 0 24 ?_
   refine tx 1 25 ?_
   refine tx 2 26 ?_
   refine tx 5 29 ?_
   refine tx 3 27 ?_
   refine tx 4 28 ?_
   refine rd 6 rfl (fun KK hKK => ?_)
   go_simp
   refine (CT.out _).mono ?_
   rintro _ wa ⟨rfl, ba⟩
   have bB : Below wr.heap.size wr wa:=bu bA ba
   clear hHeld
   refine hKK.out _ _ (K.out _ bB) (fun hHeld => ?_)
   clear hKK KK
   refine tx 7 31 ?_
   clear hHeld
   refine wdn ?_
   have LB:=L.up bB
   have BB:=bu br bB
   by_cases hq : q < 0
   ·have HM:=hide (HM1.out (HB.out.trans (hcm.out.1 hq)))
    clear HM1 HM2 hcm HB
    go_wp2
    go_roundw
    case rel => exact ⟨m + 1, hi, by omega, by omega, by go_num, rfl, HM, H2, LB, BB⟩
    case measure => simp [intOf]; omega
   have HM:=hide (HM2.out (HB.out.trans (by cases bf with | false => rfl | true => exact absurd (hcm.out.2 rfl) hq)))
   clear HM1 HM2 hcm HB
   go_wp2
   go_roundw
   case rel => exact ⟨lo, m, by omega, by omega, rfl, rfl, H1, HM, LB, BB⟩
   case measure => simp [intOf]; omega
  obtain rfl : lo = hi:=by omega
  have HQ:=hide (HP.out lo hhn H1.out H2.out)
  by_cases hn : lo < n
  ·have HR:=H.out.below br
   obtain ⟨g, off, u, rfl, c0, c1, c2, ru⟩:=HR.at lo (by rw [Hn.out]; omega)
   obtain ⟨yc, ye, rfl⟩:=ru.form
   have CT:=hide fun w => compareParts_any (ps.getD lo zpt).1 m0 (ps.getD lo zpt).2.1 s0 (.slice yc (ps.getD lo zpt).2.2.length ye) (.slice pa pl pc) (ps.getD lo zpt).2.2 xs0 w
   have ecmp : cmpP ((ps.getD lo zpt).1, (ps.getD lo zpt).2.1, (ps.getD lo zpt).2.2) (m0, s0, xs0) = cmpP (ps.getD lo zpt) (m0, s0, xs0):=rfl
   rw [ecmp] at CT
   have hcm:=hide (cmpP_lt (ps.getD lo zpt) (m0, s0, xs0))
   have hqi:=cmpP_in (ps.getD lo zpt) (m0, s0, xs0)
   have lg:=cell_lt c0
   clear ecmp ru HR H1 H2 HP hcm
   generalize cmpP (ps.getD lo zpt) (m0, s0, xs0) = q at *
   generalize (ps.getD lo zpt).1 = ya at *
   generalize (ps.getD lo zpt).2.1 = yb at *
   generalize (ps.getD lo zpt).2.2.length = yd at *
   have K : Hid (∀ w', Below wr.heap.size wr w' → (fun w' => (w'.cell? ⟨g, off + lo * 3, none⟩ = some (.int .i64 ya) ∧ w'.cell? ⟨g, off + lo * 3 + 1, none⟩ = some (.string yb) ∧ w'.cell? ⟨g, off + lo * 3 + 2, none⟩ = some (.slice yc yd ye)) ∧ (w'.cell? ⟨w.heap.size, 0, none⟩ = some (.int .i64 m0) ∧ w'.cell? ⟨w.heap.size, 1, none⟩ = some (.string s0) ∧ w'.cell? ⟨w.heap.size, 2, none⟩ = some (.slice pa pl pc))) w'):=hide fun w' hb => by
    have l:=L.up hb
    exact ⟨⟨(hb.cell (p := ⟨g, off + lo * 3, none⟩) lg).trans c0, (hb.cell (p := ⟨g, off + lo * 3 + 1, none⟩) lg).trans c1, (hb.cell (p := ⟨g, off + lo * 3 + 2, none⟩) lg).trans c2⟩, ⟨l.cell 0 rfl, l.cell 1 rfl, l.cell 2 rfl⟩⟩
   clear c0 c1 c2
   go_upto_region 8 with fail
   refine wrn K bA (fun hHeld => ?_)
   refine tx 0 35 ?_
   refine tx 1 36 ?_
   refine tx 2 37 ?_
   refine tx 3 38 ?_
   refine tx 4 39 ?_
   refine tx 5 40 ?_
   refine tx 6 41 ?_
   refine tx 7 42 ?_
   refine tx 10 45 ?_
   refine tx 8 43 ?_
   refine tx 9 44 ?_
   refine rd 11 rfl (fun KK hKK => ?_)
   go_simp
   refine (CT.out _).mono ?_
   rintro _ wa ⟨rfl, ba⟩
   have bB : Below wr.heap.size wr wa:=bu bA ba
   clear hHeld
   refine hKK.out _ _ (K.out _ bB) (fun hHeld => ?_)
   clear hKK KK
   refine tx 12 47 ?_
   refine tx 14 6 ?_
   refine tx 13 48 ?_
   refine tx 15 7 ?_
   clear hHeld
   refine wdn ?_
   have BB:=bu br bB
   go_wp2
   go_ret2
   exact ⟨lo, by simp; omega, HQ.out, BB⟩
  have K : Hid (∀ w', Below wr.heap.size wr w' → (fun w' => (w'.cell? ⟨w.heap.size, 0, none⟩ = some (.int .i64 m0) ∧ w'.cell? ⟨w.heap.size, 1, none⟩ = some (.string s0) ∧ w'.cell? ⟨w.heap.size, 2, none⟩ = some (.slice pa pl pc))) w'):=hide fun w' hb => by
   have l:=L.up hb
   exact ⟨l.cell 0 rfl, l.cell 1 rfl, l.cell 2 rfl⟩
  have hnd : decide ((lo : Int) < (n : Int)) = false:=by simp; omega
  clear H1 H2 HP
  go_upto_region 8 with fail
  refine wrn K bA (fun hHeld => ?_)
  refine tx 0 35 ?_
  refine tx 1 36 ?_
  refine tx 2 37 ?_
  refine tx 3 38 ?_
  refine tx 4 39 ?_
  refine sx 5 40 ?_
  refine sx 6 41 ?_
  refine sx 7 42 ?_
  refine sx 10 45 ?_
  refine sx 8 43 ?_
  refine sx 9 44 ?_
  refine sx 11 46 ?_
  refine sx 12 47 ?_
  refine tx 14 6 ?_
  refine tx 13 48 ?_
  refine tx 15 7 ?_
  clear hHeld
  refine wdn ?_
  go_wp2
  go_ret2
  exact ⟨lo, by simp, HQ.out, bu br bA⟩
structure XPt (w0 w : World) (v : Value) (ps : List Pt) (us : List Value) : Prop where
 len : us.length = ps.length
 row : w.ownsRow w0.heap.size 36 3 v ps.length (pcells ((ps.map phd).zip us))
 each : ∀ k, k < ps.length → RI w0 (us.getD k (.slice none 0 0)) (ps.getD k zpt).2.2
theorem xpt_nil (w0 w : World) : XPt w0 w (.slice none 0 0) [] [] :=
 ⟨rfl, World.ownsRow_nil _ _ _ _, fun k hk => by simp at hk⟩
theorem XPt.below {w0 w w' : World} {v : Value} {ps : List Pt} {us : List Value} (h : XPt w0 w v ps us) (hb : Below w.heap.size w w') : XPt w0 w' v ps us :=
 ⟨h.len, World.ownsRow.kept (row := none) h.row ⟨hb.os, hb.tape, hb.output, hb.size, fun k hk _ => hb.block k hk⟩ (by cases v.ownBlock <;> simp), h.each⟩
theorem XPt.form {w0 w : World} {v : Value} {ps : List Pt} {us : List Value} (h : XPt w0 w v ps us) : ∃ ao ca, v = .slice ao ps.length ca := by
 rcases h.row.2 with ⟨rfl, h0⟩ | ⟨g, cap, cur, rfl, _⟩
 ·exact ⟨none, 0, by rw [h0]⟩
 exact ⟨_, _, rfl⟩
theorem XPt.rpt {w0 w : World} {v : Value} {ps : List Pt} {us : List Value} (h : XPt w0 w v ps us) (hb : Below w0.heap.size w0 w) : RPt w v ps := by
 have hz : ((ps.map phd).zip us).length = ps.length:=by simp [h.len]
 rcases h.row.2 with ⟨rfl, h0⟩ | ⟨g, cap, cur, rfl, _⟩
 ·exact ⟨none, 0, by rw [h0], .inl (List.length_eq_zero_iff.1 h0)⟩
 refine ⟨_, cap, rfl, .inr ⟨g, 0, rfl, fun k hk => ?_⟩⟩
 have c0:=World.ownsRow.cellAt h.row (k * 3 + 0) (by omega)
 have c1:=World.ownsRow.cellAt h.row (k * 3 + 1) (by omega)
 have c2:=World.ownsRow.cellAt h.row (k * 3 + 2) (by omega)
 rw [pcells_get _ k _ (by omega) (by omega), pzip_get ps us h.len k hk] at c0 c1 c2
 refine ⟨_, ?_, ?_, ?_, (h.each k hk).below hb⟩
 ·rw [Nat.zero_add]; exact c0
 ·rw [Nat.zero_add]; exact c1
 rw [Nat.zero_add]; exact c2
theorem xpt_more {w0 w' : World} {v' : Value} {ps : List Pt} {us : List Value} {m : Int} {s : ByteArray} {u : Value} {xs : List Int} (hl : us.length = ps.length) (he : ∀ k, k < ps.length → RI w0 (us.getD k (.slice none 0 0)) (ps.getD k zpt).2.2) (hu : RI w0 u xs)
 (hr : w'.ownsRow w0.heap.size 36 3 v' (ps.length + 1) (pcells ((ps.map phd).zip us) ++ pcell ((m, s), u))) : XPt w0 w' v' (ps ++ [(m, s, xs)]) (us ++ [u]) := by
 refine ⟨by simp [hl], ?_, fun k hk => ?_⟩
 ·have e : ((ps ++ [(m, s, xs)]).map phd).zip (us ++ [u]) = (ps.map phd).zip us ++ [((m, s), u)]:=by
   rw [List.map_append, List.zip_append (by simp [hl])]; rfl
  rw [e, pcells_append, List.length_append]
  simpa [pcells] using hr
 rw [List.length_append, List.length_singleton] at hk
 by_cases e : k < ps.length
 ·rw [List.getD_eq_getElem?_getD, List.getElem?_append_left (by rw [hl]; exact e), ← List.getD_eq_getElem?_getD, List.getD_eq_getElem?_getD (l := ps ++ _), List.getElem?_append_left e, ← List.getD_eq_getElem?_getD]
  exact he k e
 obtain rfl : k = ps.length:=by omega
 have e1 : (us ++ [u]).getD ps.length (.slice none 0 0) = u:=by rw [← hl]; simp
 have e2 : (ps ++ [(m, s, xs)]).getD ps.length zpt = (m, s, xs):=by simp
 rw [e1, e2]
 exact hu
theorem append_x {ops : Array Oper} {rest : List Oper} {o : Oper} {a : Act} {Q : Exit → Act → World → Prop} {w : World} (hgd : o.guard = none) (s x : Operand)
 (ho : o.op = .call { callee := .builtin .append, args := #[s, x], argTypes := #[30, 30] }) (w0 : World) (v : Value) (ps : List Pt) (us : List Value) (g cp : Nat) (m : Int) (nm : ByteArray) (u : Value) (xs : List Int) (hs : a.eval s = v) (hx : a.eval x = .slice (some ⟨g, 0, none⟩) 1 cp)
 (htab : XPt w0 w v ps us) (c0 : w.cell? ⟨g, 0, none⟩ = some (.int .i64 m)) (c1 : w.cell? ⟨g, 1, none⟩ = some (.string nm)) (c2 : w.cell? ⟨g, 2, none⟩ = some u) (hu : RI w0 u xs)
 (hl : ps.length ≤ 4194304) (hbase : w0.heap.size ≤ w.heap.size)
 (h : ∀ v' w', XPt w0 w' v' (ps ++ [(m, nm, xs)]) (us ++ [u]) → w.grownBy w' v.ownBlock → wpList Tryz.prog ops Q rest (a.put o.dst v') w') :
 wpList Tryz.prog ops Q (o :: rest) a w := by
 obtain ⟨i0, hi, hz0, hz1, hz2⟩:=info_parts Tryz.infoPt
 have hn : ∀ j y, (pcell ((m, nm), u))[j]? = some y → w.cell? ((⟨g, 0, none⟩ : Addr).add j) = some y:=by
  intro j y hj
  match j, hj with
  | 0, hj => simp [pcell] at hj; subst hj; simpa [Addr.add] using c0
  | 1, hj => simp [pcell] at hj; subst hj; simpa [Addr.add] using c1
  | 2, hj => simp [pcell] at hj; subst hj; simpa [Addr.add] using c2
  | j + 3, hj => simp [pcell] at hj
 have hp : ∀ y ∈ pcell ((m, nm), u), y.oneCell' = true:=by
  intro y hy
  simp [pcell] at hy
  rcases hy with rfl | rfl | rfl
  ·rfl
  ·rfl
  obtain ⟨a, c, rfl⟩:=hu.form; rfl
 refine wpList_append_own_at _ hgd s x 30 ho w0.heap.size 36 i0 (qv 0 ⟨#[]⟩ (.slice none 0 0)) 3 48 Tryz.underlying30 hi hz0 hz1 hz2 rfl (by decide) v ps.length (pcells ((ps.map phd).zip us)) hs htab.row ⟨g, 0, none⟩ 1 cp (pcell ((m, nm), u)) hx (by simp [pcell]) hn hp (by unfold maxLen; omega) (by omega) hbase ?_
 intro v' w' ho' hg' _ _
 exact h v' w' (xpt_more htab.len htab.each hu ho') hg'
def PX (w : World) (v : Value) (ps : List Pt) (us : List Value) : Prop :=
 us.length = ps.length ∧ ∃ ao cap, v = .slice ao ps.length cap ∧ (ps = [] ∨ ∃ g off, ao = some ⟨g, off, none⟩ ∧ ∀ j u, (pcells ((ps.map phd).zip us))[j]? = some u → w.cell? ⟨g, off + j, none⟩ = some u)
theorem PX.below {w w' : World} {v : Value} {ps : List Pt} {us : List Value} (h : PX w v ps us) (hb : Below w.heap.size w w') : PX w' v ps us := by
 obtain ⟨hl, ao, cap, rfl, h⟩:=h
 refine ⟨hl, ao, cap, rfl, ?_⟩
 rcases h with h | ⟨g, off, rfl, h⟩
 ·exact .inl h
 exact .inr ⟨g, off, rfl, fun j u hj => (hb.cell (cell_lt (h j u hj))).trans (h j u hj)⟩
theorem PX.kp {w w' : World} {X : Nat → Prop} {v : Value} {ps : List Pt} {us : List Value} (h : PX w v ps us) (k : Kp w w' X) (hX : ∀ b, v.ownBlock = some b → ¬ X b) : PX w' v ps us := by
 obtain ⟨hl, ao, cap, rfl, h⟩:=h
 refine ⟨hl, ao, cap, rfl, ?_⟩
 rcases h with h | ⟨g, off, rfl, h⟩
 ·exact .inl h
 exact .inr ⟨g, off, rfl, fun j u hj => (World.cell?_of_block (a := ⟨g, off + j, none⟩) (k.block g (cell_lt (h j u hj)) (hX g rfl))).trans (h j u hj)⟩
theorem pcells_at {l : List ((Int × ByteArray) × Value)} {j : Nat} {u : Value} (h : (pcells l)[j]? = some u) : j / 3 < l.length ∧ j % 3 < 3 ∧ (pcell (l.getD (j / 3) ((0, ⟨#[]⟩),.slice none 0 0)))[j % 3]? = some u := by
 have hj : j < (pcells l).length:=(List.getElem?_eq_some_iff.1 h).1
 rw [pcells_len] at hj
 have h1 : j / 3 < l.length:=by omega
 refine ⟨h1, by omega, ?_⟩
 rw [← pcells_get l (j / 3) (j % 3) h1 (by omega), show j / 3 * 3 + j % 3 = j by omega]
 exact h
theorem RPt.px {w : World} {v : Value} {ps : List Pt} (h : RPt w v ps) : ∃ us, PX w v ps us ∧ ∀ k, k < ps.length → RI w (us.getD k (.slice none 0 0)) (ps.getD k zpt).2.2 := by
 obtain ⟨ao, cap, rfl, h⟩:=h
 rcases h with rfl | ⟨g, off, rfl, h⟩
 ·exact ⟨[], ⟨rfl, _, _, rfl, .inl rfl⟩, fun k hk => by simp at hk⟩
 let us : List Value := (List.range ps.length).map fun k => if hk : k < ps.length then Classical.choose (h k hk) else .slice none 0 0
 have hlen : us.length = ps.length:=by simp [us]
 have hget : ∀ k (hk : k < ps.length), us.getD k (.slice none 0 0) = Classical.choose (h k hk):=fun k hk => by
  simp [us, hk]
 refine ⟨us, ⟨hlen, _, _, rfl, .inr ⟨g, off, rfl, fun j u hj => ?_⟩⟩, fun k hk => ?_⟩
 ·obtain ⟨h1, h2, h3⟩:=pcells_at hj
  have hk : j / 3 < ps.length:=by simpa [hlen] using h1
  rw [pzip_get ps us hlen _ hk, hget _ hk] at h3
  have hc:=Classical.choose_spec (h (j / 3) hk)
  have hj3 : j = j / 3 * 3 + j % 3:=by omega
  generalize j / 3 = q at *
  generalize j % 3 = r at *
  subst hj3
  match r, h2, h3 with
  | 0, _, h3 => simp [pcell, phd] at h3; subst h3; exact hc.1
  | 1, _, h3 => simp [pcell, phd] at h3; subst h3; exact hc.2.1
  | 2, _, h3 => simp [pcell, phd] at h3; subst h3; exact hc.2.2.1
 rw [hget k hk]
 exact (Classical.choose_spec (h k hk)).2.2.2
theorem pcells_take (l : List ((Int × ByteArray) × Value)) (k j : Nat) (u : Value) (h : (pcells (l.take k))[j]? = some u) : (pcells l)[j]? = some u := by
 have : pcells l = pcells (l.take k) ++ pcells (l.drop k):=by rw [← pcells_append, List.take_append_drop]
 rw [this]
 exact (List.getElem?_append_left (List.getElem?_eq_some_iff.1 h).1).trans h
theorem pcells_drop (l : List ((Int × ByteArray) × Value)) (k j : Nat) (u : Value) (hk : k ≤ l.length) (h : (pcells (l.drop k))[j]? = some u) : (pcells l)[k * 3 + j]? = some u := by
 have e : pcells l = pcells (l.take k) ++ pcells (l.drop k):=by rw [← pcells_append, List.take_append_drop]
 have hl : (pcells (l.take k)).length = k * 3:=by rw [pcells_len, List.length_take]; congr 1; omega
 rw [e, List.getElem?_append_right (by omega), hl, show k * 3 + j - k * 3 = j by omega]
 exact h
theorem PX.drop {w : World} {ao : Option Addr} {n cap : Nat} {ps : List Pt} {us : List Value} (h : PX w (.slice ao n cap) ps us) (k : Nat) (hk : k ≤ n) (cap' : Nat) {bo : Option Addr} (hb : ∀ g off, ao = some ⟨g, off, none⟩ → k < n → bo = some ⟨g, off + k * 3, none⟩) : PX w (.slice bo (n - k) cap') (ps.drop k) (us.drop k) := by
 obtain ⟨hl, ao', cap0, e, h⟩:=h
 cases e
 refine ⟨by simp [hl], bo, cap', by simp, ?_⟩
 rcases h with rfl | ⟨g, off, rfl, h⟩
 ·left; simp
 by_cases hlt : k < ps.length
 ·refine .inr ⟨g, off + k * 3, hb g off rfl hlt, fun j u hj => ?_⟩
  have e : ((ps.drop k).map phd).zip (us.drop k) = ((ps.map phd).zip us).drop k:=by
   rw [List.zip_eq_zipWith, List.zip_eq_zipWith, List.drop_zipWith, List.map_drop]
  rw [e] at hj
  have:=h _ u (pcells_drop _ k j u (by simp [hl]; omega) hj)
  rwa [show off + k * 3 + j = off + (k * 3 + j) by omega]
 left; simp; omega
theorem append_first {ops : Array Oper} {rest : List Oper} {o : Oper} {a : Act} {Q : Exit → Act → World → Prop} {w : World} (hgd : o.guard = none) (s x : Operand)
 (ho : o.op = .call { callee := .builtin .append, args := #[s, x], argTypes := #[30, 30] }) (w0 : World) (ao : Option Addr) (n ca k : Nat) (ps : List Pt) (us : List Value) (g : Nat) (m : Int) (nm : ByteArray) (u : Value) (xs : List Int) (hs : a.eval s = .slice ao k k) (hx : a.eval x = .slice (some ⟨g, 0, none⟩) 1 1)
 (hp : PX w (.slice ao n ca) ps us) (hk : k ≤ n) (he : ∀ k, k < ps.length → RI w0 (us.getD k (.slice none 0 0)) (ps.getD k zpt).2.2) (c0 : w.cell? ⟨g, 0, none⟩ = some (.int .i64 m)) (c1 : w.cell? ⟨g, 1, none⟩ = some (.string nm)) (c2 : w.cell? ⟨g, 2, none⟩ = some u) (hu : RI w0 u xs)
 (hl : ps.length ≤ 4194304) (hbase : w0.heap.size ≤ w.heap.size)
 (h : ∀ v' w', XPt w0 w' v' (ps.take k ++ [(m, nm, xs)]) (us.take k ++ [u]) → w.grownBy w' none → wpList Tryz.prog ops Q rest (a.put o.dst v') w') :
 wpList Tryz.prog ops Q (o :: rest) a w := by
 obtain ⟨i0, hi, hz0, hz1, hz2⟩:=info_parts Tryz.infoPt
 obtain ⟨hlu, ao', cap0, e, hp⟩:=hp
 cases e
 have hn : ∀ j y, (pcell ((m, nm), u))[j]? = some y → w.cell? ((⟨g, 0, none⟩ : Addr).add j) = some y:=by
  intro j y hj
  match j, hj with
  | 0, hj => simp [pcell] at hj; subst hj; simpa [Addr.add] using c0
  | 1, hj => simp [pcell] at hj; subst hj; simpa [Addr.add] using c1
  | 2, hj => simp [pcell] at hj; subst hj; simpa [Addr.add] using c2
  | j + 3, hj => simp [pcell] at hj
 have h1c : ∀ y ∈ pcell ((m, nm), u), y.oneCell' = true:=by
  intro y hy
  simp [pcell] at hy
  rcases hy with rfl | rfl | rfl
  ·rfl
  ·rfl
  obtain ⟨a, c, rfl⟩:=hu.form; rfl
 have ez : ((ps.take k).map phd).zip (us.take k) = ((ps.map phd).zip us).take k:=by rw [List.zip_eq_zipWith, List.zip_eq_zipWith, List.take_zipWith, List.map_take]
 have hlk : (ps.take k).length = k:=by simp; omega
 have hlo : (pcells (((ps.take k).map phd).zip (us.take k))).length = k * 3:=by rw [pcells_len]; simp [hlu]; omega
 refine wpList_append_grows (P := Tryz.prog) w hgd s x 30 ho 36 i0 (qv 0 ⟨#[]⟩ (.slice none 0 0)) 3 48 Tryz.underlying30 hi hz0 hz1 hz2 rfl (by decide) ao k k (pcells (((ps.take k).map phd).zip (us.take k))) hs ?_ hlo ?_ ⟨g, 0, none⟩ 1 1 (pcell ((m, nm), u)) hx (by simp [pcell]) hn h1c (by omega) (by unfold maxLen; omega) (by omega) ?_
 ·intro e
  rcases hp with rfl | ⟨g', off, e', _⟩
  ·simp at hk; omega
  rw [e] at e'; cases e'
 ·intro b hb j y hj
  rcases hp with rfl | ⟨g', off, e', hc⟩
  ·simp [pcells] at hj
  rw [hb] at e'
  cases e'
  rw [ez] at hj
  have e : ((⟨g', off, none⟩ : Addr).add j) = ⟨g', off + j, none⟩:=by unfold Addr.add; split <;> simp_all
  rw [e]
  exact hc j y (pcells_take _ k j y hj)
 intro v' w' ho' hg'
 refine h v' w' ?_ hg'
 refine xpt_more (by simp [hlu]) (fun j hj => ?_) hu ?_
 ·rw [hlk] at hj
  have e1 : (us.take k).getD j (.slice none 0 0) = us.getD j (.slice none 0 0):=by simp [hj]
  have e2 : (ps.take k).getD j zpt = ps.getD j zpt:=by simp [hj]
  rw [e1, e2]
  exact he j (by omega)
 rw [hlk]
 obtain ⟨r1, r2⟩:=ho'
 refine ⟨r1, ?_⟩
 rcases r2 with r2 | ⟨g', cap', cur, e, hg, rest⟩
 ·exact .inl r2
 exact .inr ⟨g', cap', cur, e, Nat.le_trans hbase hg, rest⟩
theorem run_append_nothingP (ty : TypeId) (base cap : Nat) (v : Value) (n : Nat) (xs : List Value) (ao : Option Addr) (w : World) (hown : w.ownsRow base 36 3 v n xs) :
 (Builtin.append_ #[30, 30] ty #[v,.slice ao 0 cap]).run Tryz.prog w = .ok v w := by
 obtain ⟨i0, hi, hz0, hz1, hz2⟩:=info_parts Tryz.infoPt
 have hlc : ∀ a, (loadCells a 0).run Tryz.prog w = .ok #[] w:=fun a => run_loadCells_list w a [] (by simp)
 rcases hown.2 with ⟨rfl, rfl⟩ | ⟨g, cp, cur, rfl, _, _, hnc, _⟩
 ·cases ao <;> simp [Builtin.append_, run_underlying Tryz.underlying30, sizeOf, typeInfo, hi, Builtin.lenOf, Builtin.firstCells, hlc]
 cases ao <;> simp [Builtin.append_, run_underlying Tryz.underlying30, sizeOf, typeInfo, hi, Builtin.lenOf, Builtin.firstCells, hnc, storeCells, hlc]
theorem xpt_app {w0 w' : World} {v' : Value} {ps qs : List Pt} {us ws : List Value} (hl : us.length = ps.length) (hl' : ws.length = qs.length) (he : ∀ k, k < ps.length → RI w0 (us.getD k (.slice none 0 0)) (ps.getD k zpt).2.2) (he' : ∀ k, k < qs.length → RI w0 (ws.getD k (.slice none 0 0)) (qs.getD k zpt).2.2)
 (hr : w'.ownsRow w0.heap.size 36 3 v' (ps.length + qs.length) (pcells ((ps.map phd).zip us) ++ pcells ((qs.map phd).zip ws))) : XPt w0 w' v' (ps ++ qs) (us ++ ws) := by
 refine ⟨by simp [hl, hl'], ?_, fun k hk => ?_⟩
 ·have e : ((ps ++ qs).map phd).zip (us ++ ws) = (ps.map phd).zip us ++ (qs.map phd).zip ws:=by
   rw [List.map_append, List.zip_append (by simp [hl])]
  rw [e, pcells_append, List.length_append]
  exact hr
 rw [List.length_append] at hk
 by_cases e : k < ps.length
 ·rw [List.getD_eq_getElem?_getD, List.getElem?_append_left (by rw [hl]; exact e), ← List.getD_eq_getElem?_getD, List.getD_eq_getElem?_getD (l := ps ++ _), List.getElem?_append_left e, ← List.getD_eq_getElem?_getD]
  exact he k e
 rw [List.getD_eq_getElem?_getD, List.getElem?_append_right (by rw [hl]; omega), ← List.getD_eq_getElem?_getD, List.getD_eq_getElem?_getD (l := ps ++ _), List.getElem?_append_right (by omega), ← List.getD_eq_getElem?_getD, hl]
 exact he' _ (by omega)
theorem append_xp {ops : Array Oper} {rest : List Oper} {o : Oper} {a : Act} {Q : Exit → Act → World → Prop} {w : World} (hgd : o.guard = none) (s x : Operand)
 (ho : o.op = .call { callee := .builtin .append, args := #[s, x], argTypes := #[30, 30] }) (w0 : World) (v bv : Value) (ps qs : List Pt) (us ws : List Value) (hs : a.eval s = v) (hx : a.eval x = bv)
 (X : XPt w0 w v ps us) (hp : PX w bv qs ws) (he : ∀ k, k < qs.length → RI w0 (ws.getD k (.slice none 0 0)) (qs.getD k zpt).2.2) (hl : ps.length + qs.length ≤ 4194304) (hbase : w0.heap.size ≤ w.heap.size)
 (h : ∀ v' w', XPt w0 w' v' (ps ++ qs) (us ++ ws) → w.grownBy w' v.ownBlock → wpList Tryz.prog ops Q rest (a.put o.dst v') w') :
 wpList Tryz.prog ops Q (o :: rest) a w := by
 obtain ⟨i0, hi, hz0, hz1, hz2⟩:=info_parts Tryz.infoPt
 obtain ⟨hlw, ao, cap, rfl, hp⟩:=hp
 rcases hp with rfl | ⟨g, off, rfl, hc⟩
 ·obtain rfl : ws = []:=List.eq_nil_of_length_eq_zero (by simpa using hlw)
  refine wpList_plain hgd fun K hK => ?_
  have hrun:=run_append_nothingP o.type w0.heap.size cap v ps.length _ ao w X.row
  unfold Oper.wp
  simp only [List.length_nil] at hx
  simp [execOp, ho, resolve, invoke, builtin, hs, hx, hrun, Result.andThen]
  exact hK _ _ (h v w (by simpa using X) (grown_refl _ _))
 have hn : ∀ j y, (pcells ((qs.map phd).zip ws))[j]? = some y → w.cell? ((⟨g, off, none⟩ : Addr).add j) = some y:=by
  intro j y hj
  have e : ((⟨g, off, none⟩ : Addr).add j) = ⟨g, off + j, none⟩:=by unfold Addr.add; split <;> simp_all
  rw [e]; exact hc j y hj
 have h1c : ∀ y ∈ pcells ((qs.map phd).zip ws), y.oneCell' = true:=by
  intro y hy
  obtain ⟨j, hj⟩:=List.getElem?_of_mem hy
  obtain ⟨h1, h2, h3⟩:=pcells_at hj
  have hk : j / 3 < qs.length:=by simpa [hlw] using h1
  rw [pzip_get qs ws hlw _ hk] at h3
  obtain ⟨ua, uc, hu⟩:=(he _ hk).form
  rw [hu] at h3
  have hm:=List.mem_of_getElem? h3
  simp [pcell] at hm
  rcases hm with rfl | rfl | rfl <;> rfl
 have hln : (pcells ((qs.map phd).zip ws)).length = qs.length * 3:=by rw [pcells_len]; simp [hlw]
 refine wpList_append_own_at _ hgd s x 30 ho w0.heap.size 36 i0 (qv 0 ⟨#[]⟩ (.slice none 0 0)) 3 48 Tryz.underlying30 hi hz0 hz1 hz2 rfl (by decide) v ps.length (pcells ((ps.map phd).zip us)) hs X.row ⟨g, off, none⟩ qs.length cap (pcells ((qs.map phd).zip ws)) hx hln hn h1c (by unfold maxLen; omega) (by omega) hbase ?_
 intro v' w' ho' hg' _ _
 exact h v' w' (xpt_app X.len hlw X.each he ho') hg'
theorem cut3_to (ao : Option Addr) (n ca k : Nat) (w : World) (hk : k ≤ ca) :
 (Instr.slice 30 (.slice ao n ca) none (some (.int .i64 (k : Int))) (some (.int .i64 (k : Int)))).run Tryz.prog w = .ok (.slice ao k k) w := by
 obtain ⟨i0, hi, hz0, hz1, hz2⟩:=info_parts Tryz.infoPt
 rw [run_slice_hm (ht := Tryz.underlying30) (kh := .i64) (km := .i64) (h := (k : Int)) (m := (k : Int)) (h0 := by omega) (h2 := by omega) (h3 := by omega)]
 have he : Tryz.prog.elem 30 = 36:=by simp [Program.elem, Tryz.underlying30]
 have hs : (sizeOf (Tryz.prog.elem 30)).run Tryz.prog w = .ok 3 w:=by rw [he]; simp [sizeOf, typeInfo, hi, hz1]
 rw [hs]
 simp [sliced, Result.andThen]
 intro _; cases ao <;> rfl
theorem cut3_from (ao : Option Addr) (n ca k : Nat) (w : World) (hk : k ≤ n) :
 (Instr.slice 30 (.slice ao n ca) (some (.int .i64 (k : Int))) none none).run Tryz.prog w = .ok (.slice (if ca = k then ao else ao.map (·.add (k * 3))) (n - k) (ca - k)) w := by
 obtain ⟨i0, hi, hz0, hz1, hz2⟩:=info_parts Tryz.infoPt
 rw [run_slice_l (ht := Tryz.underlying30) (kl := .i64) (l := (k : Int)) (h0 := by omega) (h1 := by omega)]
 have he : Tryz.prog.elem 30 = 36:=by simp [Program.elem, Tryz.underlying30]
 have hs : (sizeOf (Tryz.prog.elem 30)).run Tryz.prog w = .ok 3 w:=by rw [he]; simp [sizeOf, typeInfo, hi, hz1]
 rw [hs]
 simp [sliced, Result.andThen]
end
section
open Go.RowKit Go.Extern
theorem Tryz.isTypeOf (v : Value) (w : World) : (Extern.ReflectliteType.typeOf #[.iface 234 v]).run Tryz.prog w = .ok (.iface 148 (.agg #[.pointer (some ⟨8, 234, none⟩)])) w := by kernel_rfl
theorem Tryz.isComparable (w : World) : ((Extern.ReflectliteType.method fun t => do Go.Extern.Rtype.noPackHeld "Comparable" t; pure (.bool (← typeInfo t).comparable)) #[.agg #[.pointer (some ⟨8, 234, none⟩)]]).run Tryz.prog w = .ok (.bool true) w := by kernel_rfl
theorem Tryz.isMethodComparable (v : Value) (w : World) : (Go.method 384 148 v "Comparable").run Tryz.prog w = .ok (226, v) w := by kernel_rfl
theorem Tryz.isComp : (Tryz.prog.info? 234).map (·.comparable) = some true := by kernel_rfl
theorem Tryz.isSize : (Tryz.prog.info? 236).map (·.size) = some 1 := by kernel_rfl

theorem is_same0 (a : Addr) (w : World) :
 Calls Tryz.prog 101 #[.iface 234 (.pointer (some a)),.iface 234 (.pointer (some a)),.bool true] w fun e w' => e = .returned (.bool true) ∧ w' = w := by
 obtain ⟨i, hi, hcmp⟩:=Option.map_eq_some_iff.1 Tryz.isComp
 obtain ⟨j, hj, hjs⟩:=Option.map_eq_some_iff.1 Tryz.isSize
 have heq:=run_eql_iface_ptr_same (P:=Tryz.prog) w a Tryz.underlying83 Tryz.underlying234 hi hcmp hj
 go_enter Tryz.func101, Tryz.ntmps101
 go_wp2
 refine wp_loop_rounds 1 ?_
 rw [rounds_succ]
 go_wp2
 go_ret
 exact ⟨rfl, rfl⟩

theorem is_same (a : Addr) (w : World) :
 Calls Tryz.prog 59 #[.iface 234 (.pointer (some a)),.iface 234 (.pointer (some a))] w fun e w' => e = .returned (.bool true) ∧ w' = w := by
 have h8:=@run_callFunc_extern Tryz.prog 100 _ Extern.ReflectliteType.typeOf Tryz.func100 (by kernel_rfl) (by kernel_rfl) (by kernel_rfl) (by kernel_rfl)
 have h32:=@run_callFunc_extern Tryz.prog 226 _ (Extern.ReflectliteType.method fun t => do Go.Extern.Rtype.noPackHeld "Comparable" t; pure (.bool (← typeInfo t).comparable)) Tryz.func226 (by kernel_rfl) (by kernel_rfl) (by kernel_rfl) (by kernel_rfl)
 have tT:=Tryz.isTypeOf
 have cT:=Tryz.isComparable
 have mR:=Tryz.isMethodComparable
 generalize (Extern.ReflectliteType.method fun t => do Go.Extern.Rtype.noPackHeld "Comparable" t; pure (.bool (← typeInfo t).comparable)) = CE at h32 cT
 have IS:=hide (is_same0 a)
 go_enter Tryz.func59, Tryz.ntmps59
 go_wp2_with (first | (go_at_call 101; refine (IS.out _).mono ?_; rintro e w' ⟨rfl, rfl⟩))
 go_ret
 exact ⟨rfl, rfl⟩

theorem is_nil (b : Addr) (w : World) :
 Calls Tryz.prog 59 #[.nilIface,.iface 234 (.pointer (some b))] w fun e w' => e = .returned (.bool false) ∧ w' = w := by
 have hn:=run_eql_iface_nil_left (P:=Tryz.prog) w 234 (.pointer (some b)) Tryz.underlying83
 go_enter Tryz.func59, Tryz.ntmps59
 go_wp2
 go_ret
 exact ⟨rfl, rfl⟩
end
end Go.Proofs.YtjkcphnohhpihaaGreatDoor
