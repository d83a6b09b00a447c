/- Lemmas; their conditions stand in each statement. -/
import Derived.Test.YtjkcphnohhpihaaGreatDoorPPAM
set_option maxRecDepth 100000
set_option maxHeartbeats 8000000
set_option linter.unusedSectionVars false
namespace Go.Proofs.YtjkcphnohhpihaaGreatDoor
section
open Go.RowKit
theorem l10Before_any (m n : Int) (s t : ByteArray) (u v : Value) (xs ys : List Int) (w : World) :
 Calls Tryz.prog 45 #[qv m s u, qv n t v] w fun e w' => e = .returned (.bool (befP (m, s, xs) (n, t, ys))) ∧ Below w.heap.size w w' := by
 have B:=hide (qalloc2 w (.cells #[.int .i64 m,.string s, u] 36) (.cells #[.int .i64 n,.string t, v] 36))
 unfold befP
 simp only
 by_cases h1 : m < n
 ·rw [decide_eq_true h1, Bool.true_or]
  go_enter Tryz.func45, Tryz.ntmps45
  go_wp2
  go_ret
  exact ⟨rfl, B.out⟩
 have hd1:=decide_eq_false h1
 rw [hd1, Bool.false_or]
 by_cases h2 : m = n
 ·subst h2
  rw [decide_eq_true rfl, Bool.true_and]
  clear hd1
  generalize hb : Op.bytesLess s.toList t.toList = q
  go_enter Tryz.func45, Tryz.ntmps45
  go_wp2
  go_ret
  exact ⟨rfl, B.out⟩
 have hd2:=decide_eq_false h2
 rw [hd2, Bool.false_and]
 go_enter Tryz.func45, Tryz.ntmps45
 go_wp2
 go_ret
 exact ⟨rfl, B.out⟩

theorem specPartJoin (m n : Int) (s t : ByteArray) (u v : Value) (xs ys : List Int) (w : World) (hl : xs.length + ys.length ≤ 4194303) (hu : RI w u xs) (hv : RI w v ys) :
 Calls Tryz.prog 20 #[qv m s u, qv n t v] w fun e w' => ∃ r, e = .returned (.tuple #[qv (if samP (m, s, xs) (n, t, ys) then m else 0) (if samP (m, s, xs) (n, t, ys) then s else ⟨#[]⟩) r,.bool (samP (m, s, xs) (n, t, ys))]) ∧ OI w' w.heap.size r (if samP (m, s, xs) (n, t, ys) then joinL xs ys else []) ∧ Below w.heap.size w w' := by
 obtain ⟨ua, uc, rfl⟩:=hu.form
 obtain ⟨va, vc, rfl⟩:=hv.form
 have SJ:=hide fun w h h' => specSetJoin (.slice ua xs.length uc) (.slice va ys.length vc) xs ys w h h' hl
 obtain ⟨w0, hw0⟩ : ∃ y, ((w.alloc (.cells #[.int .i64 m,.string s,.slice ua xs.length uc] 36)).alloc (.cells #[.int .i64 n,.string t,.slice va ys.length vc] 36)).alloc zpo = y:=⟨_, rfl⟩
 have B : Below w.heap.size w w0:=hw0 ▸ ((qalloc2 _ _ _).alloc (by simp; omega) _)
 have X : Loc w0 w.heap.size #[.int .i64 m,.string s,.slice ua xs.length uc]:=hw0 ▸ ((loc_at w _ _ rfl).alloc _).alloc _
 have Y : Loc w0 (w.heap.size + 1) #[.int .i64 n,.string t,.slice va ys.length vc]:=hw0 ▸ (loc_at (w.alloc _) _ _ (by simp)).alloc _
 have R : Loc w0 (w.heap.size + 1 + 1) #[.int .i64 0,.string ⟨#[]⟩,.slice none 0 0]:=hw0 ▸ (loc_at ((w.alloc _).alloc _) _ _ (by simp))
 have s0 : w0.heap.size = w.heap.size + 1 + 1 + 1:=by rw [← hw0]; simp
 have RU:=hide fun w' (hb : Below w0.heap.size w0 w') => (hu.below B).below hb
 have RV:=hide fun w' (hb : Below w0.heap.size w0 w') => (hv.below B).below hb
 obtain ⟨k1, hk1⟩ : ∃ k, xs.length = k:=⟨_, rfl⟩
 obtain ⟨k2, hk2⟩ : ∃ k, ys.length = k:=⟨_, rfl⟩
 rw [hk1] at SJ X RU hw0 ⊢
 rw [hk2] at SJ Y RV hw0 ⊢
 have x0:=X.cell 0 rfl
 have x1:=X.cell 1 rfl
 have y0:=Y.cell 0 rfl
 have y1:=Y.cell 1 rfl
 clear hu hv hk1 hk2 hl
 by_cases h : samP (m, s, xs) (n, t, ys) = true
 ·rw [h]
  simp only [if_true]
  simp only [samP, Bool.and_eq_true, decide_eq_true_eq] at h
  obtain ⟨h1, h2⟩:=h
  subst h1
  go_enter Tryz.func20, Tryz.ntmps20
  go_upto_region 3 with fail
  clear hw0 x0 x1 y0 y1 h2
  refine wp_region_noPanic ?_
  refine wp_region_held_drew (S := fun w' => (w'.cell? ⟨w.heap.size, 0, none⟩ = some (.int .i64 m) ∧ w'.cell? ⟨w.heap.size, 1, none⟩ = some (.string s) ∧ w'.cell? ⟨w.heap.size, 2, none⟩ = some (.slice ua k1 uc)) ∧ (w'.cell? ⟨w.heap.size + 1, 0, none⟩ = some (.int .i64 m) ∧ w'.cell? ⟨w.heap.size + 1, 1, none⟩ = some (.string t) ∧ w'.cell? ⟨w.heap.size + 1, 2, none⟩ = some (.slice va k2 vc))) (by kernel_rfl) ⟨⟨X.cell 0 rfl, X.cell 1 rfl, X.cell 2 rfl⟩, ⟨Y.cell 0 rfl, Y.cell 1 rfl, Y.cell 2 rfl⟩⟩ (fun hHeld => ?_)
  obtain ⟨wd, hd⟩ : ∃ wd, w0.drew = wd:=⟨_, rfl⟩
  have bd : Below w0.heap.size w0 wd:=hd ▸ Below.drew (Below.refl _ _)
  have BD:=bd
  have sd : w0.heap.size ≤ wd.heap.size:=bd.size
  replace X:=X.up bd
  replace Y:=Y.up bd
  replace R:=R.up bd
  replace B:=bu B bd
  rw [hd] at hHeld ⊢
  clear hd bd
  refine tx 0 19 ?_
  refine tx 1 20 ?_
  refine tx 2 21 ?_
  refine tx 3 22 ?_
  refine tx 4 23 ?_
  refine tx 5 24 ?_
  refine tx 6 25 ?_
  refine tx 7 26 ?_
  refine rd 8 rfl (fun KK hKK => ?_)
  go_simp
  refine (SJ.out _ (RU.out _ BD) (RV.out _ BD)).mono ?_
  rintro e wk ⟨q, rfl, oq, bk⟩
  have sk:=bk.size
  replace X:=X.up bk
  replace Y:=Y.up bk
  replace R:=R.up bk
  replace B:=bu B bk
  have tO:=World.ownsRow.lt oq
  obtain ⟨qa, qc, rfl⟩:=oq.form
  have O:=oq
  generalize hjl : (joinL xs ys).length = jl at *
  clear bk oq SJ RU RV BD hHeld
  refine hKK.out _ _ ⟨⟨X.cell 0 rfl, X.cell 1 rfl, X.cell 2 rfl⟩, ⟨Y.cell 0 rfl, Y.cell 1 rfl, Y.cell 2 rfl⟩⟩ (fun hHeld => ?_)
  clear hKK KK
  refine tx 9 28 ?_
  have c0:=R.cell 0 rfl
  have c1:=R.cell 1 rfl
  have c2:=R.cell 2 rfl
  have fc:=R.frozen
  refine rd 10 rfl (fun KK hKK => ?_)
  go_simp
  obtain ⟨wa, hwa⟩ : ∃ y, (((wk.setCell ⟨w.heap.size + 1 + 1, 0, none⟩ (.int .i64 m)).setCell ⟨w.heap.size + 1 + 1, 1, none⟩ (.string s)).setCell ⟨w.heap.size + 1 + 1, 2, none⟩ (.slice qa jl qc)) = y:=⟨_, rfl⟩
  have kwa : Kp wk wa (fun k => k = w.heap.size + 1 + 1):=hwa ▸ ((set_kp _ _ _ _).trans (set_kp _ _ _ _)).trans (set_kp _ _ _ _)
  replace R : Loc wa (w.heap.size + 1 + 1) #[.int .i64 m,.string s,.slice qa jl qc]:=hwa ▸ (((R.set 0 _ rfl).set 1 _ rfl).set 2 _ rfl)
  replace X:=X.kp kwa (by omega)
  replace Y:=Y.kp kwa (by omega)
  replace O:=O.kp kwa (fun j hj e => by have:=tO j hj; omega)
  replace B:=Below.kp B kwa B.size (fun k hk => by omega)
  have zwa:=kwa.size
  rw [hwa]
  clear hwa kwa c0 c1 c2 fc hHeld
  refine hKK.out _ _ ⟨⟨X.cell 0 rfl, X.cell 1 rfl, X.cell 2 rfl⟩, ⟨Y.cell 0 rfl, Y.cell 1 rfl, Y.cell 2 rfl⟩⟩ (fun hHeld => ?_)
  clear hKK KK
  refine tx 11 5 ?_
  clear hHeld
  refine wdn ?_
  have r0:=R.cell 0 rfl
  have r1:=R.cell 1 rfl
  have r2:=R.cell 2 rfl
  clear R X Y
  go_wp2
  refine bodyPost_ret (v := .tuple #[qv m s (.slice qa jl qc),.bool true]) (by simp [results, Tryz.results20, go_sem, r0, r1, r2]) rfl ?_
  exact ⟨_, rfl, OI.mono O (by omega), B⟩
 have h' : samP (m, s, xs) (n, t, ys) = false:=by simpa using h
 rw [h']
 simp only [Bool.false_eq_true, if_false]
 clear SJ RU RV
 have r0:=R.cell 0 rfl
 have r1:=R.cell 1 rfl
 have r2:=R.cell 2 rfl
 have fr:=R.frozen
 have B':=hide (((B.setCell (p:=⟨w.heap.size + 1 + 1, 0, none⟩) (by show w.heap.size ≤ w.heap.size + 1 + 1; omega) (.int .i64 0)).setCell (p:=⟨w.heap.size + 1 + 1, 1, none⟩) (by show w.heap.size ≤ w.heap.size + 1 + 1; omega) (.string ⟨#[]⟩)).setCell (p:=⟨w.heap.size + 1 + 1, 2, none⟩) (by show w.heap.size ≤ w.heap.size + 1 + 1; omega) (.slice none 0 0))
 clear X Y R
 by_cases h1 : m = n
 ·have h2 : (s.toList == t.toList) = false:=by
   simp only [samP, h1, decide_true, Bool.true_and] at h'
   exact h'
  subst h1
  clear h h'
  go_enter Tryz.func20, Tryz.ntmps20
  go_wp2
  refine bodyPost_ret (v := .tuple #[qv 0 ⟨#[]⟩ (.slice none 0 0),.bool false]) (by simp [results, Tryz.results20, go_sem, r0, r1, r2]) rfl ?_
  exact ⟨_, rfl, World.ownsRow_nil _ _ _ _, B'.out⟩
 have hd1:=decide_eq_false h1
 clear h h'
 go_enter Tryz.func20, Tryz.ntmps20
 go_wp2
 refine bodyPost_ret (v := .tuple #[qv 0 ⟨#[]⟩ (.slice none 0 0),.bool false]) (by simp [results, Tryz.results20, go_sem, r0, r1, r2]) rfl ?_
 exact ⟨_, rfl, World.ownsRow_nil _ _ _ _, B'.out⟩
end
section
open Go.RowKit
variable [∀ (a b c d : Int), Decidable (Ok4 a b c d)]
variable [∀ (n f : Int), Decidable (COk n f)]
variable [∀ (n : Int) (s : List Int), Decidable (OkL n s)]
variable [∀ (a b c d : Nat), Decidable (okN a b c d)]
variable [∀ (last : Int) (s : St), Decidable (GoodSt last s)]
variable [∀ (x : T4), Decidable (OkT x)]
def tokB (n f : Int) (ps : List Pt) : Bool := ps.all (fun p => pokB n f p.1 p.2.1 p.2.2) && rowP ps && decide (ps.length ≤ 20)
theorem row_iff (ps : List Pt) : rowP ps = true ↔ ∀ j, j + 1 < ps.length → befP (ps.getD j zpt) (ps.getD (j + 1) zpt) = true := by
 induction ps with
 | nil => simp [rowP]
 | cons a t ih =>
  cases t with
  | nil => simp [rowP]
  | cons b t =>
   rw [rowP, Bool.and_eq_true, ih]
   constructor
   ·rintro ⟨h1, h2⟩ j hj
    cases j with
    | zero => simpa using h1
    | succ j => simpa using h2 j (by simpa using hj)
   intro h
   refine ⟨by simpa using h 0 (by simp), fun j hj => ?_⟩
   have:=h (j + 1) (by simpa using hj)
   simpa using this
theorem tok_no1 {n f : Int} {ps : List Pt} {k : Nat} (hk : k < ps.length) (h : pokB n f (ps.getD k zpt).1 (ps.getD k zpt).2.1 (ps.getD k zpt).2.2 = false) : tokB n f ps = false := by
 unfold tokB
 have : ps.all (fun p => pokB n f p.1 p.2.1 p.2.2) = false:=by
  rw [List.all_eq_false]
  exact ⟨_, pt_mem hk, by rw [h]; simp⟩
 rw [this]; rfl
theorem tok_no2 {n f : Int} {ps : List Pt} {j : Nat} (hj : j + 1 < ps.length) (h : befP (ps.getD j zpt) (ps.getD (j + 1) zpt) = false) : tokB n f ps = false := by
 unfold tokB
 have : rowP ps = false:=by
  rw [Bool.eq_false_iff]
  intro e
  have:=(row_iff ps).1 e j hj
  rw [h] at this
  cases this
 rw [this]; simp
theorem tok_yes {n f : Int} {ps : List Pt} (h1 : ∀ j, j < ps.length → pokB n f (ps.getD j zpt).1 (ps.getD j zpt).2.1 (ps.getD j zpt).2.2 = true) (h2 : ∀ j, j + 1 < ps.length → befP (ps.getD j zpt) (ps.getD (j + 1) zpt) = true) : tokB n f ps = decide (ps.length ≤ 20) := by
 unfold tokB
 have e1 : ps.all (fun p => pokB n f p.1 p.2.1 p.2.2) = true:=by
  rw [List.all_eq_true]
  intro p hp
  obtain ⟨j, hj, rfl⟩:=List.getElem_of_mem hp
  have:=h1 j hj
  simpa [List.getElem?_eq_getElem hj] using this
 rw [e1, (row_iff ps).2 h2]; rfl

theorem specTableOk (n f : Int) (v : Value) (ps : List Pt) (w : World) (hl : ps.length ≤ 4194304) (hs : ∀ p ∈ ps, p.2.1.size ≤ 1048576) (h : RPt w v ps) :
 Calls Tryz.prog 37 #[cv n f, v] w fun e w' => e = .returned (.bool (tokB n f ps)) ∧ Below w.heap.size w w' := by
 obtain ⟨ao, ca, rfl⟩:=h.form
 obtain ⟨len, hn⟩ : ∃ len, ps.length = len:=⟨_, rfl⟩
 have Hn:=hide hn
 have HSZ:=hide hs
 obtain ⟨w0, hw0⟩ : ∃ y, w.alloc (.cells #[.int .i64 n,.int .i64 f] 33) = y:=⟨_, rfl⟩
 have B0 : Below w.heap.size w w0:=hw0 ▸ qalloc _ _
 have L0 : Loc w0 w.heap.size #[.int .i64 n,.int .i64 f]:=hw0 ▸ loc_at w _ _ rfl
 have H:=hide (h.below B0)
 obtain ⟨r, hr⟩ : ∃ r, tokB n f ps = r:=⟨_, rfl⟩
 have N1 : Hid (∀ k, k < ps.length → pokB n f (ps.getD k zpt).1 (ps.getD k zpt).2.1 (ps.getD k zpt).2.2 = false → r = false):=hide fun k hk h => hr ▸ tok_no1 hk h
 have N2 : Hid (∀ j, j + 1 < ps.length → befP (ps.getD j zpt) (ps.getD (j + 1) zpt) = false → r = false):=hide fun j hj h => hr ▸ tok_no2 hj h
 have YE : Hid ((∀ j, j < ps.length → pokB n f (ps.getD j zpt).1 (ps.getD j zpt).2.1 (ps.getD j zpt).2.2 = true) → (∀ j, j + 1 < ps.length → befP (ps.getD j zpt) (ps.getD (j + 1) zpt) = true) → r = decide (len ≤ 20)):=hide fun h1 h2 => by rw [← hr, tok_yes h1 h2, hn]
 rw [hn] at hl H ⊢
 rw [hr]
 clear h hn hs hr
 go_enter Tryz.func37, Tryz.ntmps37
 go_wp2
 clear hw0
 go_loopw [5] (fun i wr => ∃ k : Nat, k ≤ len ∧ i = .int .i64 k ∧ Hid (∀ j, j < k → pokB n f (ps.getD j zpt).1 (ps.getD j zpt).2.1 (ps.getD j zpt).2.2 = true) ∧ Hid (∀ j, j + 1 < k → befP (ps.getD j zpt) (ps.getD (j + 1) zpt) = true) ∧ Below w0.heap.size w0 wr) (fun i _ => len - (intOf i).toNat)
 case atStart => exact ⟨0, Nat.zero_le _, rfl, hide (fun j hj => by omega), hide (fun j hj => by omega), Below.refl _ _⟩
 case round =>
  obtain ⟨k, hk, rfl, HA, HB, bb⟩:=hrel
  have Bwr:=bu B0 bb
  have LC:=L0.up bb
  have Br:=bb
  have HW:=H.out.below bb
  by_cases hlt : k < len
  ·have hkx : k < ps.length:=by have:=Hn.out; omega
   obtain ⟨g, off, u, hao, c0, c1, c2, ru⟩:=HW.at k hkx
   have hsz:=HSZ.out _ (pt_mem hkx)
   have N1k:=hide (N1.out k hkx)
   have N2k : Hid (∀ j, k = j + 1 → befP (ps.getD j zpt) (ps.getD k zpt) = false → r = false):=hide fun j hj h => N2.out j (by omega) (by rw [← hj]; exact h)
   have HA2 : Hid (pokB n f (ps.getD k zpt).1 (ps.getD k zpt).2.1 (ps.getD k zpt).2.2 = true → ∀ j, j < k + 1 → pokB n f (ps.getD j zpt).1 (ps.getD j zpt).2.1 (ps.getD j zpt).2.2 = true):=hide fun h j hj => by by_cases e : j = k; subst e; exact h; exact HA.out j (by omega)
   have HB2 : Hid ((∀ j, k = j + 1 → befP (ps.getD j zpt) (ps.getD k zpt) = true) → ∀ j, j + 1 < k + 1 → befP (ps.getD j zpt) (ps.getD (j + 1) zpt) = true):=hide fun h j hj => by by_cases e : k = j + 1; have:=h j e; rwa [e] at this; exact HB.out j (by omega)
   have PREV : Hid (∀ j, k = j + 1 → ∃ u', wr.cell? ⟨g, off + j * 3, none⟩ = some (.int .i64 (ps.getD j zpt).1) ∧ wr.cell? ⟨g, off + j * 3 + 1, none⟩ = some (.string (ps.getD j zpt).2.1) ∧ wr.cell? ⟨g, off + j * 3 + 2, none⟩ = some u' ∧ RI wr u' (ps.getD j zpt).2.2):=hide fun j hj => by
    obtain ⟨g', off', u', e, d0, d1, d2, ru'⟩:=HW.at j (by omega)
    rw [hao] at e
    injection e with e
    injection e with e1 e2
    subst e1 e2
    exact ⟨u', d0, d1, d2, ru'⟩
   subst hao
   generalize hx : ps.getD k zpt = x at *
   obtain ⟨m, s, xs⟩:=x
   simp only at c0 c1 ru hsz N1k HA2
   have PO:=hide fun w h => specPartOk n f m s u xs w hsz h
   obtain ⟨ua, uc, rfl⟩:=ru.form
   have RU:=hide fun w' (hb' : Below wr.heap.size wr w') => ru.below hb'
   generalize pokB n f m s xs = pk at *
   obtain ⟨xl, hxl⟩ : ∃ l, xs.length = l:=⟨_, rfl⟩
   rw [hxl] at PO RU c2
   clear ru HW H N1 N2 YE HA HB hx hxl
   cases pk
   ·have e:=N1k.out rfl
    subst e
    clear N1k N2k HA2 HB2 PREV
    obtain ⟨cLC0,cLC1⟩:=cc2 LC 0 1
    have K : Hid (∀ w', Below wr.heap.size wr w' → (fun w' => Below wr.heap.size wr w' ∧ (w'.cell? ⟨w.heap.size, 0, none⟩ = some (.int .i64 n) ∧ w'.cell? ⟨w.heap.size, 1, none⟩ = some (.int .i64 f)) ∧ w'.cell? ⟨g, off + k * 3, none⟩ = some (.int .i64 m) ∧ w'.cell? ⟨g, off + k * 3 + 1, none⟩ = some (.string s) ∧ w'.cell? ⟨g, off + k * 3 + 2, none⟩ = some (.slice ua xl uc)) w'):=hide fun w' hb' => ⟨hb', ⟨(LC.up hb').cell 0 rfl, (LC.up hb').cell 1 rfl⟩, (hb'.cell (p:=⟨g, off + k * 3, none⟩) (cell_lt c0)).trans c0, (hb'.cell (p:=⟨g, off + k * 3 + 1, none⟩) (cell_lt c1)).trans c1, (hb'.cell (p:=⟨g, off + k * 3 + 2, none⟩) (cell_lt c2)).trans c2⟩
    go_upto_region 4 with fail
    refine wra K (fun bA hHeld => ?_)
    refine tx 0 12 ?_
    refine tx 1 13 ?_
    refine tx 2 14 ?_
    refine tx 3 15 ?_
    refine tx 4 16 ?_
    refine rd 5 rfl (fun KK hKK => ?_)
    go_simp
    have hgo:=bA
    refine (PO.out _ (RU.out _ hgo)).mono ?_
    rintro e wz4_1 ⟨rfl, bb⟩
    have bz1 : Below wr.heap.size wr wz4_1:=bu bA bb
    clear RU bA hgo bb hHeld
    refine hKK.out _ _ (K.out _ bz1) (fun hHeld => ?_)
    clear hKK KK
    refine tx 6 18 ?_
    refine tx 7 19 ?_
    refine sx 8 20 ?_
    refine sx 9 21 ?_
    refine sx 10 22 ?_
    refine sx 11 23 ?_
    refine sx 12 24 ?_
    refine sx 16 28 ?_
    refine sx 17 29 ?_
    refine sx 13 25 ?_
    refine sx 18 30 ?_
    refine sx 14 26 ?_
    refine sx 19 31 ?_
    refine sx 15 27 ?_
    refine sx 20 32 ?_
    refine sx 21 33 ?_
    refine sx 22 34 ?_
    refine tx 23 35 ?_
    clear hHeld
    refine wdn ?_
    have bb:=bz1
    have Bwz4_1:=bu Bwr bb
    have swz4_1:=bb.size
    replace LC:=LC.up bb
    replace Br:=bu Br bb
    clear Bwr bb bz1 K cLC0 cLC1
    go_wp2
    go_ret
    exact ⟨rfl, Bwz4_1⟩
   have HA3:=hide (HA2.out rfl)
   clear N1k HA2
   by_cases hk0 : k = 0
   ·have HB3:=hide (HB2.out (fun j hj => by omega))
    clear N2k HB2 PREV
    subst hk0
    simp only [Nat.zero_mul, Nat.add_zero] at c0 c1 c2
    obtain ⟨cLC0,cLC1⟩:=cc2 LC 0 1
    have K : Hid (∀ w', Below wr.heap.size wr w' → (fun w' => Below wr.heap.size wr w' ∧ (w'.cell? ⟨w.heap.size, 0, none⟩ = some (.int .i64 n) ∧ w'.cell? ⟨w.heap.size, 1, none⟩ = some (.int .i64 f)) ∧ w'.cell? ⟨g, off, none⟩ = some (.int .i64 m) ∧ w'.cell? ⟨g, off + 1, none⟩ = some (.string s) ∧ w'.cell? ⟨g, off + 2, none⟩ = some (.slice ua xl uc)) w'):=hide fun w' hb' => ⟨hb', ⟨(LC.up hb').cell 0 rfl, (LC.up hb').cell 1 rfl⟩, (hb'.cell (p:=⟨g, off, none⟩) (cell_lt c0)).trans c0, (hb'.cell (p:=⟨g, off + 1, none⟩) (cell_lt c1)).trans c1, (hb'.cell (p:=⟨g, off + 2, none⟩) (cell_lt c2)).trans c2⟩
    go_upto_region 4 with fail
    refine wra K (fun bA hHeld => ?_)
    refine tx 0 12 ?_
    refine tx 1 13 ?_
    refine tx 2 14 ?_
    refine tx 3 15 ?_
    refine tx 4 16 ?_
    refine rd 5 rfl (fun KK hKK => ?_)
    go_simp
    have hgo:=bA
    refine (PO.out _ (RU.out _ hgo)).mono ?_
    rintro e wz4_1 ⟨rfl, bb⟩
    have bz1 : Below wr.heap.size wr wz4_1:=bu bA bb
    clear RU bA hgo bb hHeld
    refine hKK.out _ _ (K.out _ bz1) (fun hHeld => ?_)
    clear hKK KK
    refine tx 6 18 ?_
    refine tx 7 19 ?_
    refine tx 8 20 ?_
    refine tx 9 21 ?_
    refine tx 10 22 ?_
    refine sx 11 23 ?_
    refine sx 12 24 ?_
    refine sx 16 28 ?_
    refine sx 17 29 ?_
    refine sx 13 25 ?_
    refine sx 18 30 ?_
    refine sx 14 26 ?_
    refine sx 19 31 ?_
    refine sx 15 27 ?_
    refine sx 20 32 ?_
    refine sx 21 33 ?_
    refine tx 22 34 ?_
    refine tx 23 35 ?_
    clear hHeld
    refine wdn ?_
    have bb:=bz1
    have Bwz4_1:=bu Bwr bb
    have swz4_1:=bb.size
    replace LC:=LC.up bb
    replace Br:=bu Br bb
    clear Bwr bb bz1 K cLC0 cLC1
    go_wp2
    go_roundw
    case rel => exact ⟨0 + 1, by omega, by go_num, HA3, HB3, Br⟩
    case measure => simp [intOf]; omega
   obtain ⟨j, hj⟩ : ∃ j, k = j + 1:=⟨k - 1, by omega⟩
   have N2j:=hide (N2k.out j hj)
   obtain ⟨u', d0, d1, d2, ru'⟩:=PREV.out j hj
   have HB3 : Hid (befP (ps.getD j zpt) (m, s, xs) = true → ∀ j, j + 1 < k + 1 → befP (ps.getD j zpt) (ps.getD (j + 1) zpt) = true):=hide fun h => HB2.out (fun i hi => by obtain rfl : i = j:=(by omega); exact h)
   clear N2k HB2 PREV hk0
   subst hj
   generalize ps.getD j zpt = y at *
   obtain ⟨m', s', xs'⟩:=y
   simp only at d0 d1 ru' N2j HB3
   obtain ⟨va, vc, rfl⟩:=ru'.form
   generalize xs'.length = yl at *
   clear ru'
   have BE:=hide fun w => l10Before_any m' m s' s (.slice va yl vc) (.slice ua xl uc) xs' xs w
   generalize befP (m', s', xs') (m, s, xs) = be at *
   have hg1 : decide ((0 : Int) < (j : Int) + 1) = true:=decide_eq_true (by omega)
   have hwm : IntKind.i64.wrap (j : Int) = j:=by simp only [IntKind.wrap_i64]; omega
   cases be
   ·have e:=N2j.out rfl
    subst e
    clear N2j HB3
    obtain ⟨cLC0,cLC1⟩:=cc2 LC 0 1
    have K : Hid (∀ w', Below wr.heap.size wr w' → (fun w' => Below wr.heap.size wr w' ∧ (w'.cell? ⟨w.heap.size, 0, none⟩ = some (.int .i64 n) ∧ w'.cell? ⟨w.heap.size, 1, none⟩ = some (.int .i64 f)) ∧ w'.cell? ⟨g, off + (j + 1) * 3, none⟩ = some (.int .i64 m) ∧ w'.cell? ⟨g, off + (j + 1) * 3 + 1, none⟩ = some (.string s) ∧ w'.cell? ⟨g, off + (j + 1) * 3 + 2, none⟩ = some (.slice ua xl uc) ∧ w'.cell? ⟨g, off + j * 3, none⟩ = some (.int .i64 m') ∧ w'.cell? ⟨g, off + j * 3 + 1, none⟩ = some (.string s') ∧ w'.cell? ⟨g, off + j * 3 + 2, none⟩ = some (.slice va yl vc)) w'):=hide fun w' hb' => ⟨hb', ⟨(LC.up hb').cell 0 rfl, (LC.up hb').cell 1 rfl⟩, (hb'.cell (p:=⟨g, off + (j + 1) * 3, none⟩) (cell_lt c0)).trans c0, (hb'.cell (p:=⟨g, off + (j + 1) * 3 + 1, none⟩) (cell_lt c1)).trans c1, (hb'.cell (p:=⟨g, off + (j + 1) * 3 + 2, none⟩) (cell_lt c2)).trans c2, (hb'.cell (p:=⟨g, off + j * 3, none⟩) (cell_lt d0)).trans d0, (hb'.cell (p:=⟨g, off + j * 3 + 1, none⟩) (cell_lt d1)).trans d1, (hb'.cell (p:=⟨g, off + j * 3 + 2, none⟩) (cell_lt d2)).trans d2⟩
    go_upto_region 4 with fail
    refine wra K (fun bA hHeld => ?_)
    refine tx 0 12 ?_
    refine tx 1 13 ?_
    refine tx 2 14 ?_
    refine take_at (i := 3) (d := 15) (v := ?_) rfl rfl (by kernel_rfl) (by kernel_rfl) (by kernel_rfl) (fun _ _ _ h => h) (Or.inl ⟨by rfl, ?_⟩) (by assumption) ?_
    rotate_left
    ·intro w hSw
     try dsimp only at hSw
     go_simp
     try rw [if_pos (by omega)]
     try with_reducible rfl
    simp only [pU]
    refine tx 4 16 ?_
    refine rd 5 rfl (fun KK hKK => ?_)
    go_simp
    have hgo:=bA
    refine (PO.out _ (RU.out _ hgo)).mono ?_
    rintro e wz4_1 ⟨rfl, bb⟩
    have bz1 : Below wr.heap.size wr wz4_1:=bu bA bb
    clear RU bA hgo bb hHeld
    refine hKK.out _ _ (K.out _ bz1) (fun hHeld => ?_)
    clear hKK KK
    refine tx 6 18 ?_
    refine tx 7 19 ?_
    refine tx 8 20 ?_
    refine tx 9 21 ?_
    refine tx 10 22 ?_
    refine tx 11 23 ?_
    refine tx 12 24 ?_
    refine tx 16 28 ?_
    refine tx 17 29 ?_
    refine tx 13 25 ?_
    refine take_at (i := 18) (d := 30) (v := ?_) rfl rfl (by kernel_rfl) (by kernel_rfl) (by kernel_rfl) (fun _ _ _ h => h) (Or.inl ⟨by rfl, ?_⟩) (by assumption) ?_
    rotate_left
    ·intro w hSw
     try dsimp only at hSw
     go_simp
     try rw [if_pos (by omega)]
     try with_reducible rfl
    simp only [pU]
    refine take_at (i := 14) (d := 26) (v := ?_) rfl rfl (by kernel_rfl) (by kernel_rfl) (by kernel_rfl) (fun _ _ _ h => h) (Or.inl ⟨by rfl, ?_⟩) (by assumption) ?_
    rotate_left
    ·intro w hSw
     try dsimp only at hSw
     go_simp
     try rw [if_pos (by omega)]
     try with_reducible rfl
    simp only [pU]
    refine tx 19 31 ?_
    refine tx 15 27 ?_
    refine rd 20 rfl (fun KK hKK => ?_)
    go_simp
    have hgo:=bz1
    refine (BE.out _).mono ?_
    rintro e wz4_2 ⟨rfl, bb⟩
    have bz2 : Below wr.heap.size wr wz4_2:=bu bz1 bb
    clear bz1 hgo bb hHeld
    refine hKK.out _ _ (K.out _ bz2) (fun hHeld => ?_)
    clear hKK KK
    refine tx 21 33 ?_
    refine tx 22 34 ?_
    refine tx 23 35 ?_
    clear hHeld
    refine wdn ?_
    have bb:=bz2
    have Bwz4_2:=bu Bwr bb
    have swz4_2:=bb.size
    replace LC:=LC.up bb
    replace Br:=bu Br bb
    clear Bwr bb bz2 K cLC0 cLC1
    go_wp2
    go_ret
    exact ⟨rfl, Bwz4_2⟩
   have HB4:=hide (HB3.out rfl)
   clear N2j HB3
   obtain ⟨cLC0,cLC1⟩:=cc2 LC 0 1
   have K : Hid (∀ w', Below wr.heap.size wr w' → (fun w' => Below wr.heap.size wr w' ∧ (w'.cell? ⟨w.heap.size, 0, none⟩ = some (.int .i64 n) ∧ w'.cell? ⟨w.heap.size, 1, none⟩ = some (.int .i64 f)) ∧ w'.cell? ⟨g, off + (j + 1) * 3, none⟩ = some (.int .i64 m) ∧ w'.cell? ⟨g, off + (j + 1) * 3 + 1, none⟩ = some (.string s) ∧ w'.cell? ⟨g, off + (j + 1) * 3 + 2, none⟩ = some (.slice ua xl uc) ∧ w'.cell? ⟨g, off + j * 3, none⟩ = some (.int .i64 m') ∧ w'.cell? ⟨g, off + j * 3 + 1, none⟩ = some (.string s') ∧ w'.cell? ⟨g, off + j * 3 + 2, none⟩ = some (.slice va yl vc)) w'):=hide fun w' hb' => ⟨hb', ⟨(LC.up hb').cell 0 rfl, (LC.up hb').cell 1 rfl⟩, (hb'.cell (p:=⟨g, off + (j + 1) * 3, none⟩) (cell_lt c0)).trans c0, (hb'.cell (p:=⟨g, off + (j + 1) * 3 + 1, none⟩) (cell_lt c1)).trans c1, (hb'.cell (p:=⟨g, off + (j + 1) * 3 + 2, none⟩) (cell_lt c2)).trans c2, (hb'.cell (p:=⟨g, off + j * 3, none⟩) (cell_lt d0)).trans d0, (hb'.cell (p:=⟨g, off + j * 3 + 1, none⟩) (cell_lt d1)).trans d1, (hb'.cell (p:=⟨g, off + j * 3 + 2, none⟩) (cell_lt d2)).trans d2⟩
   go_upto_region 4 with fail
   refine wra K (fun bA hHeld => ?_)
   refine tx 0 12 ?_
   refine tx 1 13 ?_
   refine tx 2 14 ?_
   refine take_at (i := 3) (d := 15) (v := ?_) rfl rfl (by kernel_rfl) (by kernel_rfl) (by kernel_rfl) (fun _ _ _ h => h) (Or.inl ⟨by rfl, ?_⟩) (by assumption) ?_
   rotate_left
   ·intro w hSw
    try dsimp only at hSw
    go_simp
    try rw [if_pos (by omega)]
    try with_reducible rfl
   simp only [pU]
   refine tx 4 16 ?_
   refine rd 5 rfl (fun KK hKK => ?_)
   go_simp
   have hgo:=bA
   refine (PO.out _ (RU.out _ hgo)).mono ?_
   rintro e wz4_1 ⟨rfl, bb⟩
   have bz1 : Below wr.heap.size wr wz4_1:=bu bA bb
   clear RU bA hgo bb hHeld
   refine hKK.out _ _ (K.out _ bz1) (fun hHeld => ?_)
   clear hKK KK
   refine tx 6 18 ?_
   refine tx 7 19 ?_
   refine tx 8 20 ?_
   refine tx 9 21 ?_
   refine tx 10 22 ?_
   refine tx 11 23 ?_
   refine tx 12 24 ?_
   refine tx 16 28 ?_
   refine tx 17 29 ?_
   refine tx 13 25 ?_
   refine take_at (i := 18) (d := 30) (v := ?_) rfl rfl (by kernel_rfl) (by kernel_rfl) (by kernel_rfl) (fun _ _ _ h => h) (Or.inl ⟨by rfl, ?_⟩) (by assumption) ?_
   rotate_left
   ·intro w hSw
    try dsimp only at hSw
    go_simp
    try rw [if_pos (by omega)]
    try with_reducible rfl
   simp only [pU]
   refine take_at (i := 14) (d := 26) (v := ?_) rfl rfl (by kernel_rfl) (by kernel_rfl) (by kernel_rfl) (fun _ _ _ h => h) (Or.inl ⟨by rfl, ?_⟩) (by assumption) ?_
   rotate_left
   ·intro w hSw
    try dsimp only at hSw
    go_simp
    try rw [if_pos (by omega)]
    try with_reducible rfl
   simp only [pU]
   refine tx 19 31 ?_
   refine tx 15 27 ?_
   refine rd 20 rfl (fun KK hKK => ?_)
   go_simp
   have hgo:=bz1
   refine (BE.out _).mono ?_
   rintro e wz4_2 ⟨rfl, bb⟩
   have bz2 : Below wr.heap.size wr wz4_2:=bu bz1 bb
   clear bz1 hgo bb hHeld
   refine hKK.out _ _ (K.out _ bz2) (fun hHeld => ?_)
   clear hKK KK
   refine tx 21 33 ?_
   refine tx 22 34 ?_
   refine tx 23 35 ?_
   clear hHeld
   refine wdn ?_
   have bb:=bz2
   have Bwz4_2:=bu Bwr bb
   have swz4_2:=bb.size
   replace LC:=LC.up bb
   replace Br:=bu Br bb
   clear Bwr bb bz2 K cLC0 cLC1
   go_wp2
   go_roundw
   case rel => exact ⟨j + 1 + 1, by omega, by go_num, HA3, HB4, Br⟩
   case measure => simp [intOf]; omega
  have e:=YE.out (fun j hj => HA.out j (by have:=Hn.out; omega)) (fun j hj => HB.out j (by have:=Hn.out; omega))
  have hd : decide ((len : Int) ≤ 20) = decide (len ≤ 20):=by simp; omega
  subst e
  clear HA HB HW LC Br bb N1 N2 YE H
  go_wp2
  go_ret
  exact ⟨rfl, Bwr⟩
end
section
open Go.RowKit
theorem pcells_set3 (l : List ((Int × ByteArray) × Value)) (k : Nat) (m : Int) (s : ByteArray) (u : Value) (hk : k < l.length) : (((pcells l).set (k * 3) (.int .i64 m)).set (k * 3 + 1) (.string s)).set (k * 3 + 2) u = pcells (l.set k ((m, s), u)) := by
 induction l generalizing k with
 | nil => simp at hk
 | cons p l ih =>
  cases k with
  | zero => simp [pcells_cons]
  | succ k =>
   rw [List.set_cons_succ, pcells_cons, pcells_cons, show (k + 1) * 3 = k * 3 + 1 + 1 + 1 by omega, show k * 3 + 1 + 1 + 1 + 1 = (k * 3 + 1) + 1 + 1 + 1 by omega, show k * 3 + 1 + 1 + 1 + 2 = (k * 3 + 2) + 1 + 1 + 1 by omega]
   simp only [List.set_cons_succ]
   rw [ih k (by simpa using hk)]
theorem pcells_set2 (l : List ((Int × ByteArray) × Value)) (k : Nat) (m : Int) (s : ByteArray) (hk : k < l.length) : ((pcells l).set (k * 3) (.int .i64 m)).set (k * 3 + 1) (.string s) = pcells (l.set k ((m, s), (l.getD k ((0, ⟨#[]⟩),.slice none 0 0)).2)) := by
 induction l generalizing k with
 | nil => simp at hk
 | cons p l ih =>
  cases k with
  | zero => simp [pcells_cons]
  | succ k =>
   rw [List.set_cons_succ, pcells_cons, pcells_cons, show (k + 1) * 3 = k * 3 + 1 + 1 + 1 by omega, show k * 3 + 1 + 1 + 1 + 1 = (k * 3 + 1) + 1 + 1 + 1 by omega]
   simp only [List.set_cons_succ]
   rw [ih k (by simpa using hk)]
   simp
theorem pzip_set (ps : List Pt) (vs : List Value) (k : Nat) (x : Pt) (u : Value) (hl : vs.length = ps.length) : ((ps.set k x).map phd).zip (vs.set k u) = ((ps.map phd).zip vs).set k (phd x, u) := by
 apply List.ext_getElem?
 intro j
 by_cases hj : j < ps.length
 ·rw [List.getElem?_eq_getElem (by simp; omega), List.getElem?_eq_getElem (by simp; omega)]
  rw [List.getElem_set]
  by_cases e : k = j
  ·subst e; simp
  simp [e]
 rw [List.getElem?_eq_none (by simp; omega), List.getElem?_eq_none (by simp; omega)]
theorem vset_same (vs : List Value) (k : Nat) (hk : k < vs.length) : vs.set k (vs.getD k (.slice none 0 0)) = vs := by
 apply List.ext_getElem?
 intro j
 rw [List.getElem?_set]
 split
 ·rename_i e; subst e; simp [hk]
 rfl
theorem opt_set {w : World} {base g cap k : Nat} {ps : List Pt} {vs : List Value} {m : Int} {s : ByteArray} {u : Value} {xs : List Int} (h : OPtV w base (.slice (some ⟨g, 0, none⟩) ps.length cap) ps vs) (hk : k < ps.length) (hu : OI w base u xs)
 (hap : ∀ j, j < ps.length → j ≠ k → ∀ b, (vs.getD j (.slice none 0 0)).ownBlock = some b → u.ownBlock ≠ some b) :
 OPtV (((w.setCell ⟨g, k * 3, none⟩ (.int .i64 m)).setCell ⟨g, k * 3 + 1, none⟩ (.string s)).setCell ⟨g, k * 3 + 2, none⟩ u) base (.slice (some ⟨g, 0, none⟩) ps.length cap) (ps.set k (m, s, xs)) (vs.set k u) := by
 have hz : ((ps.map phd).zip vs).length = ps.length:=by simp [h.len]
 have K : Kp w (((w.setCell ⟨g, k * 3, none⟩ (.int .i64 m)).setCell ⟨g, k * 3 + 1, none⟩ (.string s)).setCell ⟨g, k * 3 + 2, none⟩ u) (fun b => b = g):=((set_kp _ _ _ _).trans (set_kp _ _ _ _)).trans (set_kp _ _ _ _)
 have keep : ∀ (x : Value) (zs : List Int), OI w base x zs → OI (((w.setCell ⟨g, k * 3, none⟩ (.int .i64 m)).setCell ⟨g, k * 3 + 1, none⟩ (.string s)).setCell ⟨g, k * 3 + 2, none⟩ u) base x zs:=fun x zs hx =>
  hx.kp K (fun b hb e => pt_oi h.row hx g rfl (by rw [← e]; exact hb))
 refine ⟨by simp [h.len], ?_, fun j hj => ?_, fun i j hij hj b hb => ?_⟩
 ·rw [List.length_set, pzip_set ps vs k _ u h.len, show phd (m, s, xs) = (m, s) from rfl, ← pcells_set3 _ k m s u (by omega)]
  exact (((h.row.stored (k * 3) _).1.stored (k * 3 + 1) _).1.stored (k * 3 + 2) _).1
 ·rw [List.length_set] at hj
  by_cases e : k = j
  ·subst e
   have e1 : (ps.set k (m, s, xs)).getD k zpt = (m, s, xs):=by simp [hk]
   have e2 : (vs.set k u).getD k (.slice none 0 0) = u:=by simp [h.len, hk]
   rw [e1, e2]; exact keep _ _ hu
  have e1 : (ps.set k (m, s, xs)).getD j zpt = ps.getD j zpt:=by simp [e]
  have e2 : (vs.set k u).getD j (.slice none 0 0) = vs.getD j (.slice none 0 0):=by simp [e]
  rw [e1, e2]; exact keep _ _ (h.each j hj)
 rw [List.length_set] at hj
 by_cases e : k = i
 ·subst e
  have e1 : (vs.set k u).getD k (.slice none 0 0) = u:=by simp [h.len, hk]
  have e2 : (vs.set k u).getD j (.slice none 0 0) = vs.getD j (.slice none 0 0):=by simp [show k ≠ j by omega]
  rw [e1] at hb
  rw [e2]
  intro e3
  exact hap j hj (by omega) b e3 hb
 by_cases e' : k = j
 ·subst e'
  have e1 : (vs.set k u).getD k (.slice none 0 0) = u:=by simp [h.len, hk]
  have e2 : (vs.set k u).getD i (.slice none 0 0) = vs.getD i (.slice none 0 0):=by simp [e]
  rw [e2] at hb
  rw [e1]
  exact hap i (by omega) (by omega) b hb
 have e1 : (vs.set k u).getD i (.slice none 0 0) = vs.getD i (.slice none 0 0):=by simp [e]
 have e2 : (vs.set k u).getD j (.slice none 0 0) = vs.getD j (.slice none 0 0):=by simp [e']
 rw [e1] at hb
 rw [e2]
 exact h.apart i j hij hj b hb
theorem opt_mark {w w1 w2 : World} {base g n cap k : Nat} {ps : List Pt} {vs : List Value} {m : Int} {s : ByteArray} {xs : List Int} (h : OPtV w base (.slice (some ⟨g, 0, none⟩) n cap) ps vs) (hk : k < ps.length)
 (t : w1.ownsRow base 36 3 (.slice (some ⟨g, 0, none⟩) n cap) ps.length (((pcells ((ps.map phd).zip vs)).set (k * 3) (.int .i64 m)).set (k * 3 + 1) (.string s))) (g1 : Kp w w1 (fun b => b = g))
 (o2 : OI w2 base (vs.getD k (.slice none 0 0)) xs) (g2 : w1.grownBy w2 (vs.getD k (.slice none 0 0)).ownBlock) : OPtV w2 base (.slice (some ⟨g, 0, none⟩) n cap) (ps.set k (m, s, xs)) vs := by
 have hz : ((ps.map phd).zip vs).length = ps.length:=by simp [h.len]
 have key1 : ∀ j, j < ps.length → OI w1 base (vs.getD j (.slice none 0 0)) (ps.getD j zpt).2.2:=fun j hj =>
  (h.each j hj).kp g1 (fun b hb e => pt_oi h.row (h.each j hj) g rfl (by rw [← e]; exact hb))
 refine ⟨by simp [h.len], ?_, fun j hj => ?_, fun i j hij hj => h.apart i j hij (by simpa using hj)⟩
 ·have ev : vs = vs.set k (vs.getD k (.slice none 0 0)):=(vset_same vs k (by rw [h.len]; exact hk)).symm
  rw [List.length_set]
  have e : ((ps.set k (m, s, xs)).map phd).zip vs = ((ps.map phd).zip vs).set k ((m, s), vs.getD k (.slice none 0 0)):=by
   conv => lhs; rw [ev]
   exact pzip_set ps vs k _ _ h.len
  have e2 : (((ps.map phd).zip vs).getD k ((0, ⟨#[]⟩),.slice none 0 0)).2 = vs.getD k (.slice none 0 0):=by rw [pzip_get ps vs h.len k hk]
  rw [e, ← e2, ← pcells_set2 _ k m s (by omega)]
  refine World.ownsRow.kept t g2 (.inr fun e => ?_)
  exact pt_oi t (key1 k hk) g rfl (by rw [← e]; rfl)
 rw [List.length_set] at hj
 by_cases e : k = j
 ·subst e
  have : (ps.set k (m, s, xs)).getD k zpt = (m, s, xs):=by simp [hk]
  rw [this]; exact o2
 have : (ps.set k (m, s, xs)).getD j zpt = ps.getD j zpt:=by simp [e]
 rw [this]
 refine World.ownsRow.kept (key1 j hj) g2 ?_
 cases hv : (vs.getD j (.slice none 0 0)).ownBlock with
 | none => exact .inl rfl
 | some b =>
  refine .inr fun e2 => ?_
  rcases Nat.lt_or_ge k j with h3 | h3
  ·exact h.apart k j h3 hj b e2.symm hv
  exact h.apart j k (by omega) hk b hv e2.symm
end
end Go.Proofs.YtjkcphnohhpihaaGreatDoor
