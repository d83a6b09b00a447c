/- Texts that belong together: PartOpen, PartTo, PartTold, TableOki, TableAddi. -/
import Derived.Test.YtmpmedbojfjnaaaGreatDoorFPAV
import Derived.Test.YtmpmedbojfjnaaaGreatDoorFPBR
import Derived.Deep.Slices
import Derived.Test.YtmpmedbojfjnaaaGreatDoorFPAQ
import Derived.Deep.RegionHeld3
import Derived.Test.YtmpmedbojfjnaaaGreatDoorFPAX
import Derived.Test.YtmpmedbojfjnaaaGreatDoorFPAN
import Derived.Laws.EntriesVeiled
import Derived.Test.YtmpmedbojfjnaaaGreatDoorFPBP
import Derived.Test.YtmpmedbojfjnaaaGreatDoorFPBO
namespace Go.Proofs.YtmpmedbojfjnaaaGreatDoor
open Go.ChangeShapes Go.WideShapes Go.ChangeAt Go.RowKit
open Go.Joins
set_option linter.unusedSectionVars false
variable [∀ (a b c d : Int), Decidable (Ok4 a b c d)]
variable [∀ (n f : Int), Decidable (COk n f)]

abbrev Pr := Int × ByteArray × Option Addr × Nat × List Int
def prz : Pr := (0, ⟨#[]⟩, none, 0, [])
def prp (r : Pr) : Pt := (r.1, r.2.1, r.2.2.2.2)
def ATab (W : World) (ao : Option Addr) (rs : List Pr) : Prop :=
 rs = [] ∨ ∃ g off, ao = some ⟨g, off, none⟩ ∧ ∀ k, k < rs.length → W.cell? ⟨g, off + k * 3, none⟩ = some (.int .i64 (rs.getD k prz).1) ∧ W.cell? ⟨g, off + k * 3 + 1, none⟩ = some (.string (rs.getD k prz).2.1) ∧ W.cell? ⟨g, off + k * 3 + 2, none⟩ = some (.slice (rs.getD k prz).2.2.1 (rs.getD k prz).2.2.2.2.length (rs.getD k prz).2.2.2.1)
theorem ATab.rpt {W : World} {ao : Option Addr} {ca : Nat} {rs : List Pr} (h : ATab W ao rs) (he : ∀ r ∈ rs, AIW W r.2.2.1 r.2.2.2.2) (hl : ∀ r ∈ rs, r.2.2.2.2.length ≤ 4194304) : RPt W (.slice ao rs.length ca) (rs.map prp) := by
 refine ⟨ao, ca, by simp, ?_⟩
 rcases h with rfl | ⟨g, off, rfl, h⟩
 ·exact .inl rfl
 ·refine .inr ⟨g, off, rfl, fun k hk => ?_⟩
  rw [List.length_map] at hk
  have hm : rs.getD k prz ∈ rs := by rw [List.getD_eq_getElem?_getD, List.getElem?_eq_getElem hk]; exact List.getElem_mem hk
  have e : (rs.map prp).getD k zpt = prp (rs.getD k prz) := by simp [List.getElem?_eq_getElem hk]
  obtain ⟨c0, c1, c2⟩ := h k hk
  rw [e]
  exact ⟨_, c0, c1, c2, (he _ hm).ri (hl _ hm)⟩
end Go.Proofs.YtmpmedbojfjnaaaGreatDoor
namespace Go.Proofs.YtmpmedbojfjnaaaGreatDoor
open Go.RowKit
set_option linter.unusedSectionVars false
variable [∀ (a b c d : Int), Decidable (Ok4 a b c d)]
variable [∀ (n f : Int), Decidable (COk n f)]

theorem made_pcells (n : Nat) : (madeCells (qv 0 ⟨#[]⟩ (.slice none 0 0)).cells (n * 3)).toList = pcells (List.replicate n ((0, ⟨#[]⟩), .slice none 0 0)) := by
 apply List.ext_getElem?
 intro i
 by_cases hi : i < n * 3
 ·have h := pcells_get (List.replicate n ((0, ⟨#[]⟩), .slice none 0 0)) (i / 3) (i % 3) (by simp; omega) (by omega)
  rw [show i / 3 * 3 + i % 3 = i by omega] at h
  have hr : (List.replicate n (((0 : Int), (⟨#[]⟩ : ByteArray)), Value.slice none 0 0)).getD (i / 3) ((0, ⟨#[]⟩), .slice none 0 0) = ((0, ⟨#[]⟩), .slice none 0 0) := by simp [show i / 3 < n by omega]
  rw [h, hr]
  have hc : (qv 0 ⟨#[]⟩ (.slice none 0 0)).cells = #[.int .i64 0, .string ⟨#[]⟩, .slice none 0 0] := by rfl
  rw [hc]
  have h3 : i % 3 = 0 ∨ i % 3 = 1 ∨ i % 3 = 2 := by omega
  have he : (madeCells #[Value.int .i64 0, .string ⟨#[]⟩, .slice none 0 0] (n * 3)).toList[i]? = some (#[Value.int .i64 0, .string ⟨#[]⟩, .slice none 0 0][i % 3]!) := by
   simp [madeCells, hi]
  rw [he]
  rcases h3 with e | e | e <;> rw [e] <;> rfl
 ·rw [List.getElem?_eq_none (by rw [Array.length_toList, size_madeCells]; omega), List.getElem?_eq_none (by rw [pcells_len]; simp; omega)]
theorem opt_zero {w : World} {base n : Nat} {v : Value} (h : w.ownsRow base 52 3 v n (pcells (List.replicate n ((0, ⟨#[]⟩), .slice none 0 0)))) : OPtV w base v (List.replicate n zpt) (List.replicate n (.slice none 0 0)) := by
 refine ⟨by simp, ?_, fun k hk => ?_, fun i j hij hj b hb => ?_⟩
 ·rw [List.length_replicate, List.map_replicate, List.zip_replicate']
  exact h
 ·rw [List.length_replicate] at hk
  have e1 : (List.replicate n (Value.slice none 0 0)).getD k (.slice none 0 0) = .slice none 0 0 := by simp [hk]
  have e2 : (List.replicate n zpt).getD k zpt = zpt := by simp [hk]
  rw [e1, e2]
  exact World.ownsRow_nil _ _ _ _
 ·rw [List.length_replicate] at hj
  have e1 : (List.replicate n (Value.slice none 0 0)).getD i (.slice none 0 0) = .slice none 0 0 := by simp [show i < n by omega]
  rw [e1] at hb
  simp [Value.ownBlock] at hb
def pthalf (ps : List Pt) (k : Nat) : List Pt := ps.take k ++ List.replicate (ps.length - k) zpt
theorem pthalf_len (ps : List Pt) (k : Nat) (h : k ≤ ps.length) : (pthalf ps k).length = ps.length := by simp [pthalf]; omega
theorem pthalf_set (ps : List Pt) (k : Nat) (h : k < ps.length) : (pthalf ps k).set k (ps.getD k zpt) = pthalf ps (k + 1) := by
 have e : ps.length - k = (ps.length - (k + 1)) + 1 := by omega
 have hk : (ps.take k).length = k := by simp; omega
 unfold pthalf
 rw [List.take_succ_eq_append_getElem h, e, List.replicate_succ, List.set_append_right _ _ (by omega), hk, Nat.sub_self, List.set_cons_zero, List.append_assoc, List.getD_eq_getElem?_getD, List.getElem?_eq_getElem h]
 rfl

set_option maxHeartbeats 4000000 in
set_option maxRecDepth 100000 in
theorem ptold_any (n : Int) (s : ByteArray) (v : Value) (xs : List Int) (w : World) (h : RI w v xs) (hs : s.size ≤ 281474976710656) :
 Calls Tryz.prog 105 #[qv n s v] w fun e w' => ∃ u, e = .returned (qv n s u) ∧ OI w' w.heap.size u xs ∧ Below w.heap.size w w' := by
 obtain ⟨ao, ca, rfl⟩ := h.form
 obtain ⟨w0, hw0⟩ : ∃ y, ((w.alloc (.cells #[.int .i64 n, .string s, .slice ao xs.length ca] 52)).alloc zpo).alloc (.cells #[.int .i64 n, .string s, .slice ao xs.length ca] 28) = y := ⟨_, rfl⟩
 have B0 : Below w.heap.size w w0 := hw0 ▸ ((qalloc2 _ _ _).alloc (by simp; omega) _)
 have LZ : Loc w0 (w.heap.size + 1) #[.int .i64 0, .string ⟨#[]⟩, .slice none 0 0] := hw0 ▸ (loc_at (w.alloc _) _ _ (by simp)).alloc _
 have LQ : Loc w0 (w.heap.size + 1 + 1) #[.int .i64 n, .string s, .slice ao xs.length ca] := hw0 ▸ (loc_at ((w.alloc _).alloc _) _ _ (by simp))
 have s0 : w0.heap.size = w.heap.size + 1 + 1 + 1 := by rw [← hw0]; simp
 have TO := hide (qtold_any (w.heap.size + 1 + 1) n s ao ca xs w0 LQ (h.below B0 (Nat.le_refl _)) hs)
 have HZ := hide LZ
 clear h LZ LQ
 go_enter Tryz.func105, Tryz.ntmps105
 go_wp2_with fail
 clear hw0
 refine (unhide TO).mono ?_
 rintro e w2 ⟨u, rfl, o2, b2⟩
 have B2 : Below w.heap.size w w2 := B0.trans (b2.mono B0.size)
 have Z2 := (unhide HZ).below b2 (unhide HZ).lt
 have y0 := Z2.cell 0 rfl
 have y1 := Z2.cell 1 rfl
 have y2 := Z2.cell 2 rfl
 have fy := Z2.frozen
 have lt2 := World.ownsRow.lt o2
 obtain ⟨ua, uc, rfl⟩ := o2.form
 have O2 := hide o2
 clear o2 b2 Z2 HZ TO
 go_wp2
 refine bodyPost_ret (v := qv n s (.slice ua xs.length uc)) (by simp [results, Tryz.results105, go_sem, y0, y1, y2]) rfl ?_
 have K5 : Kp w2 (((w2.setCell ⟨w.heap.size + 1, 0, none⟩ (.int .i64 n)).setCell ⟨w.heap.size + 1, 1, none⟩ (.string s)).setCell ⟨w.heap.size + 1, 2, none⟩ (.slice ua xs.length uc)) (fun k => k = w.heap.size + 1) := ((set_kp _ _ _ _).trans (set_kp _ _ _ _)).trans (set_kp _ _ _ _)
 exact ⟨_, rfl, ((unhide O2).kp K5 (fun k hk => by have := lt2 k hk; omega)).mono (by omega), Below.kp B2 K5 B2.size (fun k hk => by omega)⟩

set_option maxHeartbeats 400000 in
set_option maxRecDepth 100000 in
theorem tableOf_any (ao : Option Addr) (n ca : Nat) (w : World) :
 Calls Tryz.prog 106 #[.slice ao n ca] w fun e w' => e = .returned (.agg #[.slice ao n ca, .func (.func 104) #[] #[]]) ∧ Below w.heap.size w w' := by
 go_enter Tryz.func106, Tryz.ntmps106
 go_wp2
 refine bodyPost_ret (v := .agg #[.slice ao n ca, .func (.func 104) #[] #[]]) (by simp [results, Tryz.results106, go_sem]) rfl ?_
 exact ⟨rfl, (Below.refl _ _).alloc (Nat.le_refl _) _⟩
set_option maxHeartbeats 4000000 in
set_option maxRecDepth 100000 in
theorem toldParts_any (v : Value) (ps : List Pt) (w : World) (hl : ps.length ≤ 4194305) (hs : ∀ p ∈ ps, p.2.1.size ≤ 281474976710656) (h : RPt w v ps) :
 Calls Tryz.prog 94 #[v] w fun e w' => ∃ u, e = .returned u ∧ OPt w' w.heap.size u ps ∧ Below w.heap.size w w' := by
 obtain ⟨i0, hi, hz0, hz1, hz2⟩ := info_parts Tryz.infoPt
 obtain ⟨ao, ca, rfl⟩ := h.form
 have HS0 := hide hs
 have H := hide h
 clear hs
 obtain ⟨n, hn⟩ : ∃ n, ps.length = n := ⟨_, rfl⟩
 have Hn := hide hn
 rw [hn] at hl H ⊢
 clear h hn
 go_enter Tryz.func94, Tryz.ntmps94
 go_wp2_with (first | (at_make; refine wpList_make_full _ rfl _ _ 57 rfl w.heap.size 52 i0 (qv 0 ⟨#[]⟩ (.slice none 0 0)) 3 Tryz.underlying57 hi hz0 hz1 .i64 .i64 _ _ n rfl rfl rfl rfl (by rw [hz2]; omega) (by unfold maxLen; omega) (Nat.le_refl _) ?_; intro w0 ho0 hg0))
 have T0 : OPtV w0 w.heap.size (.slice (some ⟨w.heap.size, 0, none⟩) n n) (pthalf ps 0) (List.replicate n (.slice none 0 0)) := by
  rw [made_pcells] at ho0
  have := opt_zero ho0
  simpa [pthalf, unhide Hn] using this
 have B0 : Below w.heap.size w w0 := (Below.refl _ _).grown hg0 (Nat.le_refl _) (by simp)
 clear ho0 hg0 hz0 hz1 hz2 hi
 go_loopw [11] (fun i wr => ∃ (k : Nat) (vs : List Value), k ≤ n ∧ i = .int .i64 k ∧ OPtV wr w.heap.size (.slice (some ⟨w.heap.size, 0, none⟩) n n) (pthalf ps k) vs ∧ Below w.heap.size w wr) (fun i _ => n - (intOf i).toNat)
 case atStart => exact ⟨0, _, Nat.zero_le _, rfl, T0, B0⟩
 case round =>
  clear T0
  obtain ⟨k, vs, hk, rfl, T, br⟩ := hrel
  by_cases hlt : k < n
  ·have hkx : k < ps.length := by have := unhide Hn; omega
   have hlen := pthalf_len ps k (by omega)
   have HR := (unhide H).below br (Nat.le_refl _)
   obtain ⟨g, off, u, rfl, c0, c1, c2, ru⟩ := HR.at k hkx
   have HS := hide (pthalf_set ps k hkx)
   have hsz := unhide HS0 _ (pt_mem hkx)
   obtain ⟨x, hx⟩ : ∃ x, ps.getD k zpt = x := ⟨_, rfl⟩
   rw [hx] at c0 c1 ru HS hsz
   clear hx
   obtain ⟨m, s, xs⟩ := x
   simp only at c0 c1 ru hsz
   have TP := hide fun w h => ptold_any m s u xs w h hsz
   obtain ⟨ua, uc, rfl⟩ := ru.form
   have RU := hide ru
   have HT := hide T
   generalize xs.length = xl at *
   obtain ⟨w1, hw1⟩ : ∃ y, wr.alloc (.cells #[.int .i64 m, .string s, .slice ua xl uc] 52) = y := ⟨_, rfl⟩
   have b1 : Below wr.heap.size wr w1 := hw1 ▸ qalloc _ _
   have L1 : Loc w1 wr.heap.size #[.int .i64 m, .string s, .slice ua xl uc] := hw1 ▸ loc_at wr _ _ rfl
   have p0 := L1.cell 0 rfl
   have p1 := L1.cell 1 rfl
   have p2 := L1.cell 2 rfl
   have s1 := b1.size
   replace RU := hide ((unhide RU).below b1 (Nat.le_refl _))
   replace HT := hide ((unhide HT).below b1)
   replace br := br.trans (b1.mono br.size)
   clear HR H ru T b1 hsz
   go_wp2_with fail
   clear hw1 p0 p1 p2 L1
   refine (unhide TP _ (unhide RU)).mono ?_
   rintro e w2 ⟨u2, rfl, o2, b2⟩
   have T2 := (unhide HT).below b2
   have B2 := br.trans (b2.mono br.size)
   have lt2 := World.ownsRow.lt o2
   have hrow := T2.row
   rw [hlen, unhide Hn] at hrow
   have hplen : (pcells (((pthalf ps k).map phd).zip vs)).length = n * 3 := by rw [pcells_len]; simp [T2.len, hlen, unhide Hn]
   have gt : ∀ j, j < n * 3 → ∃ u, w2.cell? ⟨w.heap.size, j, none⟩ = some u := fun j hj => ⟨_, (hrow.cellAt j hj).trans (List.getElem?_eq_getElem (by rw [hplen]; exact hj))⟩
   obtain ⟨y0, d0⟩ := gt (k * 3) (by omega)
   obtain ⟨y1, d1⟩ := gt (k * 3 + 1) (by omega)
   obtain ⟨y2, d2⟩ := gt (k * 3 + 2) (by omega)
   have f0 := hrow.frozenAt (k * 3)
   have f1 := hrow.frozenAt (k * 3 + 1)
   have f2 := hrow.frozenAt (k * 3 + 2)
   have R := hide (show OPtV (((w2.setCell ⟨w.heap.size, k * 3, none⟩ (.int .i64 m)).setCell ⟨w.heap.size, k * 3 + 1, none⟩ (.string s)).setCell ⟨w.heap.size, k * 3 + 2, none⟩ u2) w.heap.size (.slice (some ⟨w.heap.size, 0, none⟩) n n) (pthalf ps (k + 1)) (vs.set k u2) by
    have T3 := T2
    have en : n = (pthalf ps k).length := by rw [hlen, unhide Hn]
    rw [← unhide HS]
    have := opt_set (m := m) (s := s) (u := u2) (xs := xs) (k := k) (cap := n) (g := w.heap.size) (w := w2) (base := w.heap.size) (ps := pthalf ps k) (vs := vs) (by rw [← en]; exact T3) (by rw [hlen]; exact hkx) (OI.mono o2 br.size) (fun j hj _ b hb e => by
     have h1 := World.ownsRow.lt ((unhide HT).each j hj) b hb
     have h2 := lt2 b e
     omega)
    rw [← en] at this
    exact this)
   have BR := hide (((B2.setCell (p := ⟨w.heap.size, k * 3, none⟩) (Nat.le_refl _) (.int .i64 m)).setCell (p := ⟨w.heap.size, k * 3 + 1, none⟩) (Nat.le_refl _) (.string s)).setCell (p := ⟨w.heap.size, k * 3 + 2, none⟩) (Nat.le_refl _) u2)
   obtain ⟨va, vc, rfl⟩ := o2.form
   generalize xs.length = zl at *
   clear T2 B2 hrow hplen gt o2 lt2 HT TP RU c0 c1 c2
   go_wp2
   go_roundw
   case rel => exact ⟨k + 1, _, by omega, by go_num, unhide R, unhide BR⟩
   case measure => simp [intOf]; omega
  ·have hkn : pthalf ps k = ps := by
    have := unhide Hn
    unfold pthalf
    rw [List.take_of_length_le (by omega), show ps.length - k = 0 by omega]
    simp
   rw [hkn] at T
   have T' := hide T
   clear T hkn H
   go_wp2
   go_ret
   exact ⟨_, rfl, ⟨_, unhide T'⟩, br⟩
end Go.Proofs.YtmpmedbojfjnaaaGreatDoor
namespace Go.Proofs.YtmpmedbojfjnaaaGreatDoor
open Go.RowKit
set_option linter.unusedSectionVars false
variable [∀ (n : Int) (s : List Int), Decidable (OkL n s)]
variable [∀ (a b c d : Int), Decidable (Ok4 a b c d)]
variable [∀ (n f : Int), Decidable (COk n f)]
variable [∀ (a b c d : Nat), Decidable (okN a b c d)]
variable [∀ (last : Int) (s : St), Decidable (GoodSt last s)]
variable [∀ (x : T4), Decidable (OkT x)]

set_option maxHeartbeats 1600000 in
set_option maxRecDepth 100000 in
theorem notPart_any (n f m : Int) (s : ByteArray) (u : Value) (xs : List Int) (g : Nat) (w : World) (hs : s.size ≤ 33554432) (hE : Env w) (hu : RI w u xs) (hg : Loc w g #[.int .i64 n, .int .i64 f]) :
 Calls Tryz.prog 109 #[qv m s u, .pointer (some ⟨g, 0, none⟩)] w fun e w' => e = .returned (.bool (!pokB n f m s xs)) ∧ Below w.heap.size w w' := by
 obtain ⟨ua, uc, rfl⟩ := hu.form
 obtain ⟨ul, hul⟩ : ∃ l, xs.length = l := ⟨_, rfl⟩
 obtain ⟨w0, hw0⟩ : ∃ y, w.alloc (.cells #[.int .i64 m, .string s, .slice ua xs.length uc] 52) = y := ⟨_, rfl⟩
 have B0 : Below w.heap.size w w0 := hw0 ▸ qalloc _ _
 have L0 : Loc w0 w.heap.size #[.int .i64 m, .string s, .slice ua xs.length uc] := hw0 ▸ loc_at w _ _ rfl
 have LG := hg.below B0 hg.lt
 have PO := hide (implPartOk n f m s (.slice ua xs.length uc) xs w0 hs (hE.below B0) (hu.below B0 (Nat.le_refl _)))
 rw [hul] at L0 PO hw0 ⊢
 have a0 := L0.cell 0 rfl
 have a1 := L0.cell 1 rfl
 have a2 := L0.cell 2 rfl
 have c0 := LG.cell 0 rfl
 have c1 := LG.cell 1 rfl
 generalize pokB n f m s xs = b at *
 clear L0 LG hg hu hE hul
 go_enter Tryz.func109, Tryz.ntmps109
 go_wp2_with fail
 clear hw0
 refine (unhide PO).mono ?_
 rintro e w2 ⟨rfl, b2⟩
 have B2 := B0.trans (b2.mono B0.size)
 go_wp2
 go_ret
 exact ⟨rfl, B2⟩

theorem all_take {n f : Int} {ps : List Pt} {k : Nat} (hk : k < ps.length) (h : (ps.take k).all (fun p => pokB n f p.1 p.2.1 p.2.2) = true) (h1 : pokB n f (ps.getD k zpt).1 (ps.getD k zpt).2.1 (ps.getD k zpt).2.2 = true) : (ps.take (k + 1)).all (fun p => pokB n f p.1 p.2.1 p.2.2) = true := by
 have e : ps.take (k + 1) = ps.take k ++ [ps.getD k zpt] := by
  rw [List.take_succ_eq_append_getElem hk]; simp [List.getElem?_eq_getElem hk]
 rw [e, List.all_append, h, List.all_cons, h1]
 rfl
theorem all_bad {n f : Int} {ps : List Pt} {k : Nat} (hk : k < ps.length) (h1 : pokB n f (ps.getD k zpt).1 (ps.getD k zpt).2.1 (ps.getD k zpt).2.2 = false) : ps.all (fun p => pokB n f p.1 p.2.1 p.2.2) = false := by
 cases e : ps.all (fun p => pokB n f p.1 p.2.1 p.2.2) with
 | false => rfl
 | true => rw [List.all_eq_true] at e; have := e _ (pt_mem hk); rw [h1] at this; cases this

set_option maxHeartbeats 4000000 in
set_option maxRecDepth 100000 in
theorem indexNot (n f : Int) (v : Value) (ps : List Pt) (g : Nat) (w : World) (hl : ps.length ≤ 4194304) (hs : ∀ p ∈ ps, p.2.1.size ≤ 33554432) (hE : Env w) (h : RPt w v ps) (hg : Loc w g #[.int .i64 n, .int .i64 f]) :
 Calls Tryz.prog 102 #[v, .func (.func 109) #[] #[.pointer (some ⟨g, 0, none⟩)]] w fun e w' => ∃ q : Int, e = .returned (.int .i64 q) ∧ decide (q ≥ 0) = !(ps.all fun p => pokB n f p.1 p.2.1 p.2.2) ∧ Below w.heap.size w w' := by
 obtain ⟨ao, ca, rfl⟩ := h.form
 obtain ⟨len, hn⟩ : ∃ n, ps.length = n := ⟨_, rfl⟩
 have Hn := hide hn
 have H := hide h
 rw [hn] at hl H ⊢
 have HS := hide hs
 have HG := hide hg
 have HE := hide hE
 clear h hn hg hs hE
 go_enter Tryz.func102, Tryz.ntmps102
 go_wp2
 go_loopw [8] (fun j wr => ∃ k : Nat, k ≤ len ∧ j = .int .i64 k ∧ Hid ((ps.take k).all (fun p => pokB n f p.1 p.2.1 p.2.2) = true) ∧ Below w.heap.size w wr) (fun j _ => len - (intOf j).toNat)
 case atStart => exact ⟨0, Nat.zero_le _, rfl, hide (by simp), Below.refl _ _⟩
 case round =>
  obtain ⟨k, hk, rfl, HK, br⟩ := hrel
  by_cases hlt : k < len
  ·have hkx : k < ps.length := by rw [unhide Hn]; exact hlt
   obtain ⟨b, off, u, rfl, c0, c1, c2, ru⟩ := ((unhide H).below br (Nat.le_refl _)).at k hkx
   have GC := hide (notPart_any n f (ps.getD k zpt).1 (ps.getD k zpt).2.1 u (ps.getD k zpt).2.2 g wr (unhide HS _ (pt_mem hkx)) ((unhide HE).below br) ru ((unhide HG).below br (unhide HG).lt))
   have HF := hide fun h1 => all_bad (n := n) (f := f) hkx h1
   have HM := hide fun h1 => all_take (n := n) (f := f) hkx (unhide HK) h1
   obtain ⟨ua, uc, rfl⟩ := ru.form
   clear ru HK H
   generalize pokB n f (ps.getD k zpt).1 (ps.getD k zpt).2.1 (ps.getD k zpt).2.2 = pb at *
   generalize (ps.getD k zpt).1 = m at *
   generalize (ps.getD k zpt).2.1 = s at *
   generalize (ps.getD k zpt).2.2.length = xl at *
   cases pb with
   | false =>
    have F := hide (unhide HF rfl)
    clear HF HM
    go_wp2_with fail
    refine (unhide GC).mono ?_
    rintro _ w2 ⟨rfl, b2⟩
    go_wp2
    go_ret
    exact ⟨k, rfl, by rw [unhide F]; simp, br.trans (b2.mono br.size)⟩
   | true =>
    have F := hide (unhide HM rfl)
    clear HF HM
    go_wp2_with fail
    refine (unhide GC).mono ?_
    rintro _ w2 ⟨rfl, b2⟩
    go_wp2
    go_roundw
    case rel => exact ⟨k + 1, by omega, by go_num, F, br.trans (b2.mono br.size)⟩
    case measure => simp [intOf]; omega
  ·have hkn : ps.take k = ps := List.take_of_length_le (by have := unhide Hn; omega)
   have h0 := unhide HK
   rw [hkn] at h0
   have F := hide h0
   have hd2 : decide ((k : Int) < (len : Int)) = false := by simp; omega
   clear HK h0 hkn H
   go_wp2
   go_ret
   exact ⟨-1, rfl, by rw [unhide F]; simp, br⟩

set_option maxHeartbeats 1600000 in
set_option maxRecDepth 100000 in
theorem containsNot (n f : Int) (v : Value) (ps : List Pt) (g : Nat) (w : World) (hl : ps.length ≤ 4194304) (hs : ∀ p ∈ ps, p.2.1.size ≤ 33554432) (hE : Env w) (h : RPt w v ps) (hg : Loc w g #[.int .i64 n, .int .i64 f]) :
 Calls Tryz.prog 110 #[v, .func (.func 109) #[] #[.pointer (some ⟨g, 0, none⟩)]] w fun e w' => e = .returned (.bool (!(ps.all fun p => pokB n f p.1 p.2.1 p.2.2))) ∧ Below w.heap.size w w' := by
 have IX := hide (indexNot n f v ps g w hl hs hE h hg)
 obtain ⟨ao, ca, rfl⟩ := h.form
 generalize ps.length = len at *
 generalize (ps.all fun p => pokB n f p.1 p.2.1 p.2.2) = b at *
 clear h hg hE hs
 go_enter Tryz.func110, Tryz.ntmps110
 go_wp2_with fail
 refine (unhide IX).mono ?_
 rintro e w2 ⟨q, rfl, hq, b2⟩
 go_wp2
 go_ret
 exact ⟨by rw [← hq]; rfl, b2⟩

theorem tok_alt (n f : Int) (ps : List Pt) : tokB n f ps = (decide ((ps.length : Int) ≤ 20) && ((ps.all fun p => pokB n f p.1 p.2.1 p.2.2) && rowP ps)) := by
 unfold tokB
 have : decide (ps.length ≤ 20) = decide ((ps.length : Int) ≤ 20) := by rw [decide_eq_decide]; omega
 rw [this, Bool.and_comm]

set_option maxHeartbeats 4000000 in
set_option maxRecDepth 100000 in
theorem implTableOk (n f : Int) (v : Value) (ps : List Pt) (w : World) (hl : ps.length ≤ 4194304) (hs : ∀ p ∈ ps, p.2.1.size ≤ 33554432) (hE : Env w) (h : RPt w v ps) :
 Calls Tryz.prog 46 #[cv n f, v] w fun e w' => e = .returned (.bool (tokB n f ps)) ∧ Below w.heap.size w w' := by
 rw [tok_alt]
 obtain ⟨ao, ca, rfl⟩ := h.form
 obtain ⟨w0, hw0⟩ : ∃ y, w.alloc (.cells #[.int .i64 n, .int .i64 f] 25) = y := ⟨_, rfl⟩
 have B0 : Below w.heap.size w w0 := hw0 ▸ qalloc _ _
 have L0 : Loc w0 w.heap.size #[.int .i64 n, .int .i64 f] := hw0 ▸ loc_at w _ _ rfl
 have CN := hide (containsNot n f (.slice ao ps.length ca) ps w.heap.size w0 hl hs (hE.below B0) (h.below B0 (Nat.le_refl _)) L0)
 have AS := hide fun w h => ascendsP_any (.slice ao ps.length ca) ps w hl h
 have TO := hide fun w => tableOf_any ao ps.length ca w
 have HR := hide fun w' (hb : Below w.heap.size w w') => h.below hb (Nat.le_refl _)
 generalize ps.length = len at *
 generalize (ps.all fun p => pokB n f p.1 p.2.1 p.2.2) = b at *
 generalize rowP ps = r at *
 clear h hE hs L0
 by_cases h20 : (len : Int) ≤ 20
 ·have hd : decide ((len : Int) ≤ 20) = true := by simpa using h20
  rw [hd, Bool.true_and]
  cases b with
  | false =>
   rw [Bool.false_and]
   go_enter Tryz.func46, Tryz.ntmps46
   go_wp2_with fail
   clear hw0
   refine (unhide CN).mono ?_
   rintro e w1 ⟨rfl, b1⟩
   have B1 := B0.trans (b1.mono B0.size)
   go_wp2
   go_ret
   exact ⟨rfl, B1⟩
  | true =>
   rw [Bool.true_and]
   go_enter Tryz.func46, Tryz.ntmps46
   go_wp2_with fail
   clear hw0
   refine (unhide CN).mono ?_
   rintro e w1 ⟨rfl, b1⟩
   have B1 := B0.trans (b1.mono B0.size)
   clear b1 CN
   go_wp2_with fail
   refine (unhide TO _).mono ?_
   rintro e w2 ⟨rfl, b2⟩
   have B2 := B1.trans (b2.mono B1.size)
   clear b2 TO
   go_wp2_with fail
   refine (unhide AS _ (unhide HR _ B2)).mono ?_
   rintro e w3 ⟨rfl, b3⟩
   have B3 := B2.trans (b3.mono B2.size)
   go_wp2
   go_ret
   exact ⟨rfl, B3⟩
 ·have hd : decide ((len : Int) ≤ 20) = false := by simpa using h20
  rw [hd, Bool.false_and]
  go_enter Tryz.func46, Tryz.ntmps46
  go_wp2
  go_ret
  exact ⟨rfl, B0⟩

theorem tok_row {n f : Int} {ps : List Pt} (h : tokB n f ps = true) : ps.Pairwise Bf := by
 unfold tokB at h
 simp only [Bool.and_eq_true] at h
 exact (row_pair ps).1 h.1.2
theorem tok_ins {n f : Int} {ps : List Pt} {p : Pt} {k : Nat} (h : PlaceP ps p k) : tokB n f (insP ps p k) = tokB n f (addP ps p) ∧ (tokB n f (addP ps p) = true → insP ps p k = addP ps p) := by
 by_cases hp : ps.Pairwise Bf
 ·have e := ins_add hp h
  exact ⟨by rw [e], fun _ => e⟩
 ·have h1 : tokB n f (insP ps p k) = false := by
   cases e : tokB n f (insP ps p k) with
   | false => rfl
   | true => exact absurd (ins_pair (tok_row e)) hp
  have h2 : tokB n f (addP ps p) = false := by
   cases e : tokB n f (addP ps p) with
   | false => rfl
   | true =>
    obtain ⟨j, hj⟩ := add_ins ps p
    rw [hj] at e
    exact absurd (ins_pair (tok_row e)) hp
  exact ⟨by rw [h1, h2], fun e => by rw [h2] at e; cases e⟩

set_option maxHeartbeats 8000000 in
set_option maxRecDepth 100000 in
theorem implTableAdd (n f : Int) (v : Value) (ps : List Pt) (m : Int) (s : ByteArray) (u : Value) (xs : List Int) (a : Addr) (w : World) (hl : ps.length ≤ 1048576) (hs : s.size ≤ 1048576) (hx : xs.length ≤ 1048576) (hw : ∀ q ∈ ps, q.2.1.size ≤ 1048576 ∧ q.2.2.length ≤ 1048576 ∧ WfL q.2.2) (wx : WfL xs) (hE : Env w) (G : Gv w a) (h : RPt w v ps) (hc : CapP v) (hu : RI w u xs) :
 Calls Tryz.prog 30 #[cv n f, v, qv m s u] w fun e w' => ∃ t, e = .returned (.tuple #[t, .bool (tokB n f (addP ps (m, s, xs)) && pokB n f m s xs)]) ∧ OPt w' w.heap.size t (if (tokB n f (addP ps (m, s, xs)) && pokB n f m s xs) then addP ps (m, s, xs) else ps) ∧ Below w.heap.size w w' := by
 obtain ⟨ao, ca, rfl⟩ := h.form
 obtain ⟨ua, uc, rfl⟩ := hu.form
 have hca : ps.length ≤ ca := by obtain ⟨_, _, _, e, h1, _⟩ := hc; cases e; exact h1
 obtain ⟨w0, hw0⟩ : ∃ y, (w.alloc (.cells #[.int .i64 n, .int .i64 f] 25)).alloc (.cells #[.int .i64 m, .string s, .slice ua xs.length uc] 52) = y := ⟨_, rfl⟩
 have B : Below w.heap.size w w0 := hw0 ▸ qalloc2 _ _ _
 have C : Loc w0 w.heap.size #[.int .i64 n, .int .i64 f] := hw0 ▸ (loc_at w _ _ rfl).alloc _
 have P : Loc w0 (w.heap.size + 1) #[.int .i64 m, .string s, .slice ua xs.length uc] := hw0 ▸ loc_at (w.alloc _) _ _ (by simp)
 have WP := hide (withPart_any ao ca ps m s ua uc xs a w0 (by omega) hca hx (fun q hq => ⟨by have := (hw q hq).1; omega, (hw q hq).2.1, (hw q hq).2.2⟩) wx (h.below B (Nat.le_refl _)) (hu.below B (Nat.le_refl _)) (G.below B G.lt))
 have PO := hide fun w' (hb : Below w.heap.size w w') => implPartOk n f m s (.slice ua xs.length uc) xs w' (by omega) (hE.below hb) (hu.below hb (Nat.le_refl _))
 have hsz : ∀ k, ∀ q ∈ insP ps (m, s, xs) k, q.2.1.size ≤ 1048576 := fun k q hq => by
  rcases ins_mem hq with h | rfl | ⟨x, h, _, rfl⟩
  ·exact (hw q h).1
  ·exact hs
  ·exact (hw x h).1
 have hil : ∀ k, (insP ps (m, s, xs) k).length ≤ ps.length + 1 := fun k => by
  unfold insP
  cases e : ps.drop k with
  | nil => simp [putP]; omega
  | cons x l =>
   have hd : (ps.drop k).length = l.length + 1 := by rw [e]; rfl
   rw [List.length_drop] at hd
   rw [putP_cons]
   split <;> simp <;> omega
 have TO := hide fun k r w' (hE' : Env w') h => implTableOk n f r (insP ps (m, s, xs) k) w' (by have := hil k; omega) (fun q hq => by have := hsz k q hq; omega) hE' h
 have HE := hide fun w' (hb : Below w.heap.size w w') => hE.below hb
 have TL := hide fun w' (hb : Below w.heap.size w w') => toldParts_any (.slice ao ps.length ca) ps w' (by omega) (fun q hq => by have := (hw q hq).1; omega) (h.below hb (Nat.le_refl _))
 have TM := hide fun k r w' h => toldParts_any r (insP ps (m, s, xs) k) w' (by have := hil k; omega) (fun q hq => by have := hsz k q hq; omega) h
 have TI := hide fun k (h : PlaceP ps (m, s, xs) k) => tok_ins (n := n) (f := f) h
 obtain ⟨ln, hln⟩ : ∃ l, ps.length = l := ⟨_, rfl⟩
 obtain ⟨xl, hxl⟩ : ∃ l, xs.length = l := ⟨_, rfl⟩
 rw [hln] at WP TL ⊢
 rw [hxl] at hw0 P WP PO ⊢
 generalize pokB n f m s xs = pb at *
 generalize tokB n f (addP ps (m, s, xs)) = tb at *
 have p0 := P.cell 0 rfl
 have p1 := P.cell 1 rfl
 have p2 := P.cell 2 rfl
 clear h hu hw wx hE G hc hca hsz hil hln hxl hl
 cases pb with
 | false =>
  rw [Bool.and_false]
  simp only [Bool.false_eq_true, if_false]
  go_enter Tryz.func30, Tryz.ntmps30
  go_wp2_with fail
  clear hw0 p0 p1 p2
  refine (unhide WP).mono ?_
  rintro e w1 ⟨r, k, rfl, HP, R1, b1⟩
  obtain ⟨ra, rc, rfl⟩ := R1.form
  generalize (insP ps (m, s, xs) k).length = il at *
  have B1 := B.trans (b1.mono B.size)
  replace C := C.below b1 C.lt
  replace P := P.below b1 P.lt
  have c0 := C.cell 0 rfl
  have c1 := C.cell 1 rfl
  have p0 := P.cell 0 rfl
  have p1 := P.cell 1 rfl
  have p2 := P.cell 2 rfl
  clear HP R1 b1 B TO TM TI WP C P
  go_wp2_with fail
  clear c0 c1 p0 p1 p2
  refine (unhide PO _ B1).mono ?_
  rintro e w2 ⟨rfl, b2⟩
  have B2 := B1.trans (b2.mono B1.size)
  clear b2
  go_wp2_with fail
  refine (unhide TL _ B2).mono ?_
  rintro e w3 ⟨t, rfl, o3, b3⟩
  have B3 := B2.trans (b3.mono B2.size)
  have o3' := hide (o3.mono B2.size)
  obtain ⟨ta, tc, rfl⟩ := o3.form
  clear o3 b3
  go_wp2
  go_ret2
  exact ⟨_, rfl, unhide o3', B3⟩
 | true =>
  rw [Bool.and_true]
  go_enter Tryz.func30, Tryz.ntmps30
  go_wp2_with fail
  clear hw0 p0 p1 p2
  refine (unhide WP).mono ?_
  rintro e w1 ⟨r, k, rfl, HP, R1, b1⟩
  obtain ⟨h1, h2⟩ := unhide TI k HP
  replace TO := hide (fun w' hE' h => unhide TO k r w' hE' h)
  rw [h1] at TO
  replace TM := hide (fun w' h => unhide TM k r w' h)
  have HI := hide h2
  obtain ⟨ra, rc, hr⟩ := R1.form
  have RR := hide fun w' (hb : Below w1.heap.size w1 w') => R1.below hb (Nat.le_refl _)
  have HLN := hide hr
  obtain ⟨il, hil⟩ : ∃ l, (insP ps (m, s, xs) k).length = l := ⟨_, rfl⟩
  rw [hil] at hr
  subst hr
  have B1 := B.trans (b1.mono B.size)
  replace C := C.below b1 C.lt
  replace P := P.below b1 P.lt
  have c0 := C.cell 0 rfl
  have c1 := C.cell 1 rfl
  have p0 := P.cell 0 rfl
  have p1 := P.cell 1 rfl
  have p2 := P.cell 2 rfl
  clear HP R1 b1 B TI WP h1 h2 hil HLN
  go_wp2_with fail
  clear c0 c1 p0 p1 p2
  refine (unhide PO _ B1).mono ?_
  rintro e w2 ⟨rfl, b2⟩
  have B2 := B1.trans (b2.mono B1.size)
  replace C := C.below b2 C.lt
  have c0 := C.cell 0 rfl
  have c1 := C.cell 1 rfl
  have s1 := b2.size
  clear P C
  go_wp2_with fail
  clear c0 c1
  refine (unhide TO w2 (unhide HE _ B2) (unhide RR _ b2)).mono ?_
  rintro e w3 ⟨rfl, b3⟩
  have B3 := B2.trans (b3.mono B2.size)
  have b13 : Below w1.heap.size w1 w3 := b2.trans (b3.mono b2.size)
  clear b2 b3 B1 B2 TO PO HE
  cases tb with
  | false =>
   go_wp2_with fail
   refine (unhide TL _ B3).mono ?_
   rintro e w4 ⟨t, rfl, o4, b4⟩
   have B4 := B3.trans (b4.mono B3.size)
   have o4' := hide (o4.mono B3.size)
   obtain ⟨ta, tc, rfl⟩ := o4.form
   clear o4 b4
   go_wp2
   go_ret2
   exact ⟨_, rfl, unhide o4', B4⟩
  | true =>
   have e := unhide HI rfl
   replace TM := hide (unhide TM w3 (unhide RR _ b13))
   rw [e] at TM
   clear HI RR b13 e
   go_wp2_with fail
   refine (unhide TM).mono ?_
   rintro e w4 ⟨t, rfl, o4, b4⟩
   have B4 := B3.trans (b4.mono B3.size)
   have o4' := hide (o4.mono B3.size)
   obtain ⟨ta, tc, rfl⟩ := o4.form
   clear o4 b4
   go_wp2
   go_ret2
   exact ⟨_, rfl, unhide o4', B4⟩
end Go.Proofs.YtmpmedbojfjnaaaGreatDoor
