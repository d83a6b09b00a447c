/- Texts that belong together: DrawTabDrop, PartGet, AscInts. -/
import Derived.Test.YtmpmedbojfjnaaaGreatDoorFPAZ
import Derived.Test.YtmpmedbojfjnaaaGreatDoorFPAK
import Derived.Test.YtmpmedbojfjnaaaGreatDoorFPAX
import Derived.Test.YtmpmedbojfjnaaaGreatDoorFPAV
import Derived.Test.YtmpmedbojfjnaaaGreatDoorFPAT
import Derived.Test.YtmpmedbojfjnaaaGreatDoorFPAE
import Derived.Test.YtmpmedbojfjnaaaGreatDoorFPAN
import Derived.Laws.EntriesVeiled
namespace Go.Proofs.YtmpmedbojfjnaaaGreatDoor
open Go.RowKit
set_option linter.unusedSectionVars false
variable [∀ (a b c d : Int), Decidable (Ok4 a b c d)]
variable [∀ (a b c d : Nat), Decidable (okN a b c d)]
variable [∀ (x : T4), Decidable (OkT x)]
variable [∀ (n f : Int), Decidable (COk n f)]
variable [∀ (last : Int) (s : St), Decidable (GoodSt last s)]
variable [∀ (n : Int) (s : List Int), Decidable (OkL n s)]

set_option maxHeartbeats 2000000 in
set_option maxRecDepth 100000 in
theorem drawTableDrop (ao : Option Addr) (ca : Nat) (zs : List Int) (w : World) (h : DCode w ao zs) :
 Calls Tryz.prog 36 #[.slice ao zs.length ca] w fun e w' => ∃ (t : Value) (ps : List Pt) (x : Int), e = .returned (.tuple #[t, .int .i64 x]) ∧ ps.length ≤ 5 ∧ Hid (SmP 40 ps) ∧ OPt w' w.heap.size t ps ∧ Below w.heap.size w w' := by
 have NW := hide (new_any ao ca zs w h.len h.code h.fit)
 clear h
 go_enter Tryz.func36, Tryz.ntmps36
 go_wp2_with fail
 refine (unhide NW).mono ?_
 rintro e w1 ⟨rfl, C, B⟩
 have s1 := C.lt
 clear NW
 go_wp2_with fail
 refine (drawConf w.heap.size w.heap.size ca ao zs _ (by omega) C).mono ?_
 rintro e w2 ⟨n, f, rfl, ⟨hn0, hn1⟩, c2, g2⟩
 have s2 := g2.size
 replace B := cur_below g2 B (by omega) (by omega)
 replace C := c2
 clear c2 g2
 go_wp2_with fail
 refine (drawTab w.heap.size w.heap.size ca ao zs n f _ (by omega) (by omega) C).mono ?_
 rintro e w3 ⟨t, ps, rfl, hl, SM, TB, c3, g3⟩
 have s3 := g3.size
 replace B := cur_below g3 B (by omega) (by omega)
 replace C := c3
 obtain ⟨ta, tc, ht⟩ := TB.form
 obtain ⟨pl, hpl⟩ : ∃ l, ps.length = l := ⟨_, rfl⟩
 rw [hpl] at ht hl
 subst ht
 replace hpl := hide hpl
 clear c3 g3
 go_wp2_with fail
 refine (below_any w.heap.size w.heap.size ca ao zs 6 _ (by omega) (by omega) (by omega) C).mono ?_
 rintro e w4 ⟨x, rfl, x0, x1, c4, g4⟩
 have kk := kp_of g4
 have T4 := hide ((TB.kp kk (fun j h1 h2 => by omega)).mono (show w.heap.size ≤ w2.heap.size by omega))
 replace B := cur_below g4 B (by omega) (by omega)
 clear C TB kk g4 c4
 go_wp2
 go_ret2
 exact ⟨_, ps, _, rfl, by rw [unhide hpl]; exact hl, SM, unhide T4, B⟩
end Go.Proofs.YtmpmedbojfjnaaaGreatDoor
namespace Go.Proofs.YtmpmedbojfjnaaaGreatDoor
open Go.RowKit

theorem drop_take (ps : List Pt) (k : Nat) (view : Int) (hk : k < ps.length) : dropP (ps.take (k + 1)) view = dropP (ps.take k) view ++ (if view ≤ (ps.getD k zpt).1 then [ps.getD k zpt] else []) := by
 rw [pt_take hk]
 unfold dropP
 rw [List.filter_append]
 simp [List.filter_cons]

set_option maxHeartbeats 4000000 in
set_option maxRecDepth 100000 in
theorem specTableDrop (v : Value) (ps : List Pt) (view : Int) (w : World) (hl : ps.length ≤ 4194304) (h : RPt w v ps) :
 Calls Tryz.prog 45 #[v, .int .i64 view] w fun e w' => ∃ u, e = .returned u ∧ OPt w' w.heap.size u (dropP ps view) ∧ Below w.heap.size w w' := by
 obtain ⟨ao, ca, rfl⟩ := h.form
 obtain ⟨n, hn⟩ : ∃ n, ps.length = n := ⟨_, rfl⟩
 have Hn := hide hn
 obtain ⟨w0, hw0⟩ : ∃ y, w.alloc (.cells #[] 52) = y := ⟨_, rfl⟩
 have B0 : Below w.heap.size w w0 := hw0 ▸ qalloc _ _
 have T0 : OPtV w0 w.heap.size (.slice (some ⟨w.heap.size, 0, none⟩) 0 0) [] [] := hw0 ▸ opt_empty w
 have H := hide h
 rw [hn] at hl H ⊢
 clear h hn
 go_enter Tryz.func45, Tryz.ntmps45
 go_wp2
 go_loopw [5, 6] (fun t i wr => ∃ (k : Nat) (ds : List Pt) (vs : List Value) (ta : Option Addr) (tc : Nat), k ≤ n ∧ i = .int .i64 k ∧ t = .slice ta ds.length tc ∧ ds.length ≤ k ∧ Hid (dropP (ps.take k) view = ds) ∧ OPtV wr w.heap.size (.slice ta ds.length tc) ds vs ∧ Below w.heap.size w wr) (fun _ i _ => n - (intOf i).toNat)
 case atStart => exact ⟨0, [], _, _, _, Nat.zero_le _, rfl, rfl, Nat.le_refl _, hide (by simp [dropP]), T0, B0⟩
 case round =>
  clear T0 B0 hw0
  obtain ⟨k, ds, vs, ta, tc, hk, rfl, rfl, hdl, HD, T, br⟩ := hrel
  by_cases hlt : k < n
  ·have hkx : k < ps.length := by have := unhide Hn; omega
   have HT := hide (drop_take ps k view hkx)
   rw [unhide HD] at HT
   obtain ⟨g, off, u, rfl, c0, c1, c2, ru⟩ := ((unhide H).below br (Nat.le_refl _)).at k hkx
   obtain ⟨x, hx⟩ : ∃ x, ps.getD k zpt = x := ⟨_, rfl⟩
   rw [hx] at c0 c1 ru HT
   clear hx
   obtain ⟨m, s, xs⟩ := x
   simp only at c0 c1 ru
   have CP := hide fun w h => l10Copy_any m s u xs w h
   obtain ⟨ua, uc, rfl⟩ := ru.form
   have RU := hide ru
   have TT := hide T
   clear ru T H
   generalize xs.length = xl at *
   by_cases hv : view ≤ m
   ·rw [if_pos hv] at HT
    go_wp2_with fail
    refine (unhide CP _ (unhide RU)).mono ?_
    rintro e w2 ⟨u2, rfl, o2, b2⟩
    have T2 := (unhide TT).below b2
    have B2 := br.trans (b2.mono br.size)
    obtain ⟨w3, hw3⟩ : ∃ y, w2.alloc (.cells #[.int .i64 m, .string s, u2] 52) = y := ⟨_, rfl⟩
    have t3 : Below w2.heap.size w2 w3 := hw3 ▸ qalloc _ _
    have L3 : Loc w3 w2.heap.size #[.int .i64 m, .string s, u2] := hw3 ▸ loc_at w2 _ _ rfl
    have T3 := hide (T2.below t3)
    have O3 := hide (o2.below t3)
    have B3 := B2.trans (t3.mono B2.size)
    have hN : Hid (∀ j, j < (ds).length → ∀ b, (vs.getD j (.slice none 0 0)).ownBlock = some b → b < wr.heap.size) := hide fun j hj b hb => (World.ownsRow.lt ((unhide TT).each j hj) b hb).2
    have d0 := L3.cell 0 rfl
    have d1 := L3.cell 1 rfl
    have d2 := L3.cell 2 rfl
    obtain ⟨xa, xc, rfl⟩ := o2.form
    have sr := br.size
    have s3 := B3.size
    clear T2 B2 o2 b2 TT CP RU c0 c1 c2 t3 L3
    go_wp2_with (first
     | (at_builtin; clear hw3; refine append_part rfl _ _ rfl w.heap.size wr.heap.size (.slice ta ds.length tc) (ds) vs w2.heap.size 1 m s _ xs rfl rfl (unhide T3) d0 d1 d2 (unhide O3) (unhide hN) sr (by omega) s3 ?_; intro v4 w4 ho4 hg4 _
        have r4 := World.ownsRow.lt (unhide T3).row
        have B4 := B3.grown hg4 s3 (fun j e => (r4 j e).1)
        obtain ⟨a4, c4, hv4⟩ := OPt.form ⟨_, ho4⟩
        subst hv4
        have O4 := hide ho4
        clear T3 O3 B3 ho4 hg4 r4 d0 d1 d2 hN))
    go_roundw
    case rel => exact ⟨k + 1, ds ++ [(m, s, xs)], _, a4, c4, by omega, by go_num, by simp, by simp; omega, HT, unhide O4, B4⟩
    case measure => simp [intOf]; omega
   ·rw [if_neg hv, List.append_nil] at HT
    clear CP RU
    go_wp2
    go_roundw
    case rel => exact ⟨k + 1, ds, vs, ta, tc, by omega, by go_num, rfl, by omega, HT, unhide TT, br⟩
    case measure => simp [intOf]; omega
  ·have hkn : ps.take k = ps := List.take_of_length_le (by have := unhide Hn; omega)
   rw [hkn] at HD
   have T' := hide T
   have HD' := unhide HD
   subst HD'
   clear T hkn H
   go_wp2
   go_ret
   exact ⟨_, rfl, ⟨_, unhide T'⟩, br⟩

theorem get_first {ps : List Pt} {k : Nat} {v : Int} {s : ByteArray} (hk : k < ps.length) (h0 : (ps.take k).find? (fun x => decide (x.1 = v) && (x.2.1.toList == s.toList)) = none) (h1 : (ps.getD k zpt).1 = v) (h2 : ((ps.getD k zpt).2.1.toList == s.toList) = true) : getP ps v s = ps.getD k zpt := by
 unfold getP
 have e : ps = ps.take k ++ (ps.getD k zpt :: ps.drop (k + 1)) := by
  conv => lhs; rw [← List.take_append_drop k ps, List.drop_eq_getElem_cons hk]
  simp [List.getElem?_eq_getElem hk]
 conv => lhs; rw [e]
 rw [List.find?_append, h0, List.find?_cons_of_pos (by rw [decide_eq_true h1, h2]; rfl)]
 rfl
theorem get_none {ps : List Pt} {v : Int} {s : ByteArray} (h0 : ps.find? (fun x => decide (x.1 = v) && (x.2.1.toList == s.toList)) = none) : getP ps v s = (v, s, []) := by
 unfold getP; rw [h0]; rfl
theorem find_more {ps : List Pt} {k : Nat} {p : Pt → Bool} (hk : k < ps.length) (h0 : (ps.take k).find? p = none) (h1 : p (ps.getD k zpt) = false) : (ps.take (k + 1)).find? p = none := by
 rw [pt_take hk, List.find?_append, h0]
 generalize ps.getD k zpt = x at *
 simp [h1]

set_option maxHeartbeats 4000000 in
set_option maxRecDepth 100000 in
theorem specTableGet (v : Value) (ps : List Pt) (view : Int) (name : ByteArray) (w : World) (hl : ps.length ≤ 4194304) (h : RPt w v ps) :
 Calls Tryz.prog 43 #[v, .int .i64 view, .string name] w fun e w' => ∃ u, e = .returned (qv (getP ps view name).1 (getP ps view name).2.1 u) ∧ OI w' w.heap.size u (getP ps view name).2.2 ∧ Below w.heap.size w w' := by
 obtain ⟨ao, ca, rfl⟩ := h.form
 obtain ⟨n, hn⟩ : ∃ n, ps.length = n := ⟨_, rfl⟩
 have Hn := hide hn
 obtain ⟨w0, hw0⟩ : ∃ y, w.alloc zpo = y := ⟨_, rfl⟩
 have B0 : Below w.heap.size w w0 := hw0 ▸ qalloc _ _
 have Z0 : Loc w0 w.heap.size #[.int .i64 0, .string ⟨#[]⟩, .slice none 0 0] := hw0 ▸ loc_at w _ _ rfl
 have s0 : w0.heap.size = w.heap.size + 1 := by rw [← hw0]; simp
 have H := hide h
 rw [hn] at hl H ⊢
 clear h hn
 have FIN : Hid (∀ (w' : World) (m : Int) (s : ByteArray) (u : Value) (xs : List Int), OI w' w0.heap.size u xs → Below w.heap.size w w' → OI (((w'.setCell ⟨w.heap.size, 0, none⟩ (.int .i64 m)).setCell ⟨w.heap.size, 1, none⟩ (.string s)).setCell ⟨w.heap.size, 2, none⟩ u) w.heap.size u xs ∧ Below w.heap.size w (((w'.setCell ⟨w.heap.size, 0, none⟩ (.int .i64 m)).setCell ⟨w.heap.size, 1, none⟩ (.string s)).setCell ⟨w.heap.size, 2, none⟩ u)) := hide fun w' m s u xs ho hb => by
  have lt := World.ownsRow.lt ho
  have K : Kp w' (((w'.setCell ⟨w.heap.size, 0, none⟩ (.int .i64 m)).setCell ⟨w.heap.size, 1, none⟩ (.string s)).setCell ⟨w.heap.size, 2, none⟩ u) (fun k => k = w.heap.size) := ((set_kp _ _ _ _).trans (set_kp _ _ _ _)).trans (set_kp _ _ _ _)
  exact ⟨OI.mono (ho.kp K (fun k hk e => by have := (lt k hk).1; omega)) (by omega), Below.kp hb K hb.size (fun k e => by omega)⟩
 go_enter Tryz.func43, Tryz.ntmps43
 go_wp2
 go_loopw [7] (fun i wr => ∃ k : Nat, k ≤ n ∧ i = .int .i64 k ∧ Hid ((ps.take k).find? (fun x => decide (x.1 = view) && (x.2.1.toList == name.toList)) = none) ∧ Below w0.heap.size w0 wr) (fun i _ => n - (intOf i).toNat)
 case atStart => exact ⟨0, Nat.zero_le _, rfl, hide (by simp), Below.refl _ _⟩
 case round =>
  clear hw0
  obtain ⟨k, hk, rfl, HK, br⟩ := hrel
  have Z := Z0.below br Z0.lt
  have B := B0.trans (br.mono B0.size)
  by_cases hlt : k < n
  ·have hkx : k < ps.length := by have := unhide Hn; omega
   obtain ⟨g, off, u, rfl, c0, c1, c2, ru⟩ := ((unhide H).below B (Nat.le_refl _)).at k hkx
   have HF : Hid ((ps.getD k zpt).1 = view → ((ps.getD k zpt).2.1.toList == name.toList) = true → getP ps view name = ps.getD k zpt) := hide (get_first hkx (unhide HK))
   have HM : Hid ((decide ((ps.getD k zpt).1 = view) && ((ps.getD k zpt).2.1.toList == name.toList)) = false → (ps.take (k + 1)).find? (fun x => decide (x.1 = view) && (x.2.1.toList == name.toList)) = none) := hide (find_more hkx (unhide HK))
   obtain ⟨x, hx⟩ : ∃ x, ps.getD k zpt = x := ⟨_, rfl⟩
   rw [hx] at c0 c1 ru HF HM
   clear hx
   obtain ⟨m, s, xs⟩ := x
   simp only at c0 c1 ru HF HM
   by_cases h1 : m = view
   ·by_cases h2 : (s.toList == name.toList) = true
    ·have E := hide (unhide HF h1 h2)
     subst h1
     have CP := hide fun w h => l10Copy_any m s u xs w h
     obtain ⟨ua, uc, rfl⟩ := ru.form
     have RU := hide ru
     clear ru H HF HM HK
     generalize xs.length = xl at *
     go_wp2_with fail
     refine (unhide CP _ (unhide RU)).mono ?_
     rintro e w2 ⟨u2, rfl, o2, b2⟩
     have Z2 := Z.below b2 Z.lt
     have B2 := B.trans (b2.mono B.size)
     have z0 := Z2.cell 0 rfl
     have z1 := Z2.cell 1 rfl
     have z2 := Z2.cell 2 rfl
     have fz := Z2.frozen
     have R := hide ((unhide FIN) w2 m s u2 xs (OI.mono o2 br.size) B2)
     obtain ⟨xa, xc, rfl⟩ := o2.form
     clear o2 b2 Z Z2 B2 c0 c1 c2 CP RU FIN
     go_wp2
     refine bodyPost_ret (v := qv m s (.slice xa xs.length xc)) (by simp [results, Tryz.results43, go_sem, z0, z1, z2]) rfl ?_
     rw [unhide E]
     exact ⟨_, rfl, (unhide R).1, (unhide R).2⟩
    ·have h2' : (s.toList == name.toList) = false := by simpa using h2
     have HK2 := hide (unhide HM (by rw [h2']; simp))
     clear HF HM HK
     go_wp2
     go_roundw
     case rel => exact ⟨k + 1, by omega, by go_num, HK2, br⟩
     case measure => simp [intOf]; omega
   ·have h1' : decide (m = view) = false := by simpa using h1
    have HK2 := hide (unhide HM (by rw [h1']; rfl))
    clear HF HM HK
    go_wp2
    go_roundw
    case rel => exact ⟨k + 1, by omega, by go_num, HK2, br⟩
    case measure => simp [intOf]; omega
  ·have hkn : ps.take k = ps := List.take_of_length_le (by have := unhide Hn; omega)
   have h0 := unhide HK
   rw [hkn] at h0
   have E := hide (get_none h0)
   have z0 := Z.cell 0 rfl
   have z1 := Z.cell 1 rfl
   have z2 := Z.cell 2 rfl
   have fz := Z.frozen
   have R := hide ((unhide FIN) wr view name (.slice none 0 0) [] (World.ownsRow_nil _ _ _ _) B)
   clear HK h0 hkn H Z FIN
   go_wp2
   refine bodyPost_ret (v := qv view name (.slice none 0 0)) (by simp [results, Tryz.results43, go_sem, z0, z1, z2]) rfl ?_
   rw [unhide E]
   exact ⟨_, rfl, (unhide R).1, (unhide R).2⟩
end Go.Proofs.YtmpmedbojfjnaaaGreatDoor
namespace Go.Proofs.YtmpmedbojfjnaaaGreatDoor
open Go.RowKit
set_option linter.unusedSectionVars false
variable [∀ (n : Int) (s : List Int), Decidable (OkL n s)]

set_option maxHeartbeats 400000 in
set_option maxRecDepth 100000 in
theorem isNaN_int (x : Int) (w : World) : Calls Tryz.prog 151 #[.int .i64 x] w fun e w' => e = .returned (.bool false) ∧ Below w.heap.size w w' := by
 go_enter Tryz.func151, Tryz.ntmps151
 go_wp2
 go_ret
 exact ⟨rfl, Below.refl _ _⟩
def cmpI (x y : Int) : Int := if x < y then -1 else if y < x then 1 else 0
theorem cmpI_lt (x y : Int) : cmpI x y < 0 ↔ x < y := by
 unfold cmpI
 repeat' split
 all_goals omega
set_option maxHeartbeats 800000 in
set_option maxRecDepth 100000 in
theorem compare_int (x y : Int) (w : World) : Calls Tryz.prog 115 #[.int .i64 x, .int .i64 y] w fun e w' => e = .returned (.int .i64 (cmpI x y)) ∧ Below w.heap.size w w' := by
 have NA := hide fun x w => isNaN_int x w
 unfold cmpI
 by_cases h1 : x < y
 ·rw [if_pos h1]
  have d1 : decide (x < y) = true := by simpa using h1
  clear h1
  go_enter Tryz.func115, Tryz.ntmps115
  go_wp2_with fail
  refine (unhide NA _ _).mono ?_
  rintro _ w1 ⟨rfl, b1⟩
  go_wp2_with fail
  refine (unhide NA _ _).mono ?_
  rintro _ w2 ⟨rfl, b2⟩
  go_wp2
  go_ret
  exact ⟨rfl, b1.trans (b2.mono b1.size)⟩
 ·rw [if_neg h1]
  have d1 : decide (x < y) = false := by simpa using h1
  clear h1
  by_cases h2 : y < x
  ·rw [if_pos h2]
   have d2 : decide (y < x) = true := by simpa using h2
   have d3 : decide (x > y) = true := by simpa using h2
   clear h2
   go_enter Tryz.func115, Tryz.ntmps115
   go_wp2_with fail
   refine (unhide NA _ _).mono ?_
   rintro _ w1 ⟨rfl, b1⟩
   go_wp2_with fail
   refine (unhide NA _ _).mono ?_
   rintro _ w2 ⟨rfl, b2⟩
   go_wp2
   go_ret
   exact ⟨rfl, b1.trans (b2.mono b1.size)⟩
  ·rw [if_neg h2]
   have d2 : decide (y < x) = false := by simpa using h2
   have d3 : decide (x > y) = false := by simpa using h2
   clear h2
   go_enter Tryz.func115, Tryz.ntmps115
   go_wp2_with fail
   refine (unhide NA _ _).mono ?_
   rintro _ w1 ⟨rfl, b1⟩
   go_wp2_with fail
   refine (unhide NA _ _).mono ?_
   rintro _ w2 ⟨rfl, b2⟩
   go_wp2
   go_ret
   exact ⟨rfl, b1.trans (b2.mono b1.size)⟩
def AscI (xs : List Int) : Prop := ∀ j, j + 1 < xs.length → xs.getD j 0 < xs.getD (j + 1) 0
theorem ascI_iff (xs : List Int) : AscI xs ↔ xs.Pairwise (· < ·) := by
 constructor
 ·intro h
  refine List.pairwise_iff_getElem.2 fun i j hi hj hij => ?_
  have key : ∀ d, i + d + 1 < xs.length → xs.getD i 0 < xs.getD (i + d + 1) 0 := by
   intro d
   induction d with
   | zero => exact fun hd => h i hd
   | succ d ih => exact fun hd => Int.lt_trans (ih (by omega)) (h (i + d + 1) hd)
  have := key (j - i - 1) (by omega)
  rw [show i + (j - i - 1) + 1 = j from by omega] at this
  simpa [List.getD_eq_getElem?_getD, List.getElem?_eq_getElem hi, List.getElem?_eq_getElem hj] using this
 ·intro h j hj
  have := List.pairwise_iff_getElem.1 h j (j + 1) (by omega) hj (by omega)
  simpa [List.getD_eq_getElem?_getD, List.getElem?_eq_getElem hj, List.getElem?_eq_getElem (show j < xs.length by omega)] using this
set_option maxHeartbeats 1000000 in
set_option maxRecDepth 100000 in
theorem ascends_int (v : Value) (xs : List Int) (w : World) (h : RI w v xs) :
 Calls Tryz.prog 116 #[.agg #[v, .func (.func 115) #[] #[]]] w fun e w' => e = .returned (.bool (decide (xs.Pairwise (· < ·)))) ∧ Below w.heap.size w w' := by
 obtain ⟨ao, ca, rfl⟩ := h.form
 have hl := h.1
 have H := hide h
 obtain ⟨n, hn⟩ : ∃ n, xs.length = n := ⟨_, rfl⟩
 have Hn := hide hn
 rw [hn] at hl H ⊢
 clear h hn
 obtain ⟨w0, hw0⟩ : ∃ w0, w.alloc (.cells #[.slice ao n ca, .func (.func 115) #[] #[]] 134) = w0 := ⟨_, rfl⟩
 have B0 : Below w.heap.size w w0 := hw0 ▸ (Below.refl _ _).alloc (Nat.le_refl _) _
 have L0 : Loc w0 w.heap.size #[.slice ao n ca, .func (.func 115) #[] #[]] := hw0 ▸ loc_at w _ _ rfl
 go_enter Tryz.func116, Tryz.ntmps116
 go_wp2
 clear hw0
 go_loopw [3] (fun i wr => ∃ m : Nat, 1 ≤ m ∧ m ≤ n + 1 ∧ i = .int .i64 m ∧ Hid (∀ j, j + 1 < m → j + 1 < n → xs.getD j 0 < xs.getD (j + 1) 0) ∧ Loc wr w.heap.size #[.slice ao n ca, .func (.func 115) #[] #[]] ∧ Below w.heap.size w wr) (fun i _ => n + 1 - (intOf i).toNat)
 case atStart => exact ⟨1, Nat.le_refl _, by omega, by go_num, hide (fun j hj => absurd hj (by omega)), L0, B0⟩
 case round =>
  clear L0 B0
  obtain ⟨m, hm1, hm, rfl, HA, L, br⟩ := hrel
  have q0 := L.cell 0 rfl
  have q1 := L.cell 1 rfl
  by_cases hlt : m < n
  ·obtain ⟨k, hk⟩ : ∃ k, m = k + 1 := ⟨m - 1, by omega⟩
   have hk1 : (m : Int) - 1 = (k : Int) := by omega
   have hwk : IntKind.i64.wrap (k : Int) = (k : Int) := by rw [IntKind.wrap_i64]; omega
   have hkn : k < n := by omega
   obtain ⟨g, off, rfl, cx⟩ := ((unhide H).below br (Nat.le_refl _)).at k (by rw [unhide Hn]; omega)
   obtain ⟨g', off', e, cy⟩ := ((unhide H).below br (Nat.le_refl _)).at m (by rw [unhide Hn]; omega)
   cases e
   have CT := hide fun w => compare_int (xs.getD k 0) (xs.getD m 0) w
   have HS : Hid (xs.getD k 0 < xs.getD m 0 → ∀ j, j + 1 < m + 1 → j + 1 < n → xs.getD j 0 < xs.getD (j + 1) 0) := hide fun h j hj hj2 => by
    by_cases e : j = k
    ·rw [e, ← hk]; exact h
    ·exact unhide HA j (by omega) hj2
   have HN : Hid (xs.getD m 0 ≤ xs.getD k 0 → ¬ xs.Pairwise (· < ·)) := hide fun h ha => Int.not_lt.2 h (by have := (ascI_iff xs).2 ha k (by rw [unhide Hn]; omega); rwa [← hk] at this)
   clear HA
   generalize xs.getD k 0 = x at *
   generalize xs.getD m 0 = y at *
   replace hk := hide hk
   have K : Hid (∀ w', Below wr.heap.size wr w' → (w'.cell? ⟨w.heap.size, 0, none⟩ = some (.slice (some ⟨g, off, none⟩) n ca) ∧ w'.cell? ⟨w.heap.size, 1, none⟩ = some (.func (.func 115) #[] #[])) ∧ w'.cell? ⟨g, off + k, none⟩ = some (.int .i64 x) ∧ w'.cell? ⟨g, off + m, none⟩ = some (.int .i64 y)) := hide fun w' hb => by
    have l := L.below hb L.lt
    exact ⟨⟨l.cell 0 rfl, l.cell 1 rfl⟩, (hb.cell (cell_lt cx)).trans cx, (hb.cell (cell_lt cy)).trans cy⟩
   have bA : Below wr.heap.size wr wr.drew := Below.drew (Below.refl _ _)
   have hKeep := unhide K _ bA
   clear cx cy
   go_wp2_with fail
   refine wp_region_noPanic ?_
   refine wp_region_held_drew (S := (fun w' => (w'.cell? ⟨w.heap.size, 0, none⟩ = some (.slice (some ⟨g, off, none⟩) n ca) ∧ w'.cell? ⟨w.heap.size, 1, none⟩ = some (.func (.func 115) #[] #[])) ∧ w'.cell? ⟨g, off + k, none⟩ = some (.int .i64 x) ∧ w'.cell? ⟨g, off + m, none⟩ = some (.int .i64 y))) (by kernel_rfl) hKeep (fun hHeld => ?_)
   refine tk 0 11 (v := ?_) rfl (hy := .inl ⟨by rfl, ?_⟩) (h := ?_); rotate_left
   ·intro w hSw; (try dsimp only at hSw); go_simp; (try with_reducible rfl)
   simp only [pU]
   refine tk 1 12 (v := ?_) rfl (hy := .inl ⟨by rfl, ?_⟩) (h := ?_); rotate_left
   ·intro w hSw; (try dsimp only at hSw); go_simp; (try with_reducible rfl)
   simp only [pU]
   refine tk 2 13 (v := ?_) rfl (hy := .inl ⟨by rfl, ?_⟩) (h := ?_); rotate_left
   ·intro w hSw; (try dsimp only at hSw); go_simp; (try with_reducible rfl)
   simp only [pU]
   refine tk 3 14 (v := ?_) rfl (hy := .inl ⟨by rfl, ?_⟩) (h := ?_); rotate_left
   ·intro w hSw; (try dsimp only at hSw); go_simp; (try with_reducible rfl)
   simp only [pU]
   refine tk 4 15 (v := ?_) rfl (hy := .inl ⟨by rfl, ?_⟩) (h := ?_); rotate_left
   ·intro w hSw; (try dsimp only at hSw); go_simp; (try with_reducible rfl)
   simp only [pU]
   refine tk 5 16 (v := ?_) rfl (hy := .inl ⟨by rfl, ?_⟩) (h := ?_); rotate_left
   ·intro w hSw; (try dsimp only at hSw); go_simp; (try with_reducible rfl)
   simp only [pU]
   refine tk 6 17 (v := ?_) rfl (hy := .inl ⟨by rfl, ?_⟩) (h := ?_); rotate_left
   ·intro w hSw; (try dsimp only at hSw); go_simp; (try with_reducible rfl)
   simp only [pU]
   refine tk 7 18 (v := ?_) rfl (hy := .inl ⟨by rfl, ?_⟩) (h := ?_); rotate_left
   ·intro w hSw; (try dsimp only at hSw); go_simp; (try with_reducible rfl)
   simp only [pU]
   refine tk 8 19 (v := ?_) rfl (hy := .inl ⟨by rfl, ?_⟩) (h := ?_); rotate_left
   ·intro w hSw; (try dsimp only at hSw); go_simp; (try with_reducible rfl)
   simp only [pU]
   refine tk 9 20 (v := ?_) rfl (hy := .inl ⟨by rfl, ?_⟩) (h := ?_); rotate_left
   ·intro w hSw; (try dsimp only at hSw); go_simp; (try with_reducible rfl)
   simp only [pU]
   refine tk 10 21 (v := ?_) rfl (hy := .inl ⟨by rfl, ?_⟩) (h := ?_); rotate_left
   ·intro w hSw; (try dsimp only at hSw); go_simp; (try with_reducible rfl)
   simp only [pU]
   refine tk 11 22 (v := ?_) rfl (hy := .inl ⟨by rfl, ?_⟩) (h := ?_); rotate_left
   ·intro w hSw; (try dsimp only at hSw); go_simp; (try with_reducible rfl)
   simp only [pU]
   refine tk 12 23 (v := ?_) rfl (hy := .inl ⟨by rfl, ?_⟩) (h := ?_); rotate_left
   ·intro w hSw; (try dsimp only at hSw); go_simp; (try with_reducible rfl)
   simp only [pU]
   refine ready_at (i := 13) rfl (by kernel_rfl) (fun KK hKK => ?_)
   go_simp
   refine (unhide CT _).mono ?_
   rintro _ wa ⟨rfl, ba⟩
   have bB : Below wr.heap.size wr wa := bA.trans ba
   clear hHeld
   refine hKK.out _ _ (unhide K _ bB) (fun hHeld => ?_)
   clear hKK KK
   refine tk 14 25 (v := ?_) rfl (hy := .inl ⟨by rfl, ?_⟩) (h := ?_); rotate_left
   ·intro w hSw; (try dsimp only at hSw); go_simp; (try with_reducible rfl)
   simp only [pU]
   clear hHeld
   refine wpAnyH_done (by kernel_rfl) ?_ _
   refine NoPanic.normal ?_
   have LB := L.below bB L.lt
   have BB := br.trans (bB.mono br.size)
   have hcm := hide (cmpI_lt x y)
   generalize cmpI x y = q at *
   by_cases hq : q < 0
   ·have HS := hide (unhide HS ((unhide hcm).1 hq))
    have hq0 : ¬ 0 ≤ q := by omega
    clear hcm HN
    go_wp2
    go_roundw
    case rel => exact ⟨m + 1, by omega, by omega, by go_num, HS, LB, BB⟩
    case measure => simp [intOf]; omega
   ·have hno : decide (xs.Pairwise (· < ·)) = false := decide_eq_false (unhide HN (Int.not_lt.1 fun h => hq ((unhide hcm).2 h)))
    have hq0 : 0 ≤ q := by omega
    clear hcm HS HN
    go_wp2
    go_ret
    exact ⟨by first | rfl | (rw [hno]; rfl), BB⟩
  ·have hyes : decide (xs.Pairwise (· < ·)) = true := decide_eq_true ((ascI_iff xs).1 fun j hj => unhide HA j (by have := unhide Hn; omega) (by have := unhide Hn; omega))
   clear HA
   go_wp2
   go_ret
   exact ⟨by first | rfl | (rw [hyes]; rfl), br⟩
theorem ok_ends {n : Int} {xs : List Int} (h0 : 0 < xs.length) : OkL n xs ↔ xs.Pairwise (· < ·) ∧ 0 ≤ xs.getD 0 0 ∧ xs.getD (xs.length - 1) 0 < n := by
 have g : ∀ k (hk : k < xs.length), xs.getD k 0 = xs[k] := fun k hk => by rw [List.getD_eq_getElem?_getD, List.getElem?_eq_getElem hk]; rfl
 unfold OkL
 constructor
 ·rintro ⟨h1, h2⟩
  refine ⟨h2, ?_, ?_⟩
  ·rw [g 0 h0]; exact (h1 _ (List.getElem_mem h0)).1
  ·rw [g _ (by omega)]; exact (h1 _ (List.getElem_mem (by omega))).2
 ·rintro ⟨h2, h3, h4⟩
  refine ⟨fun x hx => ?_, h2⟩
  obtain ⟨j, hj, rfl⟩ := List.getElem_of_mem hx
  rw [g 0 h0] at h3
  rw [g _ (by omega)] at h4
  have hp := List.pairwise_iff_getElem.1 h2
  constructor
  ·by_cases e : j = 0
   ·subst e; exact h3
   ·have := hp 0 j h0 hj (by omega); omega
  ·by_cases e : j = xs.length - 1
   ·have : xs[j] = xs[xs.length - 1] := by congr 1
    omega
   ·have := hp j (xs.length - 1) hj (by omega) (by omega); omega
set_option maxHeartbeats 1600000 in
set_option maxRecDepth 100000 in
theorem implSetOk (m : Int) (v : Value) (xs : List Int) (w : World) (h : RI w v xs) :
 Calls Tryz.prog 50 #[.int .i64 m, v] w fun e w' => e = .returned (.bool (decide (OkL m xs))) ∧ Below w.heap.size w w' := by
 obtain ⟨ao, ca, rfl⟩ := h.form
 have hl := h.1
 by_cases hz : xs.length = 0
 ·obtain rfl : xs = [] := List.length_eq_zero_iff.1 hz
  have ed : decide (OkL m []) = true := decide_eq_true ⟨by simp, List.Pairwise.nil⟩
  rw [ed]
  clear ed h hl hz
  go_enter Tryz.func50, Tryz.ntmps50
  go_wp2
  go_ret
  exact ⟨rfl, Below.refl _ _⟩
 ·have AS := hide fun w h => ascends_int (.slice ao xs.length ca) xs w h
  obtain ⟨w0, hw0⟩ : ∃ w0, w.alloc (.cells #[.slice ao xs.length ca, .func (.func 115) #[] #[]] 134) = w0 := ⟨_, rfl⟩
  have B0 : Below w.heap.size w w0 := hw0 ▸ (Below.refl _ _).alloc (Nat.le_refl _) _
  have L0 : Loc w0 w.heap.size #[.slice ao xs.length ca, .func (.func 115) #[] #[]] := hw0 ▸ loc_at w _ _ rfl
  have H := hide (h.below B0 (Nat.le_refl _))
  obtain ⟨g, off, rfl, c0⟩ := (unhide H).at 0 (by omega)
  obtain ⟨g', off', e, c1⟩ := (unhide H).at (xs.length - 1) (by omega)
  cases e
  have HO := hide (ok_ends (n := m) (xs := xs) (by omega))
  generalize xs.getD 0 0 = x at *
  generalize xs.getD (xs.length - 1) 0 = y at *
  have FIN : Hid (decide (OkL m xs) = (decide (xs.Pairwise (· < ·)) && (decide (0 ≤ x) && decide (y < m)))) := hide (by
   have := unhide HO
   by_cases hp : xs.Pairwise (· < ·) <;> by_cases hx : 0 ≤ x <;> by_cases hy : y < m <;> simp [hp, hx, hy, this])
  generalize decide (OkL m xs) = qq at *
  clear HO
  generalize decide (xs.Pairwise (· < ·)) = q at *
  obtain ⟨n, hn⟩ : ∃ n, xs.length = n + 1 := ⟨xs.length - 1, by omega⟩
  rw [hn] at H AS L0 hw0 hl hz c1 ⊢
  rw [Nat.add_sub_cancel] at c1
  rw [Nat.add_zero] at c0
  have hnz : decide (((n + 1 : Nat) : Int) = 0) = false := by simp; omega
  have hs1 : IntKind.i64.wrap (((n + 1 : Nat) : Int) - 1) = (n : Int) := by rw [IntKind.wrap_i64]; omega
  have hnn : ((n + 1 : Nat) : Int) - 1 = (n : Int) := by omega
  have Hn := hide hn
  clear hn h
  have q0 := L0.cell 0 rfl
  have q1 := L0.cell 1 rfl
  go_enter Tryz.func50, Tryz.ntmps50
  go_wp2_with fail
  clear hw0
  refine (unhide AS _ (unhide H)).mono ?_
  rintro _ w1 ⟨rfl, b1⟩
  have cx := b1.cell (p := ⟨g, off, none⟩) (cell_lt c0)
  have cy := b1.cell (p := ⟨g, off + n, none⟩) (cell_lt c1)
  rw [c0] at cx
  rw [c1] at cy
  have BB := B0.trans (b1.mono B0.size)
  clear H AS c0 c1 b1 q0 q1 L0 B0
  cases q with
  | false =>
   go_wp2
   go_ret
   exact ⟨by rw [unhide FIN]; rfl, BB⟩
  | true =>
   by_cases h0 : 0 ≤ x
   ·have d0 : decide (0 ≤ x) = true := by simpa using h0
    rw [d0] at FIN
    clear h0
    go_wp2
    go_ret
    exact ⟨by rw [unhide FIN]; rfl, BB⟩
   ·have d0 : decide (0 ≤ x) = false := by simpa using h0
    rw [d0] at FIN
    clear h0
    go_wp2
    go_ret
    exact ⟨by rw [unhide FIN]; rfl, BB⟩
end Go.Proofs.YtmpmedbojfjnaaaGreatDoor
