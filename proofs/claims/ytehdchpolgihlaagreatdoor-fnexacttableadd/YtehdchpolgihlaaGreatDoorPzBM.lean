/- Texts that belong together: TableAddi, TableAddAll. -/
import Derived.Test.YtehdchpolgihlaaGreatDoorPzBL
import Derived.Test.YtehdchpolgihlaaGreatDoorPzBD
import Derived.Test.YtehdchpolgihlaaGreatDoorPzBH
import Derived.Test.YtehdchpolgihlaaGreatDoorPzAC
/- TableAddi: TableAdd of the program. -/
namespace Go.Proofs.YtehdchpolgihlaaGreatDoor
open Go.RowKit
set_option linter.unusedSectionVars false
variable [∀ (n : Int) (s : List Int), Decidable (OkL n s)]
variable [∀ (a b c d : Int), Decidable (Ok4 a b c d)]
variable [∀ (n f : Int), Decidable (COk n f)]
variable [∀ (a b c d : Nat), Decidable (okN a b c d)]
variable [∀ (last : Int) (s : St), Decidable (GoodSt last s)]
variable [∀ (x : T4), Decidable (OkT x)]

theorem tok_row {n f : Int} {ps : List Pt} (h : tokB n f ps = true) : ps.Pairwise Bf := by
  unfold tokB at h
  simp only [Bool.and_eq_true] at h
  exact (row_pair ps).1 h.1.2
/-- Wherever the search comes to, TableOk of what is made is the same; where it is true, so is what is made. -/
theorem tok_ins {n f : Int} {ps : List Pt} {p : Pt} {k : Nat} (h : PlaceP ps p k) : tokB n f (insP ps p k) = tokB n f (addP ps p) ∧ (tokB n f (addP ps p) = true → insP ps p k = addP ps p) := by
  by_cases hp : ps.Pairwise Bf
  · have e := ins_add hp h
    exact ⟨by rw [e], fun _ => e⟩
  · have h1 : tokB n f (insP ps p k) = false := by
      cases e : tokB n f (insP ps p k) with
      | false => rfl
      | true => exact absurd (ins_pair (tok_row e)) hp
    have h2 : tokB n f (addP ps p) = false := by
      cases e : tokB n f (addP ps p) with
      | false => rfl
      | true =>
        obtain ⟨j, hj⟩ := add_ins ps p
        rw [hj] at e
        exact absurd (ins_pair (tok_row e)) hp
    exact ⟨by rw [h1, h2], fun e => by rw [h2] at e; cases e⟩

set_option maxHeartbeats 8000000 in
set_option maxRecDepth 100000 in
theorem implTableAdd (n f : Int) (v : Value) (ps : List Pt) (m : Int) (s : ByteArray) (u : Value) (xs : List Int) (a : Addr) (w : World) (hl : ps.length ≤ 1048576) (hs : s.size ≤ 1048576) (hx : xs.length ≤ 1048576) (hw : ∀ q ∈ ps, q.2.1.size ≤ 1048576 ∧ q.2.2.length ≤ 1048576 ∧ WfL q.2.2) (wx : WfL xs) (hE : Env w) (G : Gv w a) (h : RPt w v ps) (hc : CapP v) (hu : RI w u xs) :
    Calls Tryz.prog 13 #[cv n f, v, qv m s u] w fun e w' => ∃ t, e = .returned (.tuple #[t, .bool (tokB n f (addP ps (m, s, xs)) && pokB n f m s xs)]) ∧ OPt w' w.heap.size t (if (tokB n f (addP ps (m, s, xs)) && pokB n f m s xs) then addP ps (m, s, xs) else ps) ∧ Below w.heap.size w w' := by
  obtain ⟨ao, ca, rfl⟩ := h.form
  obtain ⟨ua, uc, rfl⟩ := hu.form
  have hca : ps.length ≤ ca := by obtain ⟨_, _, _, e, h1, _⟩ := hc; cases e; exact h1
  obtain ⟨w0, hw0⟩ : ∃ y, (w.alloc (.cells #[.int .i64 n, .int .i64 f] 32)).alloc (.cells #[.int .i64 m, .string s, .slice ua xs.length uc] 26) = y := ⟨_, rfl⟩
  have B : Below w.heap.size w w0 := hw0 ▸ qalloc2 _ _ _
  have C : Loc w0 w.heap.size #[.int .i64 n, .int .i64 f] := hw0 ▸ (loc_at w _ _ rfl).alloc _
  have P : Loc w0 (w.heap.size + 1) #[.int .i64 m, .string s, .slice ua xs.length uc] := hw0 ▸ loc_at (w.alloc _) _ _ (by simp)
  have WP := hide (withPart_any ao ca ps m s ua uc xs a w0 (by omega) hca hx (fun q hq => ⟨by have := (hw q hq).1; omega, (hw q hq).2.1, (hw q hq).2.2⟩) wx (h.below B (Nat.le_refl _)) (hu.below B (Nat.le_refl _)) (G.below B G.lt))
  have PO := hide fun w' (hb : Below w.heap.size w w') => implPartOk n f m s (.slice ua xs.length uc) xs w' (by omega) (hE.below hb) (hu.below hb (Nat.le_refl _))
  have hsz : ∀ k, ∀ q ∈ insP ps (m, s, xs) k, q.2.1.size ≤ 1048576 := fun k q hq => by
    rcases ins_mem hq with h | rfl | ⟨x, h, _, rfl⟩
    · exact (hw q h).1
    · exact hs
    · exact (hw x h).1
  have hil : ∀ k, (insP ps (m, s, xs) k).length ≤ ps.length + 1 := fun k => by
    unfold insP
    cases e : ps.drop k with
    | nil => simp [putP]; omega
    | cons x l =>
      have hd : (ps.drop k).length = l.length + 1 := by rw [e]; rfl
      rw [List.length_drop] at hd
      rw [putP_cons]
      split <;> simp <;> omega
  have TO := hide fun k r w' (hE' : Env w') h => implTableOk n f r (insP ps (m, s, xs) k) w' (by have := hil k; omega) (fun q hq => by have := hsz k q hq; omega) hE' h
  have HE := hide fun w' (hb : Below w.heap.size w w') => hE.below hb
  have TL := hide fun w' (hb : Below w.heap.size w w') => toldParts_any (.slice ao ps.length ca) ps w' (by omega) (fun q hq => by have := (hw q hq).1; omega) (h.below hb (Nat.le_refl _))
  have TM := hide fun k r w' h => toldParts_any r (insP ps (m, s, xs) k) w' (by have := hil k; omega) (fun q hq => by have := hsz k q hq; omega) h
  have TI := hide fun k (h : PlaceP ps (m, s, xs) k) => tok_ins (n := n) (f := f) h
  obtain ⟨ln, hln⟩ : ∃ l, ps.length = l := ⟨_, rfl⟩
  obtain ⟨xl, hxl⟩ : ∃ l, xs.length = l := ⟨_, rfl⟩
  rw [hln] at WP TL ⊢
  rw [hxl] at hw0 P WP PO ⊢
  generalize pokB n f m s xs = pb at *
  generalize tokB n f (addP ps (m, s, xs)) = tb at *
  have p0 := P.cell 0 rfl
  have p1 := P.cell 1 rfl
  have p2 := P.cell 2 rfl
  clear h hu hw wx hE G hc hca hsz hil hln hxl hl
  cases pb with
  | false =>
    rw [Bool.and_false]
    simp only [Bool.false_eq_true, if_false]
    go_enter Tryz.func13, Tryz.ntmps13
    go_wp2_with fail
    clear hw0 p0 p1 p2
    refine (unhide WP).mono ?_
    rintro e w1 ⟨r, k, rfl, HP, R1, b1⟩
    obtain ⟨ra, rc, rfl⟩ := R1.form
    generalize (insP ps (m, s, xs) k).length = il at *
    have B1 := B.trans (b1.mono B.size)
    replace C := C.below b1 C.lt
    replace P := P.below b1 P.lt
    have c0 := C.cell 0 rfl
    have c1 := C.cell 1 rfl
    have p0 := P.cell 0 rfl
    have p1 := P.cell 1 rfl
    have p2 := P.cell 2 rfl
    clear HP R1 b1 B TO TM TI WP C P
    go_wp2_with fail
    clear c0 c1 p0 p1 p2
    refine (unhide PO _ B1).mono ?_
    rintro e w2 ⟨rfl, b2⟩
    have B2 := B1.trans (b2.mono B1.size)
    clear b2
    go_wp2_with fail
    refine (unhide TL _ B2).mono ?_
    rintro e w3 ⟨t, rfl, o3, b3⟩
    have B3 := B2.trans (b3.mono B2.size)
    have o3' := hide (o3.mono B2.size)
    obtain ⟨ta, tc, rfl⟩ := o3.form
    clear o3 b3
    go_wp2
    go_ret2
    exact ⟨_, rfl, unhide o3', B3⟩
  | true =>
    rw [Bool.and_true]
    go_enter Tryz.func13, Tryz.ntmps13
    go_wp2_with fail
    clear hw0 p0 p1 p2
    refine (unhide WP).mono ?_
    rintro e w1 ⟨r, k, rfl, HP, R1, b1⟩
    obtain ⟨h1, h2⟩ := unhide TI k HP
    replace TO := hide (fun w' hE' h => unhide TO k r w' hE' h)
    rw [h1] at TO
    replace TM := hide (fun w' h => unhide TM k r w' h)
    have HI := hide h2
    obtain ⟨ra, rc, hr⟩ := R1.form
    have RR := hide fun w' (hb : Below w1.heap.size w1 w') => R1.below hb (Nat.le_refl _)
    have HLN := hide hr
    obtain ⟨il, hil⟩ : ∃ l, (insP ps (m, s, xs) k).length = l := ⟨_, rfl⟩
    rw [hil] at hr
    subst hr
    have B1 := B.trans (b1.mono B.size)
    replace C := C.below b1 C.lt
    replace P := P.below b1 P.lt
    have c0 := C.cell 0 rfl
    have c1 := C.cell 1 rfl
    have p0 := P.cell 0 rfl
    have p1 := P.cell 1 rfl
    have p2 := P.cell 2 rfl
    clear HP R1 b1 B TI WP h1 h2 hil HLN
    go_wp2_with fail
    clear c0 c1 p0 p1 p2
    refine (unhide PO _ B1).mono ?_
    rintro e w2 ⟨rfl, b2⟩
    have B2 := B1.trans (b2.mono B1.size)
    replace C := C.below b2 C.lt
    have c0 := C.cell 0 rfl
    have c1 := C.cell 1 rfl
    have s1 := b2.size
    clear P C
    go_wp2_with fail
    clear c0 c1
    refine (unhide TO w2 (unhide HE _ B2) (unhide RR _ b2)).mono ?_
    rintro e w3 ⟨rfl, b3⟩
    have B3 := B2.trans (b3.mono B2.size)
    have b13 : Below w1.heap.size w1 w3 := b2.trans (b3.mono b2.size)
    clear b2 b3 B1 B2 TO PO HE
    cases tb with
    | false =>
      go_wp2_with fail
      refine (unhide TL _ B3).mono ?_
      rintro e w4 ⟨t, rfl, o4, b4⟩
      have B4 := B3.trans (b4.mono B3.size)
      have o4' := hide (o4.mono B3.size)
      obtain ⟨ta, tc, rfl⟩ := o4.form
      clear o4 b4
      go_wp2
      go_ret2
      exact ⟨_, rfl, unhide o4', B4⟩
    | true =>
      have e := unhide HI rfl
      replace TM := hide (unhide TM w3 (unhide RR _ b13))
      rw [e] at TM
      clear HI RR b13 e
      go_wp2_with fail
      refine (unhide TM).mono ?_
      rintro e w4 ⟨t, rfl, o4, b4⟩
      have B4 := B3.trans (b4.mono B3.size)
      have o4' := hide (o4.mono B3.size)
      obtain ⟨ta, tc, rfl⟩ := o4.form
      clear o4 b4
      go_wp2
      go_ret2
      exact ⟨_, rfl, unhide o4', B4⟩
end Go.Proofs.YtehdchpolgihlaaGreatDoor

/- TableAddAll: laws.FnExactTableAdd at every argument. -/
namespace Go.Proofs.YtehdchpolgihlaaGreatDoor
open Go.RowKit
set_option linter.unusedSectionVars false
variable [∀ (a b c d : Int), Decidable (Ok4 a b c d)]
variable [∀ (n f : Int), Decidable (COk n f)]
variable [∀ (n : Int) (s : List Int), Decidable (OkL n s)]
variable [∀ (a b c d : Nat), Decidable (okN a b c d)]
variable [∀ (last : Int) (s : St), Decidable (GoodSt last s)]
variable [∀ (x : T4), Decidable (OkT x)]

set_option maxHeartbeats 1600000 in
set_option maxRecDepth 100000 in
theorem fnTableAdd_long1 (n f : Int) (al : Option Addr) (cl : Nat) (rs : List Pr) (m : Int) (s : ByteArray) (u : Value) (w : World) (h : ATab w al rs) (hb : ∀ r ∈ rs, r.2.1.size ≤ maxLen ∧ r.2.2.2.2.length ≤ maxLen) (hm : rs.length ≤ maxLen) (hs : 1048576 < rs.length + psum rs) :
    Calls Tryz.prog 7 #[cv n f, .slice al rs.length cl, qv m s u] w fun e w' => e = .returned (.bool true) ∧ Below w.heap.size w w' := by
  obtain ⟨w0, hw0⟩ : ∃ y, (w.alloc (.cells #[.int .i64 n, .int .i64 f] 60)).alloc (.cells #[.int .i64 m, .string s, u] 61) = y := ⟨_, rfl⟩
  have B0 : Below w.heap.size w w0 := hw0 ▸ qalloc2 _ _ _
  have ZN := hide (szPartS_no al cl rs 1048576 w0 (h.below B0) hb (by omega) hm (by omega) (by omega))
  generalize rs.length = l at *
  clear h hb hm hs
  go_enter Tryz.func7, Tryz.ntmps7
  go_wp2_with fail
  clear hw0
  refine (unhide ZN).mono ?_
  rintro e w1 ⟨rfl, b1⟩
  have B1 := B0.trans (b1.mono B0.size)
  go_wp2
  go_ret
  exact ⟨rfl, B1⟩
set_option maxHeartbeats 1600000 in
set_option maxRecDepth 100000 in
theorem fnTableAdd_long2 (n f : Int) (al : Option Addr) (cl : Nat) (rs : List Pr) (m : Int) (s : ByteArray) (pa : Option Addr) (pc k : Nat) (w : World) (h : ATab w al rs) (h0 : rs.length + psum rs ≤ 1048576) (hs : 1048576 < rs.length + psum rs + s.size + k) (hsz : s.size ≤ maxLen) (hk : k ≤ maxLen) :
    Calls Tryz.prog 7 #[cv n f, .slice al rs.length cl, qv m s (.slice pa k pc)] w fun e w' => e = .returned (.bool true) ∧ Below w.heap.size w w' := by
  unfold maxLen at hsz hk
  obtain ⟨w0, hw0⟩ : ∃ y, (w.alloc (.cells #[.int .i64 n, .int .i64 f] 60)).alloc (.cells #[.int .i64 m, .string s, .slice pa k pc] 61) = y := ⟨_, rfl⟩
  have B0 : Below w.heap.size w w0 := hw0 ▸ qalloc2 _ _ _
  have P : Loc w0 (w.heap.size + 1) #[.int .i64 m, .string s, .slice pa k pc] := hw0 ▸ loc_at (w.alloc _) _ _ (by simp)
  have ZA := hide (szPartS_yes al cl rs 1048576 w0 (h.below B0) (by omega) (by omega))
  have ZB := hide fun w => szPart_no m s pa k pc (1048576 - rs.length - psum rs) w (by omega) (by omega) (by omega) (by omega) (by omega)
  have hd : decide ((1048576 : Int) - (rs.length : Int) - (psum rs : Int) < 0) = false := by simp; omega
  generalize rs.length = l at *
  generalize psum rs = sm at *
  clear h
  go_enter Tryz.func7, Tryz.ntmps7
  go_wp2_with fail
  clear hw0
  refine (unhide ZA).mono ?_
  rintro e w1 ⟨rfl, b1⟩
  have B1 := B0.trans (b1.mono B0.size)
  replace P := P.below b1 P.lt
  have p0 := P.cell 0 rfl
  have p1 := P.cell 1 rfl
  have p2 := P.cell 2 rfl
  go_wp2_with fail
  refine (unhide ZB _).mono ?_
  rintro e w2 ⟨rfl, b2⟩
  have B2 := B1.trans (b2.mono B1.size)
  go_wp2
  go_ret
  exact ⟨rfl, B2⟩
theorem fnTableAdd_walk (n f : Int) (al : Option Addr) (cl : Nat) (rs : List Pr) (m : Int) (s : ByteArray) (pa : Option Addr) (pc : Nat) (xs : List Int) (a : Addr) (w : World) (hm : rs.length ≤ maxLen) (h : ATab w al rs) (he : AllP w rs) (hs : s.size ≤ maxLen) (hn : xs.length ≤ maxLen) (hp : AIW w pa xs) (wx : WfL xs) (hE : Env w) (G : Gv w a) :
    Calls Tryz.prog 7 #[cv n f, .slice al rs.length cl, qv m s (.slice pa xs.length pc)] w fun e w' => e = .returned (.bool true) ∧ Below w.heap.size w w' := by
  by_cases h2 : 1048576 < rs.length + psum rs
  · exact fnTableAdd_long1 n f al cl rs m s _ w h (fun r hr => ⟨(he r hr).1, (he r hr).2.1⟩) hm h2
  · by_cases h3 : 1048576 < rs.length + psum rs + s.size + xs.length
    · exact fnTableAdd_long2 n f al cl rs m s pa pc xs.length w h (by omega) h3 hs hn
    · refine fnTableAdd_short (fun w => Env w ∧ Gv w a) (fun w w' h hb => ⟨h.1.below hb, h.2.below hb h.2.lt⟩) n f al cl rs m s pa pc xs w (fun v u w hEG hr hc hu => implTableAdd n f v (rs.map prp) m s u xs a w (by simp; omega) (by omega) (by omega) (fun q hq => ?_) wx hEG.1 hEG.2 hr hc hu) h (fun r hr => (he r hr).2.2.1) (hp.ri (by omega)) (by omega) ⟨hE, G⟩
      have hq2 := prp_mem hq
      obtain ⟨r, hr, rfl⟩ := List.mem_map.1 hq
      exact ⟨by omega, by omega, (he r hr).2.2.2⟩
end Go.Proofs.YtehdchpolgihlaaGreatDoor
