/- Lemmas; their conditions stand in each statement. -/
import Derived.Test.YtjkcphnohhpihaaGreatDoorPPBL
set_option maxRecDepth 100000
set_option maxHeartbeats 8000000
set_option linter.unusedSectionVars false
namespace Go.Proofs.YtjkcphnohhpihaaGreatDoor
section
open Go.RowKit
variable [∀ (a b c d : Int), Decidable (Ok4 a b c d)]
variable [∀ (a b c d : Nat), Decidable (okN a b c d)]
variable [∀ (last : Int) (s : St), Decidable (GoodSt last s)]
variable [∀ (x : T4), Decidable (OkT x)]
variable [∀ (n : Int) (s : List Int), Decidable (OkL n s)]
variable [∀ (n f : Int), Decidable (COk n f)]
theorem implPartQc (n f m : Int) (s : ByteArray) (u : Value) (xs : List Int) (w : World) (hs : s.size ≤ 33554432) (hE : Env w) (hu : RI w u xs) :
 Calls Tryz.prog 23 #[cv n f, qv m s u] w fun e w' => ∃ r, e = .returned (.tuple #[qv (if (decide (s ≠ ⟨#[]⟩) && qokB n f m s xs) then m else 0) (if (decide (s ≠ ⟨#[]⟩) && qokB n f m s xs) then s else ⟨#[]⟩) r,.bool (decide (s ≠ ⟨#[]⟩) && qokB n f m s xs)]) ∧ OI w' w.heap.size r (if (decide (s ≠ ⟨#[]⟩) && qokB n f m s xs) then xs else []) ∧ Below w.heap.size w w' := by
 obtain ⟨ua, uc, rfl⟩:=hu.form
 obtain ⟨w0, hw0⟩ : ∃ y, (((w.alloc (.cells #[.int .i64 n,.int .i64 f] 33)).alloc (.cells #[.int .i64 m,.string s,.slice ua xs.length uc] 36)).alloc zq).alloc (.cells #[.int .i64 m,.string s,.slice ua xs.length uc] 53) = y:=⟨_, rfl⟩
 have B : Below w.heap.size w w0:=hw0 ▸ (((qalloc2 _ _ _).alloc (by simp; omega) _).alloc (by simp; omega) _)
 have C : Loc w0 w.heap.size #[.int .i64 n,.int .i64 f]:=hw0 ▸ (((loc_at w _ _ rfl).alloc _).alloc _).alloc _
 have R : Loc w0 (w.heap.size + 1 + 1) #[.int .i64 0,.string ⟨#[]⟩,.slice none 0 0]:=hw0 ▸ (loc_at ((w.alloc _).alloc _) _ _ (by simp)).alloc _
 have Q : Loc w0 (w.heap.size + 1 + 1 + 1) #[.int .i64 m,.string s,.slice ua xs.length uc]:=hw0 ▸ (loc_at (((w.alloc _).alloc _).alloc _) _ _ (by simp))
 have s0 : w0.heap.size = w.heap.size + 1 + 1 + 1 + 1:=by rw [← hw0]; simp
 have QO:=hide (implQcOk_at n f m s ua uc xs w0 hs (hE.below B) (hu.below B))
 rw [qok_eq] at QO
 have TQ:=hide fun w' (b : Below w0.heap.size w0 w') l => qtold_any (w.heap.size + 1 + 1 + 1) m s ua uc xs w' l ((hu.below B).below b) (by omega)
 obtain ⟨k, hk⟩ : ∃ k, xs.length = k:=⟨_, rfl⟩
 replace hk:=hide hk
 rw [hk.out] at hw0 Q QO TQ ⊢
 generalize qokB n f m s xs = qb at *
 have NO : Hid (∀ w2, Below w.heap.size w w2 → Below w.heap.size w (((w2.setCell ⟨w.heap.size + 1 + 1, 0, none⟩ (.int .i64 0)).setCell ⟨w.heap.size + 1 + 1, 1, none⟩ (.string ⟨#[]⟩)).setCell ⟨w.heap.size + 1 + 1, 2, none⟩ (.slice none 0 0))):=hide fun w2 b => by
  have K5 : Kp w2 (((w2.setCell ⟨w.heap.size + 1 + 1, 0, none⟩ (.int .i64 0)).setCell ⟨w.heap.size + 1 + 1, 1, none⟩ (.string ⟨#[]⟩)).setCell ⟨w.heap.size + 1 + 1, 2, none⟩ (.slice none 0 0)) (fun k => k = w.heap.size + 1 + 1):=((set_kp _ _ _ _).trans (set_kp _ _ _ _)).trans (set_kp _ _ _ _)
  exact Below.kp b K5 b.size (fun k hk => by omega)
 have c0:=C.cell 0 rfl
 have c1:=C.cell 1 rfl
 have q0:=Q.cell 0 rfl
 have q1:=Q.cell 1 rfl
 have q2:=Q.cell 2 rfl
 clear hE hu C
 by_cases he : s = ⟨#[]⟩
 ·have hd : decide (s ≠ ⟨#[]⟩) = false:=by simpa using he
  have hy : (s.toList == []) = true:=by rw [he, ByteArray.toList_eq]; rfl
  rw [hd]
  simp only [Bool.false_and, Bool.false_eq_true, if_false]
  have r0:=R.cell 0 rfl
  have r1:=R.cell 1 rfl
  have r2:=R.cell 2 rfl
  have fr:=R.frozen
  have B':=hide (NO.out _ B)
  clear he hd QO TQ R Q NO B
  go_enter Tryz.func23, Tryz.ntmps23
  go_wp2
  refine bodyPost_ret (v := .tuple #[qv 0 ⟨#[]⟩ (.slice none 0 0),.bool false]) (by simp [results, Tryz.results23, go_sem, r0, r1, r2]) rfl ?_
  exact ⟨_, rfl, World.ownsRow_nil _ _ _ _, B'.out⟩
 have hd : decide (s ≠ ⟨#[]⟩) = true:=by simpa using he
 have hne:=ne2 he
 rw [hd]
 simp only [Bool.true_and]
 clear he hd
 cases qb with
 | false =>
  simp only [Bool.false_eq_true, if_false]
  go_enter Tryz.func23, Tryz.ntmps23
  go_wp2_with fail
  clear hw0 c0 c1 q0 q1 q2 hne
  refine QO.out.mono ?_
  rintro e w2 ⟨rfl, b2⟩
  have B2:=bu B b2
  replace R:=R.up b2
  have r0:=R.cell 0 rfl
  have r1:=R.cell 1 rfl
  have r2:=R.cell 2 rfl
  have fr:=R.frozen
  have B':=hide (NO.out _ B2)
  clear QO TQ R Q NO B B2 b2
  go_wp2
  refine bodyPost_ret (v := .tuple #[qv 0 ⟨#[]⟩ (.slice none 0 0),.bool false]) (by simp [results, Tryz.results23, go_sem, r0, r1, r2]) rfl ?_
  exact ⟨_, rfl, World.ownsRow_nil _ _ _ _, B'.out⟩
 | true =>
  simp only [if_true]
  go_enter Tryz.func23, Tryz.ntmps23
  go_wp2_with fail
  clear hw0 c0 c1 q0 q1 q2 hne
  refine QO.out.mono ?_
  rintro e w2 ⟨rfl, b2⟩
  have B2:=bu B b2
  replace R:=R.up b2
  have TT:=hide (TQ.out w2 b2 (Q.up b2))
  have s2:=b2.size
  clear QO TQ Q NO B b2
  go_wp2_with fail
  refine TT.out.mono ?_
  rintro e w3 ⟨r, rfl, o3, b3⟩
  have B3:=bu B2 b3
  replace R:=R.up b3
  have r0:=R.cell 0 rfl
  have r1:=R.cell 1 rfl
  have r2:=R.cell 2 rfl
  have fr:=R.frozen
  have lt3:=World.ownsRow.lt o3
  obtain ⟨ra, rc, hr⟩:=o3.form
  rw [hk.out] at hr
  subst hr
  have O3:=hide o3
  clear R b3 o3 TT B2
  go_wp2
  refine bodyPost_ret (v := .tuple #[qv m s (.slice ra k rc),.bool true]) (by simp [results, Tryz.results23, go_sem, r0, r1, r2]) rfl ?_
  have K5 : Kp w3 (((w3.setCell ⟨w.heap.size + 1 + 1, 0, none⟩ (.int .i64 m)).setCell ⟨w.heap.size + 1 + 1, 1, none⟩ (.string s)).setCell ⟨w.heap.size + 1 + 1, 2, none⟩ (.slice ra k rc)) (fun k => k = w.heap.size + 1 + 1):=((set_kp _ _ _ _).trans (set_kp _ _ _ _)).trans (set_kp _ _ _ _)
  exact ⟨_, rfl, (O3.out.kp K5 (fun k hk => by have := lt3 k hk; omega)).mono (by omega), Below.kp B3 K5 B3.size (fun k hk => by omega)⟩
end
section
open Go.RowKit
variable [∀ (a b c d : Int), Decidable (Ok4 a b c d)]
variable [∀ (a b c d : Nat), Decidable (okN a b c d)]
variable [∀ (x : T4), Decidable (OkT x)]
variable [∀ (last : Int) (s : St), Decidable (GoodSt last s)]
variable [∀ (n f : Int), Decidable (COk n f)]
variable [∀ (n : Int) (s : List Int), Decidable (OkL n s)]
theorem sam_eq {v v' : Int} {s s' : ByteArray} {xs ys : List Int} (h : samP (v, s, xs) (v', s', ys) = true) : v' = v ∧ s' = s := by
 unfold samP at h
 rw [Bool.and_eq_true, decide_eq_true_iff, beq_iff_eq] at h
 obtain ⟨h1, h2⟩:=h
 simp only at h1 h2
 rw [ByteArray.toList_eq, ByteArray.toList_eq] at h2
 exact ⟨h1.symm, (ByteArray.ext (Array.toList_inj.1 h2)).symm⟩
theorem sam_self (v : Int) (s : ByteArray) (xs ys : List Int) : samP (v, s, xs) (v, s, ys) = true := by
 unfold samP
 simp
theorem join_other (m n : Int) (s t : ByteArray) (u v : Value) (xs ys : List Int) (a : Addr) (w : World) (hl : ys.length + xs.length ≤ 4194303) (hs : t.size ≤ 281474976710656) (wx : WfL xs) (wy : WfL ys) (hu : RI w u xs) (hv : RI w v ys) (G : Gv w a) (h : samP (m, s, xs) (n, t, ys) = true) :
 Calls Tryz.prog 19 #[qv n t v, qv m s u] w fun e w' => ∃ r, e = .returned (.tuple #[qv (if samP (m, s, xs) (n, t, ys) then m else 0) (if samP (m, s, xs) (n, t, ys) then s else ⟨#[]⟩) r,.bool true]) ∧ OI w' w.heap.size r (if samP (m, s, xs) (n, t, ys) then joinL xs ys else []) ∧ Below w.heap.size w w' := by
 obtain ⟨rfl, rfl⟩:=sam_eq h
 have c:=implPartJoin n n t t v u ys xs a w hl hs wy wx hv hu G
 rw [sam_self] at c
 rw [h]
 simp only [if_true] at c ⊢
 rw [join_comm xs ys]
 exact c
theorem get_add (ps : List Pt) (m : Int) (s : ByteArray) (xs : List Int) : ∀ z ∈ xs, z ∈ (getP (addP ps (m, s, xs)) m s).2.2 := by
 intro z hz
 induction ps with
 | nil =>
  have e : getP (addP [] (m, s, xs)) m s = (m, s, xs):=by unfold getP addP; simp
  rw [e]; exact hz
 | cons x t ih =>
  unfold addP
  by_cases hb : befP x (m, s, xs) = true
  ·rw [if_pos hb]
   have hn : (decide (x.1 = m) && (x.2.1.toList == s.toList)) = false:=by
    cases e : (decide (x.1 = m) && (x.2.1.toList == s.toList)) with
    | false => rfl
    | true =>
     have:=sam_not_bef (a:=x) (b:=(m, s, xs)) e
     rw [this] at hb; cases hb
   have e : getP (x :: addP t (m, s, xs)) m s = getP (addP t (m, s, xs)) m s:=by
    unfold getP
    rw [List.find?_cons, hn]
   rw [e]; exact ih
  rw [if_neg hb]
  by_cases hc : samP x (m, s, xs) = true
  ·rw [if_pos hc]
   have e : getP (joinP x (m, s, xs) :: t) m s = joinP x (m, s, xs):=by
    unfold getP
    rw [List.find?_cons]
    have : (decide ((joinP x (m, s, xs)).1 = m) && ((joinP x (m, s, xs)).2.1.toList == s.toList)) = true:=hc
    rw [this]; rfl
   rw [e]
   exact (mem_join _ _ _).2 (.inr hz)
  rw [if_neg hc]
  have e : getP ((m, s, xs) :: x :: t) m s = (m, s, xs):=by unfold getP; simp
  rw [e]; exact hz
theorem com_all {a b : List Int} (h : ∀ z ∈ a, z ∈ b) : comL a b = a.length := by
 unfold comL
 rw [List.filter_eq_self.2 (fun z hz => by simpa using h z hz)]
theorem smp_get {b : Nat} {ps : List Pt} (h : SmP b ps) (v : Int) (s : ByteArray) : (getP ps v s).2.2.length ≤ b ∧ WfL (getP ps v s).2.2 := by
 unfold getP
 cases e : ps.find? (fun x => decide (x.1 = v) && (x.2.1.toList == s.toList)) with
 | none => exact ⟨Nat.zero_le _, fun x hx => by cases hx⟩
 | some q => have := h q (List.mem_of_find?_eq_some e); exact ⟨this.2.1, this.2.2⟩
theorem smp_drop {b : Nat} {ps : List Pt} (h : SmP b ps) (v : Int) : SmP b (dropP ps v) := fun q hq => h q (List.mem_filter.1 hq).1
theorem smp_add9 (rb : Bool) {b : Nat} {ps : List Pt} {v : Int} {s : ByteArray} {xs : List Int} (h : SmP b ps) (hs : s.size ≤ 8001) (hx : xs.length ≤ 9) (wx : WfL xs) : SmP (b + 9) (if rb = true then addP ps (v, s, xs) else ps) := by
 intro q hq
 split at hq
 ·rcases addP_mem hq with h1 | rfl | ⟨x, h1, rfl⟩
  ·have:=h q h1; exact ⟨this.1, by omega, this.2.2⟩
  ·exact ⟨hs, by simp only; omega, wx⟩
  have h2:=h x h1
  have:=join_size x.2.2 xs
  exact ⟨h2.1, by simp only [joinP]; omega, wf_join h2.2.2 wx⟩
 have:=h q hq; exact ⟨this.1, by omega, this.2.2⟩
theorem add_facts {n f m : Int} {s : ByteArray} {xs : List Int} {ps : List Pt} (rb : Bool) (h : (tokB n f (addP ps (m, s, xs)) && pokB n f m s xs) = rb) : (rb = true → tokB n f (if rb = true then addP ps (m, s, xs) else ps) = true ∧ comL xs (getP (if rb = true then addP ps (m, s, xs) else ps) m s).2.2 = xs.length) ∧ (rb = false → (if rb = true then addP ps (m, s, xs) else ps) = ps) := by
 cases rb with
 | false => exact ⟨fun e => absurd e (by simp), fun _ => rfl⟩
 | true =>
  rw [Bool.and_eq_true] at h
  refine ⟨fun _ => ⟨h.1, ?_⟩, fun e => absurd e (by simp)⟩
  exact com_all (get_add ps m s xs)
theorem qc_facts {n f m : Int} {s : ByteArray} {xs : List Int} (rb : Bool) (h : (decide (s ≠ ⟨#[]⟩) && qokB n f m s xs) = rb) : rb = true → qokB n f (if rb = true then m else 0) (if rb = true then s else ⟨#[]⟩) (if rb = true then xs else []) = true := by
 intro e
 subst e
 rw [Bool.and_eq_true] at h
 exact h.2
theorem alike_me (n : Int) (s : ByteArray) (xs : List Int) : alikeB n n s s xs xs = true := by simp [alikeB]
theorem if_len {b : Bool} {xs : List Int} {k : Nat} (h : xs.length ≤ k) : (if b = true then xs else []).length ≤ k := by
 split
 ·exact h
 exact Nat.zero_le _
theorem if_size {b : Bool} {s : ByteArray} {k : Nat} (h : s.size ≤ k) : (if b = true then s else ⟨#[]⟩).size ≤ k := by
 split
 ·exact h
 exact Nat.zero_le _
end
section
open Go.RowKit
variable [∀ (a b c d : Int), Decidable (Ok4 a b c d)]
variable [∀ (a b c d : Nat), Decidable (okN a b c d)]
variable [∀ (last : Int) (s : St), Decidable (GoodSt last s)]
variable [∀ (x : T4), Decidable (OkT x)]
variable [∀ (n : Int) (s : List Int), Decidable (OkL n s)]
variable [∀ (n f : Int), Decidable (COk n f)]
theorem oi_empty (w : World) : OI (w.alloc (.cells #[] 3)) w.heap.size (.slice (some ⟨w.heap.size, 0, none⟩) 0 0) [] := by
 have:=World.ownsRow_lit (base:=w.heap.size) (e:=3) (size:=1) w #[] 0 (Nat.le_refl _) (by unfold maxLen; omega) (by simp)
 simpa [OI] using this

theorem specPartQc (n f m : Int) (s : ByteArray) (u : Value) (xs : List Int) (w : World) (hs : s.size ≤ 1048576) (hx : xs.length ≤ 4194304) (hu : RI w u xs) :
 Calls Tryz.prog 24 #[cv n f, qv m s u] w fun e w' => ∃ r, e = .returned (.tuple #[qv (if (decide (s ≠ ⟨#[]⟩) && qokB n f m s xs) then m else 0) (if (decide (s ≠ ⟨#[]⟩) && qokB n f m s xs) then s else ⟨#[]⟩) r,.bool (decide (s ≠ ⟨#[]⟩) && qokB n f m s xs)]) ∧ OI w' w.heap.size r (if (decide (s ≠ ⟨#[]⟩) && qokB n f m s xs) then xs else []) ∧ Below w.heap.size w w' := by
 obtain ⟨ua, uc, rfl⟩:=hu.form
 obtain ⟨w0, hw0⟩ : ∃ y, ((w.alloc (.cells #[.int .i64 n,.int .i64 f] 33)).alloc (.cells #[.int .i64 m,.string s,.slice ua xs.length uc] 36)).alloc zq = y:=⟨_, rfl⟩
 have B : Below w.heap.size w w0:=hw0 ▸ ((qalloc2 _ _ _).alloc (by simp; omega) _)
 have LC : Loc w0 w.heap.size #[.int .i64 n,.int .i64 f]:=hw0 ▸ ((loc_at w _ _ rfl).alloc _).alloc _
 have LP : Loc w0 (w.heap.size + 1) #[.int .i64 m,.string s,.slice ua xs.length uc]:=hw0 ▸ (loc_at (w.alloc _) _ _ (by simp)).alloc _
 have R : Loc w0 (w.heap.size + 1 + 1) #[.int .i64 0,.string ⟨#[]⟩,.slice none 0 0]:=hw0 ▸ (loc_at ((w.alloc _).alloc _) _ _ (by simp))
 have s0 : w0.heap.size = w.heap.size + 1 + 1 + 1:=by rw [← hw0]; simp
 have PX:=hide fun w' (hb : Below w0.heap.size w0 w') => ((hu.below B).below hb).pi
 have QK:=hide fun a k w h => specQcOk n f m s a k xs w hs h
 obtain ⟨rb, hrb⟩ : ∃ b, (decide (s ≠ ⟨#[]⟩) && qokB n f m s xs) = b:=⟨_, rfl⟩
 rw [hrb]
 have HRB:=hide hrb
 obtain ⟨k1, hk1⟩ : ∃ k, xs.length = k:=⟨_, rfl⟩
 rw [hk1] at LP PX QK hw0 hx ⊢
 clear hu hrb
 obtain ⟨r1, hr1⟩ : ∃ x, (if rb = true then m else 0) = x:=⟨_, rfl⟩
 obtain ⟨r2, hr2⟩ : ∃ x, (if rb = true then s else ⟨#[]⟩) = x:=⟨_, rfl⟩
 obtain ⟨r3, hr3⟩ : ∃ x, (if rb = true then xs else []) = x:=⟨_, rfl⟩
 rw [hr1, hr2, hr3]
 have H1:=hide hr1
 have H2:=hide hr2
 have H3:=hide hr3
 clear hr1 hr2 hr3
 have K:=kw (ka (kc1 LP 0) (ka (kc1 LP 1) (kc1 LP 2)))
 go_enter Tryz.func24, Tryz.ntmps24
 go_upto_region 1 with fail
 clear hw0
 go_cut [6] (fun c wx => ∃ h uu, c = .pointer (some ⟨h, 0, none⟩) ∧ w0.heap.size ≤ h ∧ h < wx.heap.size ∧ Loc wx h #[.int .i64 m,.string s, uu] ∧ OI wx w0.heap.size uu xs ∧ Below w0.heap.size w0 wx)
 ·refine wrn K (Below.drew (Below.refl _ _)) (fun hHeld => ?_)
  obtain ⟨wd, hd⟩ : ∃ wd, w0.drew = wd:=⟨_, rfl⟩
  have bd : Below w0.heap.size w0 wd:=hd ▸ Below.drew (Below.refl _ _)
  have szd:=bd.size
  rw [hd] at hHeld ⊢
  clear hd
  refine tx 0 7 ?_
  refine tx 2 9 ?_
  refine tx 5 12 ?_
  refine tx 1 8 ?_
  refine tx 3 10 ?_
  refine tx 6 13 ?_
  refine wpAnyH_ready (rs := [4, 9]) (by kernel_rfl) (by simp) (AllReadyH.cons rfl (fun KK hKK => ?_) (AllReadyH.cons rfl (fun KK hKK => ?_) AllReadyH.nil))
  ·go_simp
   obtain ⟨we1, hwe1⟩ : ∃ y, wd.alloc (.cells #[] 3) = y:=⟨_, rfl⟩
   have cbe2 : Below wd.heap.size wd we1:=hwe1 ▸ qalloc _ _
   have oE : OI we1 wd.heap.size (.slice (some ⟨wd.heap.size, 0, none⟩) 0 0) []:=hwe1 ▸ oi_empty wd
   have be2 : Below w0.heap.size w0 we1:=bu bd cbe2
   have zwe1 : we1.heap.size = wd.heap.size + 1:=by rw [← hwe1]; simp
   rw [hwe1]
   clear hwe1 cbe2 hHeld
   refine hKK.out _ _ (K.out _ be2) (fun hHeld => ?_)
   clear hKK KK
   try simp only [pU]
   refine wpAnyH_ready (rs := [7, 9]) (by kernel_rfl) (by simp) (AllReadyH.cons rfl (fun KK hKK => ?_) (AllReadyH.cons rfl (fun KK hKK => ?_) AllReadyH.nil))
   ·refine step_append_ints rfl (.tmp 11) (.tmp 13) rfl (wd.heap.size) (.slice (some ⟨wd.heap.size, 0, none⟩) 0 0) (.slice ua k1 uc) [] xs rfl rfl oE (PX.out _ be2) (by simp; omega) (by omega) ?_
    intro v1 wp3 o7 g7 hb7
    have r7 : ∀ j, (Value.slice (some ⟨wd.heap.size, 0, none⟩) 0 0).ownBlock = some j → j = wd.heap.size:=fun j e => by simp [Value.ownBlock] at e; omega
    have bp4 : Below w0.heap.size w0 wp3:=be2.grown g7 be2.size (fun j e => by have:=r7 j e; omega)
    have zwp3:=g7.size
    have tA:=World.ownsRow.lt o7
    have oA : OI wp3 (wd.heap.size) v1 xs:=by simpa using o7
    have hap : ∀ j, v1.ownBlock = some j → j = wd.heap.size ∨ j = we1.heap.size:=fun j hj => by rcases hb7 with e | e; (left; exact r7 j (by rw [← e]; exact hj)); (right; rw [hj] at e; injection e with e)
    obtain ⟨va, vc, rfl⟩:=oA.form
    rw [hk1] at oA tA hap ⊢
    clear oE g7 r7 o7 hb7 hHeld
    refine hKK.out _ _ (K.out _ bp4) (fun hHeld => ?_)
    clear hKK KK
    try simp only [Act.put, List.setIfInBounds_toArray]
    refine tz 8 15 ?_
    simp only [Act.put]
    refine rd 9 rfl (fun KK hKK => ?_)
    go_simp
    obtain ⟨wl5, hwl5⟩ : ∃ y, wp3.alloc (.cells #[.int .i64 0,.string ⟨#[]⟩,.slice none 0 0] 53) = y:=⟨_, rfl⟩
    have cbl6 : Below wp3.heap.size wp3 wl5:=hwl5 ▸ qalloc _ _
    have lg : Loc wl5 wp3.heap.size #[.int .i64 0,.string ⟨#[]⟩,.slice none 0 0]:=hwl5 ▸ loc_at wp3 _ _ rfl
    have bl6 : Below w0.heap.size w0 wl5:=bu bp4 cbl6
    have zwl5 : wl5.heap.size = wp3.heap.size + 1:=by rw [← hwl5]; simp
    replace oA:=oA.below cbl6
    rw [hwl5]
    clear hwl5 cbl6 hHeld
    refine hKK.out _ _ (K.out _ bl6) (fun hHeld => ?_)
    clear hKK KK
    try simp only [pU]
    have q0:=lg.cell 0 rfl
    have q1:=lg.cell 1 rfl
    have q2:=lg.cell 2 rfl
    have FG:=lg.frozen
    refine rd 10 rfl (fun KK hKK => ?_)
    go_simp
    have bs : Below w0.heap.size w0 (((wl5.setCell ⟨wp3.heap.size, 0, none⟩ (.int .i64 m)).setCell ⟨wp3.heap.size, 1, none⟩ (.string s)).setCell ⟨wp3.heap.size, 2, none⟩ (.slice va k1 vc)):=((bl6.setCell (p:=⟨wp3.heap.size, 0, none⟩) (by show w0.heap.size ≤ wp3.heap.size; omega) _).setCell (p:=⟨wp3.heap.size, 1, none⟩) (by show w0.heap.size ≤ wp3.heap.size; omega) _).setCell (p:=⟨wp3.heap.size, 2, none⟩) (by show w0.heap.size ≤ wp3.heap.size; omega) _
    clear hHeld
    refine hKK.out _ _ (K.out _ bs) (fun hHeld => ?_)
    clear hKK KK
    try simp only [pU]
    clear hHeld
    refine wdn ?_
    go_wp2_with fail
    go_meet
    have ll:=lg.lt
    have k3 : Kp wl5 (((wl5.setCell ⟨wp3.heap.size, 0, none⟩ (.int .i64 m)).setCell ⟨wp3.heap.size, 1, none⟩ (.string s)).setCell ⟨wp3.heap.size, 2, none⟩ (.slice va k1 vc)) (fun k => k = wp3.heap.size):=((set_kp _ _ _ _).trans (set_kp _ _ _ _)).trans (set_kp _ _ _ _)
    exact ⟨_, _, rfl, by omega, by simpa using ll, ((lg.set 0 _ rfl).set 1 _ rfl).set 2 _ rfl, OI.mono (oA.kp k3 (fun j hj e => by have h8 := hap j hj; have h9 := (tA j hj).2; omega)) (by omega), bs⟩
   go_simp
   obtain ⟨wl7, hwl7⟩ : ∃ y, we1.alloc (.cells #[.int .i64 0,.string ⟨#[]⟩,.slice none 0 0] 53) = y:=⟨_, rfl⟩
   have cbl8 : Below we1.heap.size we1 wl7:=hwl7 ▸ qalloc _ _
   have lg : Loc wl7 we1.heap.size #[.int .i64 0,.string ⟨#[]⟩,.slice none 0 0]:=hwl7 ▸ loc_at we1 _ _ rfl
   have bl8 : Below w0.heap.size w0 wl7:=bu be2 cbl8
   have zwl7 : wl7.heap.size = we1.heap.size + 1:=by rw [← hwl7]; simp
   replace oE:=oE.below cbl8
   rw [zwe1] at lg
   rw [hwl7]
   clear hwl7 cbl8 hHeld
   refine hKK.out _ _ (K.out _ bl8) (fun hHeld => ?_)
   clear hKK KK
   try simp only [pU]
   refine wpAnyH_ready (rs := [7]) (by kernel_rfl) (by simp) (AllReadyH.cons rfl (fun KK hKK => ?_) AllReadyH.nil)
   refine step_append_ints rfl (.tmp 11) (.tmp 13) rfl (wd.heap.size) (.slice (some ⟨wd.heap.size, 0, none⟩) 0 0) (.slice ua k1 uc) [] xs rfl rfl oE (PX.out _ bl8) (by simp; omega) (by omega) ?_
   intro v1 wp9 o7 g7 hb7
   have r7 : ∀ j, (Value.slice (some ⟨wd.heap.size, 0, none⟩) 0 0).ownBlock = some j → j = wd.heap.size:=fun j e => by simp [Value.ownBlock] at e; omega
   have bp10 : Below w0.heap.size w0 wp9:=bl8.grown g7 bl8.size (fun j e => by have:=r7 j e; omega)
   have zwp9:=g7.size
   have tA:=World.ownsRow.lt o7
   have oA : OI wp9 (wd.heap.size) v1 xs:=by simpa using o7
   replace lg:=lg.kp (kp_grown g7) (fun e => by have:=r7 _ e; omega)
   have hap : ∀ j, v1.ownBlock = some j → j = wd.heap.size ∨ j = wl7.heap.size:=fun j hj => by rcases hb7 with e | e; (left; exact r7 j (by rw [← e]; exact hj)); (right; rw [hj] at e; injection e with e)
   obtain ⟨va, vc, rfl⟩:=oA.form
   rw [hk1] at oA tA hap ⊢
   clear oE g7 r7 o7 hb7 hHeld
   refine hKK.out _ _ (K.out _ bp10) (fun hHeld => ?_)
   clear hKK KK
   try simp only [Act.put, List.setIfInBounds_toArray]
   refine tz 8 15 ?_
   simp only [Act.put]
   have q0:=lg.cell 0 rfl
   have q1:=lg.cell 1 rfl
   have q2:=lg.cell 2 rfl
   have FG:=lg.frozen
   refine rd 10 rfl (fun KK hKK => ?_)
   go_simp
   have bs : Below w0.heap.size w0 (((wp9.setCell ⟨wd.heap.size + 1, 0, none⟩ (.int .i64 m)).setCell ⟨wd.heap.size + 1, 1, none⟩ (.string s)).setCell ⟨wd.heap.size + 1, 2, none⟩ (.slice va k1 vc)):=((bp10.setCell (p:=⟨wd.heap.size + 1, 0, none⟩) (by show w0.heap.size ≤ wd.heap.size + 1; omega) _).setCell (p:=⟨wd.heap.size + 1, 1, none⟩) (by show w0.heap.size ≤ wd.heap.size + 1; omega) _).setCell (p:=⟨wd.heap.size + 1, 2, none⟩) (by show w0.heap.size ≤ wd.heap.size + 1; omega) _
   clear hHeld
   refine hKK.out _ _ (K.out _ bs) (fun hHeld => ?_)
   clear hKK KK
   try simp only [pU]
   clear hHeld
   refine wdn ?_
   go_wp2_with fail
   go_meet
   have ll:=lg.lt
   have k3 : Kp wp9 (((wp9.setCell ⟨wd.heap.size + 1, 0, none⟩ (.int .i64 m)).setCell ⟨wd.heap.size + 1, 1, none⟩ (.string s)).setCell ⟨wd.heap.size + 1, 2, none⟩ (.slice va k1 vc)) (fun k => k = wd.heap.size + 1):=((set_kp _ _ _ _).trans (set_kp _ _ _ _)).trans (set_kp _ _ _ _)
   exact ⟨_, _, rfl, by omega, by simpa using ll, ((lg.set 0 _ rfl).set 1 _ rfl).set 2 _ rfl, OI.mono (oA.kp k3 (fun j hj e => by have h8 := hap j hj;  omega)) (by omega), bs⟩
  go_simp
  obtain ⟨wl11, hwl11⟩ : ∃ y, wd.alloc (.cells #[.int .i64 0,.string ⟨#[]⟩,.slice none 0 0] 53) = y:=⟨_, rfl⟩
  have cbl12 : Below wd.heap.size wd wl11:=hwl11 ▸ qalloc _ _
  have lg : Loc wl11 wd.heap.size #[.int .i64 0,.string ⟨#[]⟩,.slice none 0 0]:=hwl11 ▸ loc_at wd _ _ rfl
  have bl12 : Below w0.heap.size w0 wl11:=bu bd cbl12
  have zwl11 : wl11.heap.size = wd.heap.size + 1:=by rw [← hwl11]; simp
  rw [hwl11]
  clear hwl11 cbl12 hHeld
  refine hKK.out _ _ (K.out _ bl12) (fun hHeld => ?_)
  clear hKK KK
  try simp only [pU]
  refine rd 4 rfl (fun KK hKK => ?_)
  go_simp
  obtain ⟨we13, hwe13⟩ : ∃ y, wl11.alloc (.cells #[] 3) = y:=⟨_, rfl⟩
  have cbe14 : Below wl11.heap.size wl11 we13:=hwe13 ▸ qalloc _ _
  have oE : OI we13 wl11.heap.size (.slice (some ⟨wl11.heap.size, 0, none⟩) 0 0) []:=hwe13 ▸ oi_empty wl11
  have be14 : Below w0.heap.size w0 we13:=bu bl12 cbe14
  have zwe13 : we13.heap.size = wl11.heap.size + 1:=by rw [← hwe13]; simp
  replace lg:=lg.up cbe14
  rw [zwl11] at oE
  rw [hwe13]
  clear hwe13 cbe14 hHeld
  refine hKK.out _ _ (K.out _ be14) (fun hHeld => ?_)
  clear hKK KK
  try simp only [pU]
  refine wpAnyH_ready (rs := [7]) (by kernel_rfl) (by simp) (AllReadyH.cons rfl (fun KK hKK => ?_) AllReadyH.nil)
  refine step_append_ints rfl (.tmp 11) (.tmp 13) rfl (wd.heap.size + 1) (.slice (some ⟨wd.heap.size + 1, 0, none⟩) 0 0) (.slice ua k1 uc) [] xs rfl rfl oE (PX.out _ be14) (by simp; omega) (by omega) ?_
  intro v1 wp15 o7 g7 hb7
  have r7 : ∀ j, (Value.slice (some ⟨wd.heap.size + 1, 0, none⟩) 0 0).ownBlock = some j → j = wd.heap.size + 1:=fun j e => by simp [Value.ownBlock] at e; omega
  have bp16 : Below w0.heap.size w0 wp15:=be14.grown g7 be14.size (fun j e => by have:=r7 j e; omega)
  have zwp15:=g7.size
  have tA:=World.ownsRow.lt o7
  have oA : OI wp15 (wd.heap.size + 1) v1 xs:=by simpa using o7
  replace lg:=lg.kp (kp_grown g7) (fun e => by have:=r7 _ e; omega)
  have hap : ∀ j, v1.ownBlock = some j → j = wd.heap.size + 1 ∨ j = we13.heap.size:=fun j hj => by rcases hb7 with e | e; (left; exact r7 j (by rw [← e]; exact hj)); (right; rw [hj] at e; injection e with e)
  obtain ⟨va, vc, rfl⟩:=oA.form
  rw [hk1] at oA tA hap ⊢
  clear oE g7 r7 o7 hb7 hHeld
  refine hKK.out _ _ (K.out _ bp16) (fun hHeld => ?_)
  clear hKK KK
  try simp only [Act.put, List.setIfInBounds_toArray]
  refine tz 8 15 ?_
  simp only [Act.put]
  have q0:=lg.cell 0 rfl
  have q1:=lg.cell 1 rfl
  have q2:=lg.cell 2 rfl
  have FG:=lg.frozen
  refine rd 10 rfl (fun KK hKK => ?_)
  go_simp
  have bs : Below w0.heap.size w0 (((wp15.setCell ⟨wd.heap.size, 0, none⟩ (.int .i64 m)).setCell ⟨wd.heap.size, 1, none⟩ (.string s)).setCell ⟨wd.heap.size, 2, none⟩ (.slice va k1 vc)):=((bp16.setCell (p:=⟨wd.heap.size, 0, none⟩) (by show w0.heap.size ≤ wd.heap.size; omega) _).setCell (p:=⟨wd.heap.size, 1, none⟩) (by show w0.heap.size ≤ wd.heap.size; omega) _).setCell (p:=⟨wd.heap.size, 2, none⟩) (by show w0.heap.size ≤ wd.heap.size; omega) _
  clear hHeld
  refine hKK.out _ _ (K.out _ bs) (fun hHeld => ?_)
  clear hKK KK
  try simp only [pU]
  clear hHeld
  refine wdn ?_
  go_wp2_with fail
  go_meet
  have ll:=lg.lt
  have k3 : Kp wp15 (((wp15.setCell ⟨wd.heap.size, 0, none⟩ (.int .i64 m)).setCell ⟨wd.heap.size, 1, none⟩ (.string s)).setCell ⟨wd.heap.size, 2, none⟩ (.slice va k1 vc)) (fun k => k = wd.heap.size):=((set_kp _ _ _ _).trans (set_kp _ _ _ _)).trans (set_kp _ _ _ _)
  exact ⟨_, _, rfl, by omega, by simpa using ll, ((lg.set 0 _ rfl).set 1 _ rfl).set 2 _ rfl, OI.mono (oA.kp k3 (fun j hj e => by have h8 := hap j hj;  omega)) (by omega), bs⟩
 case rest =>
 clear K PX
 obtain ⟨h, uu, rfl, l1, l2, X, O, bb⟩:=hcut
 obtain ⟨qa, qc, rfl⟩:=O.form
 rw [hk1] at X O
 replace B:=bu B bb
 have sx:=bb.size
 replace LC:=LC.up bb
 replace LP:=LP.up bb
 replace R:=R.up bb
 clear bb
 by_cases he : s = ⟨#[]⟩
 ·have hy : (s.toList == []) = true:=by rw [he, ByteArray.toList_eq]; rfl
  have hb : rb = false:=by rw [← HRB.out, he]; rfl
  subst hb
  have e1 : r1 = 0:=by rw [← H1.out]; rfl
  have e2 : r2 = ⟨#[]⟩:=by rw [← H2.out]; rfl
  have e3 : r3 = []:=by rw [← H3.out]; rfl
  subst e1 e2 e3
  clear he HRB H1 H2 H3 QK X O LC
  have p1:=LP.cell 1 rfl
  have r0:=R.cell 0 rfl
  have r1':=R.cell 1 rfl
  have r2':=R.cell 2 rfl
  have fr:=R.frozen
  have k3 : Kp wc (((wc.setCell ⟨w.heap.size + 1 + 1, 0, none⟩ (.int .i64 0)).setCell ⟨w.heap.size + 1 + 1, 1, none⟩ (.string ⟨#[]⟩)).setCell ⟨w.heap.size + 1 + 1, 2, none⟩ (.slice none 0 0)) (fun k => k = w.heap.size + 1 + 1):=((set_kp _ _ _ _).trans (set_kp _ _ _ _)).trans (set_kp _ _ _ _)
  clear R
  go_wp2
  refine bodyPost_ret (v := .tuple #[qv 0 ⟨#[]⟩ (.slice none 0 0),.bool false]) (by simp [results, Tryz.results24, go_sem, r0, r1', r2']) rfl ?_
  exact ⟨_, rfl, World.ownsRow_nil _ _ _ _, Below.kp B k3 B.size (fun k hk => by omega)⟩
 have hy : (s.toList == []) = false:=by
  cases hz : (s.toList == [])
  ·rfl
  exact absurd (by have hz' : s.toList = [] := by simpa using hz
                   rw [ByteArray.toList_eq] at hz'; cases s with | mk d => simp at hz'; rw [hz']) he
 have c0:=LC.cell 0 rfl
 have c1:=LC.cell 1 rfl
 have p1:=LP.cell 1 rfl
 have x0:=X.cell 0 rfl
 have x1:=X.cell 1 rfl
 have x2:=X.cell 2 rfl
 go_wp2_with fail
 refine (QK.out _ _ _ (O.ri (by omega))).mono ?_
 rintro _ w1 ⟨rfl, bb⟩
 clear c0 c1 p1 x0 x1 x2
 replace B:=bu B bb
 have s1:=bb.size
 replace X:=X.up bb
 replace R:=R.up bb
 replace O:=O.below bb
 clear bb QK LC LP
 have hb : rb = qokB n f m s xs:=by rw [← HRB.out]; simp [he]
 rw [← hb]
 clear hb he HRB
 cases rb
 ·have e1 : r1 = 0:=by rw [← H1.out]; rfl
  have e2 : r2 = ⟨#[]⟩:=by rw [← H2.out]; rfl
  have e3 : r3 = []:=by rw [← H3.out]; rfl
  subst e1 e2 e3
  clear H1 H2 H3 X O
  have r0:=R.cell 0 rfl
  have r1':=R.cell 1 rfl
  have r2':=R.cell 2 rfl
  have fr:=R.frozen
  have k3 : Kp w1 (((w1.setCell ⟨w.heap.size + 1 + 1, 0, none⟩ (.int .i64 0)).setCell ⟨w.heap.size + 1 + 1, 1, none⟩ (.string ⟨#[]⟩)).setCell ⟨w.heap.size + 1 + 1, 2, none⟩ (.slice none 0 0)) (fun k => k = w.heap.size + 1 + 1):=((set_kp _ _ _ _).trans (set_kp _ _ _ _)).trans (set_kp _ _ _ _)
  clear R
  go_wp2
  refine bodyPost_ret (v := .tuple #[qv 0 ⟨#[]⟩ (.slice none 0 0),.bool false]) (by simp [results, Tryz.results24, go_sem, r0, r1', r2']) rfl ?_
  exact ⟨_, rfl, World.ownsRow_nil _ _ _ _, Below.kp B k3 B.size (fun k hk => by omega)⟩
 have e1 : r1 = m:=by rw [← H1.out]; rfl
 have e2 : r2 = s:=by rw [← H2.out]; rfl
 have e3 : r3 = xs:=by rw [← H3.out]; rfl
 subst e1 e2 e3
 clear H1 H2 H3
 have x0:=X.cell 0 rfl
 have x1:=X.cell 1 rfl
 have x2:=X.cell 2 rfl
 have r0:=R.cell 0 rfl
 have r1':=R.cell 1 rfl
 have r2':=R.cell 2 rfl
 have fr:=R.frozen
 have k3 : Kp w1 (((w1.setCell ⟨w.heap.size + 1 + 1, 0, none⟩ (.int .i64 r1)).setCell ⟨w.heap.size + 1 + 1, 1, none⟩ (.string r2)).setCell ⟨w.heap.size + 1 + 1, 2, none⟩ (.slice qa k1 qc)) (fun k => k = w.heap.size + 1 + 1):=((set_kp _ _ _ _).trans (set_kp _ _ _ _)).trans (set_kp _ _ _ _)
 have tO:=World.ownsRow.lt O
 clear X R
 go_wp2
 refine bodyPost_ret (v := .tuple #[qv r1 r2 (.slice qa k1 qc),.bool true]) (by simp [results, Tryz.results24, go_sem, r0, r1', r2']) rfl ?_
 exact ⟨_, rfl, (O.kp k3 (fun j hj e => by have := tO j hj; omega)).mono (by omega), Below.kp B k3 B.size (fun k hk => by omega)⟩
end
end Go.Proofs.YtjkcphnohhpihaaGreatDoor
