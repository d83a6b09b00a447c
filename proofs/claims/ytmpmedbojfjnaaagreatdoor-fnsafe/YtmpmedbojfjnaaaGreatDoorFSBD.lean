/- Texts that belong together: Saf, QcCopy. -/
import Derived.Test.YtmpmedbojfjnaaaGreatDoorFSBA
import Derived.Test.YtmpmedbojfjnaaaGreatDoorFSAU
namespace Go.Proofs.YtmpmedbojfjnaaaGreatDoor
open Go.RowKit

abbrev sv (vo lo n : Int) (s : ByteArray) (v : Value) (d : ByteArray) : Value := .agg #[.int .i64 vo, .int .i64 lo, .int .i64 n, .string s, v, .string d]

theorem kp6 (w : World) (g : Nat) (a b c d e f : Value) : Kp w ((((((w.setCell ⟨g, 0, none⟩ a).setCell ⟨g, 1, none⟩ b).setCell ⟨g, 2, none⟩ c).setCell ⟨g, 3, none⟩ d).setCell ⟨g, 4, none⟩ e).setCell ⟨g, 5, none⟩ f) (fun k => k = g) :=
 (((((set_kp _ _ _ _).trans (set_kp _ _ _ _)).trans (set_kp _ _ _ _)).trans (set_kp _ _ _ _)).trans (set_kp _ _ _ _)).trans (set_kp _ _ _ _)

set_option maxHeartbeats 1600000 in
set_option maxRecDepth 100000 in
theorem l7Copy_any (n : Int) (s : ByteArray) (v : Value) (xs : List Int) (w : World) (h : RI w v xs) :
 Calls Tryz.prog 125 #[qv n s v] w fun e w' => ∃ u, e = .returned (qv n s u) ∧ OI w' w.heap.size u xs ∧ Below w.heap.size w w' := by
 obtain ⟨ao, ca, rfl⟩ := h.form
 have hl := h.1
 obtain ⟨w0, hw0⟩ : ∃ w0, ((w.alloc (.cells #[.int .i64 n, .string s, .slice ao xs.length ca] 28)).alloc zq).alloc (.cells #[] 3) = w0 := ⟨_, rfl⟩
 have B0 : Below w.heap.size w w0 := hw0 ▸ ((qalloc2 _ _ _).alloc (by simp; omega) _)
 have LA : Loc w0 w.heap.size #[.int .i64 n, .string s, .slice ao xs.length ca] := hw0 ▸ ((loc_at w _ _ rfl).alloc _).alloc _
 have LZ : Loc w0 (w.heap.size + 1) #[.int .i64 0, .string ⟨#[]⟩, .slice none 0 0] := hw0 ▸ (loc_at (w.alloc _) _ _ (by simp)).alloc _
 have s0 : w0.heap.size = w.heap.size + 1 + 1 + 1 := by rw [← hw0]; simp
 have O0 : OI w0 (w.heap.size + 1 + 1) (.slice (some ⟨w.heap.size + 1 + 1, 0, none⟩) 0 0) [] := by
  have := World.ownsRow_lit (base := w.heap.size + 1 + 1) (e := 3) (size := 1) ((w.alloc (.cells #[.int .i64 n, .string s, .slice ao xs.length ca] 28)).alloc zq) #[] 0 (by simp) (by unfold maxLen; omega) (by simp)
  rw [hw0] at this
  simpa [OI] using this
 have P0 := hide (h.pi.below B0)
 have x2 := LA.cell 2 rfl
 have HL := hide LA
 have HZ := hide LZ
 clear h LA LZ
 go_enter Tryz.func125, Tryz.ntmps125
 go_wp2_with (first | (at_builtin; clear hw0; refine append_ints rfl _ _ rfl (w.heap.size + 1 + 1) (.slice (some ⟨w.heap.size + 1 + 1, 0, none⟩) 0 0) (.slice ao xs.length ca) [] xs rfl rfl O0 (unhide P0) (by simp; omega) (by omega) ?_; intro v' w2 ho2 hg2 _
                       have k2 := kp_grown hg2
                       have L2 := (unhide HL).kp k2 (by simp [Value.ownBlock]; omega)
                       have Z2 := (unhide HZ).kp k2 (by simp [Value.ownBlock])
                       have B2 := Below.kp B0 k2 B0.size (fun k hk => by simp [Value.ownBlock] at hk; omega)
                       have lt2 := World.ownsRow.lt ho2
                       have p0 := L2.cell 0 rfl
                       have p1 := L2.cell 1 rfl
                       have p2 := L2.cell 2 rfl
                       have fp := L2.frozen
                       have y0 := Z2.cell 0 rfl
                       have y1 := Z2.cell 1 rfl
                       have y2 := Z2.cell 2 rfl
                       have fy := Z2.frozen
                       obtain ⟨ua, uc, rfl⟩ := ho2.form
                       have O2 := hide ho2
                       clear ho2 hg2 k2 L2 Z2))
 refine bodyPost_ret (v := qv n s (.slice ua ([] ++ xs).length uc)) (by simp [results, Tryz.results125, go_sem, y0, y1, y2]) rfl ?_
 have K5 : Kp w2 ((((w2.setCell ⟨w.heap.size, 2, none⟩ (.slice ua ([] ++ xs).length uc)).setCell ⟨w.heap.size + 1, 0, none⟩ (.int .i64 n)).setCell ⟨w.heap.size + 1, 1, none⟩ (.string s)).setCell ⟨w.heap.size + 1, 2, none⟩ (.slice ua ([] ++ xs).length uc)) (fun k => k = w.heap.size ∨ k = w.heap.size + 1) :=
  (((((set_kp _ _ _ _).mono (fun k h => .inl h))).trans ((set_kp _ _ _ _).mono (fun k h => .inr h))).trans ((set_kp _ _ _ _).mono (fun k h => .inr h))).trans ((set_kp _ _ _ _).mono (fun k h => .inr h))
 exact ⟨_, rfl, ((unhide O2).kp K5 (fun k hk => by have := lt2 k hk; omega)).mono (by omega), Below.kp B2 K5 B2.size (fun k hk => by omega)⟩

set_option maxHeartbeats 1600000 in
set_option maxRecDepth 100000 in
theorem specQcLater_at (n m : Int) (s t : ByteArray) (va vb : Value) (xs ys : List Int) (w : World) (ha : RI w va xs) (hb : RI w vb ys) :
 Calls Tryz.prog 71 #[qv n s va, qv m t vb] w fun e w' => ∃ u, e = .returned (qv (if m < n then n else m) (if m < n then s else t) u) ∧ OI w' w.heap.size u (if m < n then xs else ys) ∧ Below w.heap.size w w' := by
 obtain ⟨w0, hw0⟩ : ∃ w0, ((w.alloc (.cells #[.int .i64 n, .string s, va] 28)).alloc (.cells #[.int .i64 m, .string t, vb] 28)).alloc zq = w0 := ⟨_, rfl⟩
 have B0 : Below w.heap.size w w0 := hw0 ▸ ((qalloc2 _ _ _).alloc (by simp; omega) _)
 have LA : Loc w0 w.heap.size #[.int .i64 n, .string s, va] := hw0 ▸ ((loc_at w _ _ rfl).alloc _).alloc _
 have LB : Loc w0 (w.heap.size + 1) #[.int .i64 m, .string t, vb] := hw0 ▸ (loc_at (w.alloc _) _ _ (by simp)).alloc _
 have LZ : Loc w0 (w.heap.size + 1 + 1) #[.int .i64 0, .string ⟨#[]⟩, .slice none 0 0] := hw0 ▸ (loc_at ((w.alloc _).alloc _) _ _ (by simp))
 have s0 : w0.heap.size = w.heap.size + 1 + 1 + 1 := by rw [← hw0]; simp
 have CA := hide (l7Copy_any n s va xs w0 (ha.below B0 (Nat.le_refl _)))
 have CB := hide (l7Copy_any m t vb ys w0 (hb.below B0 (Nat.le_refl _)))
 have HZ := hide LZ
 have a0 := LA.cell 0 rfl
 have a1 := LA.cell 1 rfl
 have a2 := LA.cell 2 rfl
 have c0 := LB.cell 0 rfl
 have c1 := LB.cell 1 rfl
 have c2 := LB.cell 2 rfl
 clear ha hb LA LB LZ
 by_cases h : m < n
 ·simp only [h, if_true]
  go_enter Tryz.func71, Tryz.ntmps71
  go_wp2_with fail
  clear hw0
  refine (unhide CA).mono ?_
  rintro e w2 ⟨u, rfl, o2, b2⟩
  have B2 : Below w.heap.size w w2 := B0.trans (b2.mono B0.size)
  have Z2 := (unhide HZ).below b2 (unhide HZ).lt
  have y0 := Z2.cell 0 rfl
  have y1 := Z2.cell 1 rfl
  have y2 := Z2.cell 2 rfl
  have fy := Z2.frozen
  have lt2 := World.ownsRow.lt o2
  obtain ⟨ua, uc, rfl⟩ := o2.form
  have O2 := hide o2
  clear o2 b2 Z2 HZ CA CB a0 a1 a2 c0 c1 c2
  go_wp2
  refine bodyPost_ret (v := qv n s (.slice ua xs.length uc)) (by simp [results, Tryz.results71, go_sem, y0, y1, y2]) rfl ?_
  have K5 : Kp w2 (((w2.setCell ⟨w.heap.size + 1 + 1, 0, none⟩ (.int .i64 n)).setCell ⟨w.heap.size + 1 + 1, 1, none⟩ (.string s)).setCell ⟨w.heap.size + 1 + 1, 2, none⟩ (.slice ua xs.length uc)) (fun k => k = w.heap.size + 1 + 1) := ((set_kp _ _ _ _).trans (set_kp _ _ _ _)).trans (set_kp _ _ _ _)
  exact ⟨_, rfl, ((unhide O2).kp K5 (fun k hk => by have := lt2 k hk; omega)).mono (by omega), Below.kp B2 K5 B2.size (fun k hk => by omega)⟩
 ·simp only [h, if_false]
  go_enter Tryz.func71, Tryz.ntmps71
  go_wp2_with fail
  clear hw0
  refine (unhide CB).mono ?_
  rintro e w2 ⟨u, rfl, o2, b2⟩
  have B2 : Below w.heap.size w w2 := B0.trans (b2.mono B0.size)
  have Z2 := (unhide HZ).below b2 (unhide HZ).lt
  have y0 := Z2.cell 0 rfl
  have y1 := Z2.cell 1 rfl
  have y2 := Z2.cell 2 rfl
  have fy := Z2.frozen
  have lt2 := World.ownsRow.lt o2
  obtain ⟨ua, uc, rfl⟩ := o2.form
  have O2 := hide o2
  clear o2 b2 Z2 HZ CA CB a0 a1 a2 c0 c1 c2
  go_wp2
  refine bodyPost_ret (v := qv m t (.slice ua ys.length uc)) (by simp [results, Tryz.results71, go_sem, y0, y1, y2]) rfl ?_
  have K5 : Kp w2 (((w2.setCell ⟨w.heap.size + 1 + 1, 0, none⟩ (.int .i64 m)).setCell ⟨w.heap.size + 1 + 1, 1, none⟩ (.string t)).setCell ⟨w.heap.size + 1 + 1, 2, none⟩ (.slice ua ys.length uc)) (fun k => k = w.heap.size + 1 + 1) := ((set_kp _ _ _ _).trans (set_kp _ _ _ _)).trans (set_kp _ _ _ _)
  exact ⟨_, rfl, ((unhide O2).kp K5 (fun k hk => by have := lt2 k hk; omega)).mono (by omega), Below.kp B2 K5 B2.size (fun k hk => by omega)⟩
end Go.Proofs.YtmpmedbojfjnaaaGreatDoor
