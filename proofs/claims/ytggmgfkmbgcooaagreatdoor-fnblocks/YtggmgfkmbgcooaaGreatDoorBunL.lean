/- Texts that belong together: StepAppend, DrawConf, QcCopy. -/
import Derived.Test.YtggmgfkmbgcooaaGreatDoorBunH
import Derived.Test.YtggmgfkmbgcooaaGreatDoorBunI
import Derived.Maps.AppendAt
import Derived.Deep.RegionLaw
import Derived.Test.YtggmgfkmbgcooaaGreatDoorBunK
/- append as one step of a region that draws its order; small facts for draws. -/
namespace Go.Proofs.YtggmgfkmbgcooaaGreatDoor
open Go.RowKit

theorem step_append_ints {ops : Array Oper} {o : Oper} {a : Act} {w : World} {K : Act → World → Prop} {Q : Exit → Act → World → Prop} {E : Prop} (hgd : o.guard = none) (s x : Operand)
    (ho : o.op = .call { callee := .builtin .append, args := #[s, x], argTypes := #[26, 26] }) (base : Nat) (v u : Value) (xs ys : List Int) (hs : a.eval s = v) (hx : a.eval x = u)
    (hown : OI w base v xs) (hp : PI w u ys) (hl : xs.length + ys.length ≤ 16777216) (hbase : base ≤ w.heap.size)
    (h : ∀ v' w', OI w' base v' (xs ++ ys) → w.grownBy w' v.ownBlock → (v'.ownBlock = v.ownBlock ∨ v'.ownBlock = some w.heap.size) → K (a.put o.dst v') w') :
    if Region.wanted o (yielded ops a.tmps) = true then Oper.wp Tryz.prog o a w K Q else E := by
  have hw : Region.wanted o (yielded ops a.tmps) = true := by simp [Region.wanted, hgd]
  rw [if_pos hw]
  obtain ⟨i0, hi, hz0, hz1, hz2⟩ := info_parts Tryz.info3
  obtain ⟨ao, cap, rfl, hp⟩ := hp
  match ao, hx with
  | none, hx =>
    have hy : ys = [] := by rcases hp with h | ⟨ad, e, _⟩; exact h; cases e
    subst hy
    have hrun := run_append_none1 o.type base cap v xs.length (xs.map (Value.int .i64)) w hown
    unfold Oper.wp
    simp only [List.length_nil] at hx
    simp [execOp, ho, resolve, invoke, builtin, hs, hx, hrun, Result.andThen]
    exact h v w (by simpa using hown) (grown_same _ _) (.inl rfl)
  | some ad, hx =>
    have hn : ∀ j u, (ys.map (Value.int .i64))[j]? = some u → w.cell? (ad.add j) = some u := by
      rcases hp with rfl | ⟨ad', e, h⟩
      · intro j u hj; simp at hj
      · cases e; exact h
    obtain ⟨v', w', hrun, r1, r2, _, r4⟩ := run_append_own_at (P := Tryz.prog) w base 26 o.type 3 i0 (.int .i64 0) 1 8 Tryz.underlying26 hi hz0 hz1 hz2 rfl (by decide) v xs.length (xs.map (Value.int .i64)) hown ad ys.length cap (ys.map (Value.int .i64)) (by simp) hn (ints_plain64 ys) (by unfold maxLen; omega) (by omega) hbase
    unfold Oper.wp
    simp [execOp, ho, resolve, invoke, builtin, hs, hx, hrun, Result.andThen]
    refine h v' w' ?_ r2 r4
    unfold OI
    rw [List.map_append, List.length_append]
    exact r1
theorem Loc.grown {w w' : World} {r g : Nat} {cs : Array Value} (h : Loc w r cs) (hg : w.grownBy w' (some g)) (hr : r ≠ g) : Loc w' r cs := h.kp (kp_of hg) hr
theorem Loc.grownNew {w w' : World} {r : Nat} {row : Option Nat} {cs : Array Value} (h : Loc w r cs) (hg : w.grownBy w' row) (hr : row ≠ some r) : Loc w' r cs := h.kp (kp_grown hg) hr
theorem OI.drawn {w w' : World} {base g : Nat} {v : Value} {xs : List Int} (h : OI w base v xs) (hg : w.grownBy w' (some g)) (hlt : g < base) : OI w' base v xs :=
  h.grown hg (fun k hk e => by have := World.ownsRow.lt h k hk; cases e; omega)
end Go.Proofs.YtggmgfkmbgcooaaGreatDoor

/- The draws of a Conf. -/
namespace Go.Proofs.YtggmgfkmbgcooaaGreatDoor
open Go.RowKit
set_option linter.unusedSectionVars false
variable [∀ (a b c d : Int), Decidable (Ok4 a b c d)]
variable [∀ (a b c d : Nat), Decidable (okN a b c d)]
variable [∀ (x : T4), Decidable (OkT x)]
variable [∀ (n f : Int), Decidable (COk n f)]

abbrev zc : Obj := .cells #[.int .i64 0, .int .i64 0] 25
set_option maxHeartbeats 2000000 in
set_option maxRecDepth 100000 in
theorem drawConf (base g ca : Nat) (ao : Option Addr) (zs : List Int) (w : World) (hB : base ≤ w.heap.size) (h : Cur w base g ao ca zs) :
    Calls Tryz.prog 35 #[.pointer (some ⟨g, 0, none⟩)] w fun e w' => ∃ n f : Int, e = .returned (cv n f) ∧ (4 ≤ n ∧ n ≤ 7) ∧ Cur w' base g ao ca zs ∧ w.grownBy w' (some g) := by
  have hlt := h.lt
  obtain ⟨w0, hw0⟩ : ∃ w0, w.alloc zc = w0 := ⟨_, rfl⟩
  have C0 : Cur w0 base g ao ca zs := hw0 ▸ h.alloc hB _
  have G0 : w.grownBy w0 (some g) := hw0 ▸ World.grownBy_alloc w _ _
  have Z0 : Loc w0 w.heap.size #[.int .i64 0, .int .i64 0] := hw0 ▸ loc_at w _ _ rfl
  have s0 : w0.heap.size = w.heap.size + 1 := by rw [← hw0]; simp
  clear h
  go_enter Tryz.func35, Tryz.ntmps35
  go_wp2_with fail
  clear hw0
  refine (below_any base g ca ao zs 4 _ (by omega) (by omega) (by omega) C0).mono ?_
  rintro e w1 ⟨x, rfl, x0, x1, c1, e1⟩
  have Z1 := Z0.grown e1 (by omega)
  have G1 := grown_trans G0 e1
  have s1 := e1.size
  clear Z0 G0 C0 e1
  go_wp2_with fail
  refine (below_any base g ca ao zs 3 _ (by omega) (by omega) (by omega) c1).mono ?_
  rintro e w2 ⟨y, rfl, y0, y1, c2, e2⟩
  have Z2 := Z1.grown e2 (by omega)
  have G2 := grown_trans G1 e2
  have p0 := Z2.cell 0 rfl
  have p1 := Z2.cell 1 rfl
  have fp := Z2.frozen
  have HC := hide c2
  clear Z1 G1 c1 e2 c2
  go_wp2
  refine bodyPost_ret (v := cv (4 + x) (1 + y)) (by simp [results, Tryz.results35, go_sem, p0, p1]) rfl ?_
  exact ⟨_, _, rfl, ⟨by omega, by omega⟩, ((unhide HC).set (by omega) _ _).set (by omega) _ _, grown_set (grown_set G2 (Nat.le_refl _) _ _) (Nat.le_refl _) _ _⟩

set_option maxHeartbeats 4000000 in
set_option maxRecDepth 100000 in
theorem drawBent (base g ca : Nat) (ao : Option Addr) (zs : List Int) (w : World) (hB : base ≤ w.heap.size) (h : Cur w base g ao ca zs) :
    Calls Tryz.prog 38 #[.pointer (some ⟨g, 0, none⟩)] w fun e w' => ∃ n f : Int, e = .returned (cv n f) ∧ Cur w' base g ao ca zs ∧ w.grownBy w' (some g) := by
  have hlt := h.lt
  obtain ⟨w0, hw0⟩ : ∃ w0, w.alloc zc = w0 := ⟨_, rfl⟩
  have C0 : Cur w0 base g ao ca zs := hw0 ▸ h.alloc hB _
  have G0 : w.grownBy w0 (some g) := hw0 ▸ World.grownBy_alloc w _ _
  have Z0 : Loc w0 w.heap.size #[.int .i64 0, .int .i64 0] := hw0 ▸ loc_at w _ _ rfl
  have s0 : w0.heap.size = w.heap.size + 1 := by rw [← hw0]; simp
  clear h
  go_enter Tryz.func38, Tryz.ntmps38
  go_wp2_with fail
  clear hw0
  refine (drawConf base g ca ao zs _ (by omega) C0).mono ?_
  rintro e w1 ⟨n, f, rfl, _, c1, e1⟩
  have Z1 := Z0.grown e1 (by omega)
  have G1 := grown_trans G0 e1
  have s1 := e1.size
  clear Z0 G0 C0 e1
  obtain ⟨w2, hw2⟩ : ∃ w2, w1.alloc (.cells #[.int .i64 n, .int .i64 f] 25) = w2 := ⟨_, rfl⟩
  have C2 : Cur w2 base g ao ca zs := hw2 ▸ c1.alloc (by omega) _
  have G2 : w.grownBy w2 (some g) := hw2 ▸ grown_trans G1 (World.grownBy_alloc w1 _ _)
  have Z2 : Loc w2 w.heap.size #[.int .i64 0, .int .i64 0] := hw2 ▸ Z1.alloc _
  have X2 : Loc w2 w1.heap.size #[.int .i64 n, .int .i64 f] := hw2 ▸ loc_at w1 _ _ rfl
  have s2 : w2.heap.size = w1.heap.size + 1 := by rw [← hw2]; simp
  clear c1 G1 Z1
  go_wp2_with fail
  clear hw2
  refine (below_any base g ca ao zs 12 _ (by omega) (by omega) (by omega) C2).mono ?_
  rintro e w3 ⟨k, rfl, k0, k1, c3, e3⟩
  have Z3 := Z2.grown e3 (by omega)
  have X3 := X2.grown e3 (by omega)
  have G3 := grown_trans G2 e3
  have s3 := e3.size
  clear Z2 X2 G2 C2 e3
  have FIN : ∀ (n f : Int) (w4 : World), Cur w4 base g ao ca zs → w.grownBy w4 (some g) → Cur ((w4.setCell ⟨w.heap.size, 0, none⟩ (.int .i64 n)).setCell ⟨w.heap.size, 1, none⟩ (.int .i64 f)) base g ao ca zs ∧ w.grownBy ((w4.setCell ⟨w.heap.size, 0, none⟩ (.int .i64 n)).setCell ⟨w.heap.size, 1, none⟩ (.int .i64 f)) (some g) := fun n f w4 hc hg =>
    ⟨(hc.set (by omega) _ _).set (by omega) _ _, grown_set (grown_set hg (Nat.le_refl _) _ _) (Nat.le_refl _) _ _⟩
  have FI := hide FIN
  clear FIN
  by_cases h0 : k = 0
  · subst h0
    go_wp2_with fail
    refine (pickInt_lit base g ca ao zs [0, 3, 8, -1] w3 (by omega) (by decide) (by decide) c3).mono ?_
    rintro e w4 ⟨m, rfl, _, c4, e4⟩
    have Z4 := Z3.grown e4 (by omega)
    have X4 := X3.grown e4 (by omega)
    have R := hide (unhide FI m f (w4.setCell ⟨w1.heap.size, 0, none⟩ (.int .i64 m)) (c4.set (by omega) _ _) (grown_set (grown_trans G3 e4) (by omega) _ _))
    have p0 := Z4.cell 0 rfl
    have p1 := Z4.cell 1 rfl
    have fp := Z4.frozen
    have q0 := X4.cell 0 rfl
    have q1 := X4.cell 1 rfl
    have fq := X4.frozen
    clear Z3 X3 G3 c3 c4 e4 Z4 X4 FI
    go_wp2
    refine bodyPost_ret (v := cv m f) (by simp [results, Tryz.results38, go_sem, p0, p1]) rfl ?_
    exact ⟨_, _, rfl, (unhide R).1, (unhide R).2⟩
  · have n0 : (k == 0) = false := by simp [h0]
    by_cases h1 : k = 1
    · subst h1
      clear h0
      go_wp2_with fail
      refine (pickInt_lit base g ca ao zs [0, 6, 7] w3 (by omega) (by decide) (by decide) c3).mono ?_
      rintro e w4 ⟨m, rfl, _, c4, e4⟩
      have Z4 := Z3.grown e4 (by omega)
      have X4 := X3.grown e4 (by omega)
      have R := hide (unhide FI n m (w4.setCell ⟨w1.heap.size, 1, none⟩ (.int .i64 m)) (c4.set (by omega) _ _) (grown_set (grown_trans G3 e4) (by omega) _ _))
      have p0 := Z4.cell 0 rfl
      have p1 := Z4.cell 1 rfl
      have fp := Z4.frozen
      have q0 := X4.cell 0 rfl
      have q1 := X4.cell 1 rfl
      have fq := X4.frozen
      clear Z3 X3 G3 c3 c4 e4 Z4 X4 FI
      go_wp2
      refine bodyPost_ret (v := cv n m) (by simp [results, Tryz.results38, go_sem, p0, p1]) rfl ?_
      exact ⟨_, _, rfl, (unhide R).1, (unhide R).2⟩
    · have n1 : (k == 1) = false := by simp [h1]
      have R := hide (unhide FI n f w3 c3 G3)
      have p0 := Z3.cell 0 rfl
      have p1 := Z3.cell 1 rfl
      have fp := Z3.frozen
      have q0 := X3.cell 0 rfl
      have q1 := X3.cell 1 rfl
      clear Z3 X3 G3 c3 FI
      go_wp2
      refine bodyPost_ret (v := cv n f) (by simp [results, Tryz.results38, go_sem, p0, p1]) rfl ?_
      exact ⟨_, _, rfl, (unhide R).1, (unhide R).2⟩
end Go.Proofs.YtggmgfkmbgcooaaGreatDoor

/- QcLater of the specification. -/
namespace Go.Proofs.YtggmgfkmbgcooaaGreatDoor
open Go.RowKit

set_option maxHeartbeats 1600000 in
set_option maxRecDepth 100000 in
theorem l7Copy_any (n : Int) (s : ByteArray) (v : Value) (xs : List Int) (w : World) (h : RI w v xs) :
    Calls Tryz.prog 45 #[qv n s v] w fun e w' => ∃ u, e = .returned (qv n s u) ∧ OI w' w.heap.size u xs ∧ Below w.heap.size w w' := by
  obtain ⟨ao, ca, rfl⟩ := h.form
  have hl := h.1
  obtain ⟨w0, hw0⟩ : ∃ w0, ((w.alloc (.cells #[.int .i64 n, .string s, .slice ao xs.length ca] 28)).alloc zq).alloc (.cells #[] 3) = w0 := ⟨_, rfl⟩
  have B0 : Below w.heap.size w w0 := hw0 ▸ ((qalloc2 _ _ _).alloc (by simp; omega) _)
  have LA : Loc w0 w.heap.size #[.int .i64 n, .string s, .slice ao xs.length ca] := hw0 ▸ ((loc_at w _ _ rfl).alloc _).alloc _
  have LZ : Loc w0 (w.heap.size + 1) #[.int .i64 0, .string ⟨#[]⟩, .slice none 0 0] := hw0 ▸ (loc_at (w.alloc _) _ _ (by simp)).alloc _
  have s0 : w0.heap.size = w.heap.size + 1 + 1 + 1 := by rw [← hw0]; simp
  have O0 : OI w0 (w.heap.size + 1 + 1) (.slice (some ⟨w.heap.size + 1 + 1, 0, none⟩) 0 0) [] := by
    have := World.ownsRow_lit (base := w.heap.size + 1 + 1) (e := 3) (size := 1) ((w.alloc (.cells #[.int .i64 n, .string s, .slice ao xs.length ca] 28)).alloc zq) #[] 0 (by simp) (by unfold maxLen; omega) (by simp)
    rw [hw0] at this
    simpa [OI] using this
  have P0 := hide (h.pi.below B0)
  have x2 := LA.cell 2 rfl
  have HL := hide LA
  have HZ := hide LZ
  clear h LA LZ
  go_enter Tryz.func45, Tryz.ntmps45
  go_wp2_with (first | (at_builtin; clear hw0; refine append_ints rfl _ _ rfl (w.heap.size + 1 + 1) (.slice (some ⟨w.heap.size + 1 + 1, 0, none⟩) 0 0) (.slice ao xs.length ca) [] xs rfl rfl O0 (unhide P0) (by simp; omega) (by omega) ?_; intro v' w2 ho2 hg2 _
                        have k2 := kp_grown hg2
                        have L2 := (unhide HL).kp k2 (by simp [Value.ownBlock]; omega)
                        have Z2 := (unhide HZ).kp k2 (by simp [Value.ownBlock])
                        have B2 := Below.kp B0 k2 B0.size (fun k hk => by simp [Value.ownBlock] at hk; omega)
                        have lt2 := World.ownsRow.lt ho2
                        have p0 := L2.cell 0 rfl
                        have p1 := L2.cell 1 rfl
                        have p2 := L2.cell 2 rfl
                        have fp := L2.frozen
                        have y0 := Z2.cell 0 rfl
                        have y1 := Z2.cell 1 rfl
                        have y2 := Z2.cell 2 rfl
                        have fy := Z2.frozen
                        obtain ⟨ua, uc, rfl⟩ := ho2.form
                        have O2 := hide ho2
                        clear ho2 hg2 k2 L2 Z2))
  refine bodyPost_ret (v := qv n s (.slice ua ([] ++ xs).length uc)) (by simp [results, Tryz.results45, go_sem, y0, y1, y2]) rfl ?_
  have K5 : Kp w2 ((((w2.setCell ⟨w.heap.size, 2, none⟩ (.slice ua ([] ++ xs).length uc)).setCell ⟨w.heap.size + 1, 0, none⟩ (.int .i64 n)).setCell ⟨w.heap.size + 1, 1, none⟩ (.string s)).setCell ⟨w.heap.size + 1, 2, none⟩ (.slice ua ([] ++ xs).length uc)) (fun k => k = w.heap.size ∨ k = w.heap.size + 1) :=
    (((((set_kp _ _ _ _).mono (fun k h => .inl h))).trans ((set_kp _ _ _ _).mono (fun k h => .inr h))).trans ((set_kp _ _ _ _).mono (fun k h => .inr h))).trans ((set_kp _ _ _ _).mono (fun k h => .inr h))
  exact ⟨_, rfl, ((unhide O2).kp K5 (fun k hk => by have := lt2 k hk; omega)).mono (by omega), Below.kp B2 K5 B2.size (fun k hk => by omega)⟩

end Go.Proofs.YtggmgfkmbgcooaaGreatDoor
