/- QcLater and QcFirst of the program and of the specification. -/
import Derived.Test.YtdgadkinkalcpaaQcLater
namespace Go.Proofs.Ytdgadkinkalcpaa
open Go.RowKit

set_option maxHeartbeats 1600000 in
set_option maxRecDepth 100000 in
theorem later_any (g g' : Nat) (n m : Int) (s t : ByteArray) (va vb : Value) (w : World) (hg : Loc w g #[.int .i64 n, .string s, va]) (hg' : Loc w g' #[.int .i64 m, .string t, vb]) :
    Calls Try.prog 37 #[.pointer (some ⟨g, 0, none⟩), .pointer (some ⟨g', 0, none⟩)] w fun e w' => e = .returned (.pointer (some ⟨if m < n then g else g', 0, none⟩)) ∧ ∃ d, w' = w.drewN d := by
  have x0 := hg.cell 0 rfl
  have y0 := hg'.cell 0 rfl
  clear hg hg'
  by_cases h : m < n
  · simp only [h, if_true]
    go_enter Try.func37, Try.ntmps37
    go_wp2_with fail
    go_quiet (fail)
    go_wp2
    go_ret
    exact ⟨rfl, _, rfl⟩
  · simp only [h, if_false]
    go_enter Try.func37, Try.ntmps37
    go_wp2_with fail
    go_quiet (fail)
    go_wp2
    go_ret
    exact ⟨rfl, _, rfl⟩

set_option maxHeartbeats 1600000 in
set_option maxRecDepth 100000 in
theorem implQcLater_at (n m : Int) (s t : ByteArray) (va vb : Value) (xs ys : List Int) (w : World) (ha : RI w va xs) (hb : RI w vb ys) (hs : s.size ≤ 281474976710656) (ht : t.size ≤ 281474976710656) :
    Calls Try.prog 26 #[qv n s va, qv m t vb] w fun e w' => ∃ u, e = .returned (qv (if m < n then n else m) (if m < n then s else t) u) ∧ OI w' w.heap.size u (if m < n then xs else ys) ∧ Below w.heap.size w w' := by
  obtain ⟨w0, hw0⟩ : ∃ w0, ((w.alloc (.cells #[.int .i64 n, .string s, va] 31)).alloc (.cells #[.int .i64 m, .string t, vb] 31)).alloc zq = w0 := ⟨_, rfl⟩
  have B0 : Below w.heap.size w w0 := hw0 ▸ ((qalloc2 _ _ _).alloc (by simp; omega) _)
  have LA : Loc w0 w.heap.size #[.int .i64 n, .string s, va] := hw0 ▸ ((loc_at w _ _ rfl).alloc _).alloc _
  have LB : Loc w0 (w.heap.size + 1) #[.int .i64 m, .string t, vb] := hw0 ▸ (loc_at (w.alloc _) _ _ (by simp)).alloc _
  have LZ : Loc w0 (w.heap.size + 1 + 1) #[.int .i64 0, .string ⟨#[]⟩, .slice none 0 0] := hw0 ▸ (loc_at ((w.alloc _).alloc _) _ _ (by simp))
  have s0 : w0.heap.size = w.heap.size + 1 + 1 + 1 := by rw [← hw0]; simp
  have LT := hide (later_any w.heap.size (w.heap.size + 1) n m s t va vb w0 LA LB)
  have TO : Hid (∀ d, Calls Try.prog 38 #[.pointer (some ⟨if m < n then w.heap.size else w.heap.size + 1, 0, none⟩)] (w0.drewN d) fun e w' => ∃ u, e = .returned (qv (if m < n then n else m) (if m < n then s else t) u) ∧ OI w' w0.heap.size u (if m < n then xs else ys) ∧ Below w0.heap.size w0 w') := hide fun d => by
    by_cases h : m < n
    · simp only [h, if_true]
      obtain ⟨ao, ca, rfl⟩ := ha.form
      refine (told_any w.heap.size n s ao ca xs (w0.drewN d) (LA.drewN d) (ha.below (below_drewN' B0 d) (Nat.le_refl _)) hs).mono ?_
      rintro e w' ⟨u, rfl, o, b⟩
      exact ⟨u, rfl, o, ⟨b.os, b.tape, b.output, b.size, b.block⟩⟩
    · simp only [h, if_false]
      obtain ⟨ao, ca, rfl⟩ := hb.form
      refine (told_any (w.heap.size + 1) m t ao ca ys (w0.drewN d) (LB.drewN d) (hb.below (below_drewN' B0 d) (Nat.le_refl _)) ht).mono ?_
      rintro e w' ⟨u, rfl, o, b⟩
      exact ⟨u, rfl, o, ⟨b.os, b.tape, b.output, b.size, b.block⟩⟩
  generalize (if m < n then w.heap.size else w.heap.size + 1) = g at *
  generalize (if m < n then n else m) = n1 at *
  generalize (if m < n then s else t) = s1 at *
  generalize (if m < n then xs else ys) = x1 at *
  have HZ := hide LZ
  clear ha hb LA LB LZ
  go_enter Try.func26, Try.ntmps26
  go_wp2_with fail
  clear hw0
  refine (unhide LT).mono ?_
  rintro e w1 ⟨rfl, d, rfl⟩
  go_wp2_with fail
  refine (unhide TO d).mono ?_
  rintro e w2 ⟨u, rfl, o2, b2⟩
  have B2 : Below w.heap.size w w2 := B0.trans (b2.mono B0.size)
  have Z2 := (unhide HZ).below b2 (unhide HZ).lt
  have y0 := Z2.cell 0 rfl
  have y1 := Z2.cell 1 rfl
  have y2 := Z2.cell 2 rfl
  have fy := Z2.frozen
  have lt2 := World.ownsRow.lt o2
  obtain ⟨ua, uc, rfl⟩ := o2.form
  have O2 := hide o2
  clear o2 b2 Z2 HZ LT TO
  go_wp2
  refine bodyPost_ret (v := qv n1 s1 (.slice ua x1.length uc)) (by simp [results, Try.results26, go_sem, y0, y1, y2]) rfl ?_
  have K5 : Kp w2 (((w2.setCell ⟨w.heap.size + 1 + 1, 0, none⟩ (.int .i64 n1)).setCell ⟨w.heap.size + 1 + 1, 1, none⟩ (.string s1)).setCell ⟨w.heap.size + 1 + 1, 2, none⟩ (.slice ua x1.length uc)) (fun k => k = w.heap.size + 1 + 1) := ((set_kp _ _ _ _).trans (set_kp _ _ _ _)).trans (set_kp _ _ _ _)
  exact ⟨_, rfl, ((unhide O2).kp K5 (fun k hk => by have := lt2 k hk; omega)).mono (by omega), Below.kp B2 K5 B2.size (fun k hk => by omega)⟩

set_option maxHeartbeats 1600000 in
set_option maxRecDepth 100000 in
theorem implQcFirst (w : World) : Calls Try.prog 17 #[] w fun e w' => e = .returned (qv 0 ⟨#[]⟩ (.slice none 0 0)) ∧ Below w.heap.size w w' := by
  go_enter Try.func17, Try.ntmps17
  go_wp2
  refine bodyPost_ret (v := qv 0 ⟨#[]⟩ (.slice none 0 0)) (by simp [results, Try.results17, go_sem]) rfl ?_
  exact ⟨rfl, qalloc _ _⟩
set_option maxHeartbeats 1600000 in
set_option maxRecDepth 100000 in
theorem specQcFirst (w : World) : Calls Try.prog 16 #[] w fun e w' => e = .returned (qv 0 ⟨#[]⟩ (.slice none 0 0)) ∧ Below w.heap.size w w' := by
  go_enter Try.func16, Try.ntmps16
  go_wp2
  refine bodyPost_ret (v := qv 0 ⟨#[]⟩ (.slice none 0 0)) (by simp [results, Try.results16, go_sem]) rfl ?_
  exact ⟨rfl, qalloc _ _⟩
end Go.Proofs.Ytdgadkinkalcpaa
