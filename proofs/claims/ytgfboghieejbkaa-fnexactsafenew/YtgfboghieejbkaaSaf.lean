/- Safe: what a replica holds to, as a value; laws.eqSafe, heldSafe, markSafe, szSafe, toSafe. -/
import Derived.Test.YtgfboghieejbkaaBlk
namespace Go.Proofs.Ytgfboghieejbkaa
open Go.RowKit

/-- A Safe: the last view voted in, the lock, the latest certificate's view, name and voters, what is settled. -/
abbrev sv (vo lo n : Int) (s : ByteArray) (v : Value) (d : ByteArray) : Value := .agg #[.int .i64 vo, .int .i64 lo, .int .i64 n, .string s, v, .string d]

set_option maxHeartbeats 1600000 in
set_option maxRecDepth 100000 in
theorem eqSafe_yes (vo lo n : Int) (s : ByteArray) (a b : Value) (xs : List Int) (d : ByteArray) (w : World) (ha : RI w a xs) (hb : RI w b xs) :
    Calls Try.prog 7 #[sv vo lo n s a d, sv vo lo n s b d] w fun e w' => e = .returned (.bool true) ∧ Below w.heap.size w w' := by
  obtain ⟨w0, hw0⟩ : ∃ w0, (w.alloc (.cells #[.int .i64 vo, .int .i64 lo, .int .i64 n, .string s, a, .string d] 26)).alloc (.cells #[.int .i64 vo, .int .i64 lo, .int .i64 n, .string s, b, .string d] 26) = w0 := ⟨_, rfl⟩
  have B0 : Below w.heap.size w w0 := hw0 ▸ qalloc2 _ _ _
  have LA : Loc w0 w.heap.size #[.int .i64 vo, .int .i64 lo, .int .i64 n, .string s, a, .string d] := hw0 ▸ (loc_at w _ _ rfl).alloc _
  have LB : Loc w0 (w.heap.size + 1) #[.int .i64 vo, .int .i64 lo, .int .i64 n, .string s, b, .string d] := hw0 ▸ loc_at (w.alloc _) _ _ (by simp)
  have EQ := hide (eqQc_yes n s a b xs w0 (ha.below B0 (Nat.le_refl _)) (hb.below B0 (Nat.le_refl _)))
  have HA := hide LA
  have HB := hide LB
  have x0 := LA.cell 0 rfl
  have x1 := LA.cell 1 rfl
  have x2 := LA.cell 2 rfl
  have x3 := LA.cell 3 rfl
  have x4 := LA.cell 4 rfl
  have x5 := LA.cell 5 rfl
  have y0 := LB.cell 0 rfl
  have y1 := LB.cell 1 rfl
  have y2 := LB.cell 2 rfl
  have y3 := LB.cell 3 rfl
  have y4 := LB.cell 4 rfl
  have y5 := LB.cell 5 rfl
  clear ha hb LA LB
  go_enter Try.func7, Try.ntmps7
  go_wp2_with fail
  clear hw0
  refine (unhide EQ).mono ?_
  rintro e w1 ⟨rfl, b1⟩
  have A1 := ((unhide HA).below b1 (unhide HA).lt).cell 5 rfl
  have C1 := ((unhide HB).below b1 (unhide HB).lt).cell 5 rfl
  have B1 := B0.trans (b1.mono B0.size)
  clear b1 x0 y0 x1 y1 x2 y2 x3 y3 x4 y4 x5 y5 EQ HA HB
  go_wp2
  go_ret
  exact ⟨rfl, B1⟩

set_option maxHeartbeats 1600000 in
set_option maxRecDepth 100000 in
theorem heldSafe_any (vo lo n : Int) (s : ByteArray) (v : Value) (d : ByteArray) (k : Nat) (w : World) (h : RI w v (imarks 1 k)) :
    Calls Try.prog 9 #[sv vo lo n s v d, .int .i64 1] w fun e w' => e = .returned (.int .i64 (1 + k)) ∧ Below w.heap.size w w' := by
  have R1 := hide h
  have B := hide (qalloc w (.cells #[.int .i64 vo, .int .i64 lo, .int .i64 n, .string s, v, .string d] 26))
  have hd : decide ((1 : Int) + (k : Int) < 0) = false := by simp; omega
  clear h
  go_enter Try.func9, Try.ntmps9
  go_wp2_with fail
  refine (heldQc_any n s v k _ ((unhide R1).below (unhide B) (Nat.le_refl _))).mono ?_
  rintro e w1 ⟨rfl, b1⟩
  go_wp2
  go_ret
  exact ⟨rfl, (unhide B).trans (b1.mono (unhide B).size)⟩

set_option maxHeartbeats 1600000 in
set_option maxRecDepth 100000 in
theorem markSafe_any (vo lo n : Int) (s : ByteArray) (base : Nat) (v : Value) (d : ByteArray) (xs : List Int) (k0 : Nat) (w : World) (hl : xs.length ≤ 4194304) (hk : k0 ≤ 100000000) (h : OI w base v xs) :
    Calls Try.prog 8 #[sv vo lo n s v d, .int .i64 k0] w fun e w' => e = .returned (.int .i64 (k0 + xs.length)) ∧ OI w' base v (imarks k0 xs.length) ∧ Kp w w' (fun k => v.ownBlock = some k) := by
  have B := hide (qalloc w (.cells #[.int .i64 vo, .int .i64 lo, .int .i64 n, .string s, v, .string d] 26))
  have H := hide (h.below (unhide B))
  have MK := hide fun w h => markQc_any n s base v xs k0 w hl hk h
  clear h
  go_enter Try.func8, Try.ntmps8
  go_wp2_with fail
  refine (unhide MK _ (unhide H)).mono ?_
  rintro e w1 ⟨rfl, o1, k1⟩
  have K := (Below.kpOf (unhide B) (fun k => v.ownBlock = some k)).trans k1
  go_wp2
  go_ret
  exact ⟨rfl, o1, K⟩

set_option maxHeartbeats 1600000 in
set_option maxRecDepth 100000 in
theorem szSafe_yes (vo lo n : Int) (s : ByteArray) (ao : Option Addr) (k ca : Nat) (d : ByteArray) (left : Int) (w : World) (h : (s.size : Int) + k + d.size ≤ left) (hl : left ≤ 1048576) :
    Calls Try.prog 10 #[sv vo lo n s (.slice ao k ca) d, .int .i64 left] w fun e w' => e = .returned (.int .i64 (left - s.size - k - d.size)) ∧ Below w.heap.size w w' := by
  have h2 : decide ((left : Int) - (s.size : Int) - (k : Int) < 0) = false := by simp; omega
  have h1 : decide ((left : Int) - (s.size : Int) - (k : Int) - (d.size : Int) < 0) = false := by simp; omega
  have ZQ := hide fun w => szQc_yes n s ao k ca left w (by omega) (by omega)
  obtain ⟨w0, hw0⟩ : ∃ w0, w.alloc (.cells #[.int .i64 vo, .int .i64 lo, .int .i64 n, .string s, .slice ao k ca, .string d] 33) = w0 := ⟨_, rfl⟩
  have B0 : Below w.heap.size w w0 := hw0 ▸ qalloc _ _
  have LA : Loc w0 w.heap.size #[.int .i64 vo, .int .i64 lo, .int .i64 n, .string s, .slice ao k ca, .string d] := hw0 ▸ loc_at w _ _ rfl
  have HA := hide LA
  have x0 := LA.cell 0 rfl
  have x1 := LA.cell 1 rfl
  have x2 := LA.cell 2 rfl
  have x3 := LA.cell 3 rfl
  have x4 := LA.cell 4 rfl
  have x5 := LA.cell 5 rfl
  clear LA
  go_enter Try.func10, Try.ntmps10
  go_wp2_with fail
  clear hw0
  refine (unhide ZQ _).mono ?_
  rintro e w1 ⟨rfl, b1⟩
  have A1 := ((unhide HA).below b1 (unhide HA).lt).cell 5 rfl
  have B1 := B0.trans (b1.mono B0.size)
  clear b1 x0 x1 x2 x3 x4 x5 HA
  go_wp2
  go_ret
  exact ⟨rfl, B1⟩
set_option maxHeartbeats 1600000 in
set_option maxRecDepth 100000 in
theorem szSafe_no1 (vo lo n : Int) (s : ByteArray) (ao : Option Addr) (k ca : Nat) (d : ByteArray) (left : Int) (w : World) (h0 : 0 ≤ left) (h : left < s.size + k) (hs : s.size ≤ 9223372036854775807) (hk : k ≤ 9223372036854775807) (hl : left ≤ 1048576) :
    Calls Try.prog 10 #[sv vo lo n s (.slice ao k ca) d, .int .i64 left] w fun e w' => e = .returned (.int .i64 (-1)) ∧ Below w.heap.size w w' := by
  have ZQ := hide fun w => szQc_no n s ao k ca left w (by omega) (by omega) hs hk (by omega)
  obtain ⟨w0, hw0⟩ : ∃ w0, w.alloc (.cells #[.int .i64 vo, .int .i64 lo, .int .i64 n, .string s, .slice ao k ca, .string d] 33) = w0 := ⟨_, rfl⟩
  have B0 : Below w.heap.size w w0 := hw0 ▸ qalloc _ _
  have LA : Loc w0 w.heap.size #[.int .i64 vo, .int .i64 lo, .int .i64 n, .string s, .slice ao k ca, .string d] := hw0 ▸ loc_at w _ _ rfl
  have HA := hide LA
  have x0 := LA.cell 0 rfl
  have x1 := LA.cell 1 rfl
  have x2 := LA.cell 2 rfl
  have x3 := LA.cell 3 rfl
  have x4 := LA.cell 4 rfl
  have x5 := LA.cell 5 rfl
  clear LA
  go_enter Try.func10, Try.ntmps10
  go_wp2_with fail
  clear hw0
  refine (unhide ZQ _).mono ?_
  rintro e w1 ⟨rfl, b1⟩
  have A1 := ((unhide HA).below b1 (unhide HA).lt).cell 5 rfl
  have B1 := B0.trans (b1.mono B0.size)
  clear b1 x0 x1 x2 x3 x4 x5 HA
  go_wp2
  go_ret
  exact ⟨rfl, B1⟩
set_option maxHeartbeats 1600000 in
set_option maxRecDepth 100000 in
theorem szSafe_no2 (vo lo n : Int) (s : ByteArray) (ao : Option Addr) (k ca : Nat) (d : ByteArray) (left : Int) (w : World) (h0 : (s.size : Int) + k ≤ left) (h : left < s.size + k + d.size) (hd : d.size ≤ 9223372036854775807) (hl : left ≤ 1048576) :
    Calls Try.prog 10 #[sv vo lo n s (.slice ao k ca) d, .int .i64 left] w fun e w' => e = .returned (.int .i64 (-1)) ∧ Below w.heap.size w w' := by
  have h2 : decide ((left : Int) - (s.size : Int) - (k : Int) < 0) = false := by simp; omega
  have h1 : decide ((left : Int) - (s.size : Int) - (k : Int) - (d.size : Int) < 0) = true := by simp; omega
  have ZQ := hide fun w => szQc_yes n s ao k ca left w (by omega) (by omega)
  obtain ⟨w0, hw0⟩ : ∃ w0, w.alloc (.cells #[.int .i64 vo, .int .i64 lo, .int .i64 n, .string s, .slice ao k ca, .string d] 33) = w0 := ⟨_, rfl⟩
  have B0 : Below w.heap.size w w0 := hw0 ▸ qalloc _ _
  have LA : Loc w0 w.heap.size #[.int .i64 vo, .int .i64 lo, .int .i64 n, .string s, .slice ao k ca, .string d] := hw0 ▸ loc_at w _ _ rfl
  have HA := hide LA
  have x0 := LA.cell 0 rfl
  have x1 := LA.cell 1 rfl
  have x2 := LA.cell 2 rfl
  have x3 := LA.cell 3 rfl
  have x4 := LA.cell 4 rfl
  have x5 := LA.cell 5 rfl
  clear LA
  go_enter Try.func10, Try.ntmps10
  go_wp2_with fail
  clear hw0
  refine (unhide ZQ _).mono ?_
  rintro e w1 ⟨rfl, b1⟩
  have A1 := ((unhide HA).below b1 (unhide HA).lt).cell 5 rfl
  have B1 := B0.trans (b1.mono B0.size)
  clear b1 x0 x1 x2 x3 x4 x5 HA
  go_wp2
  go_ret
  exact ⟨rfl, B1⟩
/-- What szSafe answers when too much is there. -/
theorem szSafe_no (vo lo n : Int) (s : ByteArray) (ao : Option Addr) (k ca : Nat) (d : ByteArray) (left : Int) (w : World) (h0 : 0 ≤ left) (h : left < s.size + k + d.size) (hs : s.size ≤ 9223372036854775807) (hk : k ≤ 9223372036854775807) (hd : d.size ≤ 9223372036854775807) (hl : left ≤ 1048576) :
    Calls Try.prog 10 #[sv vo lo n s (.slice ao k ca) d, .int .i64 left] w fun e w' => e = .returned (.int .i64 (-1)) ∧ Below w.heap.size w w' := by
  by_cases h1 : left < (s.size : Int) + k
  · exact szSafe_no1 vo lo n s ao k ca d left w h0 h1 hs hk hl
  · exact szSafe_no2 vo lo n s ao k ca d left w (by omega) h hd hl

abbrev zs6 : Array Value := #[.int .i64 0, .int .i64 0, .int .i64 0, .string ⟨#[]⟩, .slice none 0 0, .string ⟨#[]⟩]
theorem kp6 (w : World) (g : Nat) (a b c d e f : Value) : Kp w ((((((w.setCell ⟨g, 0, none⟩ a).setCell ⟨g, 1, none⟩ b).setCell ⟨g, 2, none⟩ c).setCell ⟨g, 3, none⟩ d).setCell ⟨g, 4, none⟩ e).setCell ⟨g, 5, none⟩ f) (fun k => k = g) :=
  (((((set_kp _ _ _ _).trans (set_kp _ _ _ _)).trans (set_kp _ _ _ _)).trans (set_kp _ _ _ _)).trans (set_kp _ _ _ _)).trans (set_kp _ _ _ _)
theorem Loc.set6 {w : World} {g : Nat} {x y z u p q : Value} (h : Loc w g #[x, y, z, u, p, q]) (a b c d e f : Value) : Loc ((((((w.setCell ⟨g, 0, none⟩ a).setCell ⟨g, 1, none⟩ b).setCell ⟨g, 2, none⟩ c).setCell ⟨g, 3, none⟩ d).setCell ⟨g, 4, none⟩ e).setCell ⟨g, 5, none⟩ f) g #[a, b, c, d, e, f] :=
  (((((h.set 0 a (cs' := #[a, y, z, u, p, q]) rfl).set 1 b (cs' := #[a, b, z, u, p, q]) rfl).set 2 c (cs' := #[a, b, c, u, p, q]) rfl).set 3 d (cs' := #[a, b, c, d, p, q]) rfl).set 4 e (cs' := #[a, b, c, d, e, q]) rfl).set 5 f (cs' := #[a, b, c, d, e, f]) rfl

set_option maxHeartbeats 1600000 in
set_option maxRecDepth 100000 in
theorem toSafe_any (vo lo n : Int) (s : ByteArray) (a : Value) (xs : List Int) (d : ByteArray) (w : World) (ha : RI w a xs) :
    Calls Try.prog 12 #[sv vo lo n s a d] w fun e w' => ∃ u, e = .returned (sv vo lo n s u d) ∧ OI w' w.heap.size u xs ∧ Below w.heap.size w w' := by
  obtain ⟨w0, hw0⟩ : ∃ w0, ((w.alloc (.cells #[.int .i64 vo, .int .i64 lo, .int .i64 n, .string s, a, .string d] 33)).alloc (.cells zs6 26)).alloc (.cells #[.int .i64 vo, .int .i64 lo, .int .i64 0, .string ⟨#[]⟩, .slice none 0 0, .string ⟨#[]⟩] 26) = w0 := ⟨_, rfl⟩
  have B0 : Below w.heap.size w w0 := hw0 ▸ ((qalloc2 _ _ _).alloc (by simp; omega) _)
  have LZ : Loc w0 (w.heap.size + 1) zs6 := hw0 ▸ (loc_at (w.alloc _) _ _ (by simp)).alloc _
  have LO : Loc w0 (w.heap.size + 1 + 1) #[.int .i64 vo, .int .i64 lo, .int .i64 0, .string ⟨#[]⟩, .slice none 0 0, .string ⟨#[]⟩] := hw0 ▸ loc_at ((w.alloc _).alloc _) _ _ (by simp)
  have s0 : w0.heap.size = w.heap.size + 1 + 1 + 1 := by rw [← hw0]; simp
  have LA : Loc w0 w.heap.size #[.int .i64 vo, .int .i64 lo, .int .i64 n, .string s, a, .string d] := hw0 ▸ ((loc_at w _ _ rfl).alloc _).alloc _
  have p0 := LA.cell 0 rfl
  have p1 := LA.cell 1 rfl
  have p2 := LA.cell 2 rfl
  have p3 := LA.cell 3 rfl
  have p4 := LA.cell 4 rfl
  have p5 := LA.cell 5 rfl
  have TQ := hide (toQc_any n s a xs w0 (ha.below B0 (Nat.le_refl _)))
  have HZ := hide LZ
  have HO := hide LO
  have HA := hide LA
  clear ha LZ LO LA
  go_enter Try.func12, Try.ntmps12
  go_wp2_with fail
  clear hw0
  refine (unhide TQ).mono ?_
  rintro e w1 ⟨u, rfl, o1, b1⟩
  have B1 : Below w.heap.size w w1 := B0.trans (b1.mono B0.size)
  have Z1 := (unhide HZ).below b1 (unhide HZ).lt
  have O1 := (unhide HO).below b1 (unhide HO).lt
  have A1 := (unhide HA).below b1 (unhide HA).lt
  have y0 := Z1.cell 0 rfl
  have y1 := Z1.cell 1 rfl
  have y2 := Z1.cell 2 rfl
  have y3 := Z1.cell 3 rfl
  have y4 := Z1.cell 4 rfl
  have y5 := Z1.cell 5 rfl
  have fy := Z1.frozen
  have x0 := O1.cell 0 rfl
  have x1 := O1.cell 1 rfl
  have x2 := O1.cell 2 rfl
  have x3 := O1.cell 3 rfl
  have x4 := O1.cell 4 rfl
  have x5 := O1.cell 5 rfl
  have fx := O1.frozen
  have a5 := A1.cell 5 rfl
  have lt1 := World.ownsRow.lt o1
  obtain ⟨ua, uc, rfl⟩ := o1.form
  have H1 := hide o1
  clear o1 b1 Z1 O1 A1 HZ HO HA TQ p0 p1 p2 p3 p4 p5
  go_wp2
  refine bodyPost_ret (v := sv vo lo n s (.slice ua xs.length uc) d) (by simp [results, Try.results12, go_sem, y0, y1, y2, y3, y4, y5]) rfl ?_
  have K : Kp w1 _ (fun k => k = w.heap.size + 1 ∨ k = w.heap.size + 1 + 1) := (((((((((((Kp.same w1 _).put (g := w.heap.size + 1 + 1) (.inr rfl) 2 (.int .i64 n)).put (g := w.heap.size + 1 + 1) (.inr rfl) 3 (.string s)).put (g := w.heap.size + 1 + 1) (.inr rfl) 4 (.slice ua xs.length uc)).put (g := w.heap.size + 1 + 1) (.inr rfl) 5 (.string d)).put (g := w.heap.size + 1) (.inl rfl) 0 (.int .i64 vo)).put (g := w.heap.size + 1) (.inl rfl) 1 (.int .i64 lo)).put (g := w.heap.size + 1) (.inl rfl) 2 (.int .i64 n)).put (g := w.heap.size + 1) (.inl rfl) 3 (.string s)).put (g := w.heap.size + 1) (.inl rfl) 4 (.slice ua xs.length uc)).put (g := w.heap.size + 1) (.inl rfl) 5 (.string d))
  exact ⟨_, rfl, ((unhide H1).kp K (fun k hk => by have := lt1 k hk; omega)).mono (by omega), Below.kp B1 K B1.size (fun k hk => by omega)⟩
end Go.Proofs.Ytgfboghieejbkaa
