/- Block: a block as a value; laws.eqBlock, heldBlock, markBlock, szBlock, toBlock. -/
import Derived.Test.YtihaecmlfmfbfaaDoorQc
namespace Go.Proofs.YtihaecmlfmfbfaaDoor
open Go.RowKit

/-- A block: its name, its certificate's view, name, voters. -/
abbrev bv (m : ByteArray) (n : Int) (s : ByteArray) (v : Value) : Value := .agg #[.string m, .int .i64 n, .string s, v]

set_option maxHeartbeats 1600000 in
set_option maxRecDepth 100000 in
theorem eqBlock_yes (m : ByteArray) (n : Int) (s : ByteArray) (a b : Value) (xs : List Int) (w : World) (ha : RI w a xs) (hb : RI w b xs) :
    Calls Tryd.prog 21 #[bv m n s a, bv m n s b] w fun e w' => e = .returned (.bool true) ∧ Below w.heap.size w w' := by
  have R1 := hide ha
  have R2 := hide hb
  have B := hide (qalloc2 w (.cells #[.string m, .int .i64 n, .string s, a] 36) (.cells #[.string m, .int .i64 n, .string s, b] 36))
  clear ha hb
  go_enter Tryd.func21, Tryd.ntmps21
  go_wp2_with fail
  refine (eqQc_yes n s a b xs _ ((unhide R1).below (unhide B) (Nat.le_refl _)) ((unhide R2).below (unhide B) (Nat.le_refl _))).mono ?_
  rintro e w1 ⟨rfl, b1⟩
  go_wp2
  go_ret
  exact ⟨rfl, (unhide B).trans (b1.mono (unhide B).size)⟩

set_option maxHeartbeats 800000 in
set_option maxRecDepth 100000 in
theorem szBlock_yes (m : ByteArray) (n : Int) (s : ByteArray) (ao : Option Addr) (k ca : Nat) (left : Int) (w : World) (h : (m.size : Int) + s.size + k ≤ left) (hl : left ≤ 1048576) :
    Calls Tryd.prog 9 #[bv m n s (.slice ao k ca), .int .i64 left] w fun e w' => e = .returned (.int .i64 (left - m.size - s.size - k)) ∧ Below w.heap.size w w' := by
  have h1 : decide ((left : Int) - (m.size : Int) < 0) = false := by simp; omega
  have h2 : decide ((left : Int) - (m.size : Int) - (s.size : Int) - (k : Int) < 0) = false := by simp; omega
  have ZQ := hide fun w => szQc_yes n s ao k ca (left - m.size) w (by omega) (by omega)
  have B := hide (qalloc w (.cells #[.string m, .int .i64 n, .string s, .slice ao k ca] 26))
  go_enter Tryd.func9, Tryd.ntmps9
  go_wp2_with fail
  refine (unhide ZQ _).mono ?_
  rintro e w1 ⟨rfl, b1⟩
  go_wp2
  go_ret
  exact ⟨rfl, (unhide B).trans (b1.mono (unhide B).size)⟩
set_option maxHeartbeats 800000 in
set_option maxRecDepth 100000 in
theorem szBlock_no1 (m : ByteArray) (n : Int) (s : ByteArray) (ao : Option Addr) (k ca : Nat) (left : Int) (w : World) (h0 : 0 ≤ left) (h : left < m.size) (hs : m.size ≤ 9223372036854775807) (hl : left ≤ 1048576) :
    Calls Tryd.prog 9 #[bv m n s (.slice ao k ca), .int .i64 left] w fun e w' => e = .returned (.int .i64 (-1)) ∧ Below w.heap.size w w' := by
  have h1 : decide ((left : Int) - (m.size : Int) < 0) = true := by simp; omega
  go_enter Tryd.func9, Tryd.ntmps9
  go_wp2
  go_ret
  exact ⟨rfl, qalloc _ _⟩
set_option maxHeartbeats 800000 in
set_option maxRecDepth 100000 in
theorem szBlock_no2 (m : ByteArray) (n : Int) (s : ByteArray) (ao : Option Addr) (k ca : Nat) (left : Int) (w : World) (h0 : (m.size : Int) ≤ left) (h : left < m.size + s.size + k) (hs : s.size ≤ 9223372036854775807) (hk : k ≤ 9223372036854775807) (hl : left ≤ 1048576) :
    Calls Tryd.prog 9 #[bv m n s (.slice ao k ca), .int .i64 left] w fun e w' => e = .returned (.int .i64 (-1)) ∧ Below w.heap.size w w' := by
  have h1 : decide ((left : Int) - (m.size : Int) < 0) = false := by simp; omega
  have ZQ := hide fun w => szQc_no n s ao k ca (left - m.size) w (by omega) (by omega) hs hk (by omega)
  have B := hide (qalloc w (.cells #[.string m, .int .i64 n, .string s, .slice ao k ca] 26))
  go_enter Tryd.func9, Tryd.ntmps9
  go_wp2_with fail
  refine (unhide ZQ _).mono ?_
  rintro e w1 ⟨rfl, b1⟩
  go_wp2
  go_ret
  exact ⟨rfl, (unhide B).trans (b1.mono (unhide B).size)⟩
/-- What szBlock answers when too much is there. -/
theorem szBlock_no (m : ByteArray) (n : Int) (s : ByteArray) (ao : Option Addr) (k ca : Nat) (left : Int) (w : World) (h0 : 0 ≤ left) (h : left < m.size + s.size + k) (hm : m.size ≤ 9223372036854775807) (hs : s.size ≤ 9223372036854775807) (hk : k ≤ 9223372036854775807) (hl : left ≤ 1048576) :
    Calls Tryd.prog 9 #[bv m n s (.slice ao k ca), .int .i64 left] w fun e w' => e = .returned (.int .i64 (-1)) ∧ Below w.heap.size w w' := by
  by_cases h1 : left < (m.size : Int)
  · exact szBlock_no1 m n s ao k ca left w h0 h1 hm hl
  · exact szBlock_no2 m n s ao k ca left w (by omega) h hs hk hl

theorem Kp.same (w : World) (X : Nat → Prop) : Kp w w X := Below.kpOf (Below.refl w.heap.size w) X
theorem Kp.put {a b : World} {X : Nat → Prop} (h : Kp a b X) {g : Nat} (hg : X g) (j : Nat) (v : Value) : Kp a (b.setCell ⟨g, j, none⟩ v) X := h.trans ((set_kp _ _ _ _).mono fun _ e => e ▸ hg)
abbrev zb : Array Value := #[.string ⟨#[]⟩, .int .i64 0, .string ⟨#[]⟩, .slice none 0 0]
theorem kp4 (w : World) (g : Nat) (a b c d : Value) : Kp w ((((w.setCell ⟨g, 0, none⟩ a).setCell ⟨g, 1, none⟩ b).setCell ⟨g, 2, none⟩ c).setCell ⟨g, 3, none⟩ d) (fun k => k = g) :=
  (((set_kp _ _ _ _).trans (set_kp _ _ _ _)).trans (set_kp _ _ _ _)).trans (set_kp _ _ _ _)
theorem Loc.set4 {w : World} {g : Nat} {x y z u : Value} (h : Loc w g #[x, y, z, u]) (a b c d : Value) : Loc ((((w.setCell ⟨g, 0, none⟩ a).setCell ⟨g, 1, none⟩ b).setCell ⟨g, 2, none⟩ c).setCell ⟨g, 3, none⟩ d) g #[a, b, c, d] :=
  (((h.set 0 a (cs' := #[a, y, z, u]) rfl).set 1 b (cs' := #[a, b, z, u]) rfl).set 2 c (cs' := #[a, b, c, u]) rfl).set 3 d (cs' := #[a, b, c, d]) rfl

set_option maxHeartbeats 1600000 in
set_option maxRecDepth 100000 in
theorem toBlock_any (m : ByteArray) (n : Int) (s : ByteArray) (a : Value) (xs : List Int) (w : World) (ha : RI w a xs) :
    Calls Tryd.prog 15 #[bv m n s a] w fun e w' => ∃ u, e = .returned (bv m n s u) ∧ OI w' w.heap.size u xs ∧ Below w.heap.size w w' := by
  obtain ⟨w0, hw0⟩ : ∃ w0, ((w.alloc (.cells #[.string m, .int .i64 n, .string s, a] 26)).alloc (.cells zb 36)).alloc (.cells #[.string m, .int .i64 0, .string ⟨#[]⟩, .slice none 0 0] 36) = w0 := ⟨_, rfl⟩
  have B0 : Below w.heap.size w w0 := hw0 ▸ ((qalloc2 _ _ _).alloc (by simp; omega) _)
  have LZ : Loc w0 (w.heap.size + 1) zb := hw0 ▸ (loc_at (w.alloc _) _ _ (by simp)).alloc _
  have LO : Loc w0 (w.heap.size + 1 + 1) #[.string m, .int .i64 0, .string ⟨#[]⟩, .slice none 0 0] := hw0 ▸ loc_at ((w.alloc _).alloc _) _ _ (by simp)
  have s0 : w0.heap.size = w.heap.size + 1 + 1 + 1 := by rw [← hw0]; simp
  have LA : Loc w0 w.heap.size #[.string m, .int .i64 n, .string s, a] := hw0 ▸ ((loc_at w _ _ rfl).alloc _).alloc _
  have a0 := LA.cell 0 rfl
  have a1 := LA.cell 1 rfl
  have a2 := LA.cell 2 rfl
  have a3 := LA.cell 3 rfl
  have TQ := hide (toQc_any n s a xs w0 (ha.below B0 (Nat.le_refl _)))
  have HZ := hide LZ
  have HO := hide LO
  clear ha LZ LO LA
  go_enter Tryd.func15, Tryd.ntmps15
  go_wp2_with fail
  clear hw0
  refine (unhide TQ).mono ?_
  rintro e w1 ⟨u, rfl, o1, b1⟩
  have B1 : Below w.heap.size w w1 := B0.trans (b1.mono B0.size)
  have Z1 := (unhide HZ).below b1 (unhide HZ).lt
  have O1 := (unhide HO).below b1 (unhide HO).lt
  have y0 := Z1.cell 0 rfl
  have y1 := Z1.cell 1 rfl
  have y2 := Z1.cell 2 rfl
  have y3 := Z1.cell 3 rfl
  have fy := Z1.frozen
  have x0 := O1.cell 0 rfl
  have x1 := O1.cell 1 rfl
  have x2 := O1.cell 2 rfl
  have x3 := O1.cell 3 rfl
  have fx := O1.frozen
  have lt1 := World.ownsRow.lt o1
  obtain ⟨ua, uc, rfl⟩ := o1.form
  have H1 := hide o1
  clear o1 b1 Z1 O1 HZ HO TQ a0 a1 a2 a3
  go_wp2
  refine bodyPost_ret (v := bv m n s (.slice ua xs.length uc)) (by simp [results, Tryd.results15, go_sem, y0, y1, y2, y3]) rfl ?_
  have K : Kp w1 _ (fun k => k = w.heap.size + 1 ∨ k = w.heap.size + 1 + 1) := (((((((Kp.same w1 _).put (g := w.heap.size + 1 + 1) (.inr rfl) 1 (.int .i64 n)).put (g := w.heap.size + 1 + 1) (.inr rfl) 2 (.string s)).put (g := w.heap.size + 1 + 1) (.inr rfl) 3 (.slice ua xs.length uc)).put (g := w.heap.size + 1) (.inl rfl) 0 (.string m)).put (g := w.heap.size + 1) (.inl rfl) 1 (.int .i64 n)).put (g := w.heap.size + 1) (.inl rfl) 2 (.string s)).put (g := w.heap.size + 1) (.inl rfl) 3 (.slice ua xs.length uc)
  exact ⟨_, rfl, ((unhide H1).kp K (fun k hk => by have := lt1 k hk; omega)).mono (by omega), Below.kp B1 K B1.size (fun k hk => by omega)⟩
end Go.Proofs.YtihaecmlfmfbfaaDoor
