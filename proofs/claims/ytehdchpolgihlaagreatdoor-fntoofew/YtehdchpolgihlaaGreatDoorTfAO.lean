/- Texts that belong together: PartOne, CurMore. -/
import Derived.Test.YtehdchpolgihlaaGreatDoorTfAB
import Derived.Test.YtehdchpolgihlaaGreatDoorTfAL
import Derived.Test.YtehdchpolgihlaaGreatDoorTfAJ
import Derived.Test.YtehdchpolgihlaaGreatDoorTfAE
import Derived.Test.YtehdchpolgihlaaGreatDoorTfAF
/- PartOne: a part as a value; laws.eqPart, heldPart, markPart, szPart, toPart; spec.l10Copy. -/
namespace Go.Proofs.YtehdchpolgihlaaGreatDoor
open Go.RowKit

set_option maxHeartbeats 1600000 in
set_option maxRecDepth 100000 in
theorem eqPart_yes (n : Int) (s : ByteArray) (a b : Value) (xs : List Int) (w : World) (ha : RI w a xs) (hb : RI w b xs) :
    Calls Tryz.prog 42 #[qv n s a, qv n s b] w fun e w' => e = .returned (.bool true) ∧ Below w.heap.size w w' := by
  have R1 := hide ha
  have R2 := hide hb
  have B := hide (qalloc2 w (.cells #[.int .i64 n, .string s, a] 26) (.cells #[.int .i64 n, .string s, b] 26))
  clear ha hb
  go_enter Tryz.func42, Tryz.ntmps42
  go_wp2_with fail
  refine (eqIntS_yes a b xs _ ((unhide R1).below (unhide B) (Nat.le_refl _)) ((unhide R2).below (unhide B) (Nat.le_refl _))).mono ?_
  rintro e w1 ⟨rfl, n, rfl⟩
  go_wp2
  go_ret
  exact ⟨rfl, below_drewN' (unhide B) _⟩

set_option maxHeartbeats 1600000 in
set_option maxRecDepth 100000 in
theorem markPart_any (n : Int) (s : ByteArray) (base : Nat) (v : Value) (xs : List Int) (k0 : Nat) (w : World) (hl : xs.length ≤ 4194304) (hk : k0 ≤ 100000000) (h : OI w base v xs) :
    Calls Tryz.prog 43 #[qv n s v, .int .i64 k0] w fun e w' => e = .returned (.int .i64 (k0 + xs.length)) ∧ OI w' base v (imarks k0 xs.length) ∧ Kp w w' (fun k => v.ownBlock = some k) := by
  have B := hide (qalloc w (.cells #[.int .i64 n, .string s, v] 26))
  have H := hide (h.below (unhide B))
  have hb := World.ownsRow.lt h
  have MK := hide fun w h => imark_any base k0 v xs w hl hk h
  clear h
  go_enter Tryz.func43, Tryz.ntmps43
  go_wp2_with fail
  refine (unhide MK _ (unhide H)).mono ?_
  rintro e w1 ⟨rfl, o1, g1⟩
  have K := (Below.kpOf (unhide B) (fun k => v.ownBlock = some k)).trans (kp_grown g1)
  go_wp2
  go_ret
  exact ⟨rfl, o1, K⟩

set_option maxHeartbeats 800000 in
set_option maxRecDepth 100000 in
theorem szPart_yes (n : Int) (s : ByteArray) (ao : Option Addr) (m ca : Nat) (left : Int) (w : World) (h : (s.size : Int) + m ≤ left) (hl : left ≤ 1048576) :
    Calls Tryz.prog 38 #[qv n s (.slice ao m ca), .int .i64 left] w fun e w' => e = .returned (.int .i64 (left - s.size - m)) ∧ Below w.heap.size w w' := by
  have h1 : decide ((left : Int) - (s.size : Int) < 0) = false := by simp; omega
  have h2 : decide ((left : Int) - (s.size : Int) - (m : Int) < 0) = false := by simp; omega
  go_enter Tryz.func38, Tryz.ntmps38
  go_wp2_with (first | (go_at_call 96; refine (szIntS_yes _ _ _ _ _ (by omega) (by omega)).mono ?_; rintro e w' ⟨rfl, rfl⟩))
  go_ret
  exact ⟨rfl, qalloc _ _⟩

set_option maxHeartbeats 800000 in
set_option maxRecDepth 100000 in
theorem szPart_no1 (n : Int) (s : ByteArray) (ao : Option Addr) (m ca : Nat) (left : Int) (w : World) (h0 : 0 ≤ left) (h : left < s.size) (hs : s.size ≤ 9223372036854775807) (hl : left ≤ 1048576) :
    Calls Tryz.prog 38 #[qv n s (.slice ao m ca), .int .i64 left] w fun e w' => e = .returned (.int .i64 (-1)) ∧ Below w.heap.size w w' := by
  have h1 : decide ((left : Int) - (s.size : Int) < 0) = true := by simp; omega
  go_enter Tryz.func38, Tryz.ntmps38
  go_wp2
  go_ret
  exact ⟨rfl, qalloc _ _⟩

set_option maxHeartbeats 800000 in
set_option maxRecDepth 100000 in
theorem szPart_no2 (n : Int) (s : ByteArray) (ao : Option Addr) (m ca : Nat) (left : Int) (w : World) (h0 : (s.size : Int) ≤ left) (h : left < s.size + m) (hm : m ≤ 9223372036854775807) (hl : left ≤ 1048576) :
    Calls Tryz.prog 38 #[qv n s (.slice ao m ca), .int .i64 left] w fun e w' => e = .returned (.int .i64 (-1)) ∧ Below w.heap.size w w' := by
  have h1 : decide ((left : Int) - (s.size : Int) < 0) = false := by simp; omega
  go_enter Tryz.func38, Tryz.ntmps38
  go_wp2_with fail
  refine (szIntS_no _ _ _ _ _ (by omega) (by omega) (by omega) hm).mono ?_
  rintro e w' ⟨rfl, rfl⟩
  go_wp2
  go_ret
  exact ⟨rfl, qalloc _ _⟩

theorem szPart_no (n : Int) (s : ByteArray) (ao : Option Addr) (m ca : Nat) (left : Int) (w : World) (h0 : 0 ≤ left) (h : left < s.size + m) (hs : s.size ≤ 9223372036854775807) (hm : m ≤ 9223372036854775807) (hl : left ≤ 1048576) :
    Calls Tryz.prog 38 #[qv n s (.slice ao m ca), .int .i64 left] w fun e w' => e = .returned (.int .i64 (-1)) ∧ Below w.heap.size w w' := by
  by_cases h1 : left < (s.size : Int)
  · exact szPart_no1 n s ao m ca left w h0 h1 hs hl
  · exact szPart_no2 n s ao m ca left w (by omega) h hm hl

set_option maxHeartbeats 1600000 in
set_option maxRecDepth 100000 in
theorem toPart_any (n : Int) (s : ByteArray) (a : Value) (xs : List Int) (w : World) (ha : RI w a xs) :
    Calls Tryz.prog 40 #[qv n s a] w fun e w' => ∃ u, e = .returned (qv n s u) ∧ OI w' w.heap.size u xs ∧ Below w.heap.size w w' := by
  have R1 := hide ha
  clear ha
  go_enter Tryz.func40, Tryz.ntmps40
  go_wp2_with fail
  refine Calls.mono (toIntS_any a xs _ ((unhide R1).below ((((Below.refl w.heap.size w).alloc (Nat.le_refl _) _).alloc (by simp) _).alloc (by simp; omega) _) (Nat.le_refl _))) ?_
  rintro e w1 ⟨u, rfl, o1, b1⟩
  have s1 := b1.size
  have L1 : Loc w1 (w.heap.size + 1) #[.int .i64 0, .string ⟨#[]⟩, .slice none 0 0] := Loc.below (Loc.alloc (loc_at (w.alloc _) #[.int .i64 0, .string ⟨#[]⟩, .slice none 0 0] _ (by simp)) _) b1 (by simp)
  have L2 : Loc w1 (w.heap.size + 1 + 1) #[.int .i64 n, .string s, .slice none 0 0] := Loc.below (loc_at ((w.alloc _).alloc _) #[.int .i64 n, .string s, .slice none 0 0] _ (by simp)) b1 (by simp)
  have B1 : Below w.heap.size w w1 := ((((Below.refl w.heap.size w).alloc (Nat.le_refl _) _).alloc (by simp) _).alloc (by simp; omega) _).trans (b1.mono (by simp; omega))
  have lt1 := World.ownsRow.lt o1
  simp at lt1 s1
  have y0 := L1.cell 0 rfl
  have y1 := L1.cell 1 rfl
  have y2 := L1.cell 2 rfl
  have fy0 := L1.frozen 0
  have fy1 := L1.frozen 1
  have fy2 := L1.frozen 2
  have z0 := L2.cell 0 rfl
  have z1 := L2.cell 1 rfl
  have z2 := L2.cell 2 rfl
  have fz2 := L2.frozen 2
  obtain ⟨ua, uc, hu⟩ := o1.form
  have O1 := hide o1
  clear o1 b1
  subst hu
  go_wp2
  refine bodyPost_ret (v := qv n s (.slice ua xs.length uc)) (by simp [results, Tryz.results40, go_sem, y0, y1, y2]) rfl ?_
  have K : Kp w1 ((((w1.setCell ⟨w.heap.size + 1 + 1, 2, none⟩ (.slice ua xs.length uc)).setCell ⟨w.heap.size + 1, 0, none⟩ (.int .i64 n)).setCell ⟨w.heap.size + 1, 1, none⟩ (.string s)).setCell ⟨w.heap.size + 1, 2, none⟩ (.slice ua xs.length uc)) (fun k => k = w.heap.size + 1 ∨ k = w.heap.size + 1 + 1) :=
    (((((set_kp _ _ _ _).mono (fun k h => .inr h))).trans ((set_kp _ _ _ _).mono (fun k h => .inl h))).trans ((set_kp _ _ _ _).mono (fun k h => .inl h))).trans ((set_kp _ _ _ _).mono (fun k h => .inl h))
  exact ⟨_, rfl, ((unhide O1).kp K (fun k hk => by have := lt1 k hk; omega)).mono (by simp; omega), Below.kp B1 K B1.size (fun k hk => by omega)⟩

abbrev zpo : Obj := .cells #[.int .i64 0, .string ⟨#[]⟩, .slice none 0 0] 26

set_option maxHeartbeats 1600000 in
set_option maxRecDepth 100000 in
theorem l10Copy_any (n : Int) (s : ByteArray) (v : Value) (xs : List Int) (w : World) (h : RI w v xs) :
    Calls Tryz.prog 59 #[qv n s v] w fun e w' => ∃ u, e = .returned (qv n s u) ∧ OI w' w.heap.size u xs ∧ Below w.heap.size w w' := by
  obtain ⟨ao, ca, rfl⟩ := h.form
  have hl := h.1
  obtain ⟨w0, hw0⟩ : ∃ w0, ((w.alloc (.cells #[.int .i64 n, .string s, .slice ao xs.length ca] 26)).alloc zpo).alloc (.cells #[] 3) = w0 := ⟨_, rfl⟩
  have B0 : Below w.heap.size w w0 := hw0 ▸ ((qalloc2 _ _ _).alloc (by simp; omega) _)
  have LA : Loc w0 w.heap.size #[.int .i64 n, .string s, .slice ao xs.length ca] := hw0 ▸ ((loc_at w _ _ rfl).alloc _).alloc _
  have LZ : Loc w0 (w.heap.size + 1) #[.int .i64 0, .string ⟨#[]⟩, .slice none 0 0] := hw0 ▸ (loc_at (w.alloc _) _ _ (by simp)).alloc _
  have s0 : w0.heap.size = w.heap.size + 1 + 1 + 1 := by rw [← hw0]; simp
  have O0 : OI w0 (w.heap.size + 1 + 1) (.slice (some ⟨w.heap.size + 1 + 1, 0, none⟩) 0 0) [] := by
    have := World.ownsRow_lit (base := w.heap.size + 1 + 1) (e := 3) (size := 1) ((w.alloc (.cells #[.int .i64 n, .string s, .slice ao xs.length ca] 26)).alloc zpo) #[] 0 (by simp) (by unfold maxLen; omega) (by simp)
    rw [hw0] at this
    simpa [OI] using this
  have P0 := hide (h.pi.below B0)
  have x2 := LA.cell 2 rfl
  have HL := hide LA
  have HZ := hide LZ
  clear h LA LZ
  go_enter Tryz.func59, Tryz.ntmps59
  go_wp2_with (first | (at_builtin; clear hw0; refine append_ints rfl _ _ rfl (w.heap.size + 1 + 1) (.slice (some ⟨w.heap.size + 1 + 1, 0, none⟩) 0 0) (.slice ao xs.length ca) [] xs rfl rfl O0 (unhide P0) (by simp; omega) (by omega) ?_; intro v' w2 ho2 hg2 _
                        have k2 := kp_grown hg2
                        have L2 := (unhide HL).kp k2 (by simp [Value.ownBlock]; omega)
                        have Z2 := (unhide HZ).kp k2 (by simp [Value.ownBlock])
                        have B2 := Below.kp B0 k2 B0.size (fun k hk => by simp [Value.ownBlock] at hk; omega)
                        have lt2 := World.ownsRow.lt ho2
                        have p0 := L2.cell 0 rfl
                        have p1 := L2.cell 1 rfl
                        have p2 := L2.cell 2 rfl
                        have fp := L2.frozen
                        have y0 := Z2.cell 0 rfl
                        have y1 := Z2.cell 1 rfl
                        have y2 := Z2.cell 2 rfl
                        have fy := Z2.frozen
                        obtain ⟨ua, uc, rfl⟩ := ho2.form
                        have O2 := hide ho2
                        clear ho2 hg2 k2 L2 Z2))
  refine bodyPost_ret (v := qv n s (.slice ua ([] ++ xs).length uc)) (by simp [results, Tryz.results59, go_sem, y0, y1, y2]) rfl ?_
  have K5 : Kp w2 ((((w2.setCell ⟨w.heap.size, 2, none⟩ (.slice ua ([] ++ xs).length uc)).setCell ⟨w.heap.size + 1, 0, none⟩ (.int .i64 n)).setCell ⟨w.heap.size + 1, 1, none⟩ (.string s)).setCell ⟨w.heap.size + 1, 2, none⟩ (.slice ua ([] ++ xs).length uc)) (fun k => k = w.heap.size ∨ k = w.heap.size + 1) :=
    (((((set_kp _ _ _ _).mono (fun k h => .inl h))).trans ((set_kp _ _ _ _).mono (fun k h => .inr h))).trans ((set_kp _ _ _ _).mono (fun k h => .inr h))).trans ((set_kp _ _ _ _).mono (fun k h => .inr h))
  exact ⟨_, rfl, ((unhide O2).kp K5 (fun k hk => by have := lt2 k hk; omega)).mono (by omega), Below.kp B2 K5 B2.size (fun k hk => by omega)⟩
end Go.Proofs.YtehdchpolgihlaaGreatDoor

/- More of the draws' cursor: numbers picked out of a written list. -/
namespace Go.Proofs.YtehdchpolgihlaaGreatDoor
open Go.RowKit
set_option linter.unusedSectionVars false
variable [∀ (a b c d : Int), Decidable (Ok4 a b c d)]
variable [∀ (a b c d : Nat), Decidable (okN a b c d)]
variable [∀ (x : T4), Decidable (OkT x)]

end Go.Proofs.YtehdchpolgihlaaGreatDoor
