/- Texts that belong together: Blk, BlockPlain, BlockOpen. -/
import Derived.Test.YtggmgfkmbgcooaaGreatDoorBunI
import Derived.Test.YtggmgfkmbgcooaaGreatDoorQcPlainQ
import Derived.Test.YtggmgfkmbgcooaaGreatDoorQcOpenQ
import Derived.Deep.Strs
/- Block: a block as a value; laws.eqBlock, heldBlock, markBlock, szBlock, toBlock. -/
namespace Go.Proofs.YtggmgfkmbgcooaaGreatDoor
open Go.RowKit

/-- A block: its name, its certificate's view, name, voters. -/
abbrev bv (m : ByteArray) (n : Int) (s : ByteArray) (v : Value) : Value := .agg #[.string m, .int .i64 n, .string s, v]

set_option maxHeartbeats 1600000 in
set_option maxRecDepth 100000 in
theorem eqBlock_yes (m : ByteArray) (n : Int) (s : ByteArray) (a b : Value) (xs : List Int) (w : World) (ha : RI w a xs) (hb : RI w b xs) :
    Calls Tryz.prog 23 #[bv m n s a, bv m n s b] w fun e w' => e = .returned (.bool true) ∧ Below w.heap.size w w' := by
  have R1 := hide ha
  have R2 := hide hb
  have B := hide (qalloc2 w (.cells #[.string m, .int .i64 n, .string s, a] 30) (.cells #[.string m, .int .i64 n, .string s, b] 30))
  clear ha hb
  go_enter Tryz.func23, Tryz.ntmps23
  go_wp2_with fail
  refine (eqQc_yes n s a b xs _ ((unhide R1).below (unhide B) (Nat.le_refl _)) ((unhide R2).below (unhide B) (Nat.le_refl _))).mono ?_
  rintro e w1 ⟨rfl, b1⟩
  go_wp2
  go_ret
  exact ⟨rfl, (unhide B).trans (b1.mono (unhide B).size)⟩

set_option maxHeartbeats 1600000 in
set_option maxRecDepth 100000 in
theorem heldBlock_any (m : ByteArray) (n : Int) (s : ByteArray) (v : Value) (k : Nat) (w : World) (h : RI w v (imarks 1 k)) :
    Calls Tryz.prog 33 #[bv m n s v, .int .i64 1] w fun e w' => e = .returned (.int .i64 (1 + k)) ∧ Below w.heap.size w w' := by
  have R1 := hide h
  have B := hide (qalloc w (.cells #[.string m, .int .i64 n, .string s, v] 30))
  have hd : decide ((1 : Int) + (k : Int) < 0) = false := by simp; omega
  clear h
  go_enter Tryz.func33, Tryz.ntmps33
  go_wp2_with fail
  refine (heldQc_any n s v k _ ((unhide R1).below (unhide B) (Nat.le_refl _))).mono ?_
  rintro e w1 ⟨rfl, b1⟩
  go_wp2
  go_ret
  exact ⟨rfl, (unhide B).trans (b1.mono (unhide B).size)⟩

set_option maxHeartbeats 1600000 in
set_option maxRecDepth 100000 in
theorem markBlock_any (m : ByteArray) (n : Int) (s : ByteArray) (base : Nat) (v : Value) (xs : List Int) (k0 : Nat) (w : World) (hl : xs.length ≤ 4194304) (hk : k0 ≤ 100000000) (h : OI w base v xs) :
    Calls Tryz.prog 32 #[bv m n s v, .int .i64 k0] w fun e w' => e = .returned (.int .i64 (k0 + xs.length)) ∧ OI w' base v (imarks k0 xs.length) ∧ Kp w w' (fun k => v.ownBlock = some k) := by
  have B := hide (qalloc w (.cells #[.string m, .int .i64 n, .string s, v] 30))
  have H := hide (h.below (unhide B))
  have MK := hide fun w h => markQc_any n s base v xs k0 w hl hk h
  clear h
  go_enter Tryz.func32, Tryz.ntmps32
  go_wp2_with fail
  refine (unhide MK _ (unhide H)).mono ?_
  rintro e w1 ⟨rfl, o1, k1⟩
  have K := (Below.kpOf (unhide B) (fun k => v.ownBlock = some k)).trans k1
  go_wp2
  go_ret
  exact ⟨rfl, o1, K⟩

set_option maxHeartbeats 800000 in
set_option maxRecDepth 100000 in
theorem szBlock_yes (m : ByteArray) (n : Int) (s : ByteArray) (ao : Option Addr) (k ca : Nat) (left : Int) (w : World) (h : (m.size : Int) + s.size + k ≤ left) (hl : left ≤ 1048576) :
    Calls Tryz.prog 20 #[bv m n s (.slice ao k ca), .int .i64 left] w fun e w' => e = .returned (.int .i64 (left - m.size - s.size - k)) ∧ Below w.heap.size w w' := by
  have h1 : decide ((left : Int) - (m.size : Int) < 0) = false := by simp; omega
  have h2 : decide ((left : Int) - (m.size : Int) - (s.size : Int) - (k : Int) < 0) = false := by simp; omega
  have ZQ := hide fun w => szQc_yes n s ao k ca (left - m.size) w (by omega) (by omega)
  have B := hide (qalloc w (.cells #[.string m, .int .i64 n, .string s, .slice ao k ca] 48))
  go_enter Tryz.func20, Tryz.ntmps20
  go_wp2_with fail
  refine (unhide ZQ _).mono ?_
  rintro e w1 ⟨rfl, b1⟩
  go_wp2
  go_ret
  exact ⟨rfl, (unhide B).trans (b1.mono (unhide B).size)⟩
set_option maxHeartbeats 800000 in
set_option maxRecDepth 100000 in
theorem szBlock_no1 (m : ByteArray) (n : Int) (s : ByteArray) (ao : Option Addr) (k ca : Nat) (left : Int) (w : World) (h0 : 0 ≤ left) (h : left < m.size) (hs : m.size ≤ 9223372036854775807) (hl : left ≤ 1048576) :
    Calls Tryz.prog 20 #[bv m n s (.slice ao k ca), .int .i64 left] w fun e w' => e = .returned (.int .i64 (-1)) ∧ Below w.heap.size w w' := by
  have h1 : decide ((left : Int) - (m.size : Int) < 0) = true := by simp; omega
  go_enter Tryz.func20, Tryz.ntmps20
  go_wp2
  go_ret
  exact ⟨rfl, qalloc _ _⟩
set_option maxHeartbeats 800000 in
set_option maxRecDepth 100000 in
theorem szBlock_no2 (m : ByteArray) (n : Int) (s : ByteArray) (ao : Option Addr) (k ca : Nat) (left : Int) (w : World) (h0 : (m.size : Int) ≤ left) (h : left < m.size + s.size + k) (hs : s.size ≤ 9223372036854775807) (hk : k ≤ 9223372036854775807) (hl : left ≤ 1048576) :
    Calls Tryz.prog 20 #[bv m n s (.slice ao k ca), .int .i64 left] w fun e w' => e = .returned (.int .i64 (-1)) ∧ Below w.heap.size w w' := by
  have h1 : decide ((left : Int) - (m.size : Int) < 0) = false := by simp; omega
  have ZQ := hide fun w => szQc_no n s ao k ca (left - m.size) w (by omega) (by omega) hs hk (by omega)
  have B := hide (qalloc w (.cells #[.string m, .int .i64 n, .string s, .slice ao k ca] 48))
  go_enter Tryz.func20, Tryz.ntmps20
  go_wp2_with fail
  refine (unhide ZQ _).mono ?_
  rintro e w1 ⟨rfl, b1⟩
  go_wp2
  go_ret
  exact ⟨rfl, (unhide B).trans (b1.mono (unhide B).size)⟩
/-- What szBlock answers when too much is there. -/
theorem szBlock_no (m : ByteArray) (n : Int) (s : ByteArray) (ao : Option Addr) (k ca : Nat) (left : Int) (w : World) (h0 : 0 ≤ left) (h : left < m.size + s.size + k) (hm : m.size ≤ 9223372036854775807) (hs : s.size ≤ 9223372036854775807) (hk : k ≤ 9223372036854775807) (hl : left ≤ 1048576) :
    Calls Tryz.prog 20 #[bv m n s (.slice ao k ca), .int .i64 left] w fun e w' => e = .returned (.int .i64 (-1)) ∧ Below w.heap.size w w' := by
  by_cases h1 : left < (m.size : Int)
  · exact szBlock_no1 m n s ao k ca left w h0 h1 hm hl
  · exact szBlock_no2 m n s ao k ca left w (by omega) h hs hk hl

theorem Kp.same (w : World) (X : Nat → Prop) : Kp w w X := Below.kpOf (Below.refl w.heap.size w) X
theorem Kp.put {a b : World} {X : Nat → Prop} (h : Kp a b X) {g : Nat} (hg : X g) (j : Nat) (v : Value) : Kp a (b.setCell ⟨g, j, none⟩ v) X := h.trans ((set_kp _ _ _ _).mono fun _ e => e ▸ hg)
abbrev zb : Array Value := #[.string ⟨#[]⟩, .int .i64 0, .string ⟨#[]⟩, .slice none 0 0]
theorem kp4 (w : World) (g : Nat) (a b c d : Value) : Kp w ((((w.setCell ⟨g, 0, none⟩ a).setCell ⟨g, 1, none⟩ b).setCell ⟨g, 2, none⟩ c).setCell ⟨g, 3, none⟩ d) (fun k => k = g) :=
  (((set_kp _ _ _ _).trans (set_kp _ _ _ _)).trans (set_kp _ _ _ _)).trans (set_kp _ _ _ _)
theorem Loc.set4 {w : World} {g : Nat} {x y z u : Value} (h : Loc w g #[x, y, z, u]) (a b c d : Value) : Loc ((((w.setCell ⟨g, 0, none⟩ a).setCell ⟨g, 1, none⟩ b).setCell ⟨g, 2, none⟩ c).setCell ⟨g, 3, none⟩ d) g #[a, b, c, d] :=
  (((h.set 0 a (cs' := #[a, y, z, u]) rfl).set 1 b (cs' := #[a, b, z, u]) rfl).set 2 c (cs' := #[a, b, c, u]) rfl).set 3 d (cs' := #[a, b, c, d]) rfl

set_option maxHeartbeats 1600000 in
set_option maxRecDepth 100000 in
theorem toBlock_any (m : ByteArray) (n : Int) (s : ByteArray) (a : Value) (xs : List Int) (w : World) (ha : RI w a xs) :
    Calls Tryz.prog 22 #[bv m n s a] w fun e w' => ∃ u, e = .returned (bv m n s u) ∧ OI w' w.heap.size u xs ∧ Below w.heap.size w w' := by
  obtain ⟨w0, hw0⟩ : ∃ w0, ((w.alloc (.cells #[.string m, .int .i64 n, .string s, a] 48)).alloc (.cells zb 30)).alloc (.cells #[.string m, .int .i64 0, .string ⟨#[]⟩, .slice none 0 0] 30) = w0 := ⟨_, rfl⟩
  have B0 : Below w.heap.size w w0 := hw0 ▸ ((qalloc2 _ _ _).alloc (by simp; omega) _)
  have LZ : Loc w0 (w.heap.size + 1) zb := hw0 ▸ (loc_at (w.alloc _) _ _ (by simp)).alloc _
  have LO : Loc w0 (w.heap.size + 1 + 1) #[.string m, .int .i64 0, .string ⟨#[]⟩, .slice none 0 0] := hw0 ▸ loc_at ((w.alloc _).alloc _) _ _ (by simp)
  have s0 : w0.heap.size = w.heap.size + 1 + 1 + 1 := by rw [← hw0]; simp
  have LA : Loc w0 w.heap.size #[.string m, .int .i64 n, .string s, a] := hw0 ▸ ((loc_at w _ _ rfl).alloc _).alloc _
  have a0 := LA.cell 0 rfl
  have a1 := LA.cell 1 rfl
  have a2 := LA.cell 2 rfl
  have a3 := LA.cell 3 rfl
  have TQ := hide (toQc_any n s a xs w0 (ha.below B0 (Nat.le_refl _)))
  have HZ := hide LZ
  have HO := hide LO
  clear ha LZ LO LA
  go_enter Tryz.func22, Tryz.ntmps22
  go_wp2_with fail
  clear hw0
  refine (unhide TQ).mono ?_
  rintro e w1 ⟨u, rfl, o1, b1⟩
  have B1 : Below w.heap.size w w1 := B0.trans (b1.mono B0.size)
  have Z1 := (unhide HZ).below b1 (unhide HZ).lt
  have O1 := (unhide HO).below b1 (unhide HO).lt
  have y0 := Z1.cell 0 rfl
  have y1 := Z1.cell 1 rfl
  have y2 := Z1.cell 2 rfl
  have y3 := Z1.cell 3 rfl
  have fy := Z1.frozen
  have x0 := O1.cell 0 rfl
  have x1 := O1.cell 1 rfl
  have x2 := O1.cell 2 rfl
  have x3 := O1.cell 3 rfl
  have fx := O1.frozen
  have lt1 := World.ownsRow.lt o1
  obtain ⟨ua, uc, rfl⟩ := o1.form
  have H1 := hide o1
  clear o1 b1 Z1 O1 HZ HO TQ a0 a1 a2 a3
  go_wp2
  refine bodyPost_ret (v := bv m n s (.slice ua xs.length uc)) (by simp [results, Tryz.results22, go_sem, y0, y1, y2, y3]) rfl ?_
  have K : Kp w1 _ (fun k => k = w.heap.size + 1 ∨ k = w.heap.size + 1 + 1) := (((((((Kp.same w1 _).put (g := w.heap.size + 1 + 1) (.inr rfl) 1 (.int .i64 n)).put (g := w.heap.size + 1 + 1) (.inr rfl) 2 (.string s)).put (g := w.heap.size + 1 + 1) (.inr rfl) 3 (.slice ua xs.length uc)).put (g := w.heap.size + 1) (.inl rfl) 0 (.string m)).put (g := w.heap.size + 1) (.inl rfl) 1 (.int .i64 n)).put (g := w.heap.size + 1) (.inl rfl) 2 (.string s)).put (g := w.heap.size + 1) (.inl rfl) 3 (.slice ua xs.length uc)
  exact ⟨_, rfl, ((unhide H1).kp K (fun k hk => by have := lt1 k hk; omega)).mono (by omega), Below.kp B1 K B1.size (fun k hk => by omega)⟩
end Go.Proofs.YtggmgfkmbgcooaaGreatDoor

/- Blocks: what chapter 8 answers; plain mathematics. -/
namespace Go.Proofs.YtggmgfkmbgcooaaGreatDoor
open Go.RowKit
set_option linter.unusedSectionVars false
variable [∀ (a b c d : Int), Decidable (Ok4 a b c d)]
variable [∀ (a b c d : Nat), Decidable (okN a b c d)]
variable [∀ (last : Int) (s : St), Decidable (GoodSt last s)]
variable [∀ (x : T4), Decidable (OkT x)]
variable [∀ (n : Int) (s : List Int), Decidable (OkL n s)]
variable [∀ (n f : Int), Decidable (COk n f)]

/-- BlockOk of a block of the name m on the certificate (v, s, xs). -/
def bokB (n f : Int) (m : ByteArray) (v : Int) (s : ByteArray) (xs : List Int) : Bool := qokB n f v s xs && decide (0 < heightAns m) && decide (upAns m = s)
theorem height_pos (m : ByteArray) : decide (0 < heightAns m) = ((stepsAns m).isSome && decide (m ≠ ⟨#[]⟩)) := by
  unfold heightAns
  cases e : stepsAns m with
  | none => simp
  | some ss =>
    have h := ((names_iff _ _).1 e).1
    by_cases hm : m = ⟨#[]⟩
    · subst hm
      rw [steps_nil] at e
      cases e
      simp
    · have hne : ss ≠ [] := by
        rintro rfl
        exact hm (ba_ext (by simpa [nm] using h))
      have := List.length_pos_iff.2 hne
      simp [hm]
      omega
/-- A block's view is above that of what it stands on. -/
theorem block_above {n f : Int} {m : ByteArray} {v : Int} {s : ByteArray} {xs : List Int} (h : bokB n f m v s xs = true) : v < viewAns m ∧ extB m s = true ∧ heightAns m = heightAns s + 1 := by
  unfold bokB at h
  simp only [Bool.and_eq_true, decide_eq_true_eq] at h
  obtain ⟨⟨hq, hp⟩, rfl⟩ := h
  unfold qokB at hq
  simp only [Bool.and_eq_true, decide_eq_true_eq, beq_iff_eq] at hq
  obtain ⟨⟨_, rfl⟩, _⟩ := hq
  cases e : stepsAns m with
  | none => unfold heightAns at hp; rw [e] at hp; simp at hp
  | some ss =>
    have hl : 0 < ss.length := by unfold heightAns at hp; rw [e] at hp; simpa using hp
    have hu := up_steps e
    have hne : ss ≠ [] := List.length_pos_iff.1 hl
    refine ⟨?_, (extB_iff _ _).2 (ext_up (by rw [e]; rfl)), ?_⟩
    · obtain ⟨tt, x, rfl⟩ : ∃ tt x, ss = tt ++ [x] := ⟨ss.dropLast, ss.getLast hne, (List.dropLast_concat_getLast _).symm⟩
      have ok := ((names_iff _ _).1 e).2
      have hx := (ok.2.1 x (by simp)).1.1
      have hw := ok.2.2
      rw [List.pairwise_append] at hw
      rw [List.dropLast_concat] at hu
      unfold viewAns
      rw [hu, e]
      simp only [Option.getD_some, List.getLast?_concat, Option.map_some]
      cases hg : tt.getLast? with
      | none => simp; omega
      | some y =>
        have hy : y ∈ tt := List.mem_of_getLast? hg
        have := hw.2.2 y hy x (by simp)
        simpa using this
    · unfold heightAns
      rw [hu, e]
      simp
      omega
/-- What BlockNew tells. -/
def bnewB (n f v : Int) (s : ByteArray) (xs : List Int) (view : Int) (ts : List T4) : Bool := bokB n f (nameAns s view ts) v s xs && (viewAns (nameAns s view ts) == view)
theorem bnew_has {n f v : Int} {s : ByteArray} {xs : List Int} {view : Int} {ts : List T4} (h : bnewB n f v s xs view ts = true) : bokB n f (nameAns s view ts) v s xs = true ∧ viewAns (nameAns s view ts) = view ∧ upAns (nameAns s view ts) = s := by
  unfold bnewB at h
  simp only [Bool.and_eq_true, beq_iff_eq] at h
  refine ⟨h.1, h.2, ?_⟩
  have := h.1
  unfold bokB at this
  simp only [Bool.and_eq_true, decide_eq_true_eq] at this
  exact this.2
/-- Two blocks held against each other. -/
def bsameB (m m' : ByteArray) (v v' : Int) (s s' : ByteArray) (xs xs' : List Int) : Bool := decide (m = m') && alikeB v v' s s' xs xs'
end Go.Proofs.YtggmgfkmbgcooaaGreatDoor

/- A block that came in. -/
namespace Go.Proofs.YtggmgfkmbgcooaaGreatDoor
open Go.ChangeShapes Go.WideShapes Go.ChangeAt Go.RowKit
open Go.Joins
set_option linter.unusedSectionVars false
variable [∀ (a b c d : Int), Decidable (Ok4 a b c d)]
variable [∀ (n f : Int), Decidable (COk n f)]

set_option maxRecDepth 100000 in
theorem cellsBlock : Tryz.prog.cellsOf 48 = 4 := by kernel_rfl
theorem cellsStr : Tryz.prog.cellsOf 9 = 1 := by kernel_rfl
theorem cellsInt : Tryz.prog.cellsOf 3 = 1 := by kernel_rfl
theorem cellsInts : Tryz.prog.cellsOf 26 = 1 := by kernel_rfl
set_option maxRecDepth 100000 in
theorem open_block {H : Type} {enc : TypeId × Value → H} {W : World} {base : Nat} {v : Value} {d : DataW H} {p : List MemPlace} (hv : Value.okWide Tryz.prog W .any base 48 v)
    (h : DataW.Trod enc Tryz.prog W 0 (fun _ => true) true 48 v d p) :
    ∃ m n s ao ca, ∃ xs : List Int, v = bv m n s (.slice ao xs.length ca) ∧ m.size ≤ maxLen ∧ s.size ≤ maxLen ∧ xs.length ≤ maxLen ∧ AIW W ao xs ∧ WfL xs := by
  obtain ⟨cs, rfl, hsz⟩ := okWide_struct Tryz.underlying48 hv
  obtain ⟨c0, c1, c2, c3, rfl⟩ := array4 (hsz.trans cellsBlock)
  obtain ⟨fuel, hf⟩ := h
  obtain ⟨y0, y1, k, _, _, h0, h1⟩ := trod_struct2 Tryz.underlying48 hf
  have h0' : DataW.trod enc Tryz.prog W 0 (fun _ => true) true k 9 [c0] = some y0 := by simpa [Value.cells, cellsStr] using h0
  have h1' : DataW.trod enc Tryz.prog W 0 (fun _ => true) true k 46 [c1, c2, c3] = some y1 := by simpa [Value.cells, cellsQc] using h1
  obtain ⟨z0, z1, z2, j, _, _, g0, g1, g2⟩ := Go.Deep.trod_struct3 Tryz.underlying46 h1'
  have g0' : DataW.trod enc Tryz.prog W 0 (fun _ => true) true j 3 [c1] = some z0 := by simpa [cellsInt] using g0
  have g1' : DataW.trod enc Tryz.prog W 0 (fun _ => true) true j 9 [c2] = some z1 := by simpa [cellsStr] using g1
  have g2' : DataW.trod enc Tryz.prog W 0 (fun _ => true) true j 26 [c3] = some z2 := by simpa [cellsInts] using g2
  obtain ⟨m, e0, _, hm⟩ := DataW.trod_string Tryz.underlying9 h0'
  obtain ⟨a, e1, _, _⟩ := DataW.trod_int Tryz.underlying3 g0'
  obtain ⟨s, e2, _, hs⟩ := DataW.trod_string Tryz.underlying9 g1'
  obtain ⟨ao, ca, xs, rfl, hx, ax, wx⟩ := open_listW g2'
  simp at e0 e1 e2
  exact ⟨m, a, s, ao, ca, xs, by rw [e0, e1, e2], hm, hs, hx, ax, wx⟩
end Go.Proofs.YtggmgfkmbgcooaaGreatDoor
