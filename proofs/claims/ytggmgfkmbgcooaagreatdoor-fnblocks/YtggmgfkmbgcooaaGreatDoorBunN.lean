/- Texts that belong together: ContainsTx, Builder, TxsTextImpl, ImplNameOf. -/
import Derived.Test.YtggmgfkmbgcooaaGreatDoorBunA
import Derived.Test.YtggmgfkmbgcooaaGreatDoorShelfBuilder
import Derived.Test.YtggmgfkmbgcooaaGreatDoorBunD
import Derived.Lib.Builder
import Derived.Lib.AppendStr
import Derived.Test.YtggmgfkmbgcooaaGreatDoorBunG
import Derived.Test.YtggmgfkmbgcooaaGreatDoorBunK
/- slices.ContainsFunc at notTx. -/
namespace Go.Proofs.YtggmgfkmbgcooaaGreatDoor
open Go.RowKit
set_option linter.unusedSectionVars false
variable [∀ (a b c d : Int), Decidable (Ok4 a b c d)]

abbrev z4 : T4 := (0, 0, 0, 0)
def AllOk (ts : List T4) : Prop := ∀ k, k < ts.length → Ok4 (ts.getD k z4).1 (ts.getD k z4).2.1 (ts.getD k z4).2.2.1 (ts.getD k z4).2.2.2
variable [∀ (ts : List T4), Decidable (AllOk ts)]
/-- The four cells of the k-th payment. -/
def Cells4K (w : World) (g k : Nat) (t : T4) : Prop := w.cell? ⟨g, k * 4, none⟩ = some (.int .i64 t.1) ∧ w.cell? ⟨g, k * 4 + 1, none⟩ = some (.int .i64 t.2.1) ∧ w.cell? ⟨g, k * 4 + 2, none⟩ = some (.int .i64 t.2.2.1) ∧ w.cell? ⟨g, k * 4 + 3, none⟩ = some (.int .i64 t.2.2.2)
theorem RT.at {w : World} {ao : Option Addr} {n ca : Nat} {xs : List T4} (h : RT w (.slice ao n ca) xs) (k : Nat) (hk : k < xs.length) : ∃ g, ao = some ⟨g, 0, none⟩ ∧ Cells4K w g k (xs.getD k z4) := by
  obtain ⟨_, ao', ca', e, h⟩ := h
  cases e
  rcases h with rfl | ⟨g, rfl, h⟩
  · simp at hk
  · exact ⟨g, rfl, h k hk⟩
theorem RT.form {w : World} {v : Value} {xs : List T4} (h : RT w v xs) : ∃ ao ca, v = .slice ao xs.length ca := by obtain ⟨_, ao, ca, e, _⟩ := h; exact ⟨ao, ca, e⟩
theorem Cells4K.below {w w' : World} {B g k : Nat} {t : T4} (h : Cells4K w g k t) (hb : Below B w w') (hg : w.heap.size ≤ B) : Cells4K w' g k t := by
  have hl : g < B := Nat.lt_of_lt_of_le (cell_lt h.1) hg
  exact ⟨(hb.cell (p := ⟨g, k * 4, none⟩) hl).trans h.1, (hb.cell (p := ⟨g, k * 4 + 1, none⟩) hl).trans h.2.1, (hb.cell (p := ⟨g, k * 4 + 2, none⟩) hl).trans h.2.2.1, (hb.cell (p := ⟨g, k * 4 + 3, none⟩) hl).trans h.2.2.2⟩

set_option maxHeartbeats 400000 in
set_option maxRecDepth 100000 in
theorem notTx_any (a b c d : Int) (w : World) :
    Calls Tryz.prog 76 #[txv a b c d] w fun e w' => e = .returned (.bool (!decide (Ok4 a b c d))) ∧ Below w.heap.size w w' := by
  have TO := hide fun w => implTxOk a b c d w
  generalize decide (Ok4 a b c d) = q at *
  go_enter Tryz.func76, Tryz.ntmps76
  go_wp2_with (first | (go_at_call 108; refine (unhide TO _).mono ?_; rintro e w' ⟨rfl, bb⟩))
  go_ret
  exact ⟨rfl, ((Below.refl _ _).alloc (Nat.le_refl _) _).trans (bb.mono (by simp))⟩

set_option maxHeartbeats 1600000 in
set_option maxRecDepth 100000 in
theorem index_any (v : Value) (ts : List T4) (w : World) (h : RT w v ts) :
    Calls Tryz.prog 107 #[v, .func (.func 76) #[] #[]] w fun e w' => ∃ i : Int, e = .returned (.int .i64 i) ∧ (0 ≤ i ↔ ¬ AllOk ts) ∧ Below w.heap.size w w' := by
  obtain ⟨ao, ca, rfl⟩ := h.form
  have hl := h.1
  have H := hide h
  obtain ⟨n, hn⟩ : ∃ n, ts.length = n := ⟨_, rfl⟩
  have Hn := hide hn
  rw [hn] at hl H ⊢
  clear h hn
  go_enter Tryz.func107, Tryz.ntmps107
  go_wp2
  go_loopw [8] (fun i wr => ∃ k : Nat, k ≤ n ∧ i = .int .i64 k ∧ Hid (∀ j, j < k → Ok4 (ts.getD j z4).1 (ts.getD j z4).2.1 (ts.getD j z4).2.2.1 (ts.getD j z4).2.2.2) ∧ Below w.heap.size w wr) (fun i _ => n - (intOf i).toNat)
  case atStart => exact ⟨0, Nat.zero_le _, rfl, hide (fun j hj => absurd hj (Nat.not_lt_zero j)), Below.refl _ _⟩
  case round =>
    obtain ⟨k, hk, rfl, HA, br⟩ := hrel
    by_cases hlt : k < n
    · obtain ⟨g, rfl, hc⟩ := (unhide H).at k (by rw [unhide Hn]; exact hlt)
      obtain ⟨c0, c1, c2, c3⟩ := hc.below br (Nat.le_refl _)
      have NT := hide fun w => notTx_any (ts.getD k z4).1 (ts.getD k z4).2.1 (ts.getD k z4).2.2.1 (ts.getD k z4).2.2.2 w
      have HS := hide fun (h : Ok4 (ts.getD k z4).1 (ts.getD k z4).2.1 (ts.getD k z4).2.2.1 (ts.getD k z4).2.2.2) => (show ∀ j, j < k + 1 → Ok4 (ts.getD j z4).1 (ts.getD j z4).2.1 (ts.getD j z4).2.2.1 (ts.getD j z4).2.2.2 from fun j hj => by
        by_cases e : j = k
        · rw [e]; exact h
        · exact unhide HA j (by omega))
      have HN : Hid (¬ Ok4 (ts.getD k z4).1 (ts.getD k z4).2.1 (ts.getD k z4).2.2.1 (ts.getD k z4).2.2.2 → ¬ AllOk ts) := hide fun h ha => h (ha k (by rw [unhide Hn]; exact hlt))
      clear HA hc
      generalize ts.getD k z4 = x at *
      obtain ⟨xa, xb, xc, xd⟩ := x
      dsimp only at c0 c1 c2 c3 NT HS HN
      by_cases ho : Ok4 xa xb xc xd
      · rw [decide_eq_true ho] at NT
        have HS := hide (unhide HS ho)
        clear HN ho
        go_wp2_with (first | (go_at_call 76; refine (unhide NT _).mono ?_; rintro e w2 ⟨rfl, b2⟩))
        go_roundw
        case rel => exact ⟨k + 1, by omega, by go_num, HS, br.trans (b2.mono br.size)⟩
        case measure => simp [intOf]; omega
      · rw [decide_eq_false ho] at NT
        have HN := hide (unhide HN ho)
        clear HS ho
        go_wp2_with (first | (go_at_call 76; refine (unhide NT _).mono ?_; rintro e w2 ⟨rfl, b2⟩))
        go_ret
        exact ⟨k, rfl, ⟨fun _ => unhide HN, fun _ => by omega⟩, br.trans (b2.mono br.size)⟩
    · have hkn : k = n := by omega
      have HN : Hid (AllOk ts) := hide fun j hj => unhide HA j (by have := unhide Hn; omega)
      clear HA
      subst hkn
      go_wp2
      go_ret
      exact ⟨-1, rfl, ⟨fun h => by omega, fun h => absurd (unhide HN) h⟩, br⟩

set_option maxHeartbeats 400000 in
set_option maxRecDepth 100000 in
theorem contains_any (v : Value) (ts : List T4) (w : World) (h : RT w v ts) :
    Calls Tryz.prog 75 #[v, .func (.func 76) #[] #[]] w fun e w' => e = .returned (.bool (!decide (AllOk ts))) ∧ Below w.heap.size w w' := by
  have IX := hide fun w h => index_any v ts w h
  have H := hide h
  obtain ⟨ao, ca, rfl⟩ := h.form
  clear h
  go_enter Tryz.func75, Tryz.ntmps75
  go_wp2_with fail
  refine (unhide IX _ (unhide H)).mono ?_
  rintro e w2 ⟨i, rfl, hi, b2⟩
  have HI := hide hi
  clear hi
  go_wp2
  go_ret
  refine ⟨?_, b2⟩
  have e : decide (0 ≤ i) = !decide (AllOk ts) := by
    by_cases hA : AllOk ts
    · rw [decide_eq_true hA, decide_eq_false (fun h => (unhide HI).1 h hA)]; rfl
    · rw [decide_eq_false hA, decide_eq_true ((unhide HI).2 hA)]; rfl
  rw [← e]; rfl
end Go.Proofs.YtggmgfkmbgcooaaGreatDoor

/- strings.Builder at this program: what WriteByte and WriteString do to a builder of the call's own. -/
namespace Go.Proofs.YtggmgfkmbgcooaaGreatDoor
open Go.RowKit

abbrev BT : TypeId := 122
theorem Tryz.infoB : (Tryz.prog.info? 122).map (fun i => (i.zero, i.size, i.bytes)) = some (some (.agg #[.pointer none, .slice none 0 0]), 2, 32) := by kernel_rfl
theorem liesB : liesAt Tryz.prog Tryz.prog.depth 122 (2 / Tryz.prog.cellsOf 122) 0 122 1 = true := by kernel_rfl

set_option maxHeartbeats 1000000 in
set_option maxRecDepth 100000 in
theorem check_used (b : Nat) (w : World) (h0 : w.cell? ⟨b, 0, none⟩ = some (.pointer (some ⟨b, 0, none⟩))) :
    Calls Tryz.prog 126 #[.pointer (some ⟨b, 0, none⟩)] w fun e w' => e = .returned (.tuple #[]) ∧ w' = w := by
  obtain ⟨j, hj, _⟩ := info_parts Tryz.infoB
  have hq := Lib.run_neq_ptr_same (P := Tryz.prog) w (⟨b, 0, none⟩ : Addr) Tryz.underlying120 hj
  go_enter Tryz.func126, Tryz.ntmps126
  go_wp2
  go_end0
  exact ⟨rfl, rfl⟩

set_option maxHeartbeats 1000000 in
set_option maxRecDepth 100000 in
theorem check_new (b : Nat) (w : World) (h0 : w.cell? ⟨b, 0, none⟩ = some (.pointer none)) (hsh : w.shape? b = some (122, 2)) (hfz : w.frozen? ⟨b, 0, none⟩ = false) :
    Calls Tryz.prog 126 #[.pointer (some ⟨b, 0, none⟩)] w fun e w' => e = .returned (.tuple #[]) ∧ w' = w.setCell ⟨b, 0, none⟩ (.pointer (some ⟨b, 0, none⟩)) := by
  obtain ⟨j, hj, _, hjs, _⟩ := info_parts Tryz.infoB
  have hlt : b < w.heap.size := cell_lt h0
  have k1 := Lib.run_to_unsafe (P := Tryz.prog) w (⟨b, 0, none⟩ : Addr) Tryz.underlying120 Tryz.underlying163 hj (by rw [hjs]; decide) hsh (show 0 < 2 by decide)
  have k2 : ∀ x : Value, (callFunc 139 #[x]).run Tryz.prog w = .ok (.value x) w := fun x => by
    rw [run_callFunc_extern Tryz.func139 (by kernel_rfl) (by kernel_rfl) (by kernel_rfl) (e := Extern.AbiNoEscape.same) (by kernel_rfl), Lib.run_noEscape]; rfl
  have k3 := Lib.run_from_unsafe (P := Tryz.prog) w (⟨b, 0, none⟩ : Addr) Tryz.underlying163 Tryz.underlying120 hj hsh liesB
  have hq := Lib.run_neq_ptr_same (P := Tryz.prog) (w.setCell ⟨b, 0, none⟩ (.pointer (some ⟨b, 0, none⟩))) (⟨b, 0, none⟩ : Addr) Tryz.underlying120 hj
  have hc := World.cell?_setCell_same w ⟨b, 0, none⟩ (.pointer (some ⟨b, 0, none⟩)) h0
  go_enter Tryz.func126, Tryz.ntmps126
  go_wp2
  go_end0
  exact ⟨rfl, rfl⟩

theorem check_any (B b : Nat) (bs : List Value) (w : World) (h : Lib.IsBuilder 122 5 B b bs w) :
    Calls Tryz.prog 126 #[.pointer (some ⟨b, 0, none⟩)] w fun e w' => e = .returned (.tuple #[]) ∧ Lib.BuilderAt 122 5 B b (.pointer (some ⟨b, 0, none⟩)) bs w' ∧ Below B w w' := by
  rcases h with h | h
  · refine (check_new b w h.cell0 h.shape h.frozen0).mono ?_
    rintro e w' ⟨rfl, rfl⟩
    exact ⟨rfl, h.used _, (Below.refl B w).setCell (p := ⟨b, 0, none⟩) h.1 _⟩
  · refine (check_used b w h.cell0).mono ?_
    rintro e w' ⟨rfl, rfl⟩
    exact ⟨rfl, h, Below.refl B _⟩
theorem own_slice {w : World} {B : Nat} {e : TypeId} {k : Nat} {v : Value} {n : Nat} {xs : List Value} (h : w.ownsRow B e k v n xs) (hn : 0 < n) : ∃ g cap, v = .slice (some ⟨g, 0, none⟩) n cap := by
  rcases h.2 with ⟨_, h0⟩ | ⟨g, cap, cur, hv, _⟩
  · omega
  · exact ⟨g, cap, hv⟩
/-- What is left of a builder when its buffer has grown. -/
theorem b_block {w1 w2 : World} {b : Nat} {v p : Value} (hbk : w1.heap[b]? = some (.cells #[p, v] 122 (0, 0))) (hg : w1.grownBy w2 v.ownBlock) (hne : v.ownBlock ≠ some b) : w2.heap[b]? = some (.cells #[p, v] 122 (0, 0)) := by
  have hlt : b < w1.heap.size := (Array.getElem?_eq_some_iff.1 hbk).1
  rw [hg.block b hlt (fun e => hne e.symm)]; exact hbk

set_option maxHeartbeats 2000000 in
set_option maxRecDepth 100000 in
theorem writeByte (B b : Nat) (bs : List Value) (c : Int) (w : World) (h : Lib.IsBuilder 122 5 B b bs w) (hlen : bs.length ≤ 1000000000) (hBw : B ≤ w.heap.size) :
    Calls Tryz.prog 104 #[.pointer (some ⟨b, 0, none⟩), .int .u8 c] w fun e w' => e = .returned .nilIface ∧ Lib.BuilderAt 122 5 B b (.pointer (some ⟨b, 0, none⟩)) (bs ++ [.int .u8 c]) w' ∧ Below B w w' := by
  obtain ⟨i0, hi, hz0, hz1, hz2⟩ := info_parts Tryz.info5
  go_enter Tryz.func104, Tryz.ntmps104
  go_wp2_with fail
  refine (check_any B b bs _ h).mono ?_
  rintro e w1 ⟨rfl, ⟨hB, v, hbk, hown, hne⟩, b1⟩
  have s1 := b1.size
  have c1 : w1.cell? ⟨b, 1, none⟩ = some v := by rw [Lib.cell_of_heap hbk]; rfl
  have hba : (w1.alloc (.cells #[.int .u8 c] 5)).heap[b]? = some (.cells #[.pointer (some ⟨b, 0, none⟩), v] 122 (0, 0)) := by
    rw [Lib.alloc_old w1 _ b (Array.getElem?_eq_some_iff.1 hbk).1]; exact hbk
  clear h
  go_wp2_with (first
    | (at_builtin; refine wpList_append_own _ rfl _ _ 22 rfl B 5 i0 (.int .u8 0) 1 1 Tryz.underlying22 hi hz0 hz1 hz2 rfl (by decide) _ _ _ rfl (hown.alloc _) ⟨w1.heap.size, 0, none⟩ 1 1 [.int .u8 c] rfl rfl (one_cell _ _ _) (one_plain _ _) (by unfold maxLen; omega) (by omega) (by simp; omega) ?_; intro v' w2 ho' hg' _; have hb2 := b_block hba hg' hne; have d1 : w2.cell? ⟨b, 1, none⟩ = some v := (by rw [Lib.cell_of_heap hb2]; rfl); have f1 := Lib.frozen_of_heap hb2 1; have be := (b1.alloc (by omega) (.cells #[.int .u8 c] 5)).grown hg' (by simp; omega) (fun k hk => (hown.lt k hk).1); obtain ⟨g, cap, rfl⟩ := own_slice ho' (by omega); clear hg' hown hba hbk c1))
  go_ret
  exact ⟨rfl, Lib.BuilderAt.put hB hb2 (bs' := bs ++ [.int .u8 c]) (by simpa using ho') (by decide), be.setCell (p := ⟨b, 1, none⟩) hB _⟩

set_option maxHeartbeats 2000000 in
set_option maxRecDepth 100000 in
theorem writeString (B b : Nat) (bs : List Value) (s : ByteArray) (w : World) (h : Lib.IsBuilder 122 5 B b bs w) (hlen : bs.length ≤ 1000000000) (hs : s.size ≤ 1000000000) (hs0 : 0 < s.size) (hBw : B ≤ w.heap.size) :
    Calls Tryz.prog 105 #[.pointer (some ⟨b, 0, none⟩), .string s] w fun e w' => e = .returned (.tuple #[.int .i64 s.size, .nilIface]) ∧ Lib.BuilderAt 122 5 B b (.pointer (some ⟨b, 0, none⟩)) (bs ++ Lib.strCells s) w' ∧ Below B w w' := by
  obtain ⟨i0, hi, hz0, hz1, hz2⟩ := info_parts Tryz.info5
  go_enter Tryz.func105, Tryz.ntmps105
  go_wp2_with fail
  refine (check_any B b bs _ h).mono ?_
  rintro e w1 ⟨rfl, ⟨hB, v, hbk, hown, hne⟩, b1⟩
  have s1 := b1.size
  have c1 : w1.cell? ⟨b, 1, none⟩ = some v := by rw [Lib.cell_of_heap hbk]; rfl
  clear h
  go_wp2_with (first
    | (at_builtin; refine Lib.wpList_append_own_string _ rfl _ _ 22 9 rfl B 5 i0 Tryz.underlying22 Tryz.underlying9 hi hz0 hz1 hz2 _ _ _ rfl hown s rfl (by unfold maxLen; omega) (by omega) (by omega) ?_; intro v' w2 ho' hg' _; have hb2 := b_block hbk hg' hne; have d1 : w2.cell? ⟨b, 1, none⟩ = some v := (by rw [Lib.cell_of_heap hb2]; rfl); have f1 := Lib.frozen_of_heap hb2 1; have be := b1.grown hg' (by omega) (fun k hk => (hown.lt k hk).1); obtain ⟨g, cap, rfl⟩ := own_slice ho' (by omega); clear hg' hown hbk c1))
  go_ret2
  exact ⟨rfl, Lib.BuilderAt.put hB hb2 (bs' := bs ++ Lib.strCells s) (by simpa [Lib.strCells_length] using ho') (by decide), be.setCell (p := ⟨b, 1, none⟩) hB _⟩
theorem bat_below {w w' : World} {B b : Nat} {p : Value} {bs : List Value} (h : Lib.BuilderAt 122 5 B b p bs w) (hb : Below w.heap.size w w') : Lib.BuilderAt 122 5 B b p bs w' := by
  have hlt := h.lt
  obtain ⟨hB, v, hbk, hown, hne⟩ := h
  exact ⟨hB, v, (hb.block b hlt).trans hbk, World.ownsRow.kept (row := none) hown ⟨hb.os, hb.tape, hb.output, hb.size, fun k hk _ => hb.block k hk⟩ (by cases v.ownBlock <;> simp), hne⟩
theorem isb_below {w w' : World} {B b : Nat} {bs : List Value} (h : Lib.IsBuilder 122 5 B b bs w) (hb : Below w.heap.size w w') : Lib.IsBuilder 122 5 B b bs w' :=
  h.elim (fun x => .inl (bat_below x hb)) (fun x => .inr (bat_below x hb))
theorem isb_new (w : World) : Lib.IsBuilder 122 5 w.heap.size w.heap.size [] (w.alloc (.cells #[.pointer none, .slice none 0 0] 122)) :=
  .inl ⟨Nat.le_refl _, .slice none 0 0, heap_alloc_new w _, World.ownsRow_nil _ _ _ _, by simp [Value.ownBlock]⟩
end Go.Proofs.YtggmgfkmbgcooaaGreatDoor

/- impl.TxsText: what it answers. -/
namespace Go.Proofs.YtggmgfkmbgcooaaGreatDoor
open Go.RowKit
set_option linter.unusedSectionVars false
variable [∀ (a b c d : Int), Decidable (Ok4 a b c d)]
variable [∀ (a b c d : Nat), Decidable (okN a b c d)]
variable [∀ (x : T4), Decidable (OkT x)]

theorem strCells_bytes (s : ByteArray) : Lib.strCells s = Lib.byteCells s.data.toList := by simp [Lib.strCells, Lib.byteCells]
theorem byteCells_app (x y : List UInt8) : Lib.byteCells x ++ Lib.byteCells y = Lib.byteCells (x ++ y) := by simp [Lib.byteCells]
theorem byteCells_len (x : List UInt8) : (Lib.byteCells x).length = x.length := by simp [Lib.byteCells]

set_option maxHeartbeats 4000000 in
set_option maxRecDepth 100000 in
theorem implTxsText (v : Value) (xs : List T4) (w : World) (hx : xs.length ≤ 1048577) (h : RT w v xs) (ht : Pow w) :
    Calls Tryz.prog 74 #[v] w fun e w' => e = .returned (.string (txsT xs)) ∧ Below w.heap.size w w' := by
  obtain ⟨hl, ao, ca, rfl, ha⟩ := h
  have HT := hide ht
  clear ht
  go_enter Tryz.func74, Tryz.ntmps74
  go_wp2
  go_loopw [9] (fun i wr => ∃ k : Nat, k ≤ xs.length ∧ i = .int .i64 k ∧ Hid (Lib.IsBuilder 122 5 w.heap.size w.heap.size (Lib.byteCells (accT xs k)) wr) ∧ Hid (∀ j, j < k → OkT (xs.getD j (0, 0, 0, 0))) ∧ Below w.heap.size w wr ∧ w.heap.size + 1 ≤ wr.heap.size) (fun i _ => xs.length - (intOf i).toNat)
  case atStart => exact ⟨0, Nat.zero_le _, rfl, hide (isb_new w), hide (fun j hj => by omega), (Below.refl _ _).alloc (Nat.le_refl _) _, by simp⟩
  case round =>
    obtain ⟨k, hk, rfl, HB, HK, br, hsz⟩ := hrel
    by_cases hlt : k < xs.length
    · rcases ha with ha | ⟨g, rfl, ha⟩
      · subst ha; simp at hlt
      obtain ⟨a0, a1, a2, a3⟩ := ha k hlt
      have hg : g < w.heap.size := cell_lt a0
      have c0 := (br.cell (p := ⟨g, k * 4, none⟩) hg).trans a0
      have c1 := (br.cell (p := ⟨g, k * 4 + 1, none⟩) hg).trans a1
      have c2 := (br.cell (p := ⟨g, k * 4 + 2, none⟩) hg).trans a2
      have c3 := (br.cell (p := ⟨g, k * 4 + 3, none⟩) hg).trans a3
      have hal := accT_len xs k
      have hts := txT_size (xs.getD k (0, 0, 0, 0))
      have HS : Hid (accT xs (k + 1) = (if 0 < k then accT xs k ++ [44] else accT xs k) ++ (txT (xs.getD k (0, 0, 0, 0))).data.toList) := rfl
      have HNO := hide (fun h => txsT_no hlt h)
      clear ha a0 a1 a2 a3
      generalize hxk : xs.getD k (0, 0, 0, 0) = x at *
      obtain ⟨xa, xb, xc, xd⟩ := x
      simp only at c0 c1 c2 c3
      have CT := hide fun w ht => implTxText xa xb xc xd w ht
      have htx : txT (xa, xb, xc, xd) = txt xa xb xc xd := rfl
      have ba : Below w.heap.size w (wr.alloc (.cells #[.int .i64 xa, .int .i64 xb, .int .i64 xc, .int .i64 xd] 90)) := br.alloc (by omega) _
      have bA : Below wr.heap.size wr (wr.alloc (.cells #[.int .i64 xa, .int .i64 xb, .int .i64 xc, .int .i64 xd] 90)) := (Below.refl _ _).alloc (Nat.le_refl _) _
      by_cases hok : OkT (xa, xb, xc, xd)
      · have hne := txT_ne hok
        rw [htx] at hne HS hts
        have HK' : Hid (∀ j, j < k + 1 → OkT (xs.getD j (0, 0, 0, 0))) := fun j hj => by
          by_cases e : j = k
          · subst e; rw [hxk]; exact hok
          · exact HK.out j (by omega)
        clear htx HK HNO hok hxk
        generalize txt xa xb xc xd = t at *
        have hn1 := str_ne hne
        have hn2 := ne2 hne
        have hts0 : 0 < t.size := by
          rcases Nat.eq_zero_or_pos t.size with h0 | h0
          · exact absurd (ByteArray.ext (Array.eq_empty_of_size_eq_zero h0)) hne
          · exact h0
        go_wp2_with fail
        refine (unhide CT _ ((unhide HT).below ba)).mono ?_
        rintro e w1 ⟨rfl, b1⟩
        have b1' := ba.trans (b1.mono ba.size)
        have s1 := b1.size
        have bw : Below wr.heap.size wr w1 := bA.trans (b1.mono bA.size)
        have B1 := hide (isb_below HB.out bw)
        have hs1 : w.heap.size + 1 ≤ w1.heap.size := by have := bw.size; omega
        by_cases hk0 : 0 < k
        · go_wp2_with fail
          refine (writeByte _ _ _ 44 _ (unhide B1) (by rw [byteCells_len]; omega) (by omega)).mono ?_
          rintro e w2 ⟨rfl, B2, b2⟩
          have s2 := b2.size
          have b2' := b1'.trans b2
          have B2' := hide B2
          clear B2
          go_wp2_with fail
          refine (writeString _ _ _ t _ (.inr (unhide B2')) (by simp only [List.length_append, byteCells_len, List.length_cons, List.length_nil]; omega) (by omega) hts0 (by omega)).mono ?_
          rintro e w3 ⟨rfl, B3, b3⟩
          have s3 := b3.size
          have b3' := b2'.trans b3
          have B3' : Hid (Lib.IsBuilder 122 5 w.heap.size w.heap.size (Lib.byteCells (accT xs (k + 1))) w3) := by
            show Lib.IsBuilder _ _ _ _ _ _
            rw [unhide HS, if_pos hk0, ← byteCells_app, ← byteCells_app, ← strCells_bytes]
            exact .inr B3
          clear B3 HS
          go_wp2
          go_roundw
          case rel => exact ⟨k + 1, by omega, by go_num, B3', HK', b3', by omega⟩
          case measure => simp [intOf]; omega
        · go_wp2_with fail
          refine (writeString _ _ _ t _ (unhide B1) (by rw [byteCells_len]; omega) (by omega) hts0 (by omega)).mono ?_
          rintro e w3 ⟨rfl, B3, b3⟩
          have s3 := b3.size
          have b3' := b1'.trans b3
          have B3' : Hid (Lib.IsBuilder 122 5 w.heap.size w.heap.size (Lib.byteCells (accT xs (k + 1))) w3) := by
            show Lib.IsBuilder _ _ _ _ _ _
            rw [unhide HS, if_neg hk0, ← byteCells_app, ← strCells_bytes]
            exact .inr B3
          clear B3 HS
          go_wp2
          go_roundw
          case rel => exact ⟨k + 1, by omega, by go_num, B3', HK', b3', by omega⟩
          case measure => simp [intOf]; omega
      · have HN := hide ((unhide HNO) hok)
        have hte := txT_no hok
        rw [htx] at hte
        rw [hte] at CT
        clear HNO HK HS hok hte htx
        go_wp2_with fail
        refine (unhide CT _ ((unhide HT).below ba)).mono ?_
        rintro e w1 ⟨rfl, b1⟩
        go_wp2
        go_ret
        exact ⟨by rw [unhide HN]; rfl, ba.trans (b1.mono ba.size)⟩
    · have hkn : k = xs.length := by omega
      have HY : Hid (txsT xs = toB (accT xs k)) := by rw [hkn]; rw [hkn] at HK; exact txsT_yes HK.out
      clear HK ha
      go_wp2_with fail
      refine (Tryz.Builder_String_any _ _ _ _ HB.out (by omega)).mono ?_
      rintro e w1 ⟨rfl, b1⟩
      have b1' := br.trans b1
      have HY' : Hid (txsT xs = (⟨(accT xs k).toArray⟩ : ByteArray)) := HY
      generalize (⟨(accT xs k).toArray⟩ : ByteArray) = ok at *
      go_wp2
      go_ret
      exact ⟨by rw [HY'.out]; rfl, b1'⟩
end Go.Proofs.YtggmgfkmbgcooaaGreatDoor

/- impl.NameOf. -/
namespace Go.Proofs.YtggmgfkmbgcooaaGreatDoor
open Go.RowKit
set_option linter.unusedSectionVars false
variable [∀ (a b c d : Int), Decidable (Ok4 a b c d)]
variable [∀ (a b c d : Nat), Decidable (okN a b c d)]
variable [∀ (last : Int) (s : St), Decidable (GoodSt last s)]
variable [∀ (x : T4), Decidable (OkT x)]
variable [∀ (ts : List T4), Decidable (AllOk ts)]

theorem allOk_iff (ts : List T4) : AllOk ts ↔ ∀ x ∈ ts, OkT x := by
  constructor
  · intro h x hx
    obtain ⟨j, hj, rfl⟩ := List.getElem_of_mem hx
    have := h j hj
    rwa [List.getD_eq_getElem?_getD, List.getElem?_eq_getElem hj] at this
  · intro h k hk
    have := h _ (List.getElem_mem hk)
    rw [List.getD_eq_getElem?_getD, List.getElem?_eq_getElem hk]
    exact this

set_option maxHeartbeats 8000000 in
set_option maxRecDepth 100000 in
theorem implNameOf (up : ByteArray) (view : Int) (v : Value) (xs : List T4) (w : World) (hu : up.size + xs.length * 28 + 100 ≤ 33554432) (hx : xs.length ≤ 1048577) (h0 : -9223372036854775808 ≤ view) (h1 : view ≤ 9223372036854775807) (h : RT w v xs) (hE : Env w) :
    Calls Tryz.prog 42 #[.string up, .int .i64 view, v] w fun e w' => e = .returned (.string (nameAns up view xs)) ∧ Below w.heap.size w w' := by
  have DG := hide fun w hE => implDigits_any view w (by omega) (by omega) (Env.pow hE)
  have TT := hide fun w h hE => implTxsText v xs w (by omega) h (Env.pow hE)
  have CF := hide fun w h => contains_any v xs w h
  have NO := hide fun w hE => implNameOk (toB (nmOut up view xs)) w (by
    have := itoa_short view h0 h1
    have := txsT_len xs
    rw [toB_size]; unfold nmOut
    simp only [List.length_append, List.length_cons, Array.length_toList, ByteArray.size_data]
    omega) hE
  have NA : nameAns up view xs = if decide (AllOk xs) = true ∧ (stepsAns (toB (nmOut up view xs))).isSome = true then toB (nmOut up view xs) else ⟨#[]⟩ := by
    unfold nameAns
    by_cases ha : AllOk xs
    · rw [decide_eq_true ha]
      by_cases hq : (stepsAns (toB (nmOut up view xs))).isSome = true
      · rw [if_pos ⟨(allOk_iff xs).1 ha, hq⟩, if_pos ⟨rfl, hq⟩]
      · rw [if_neg fun e => hq e.2, if_neg fun e => hq e.2]
    · rw [decide_eq_false ha, if_neg fun e => ha ((allOk_iff xs).2 e.1), if_neg fun e => by cases e.1]
  rw [NA]
  have EQ : up ++ (⟨#[47]⟩ : ByteArray) ++ (⟨(Lib.itoa view).toArray⟩ : ByteArray) ++ (⟨#[124]⟩ : ByteArray) ++ txsT xs = toB (nmOut up view xs) := by
    apply ba_ext
    rw [toB_list]
    simp [nmOut, ByteArray.data_append]
  have hd : (⟨(Lib.itoa view).toArray⟩ : ByteArray).size ≤ 21 := by
    have := itoa_short view h0 h1
    simpa [ByteArray.size] using this
  have hts := txsT_len xs
  obtain ⟨ao, ca, rfl⟩ := h.form
  have RTH := hide h
  clear h NA
  generalize toB (nmOut up view xs) = z at *
  generalize (⟨(Lib.itoa view).toArray⟩ : ByteArray) = d at *
  generalize txsT xs = tt at *
  generalize (stepsAns z).isSome = b at *
  generalize decide (AllOk xs) = c at *
  generalize xs.length = len at *
  have q0 : ∀ w, (Op.stringOp .add up (⟨#[47]⟩ : ByteArray)).run Tryz.prog w = .ok (.string (up ++ (⟨#[47]⟩ : ByteArray))) w := fun w => run_string_add_sum w _ _ (by show up.size + 1 ≤ _; omega)
  have q1 : ∀ w, (Op.stringOp .add (up ++ (⟨#[47]⟩ : ByteArray)) d).run Tryz.prog w = .ok (.string (up ++ (⟨#[47]⟩ : ByteArray) ++ d)) w := fun w => run_string_add_sum w _ _ (by simp [ByteArray.size_append]; show up.size + 1 + d.size ≤ _; omega)
  have q2 : ∀ w, (Op.stringOp .add (up ++ (⟨#[47]⟩ : ByteArray) ++ d) (⟨#[124]⟩ : ByteArray)).run Tryz.prog w = .ok (.string (up ++ (⟨#[47]⟩ : ByteArray) ++ d ++ (⟨#[124]⟩ : ByteArray))) w := fun w => run_string_add_sum w _ _ (by simp [ByteArray.size_append]; show up.size + 1 + d.size + 1 ≤ _; omega)
  have q3 : ∀ w, (Op.stringOp .add (up ++ (⟨#[47]⟩ : ByteArray) ++ d ++ (⟨#[124]⟩ : ByteArray)) tt).run Tryz.prog w = .ok (.string z) w := fun w => by
    rw [run_string_add_sum w _ _ (by simp [ByteArray.size_append]; show up.size + 1 + d.size + 1 + tt.size ≤ _; omega), EQ]
  clear EQ
  generalize up ++ (⟨#[47]⟩ : ByteArray) = a1 at *
  generalize a1 ++ d = a2 at *
  generalize a2 ++ (⟨#[124]⟩ : ByteArray) = a3 at *
  obtain ⟨r, hr⟩ : ∃ r, (if c = true ∧ b = true then z else (⟨#[]⟩ : ByteArray)) = r := ⟨_, rfl⟩
  rw [hr]
  have HR := hide hr
  have HE := hide hE
  clear hE hr
  go_enter Tryz.func42, Tryz.ntmps42
  go_wp2_with fail
  refine (unhide DG _ (unhide HE)).mono ?_
  rintro _ w1 ⟨rfl, b1⟩
  clear DG
  go_wp2_with fail
  refine (unhide TT _ ((unhide RTH).below b1) ((unhide HE).below b1)).mono ?_
  rintro _ w2 ⟨rfl, b2⟩
  have B2 := b1.trans (b2.mono b1.size)
  clear TT b2 b1
  go_wp2_with fail
  refine (unhide CF _ ((unhide RTH).below B2)).mono ?_
  rintro _ w3 ⟨rfl, b3⟩
  have B3 := B2.trans (b3.mono B2.size)
  clear CF b3 B2
  cases c with
  | false =>
    go_wp2
    go_ret
    have e : r = ⟨#[]⟩ := by rw [← unhide HR]; simp
    exact ⟨by rw [e]; rfl, B3⟩
  | true =>
    go_wp2_with fail
    refine (unhide NO _ ((unhide HE).below B3)).mono ?_
    rintro _ w4 ⟨rfl, b4⟩
    have B4 := B3.trans (b4.mono B3.size)
    clear NO b4 B3
    cases b with
    | false =>
      go_wp2
      go_ret
      have e : r = ⟨#[]⟩ := by rw [← unhide HR]; simp
      exact ⟨by rw [e]; rfl, B4⟩
    | true =>
      go_wp2
      go_ret
      have e : r = z := by rw [← unhide HR]; simp
      exact ⟨by rw [e]; rfl, B4⟩
end Go.Proofs.YtggmgfkmbgcooaaGreatDoor
