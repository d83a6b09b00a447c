/- Texts that belong together: TxtPlain, TxsTextP, BuilderP, TxsTextImplP, SameTxP. -/
import Derived.Test.YthdehhenkgkkmaaDoorBunL
import Derived.Test.YthdehhenkgkkmaaDoorBunD
import Derived.Test.YthdehhenkgkkmaaDoorShelfBuilder
import Derived.Test.YthdehhenkgkkmaaDoorBunA
import Derived.Lib.Builder
import Derived.Lib.AppendStr
import Derived.Laws.IdiomStrings
/- Texts of payments as bytes: plain. -/
namespace Go.Proofs.YthdehhenkgkkmaaDoor
open Go.RowKit
set_option linter.unusedSectionVars false
variable [∀ (a b c d : Int), Decidable (Ok4 a b c d)]
variable [∀ (m a b c d : Int), Decidable (In4 m a b c d)]
variable [∀ (xs ys : List Int), Decidable (LOk xs ys)]

def toB (l : List UInt8) : ByteArray := ⟨l.toArray⟩
theorem toB_size (x : List UInt8) : (toB x).size = x.length := by unfold toB ByteArray.size; simp
/-- The bytes of a payment's text. -/
def txl (a b c d : Nat) : List UInt8 := Lib.decDigits a ++ 62 :: (Lib.decDigits b ++ 58 :: (Lib.decDigits c ++ 35 :: Lib.decDigits d))
theorem dg_toB (n : Nat) : dg (n : Int) = toB (Lib.decDigits n) := by unfold dg toB; rw [itoa_nat]
theorem txs_toB (a b c d : Nat) : txs a b c d = toB (txl a b c d) := by
  unfold txs
  rw [dg_toB, dg_toB, dg_toB, dg_toB]
  apply ByteArray.ext
  apply Array.toList_inj.1
  simp [toB, txl]
theorem txl_ne (a b c d : Nat) : txl a b c d ≠ [] := by unfold txl; simp
theorem toB_data (s : ByteArray) : toB s.data.toList = s := by
  apply ByteArray.ext; apply Array.toList_inj.1; rfl
theorem str_ne {t s : ByteArray} (h : t ≠ s) : (t.toList == s.toList) = false := by
  rw [beq_eq_false_iff_ne]
  intro e
  rw [ByteArray.toList_eq, ByteArray.toList_eq] at e
  exact h (ByteArray.ext (Array.toList_inj.1 e))
end Go.Proofs.YthdehhenkgkkmaaDoor

/- TxsText of the program and of the specification. -/
namespace Go.Proofs.YthdehhenkgkkmaaDoor
open Go.RowKit
set_option linter.unusedSectionVars false
variable [∀ (a b c d : Int), Decidable (Ok4 a b c d)]
variable [∀ (m a b c d : Int), Decidable (In4 m a b c d)]
variable [∀ (xs ys : List Int), Decidable (LOk xs ys)]

def OkT (x : T4) : Prop := Ok4 x.1 x.2.1 x.2.2.1 x.2.2.2
variable [∀ (x : T4), Decidable (OkT x)]
def txT (x : T4) : ByteArray := txt x.1 x.2.1 x.2.2.1 x.2.2.2
/-- The text of the first k payments. -/
def accT (xs : List T4) : Nat → List UInt8
  | 0 => []
  | k + 1 => (if 0 < k then accT xs k ++ [44] else accT xs k) ++ (txT (xs.getD k (0, 0, 0, 0))).data.toList
/-- What TxsText answers. -/
def txsT (xs : List T4) : ByteArray := if ∀ x ∈ xs, OkT x then toB (accT xs xs.length) else ⟨#[]⟩
theorem ok_nat {a b c d : Int} (h : Ok4 a b c d) : ∃ a' b' c' d' : Nat, a = a' ∧ b = b' ∧ c = c' ∧ d = d' := by
  obtain ⟨⟨a1, _⟩, ⟨b1, _⟩, ⟨c1, _⟩, ⟨d1, _⟩⟩ := h
  exact ⟨a.toNat, b.toNat, c.toNat, d.toNat, by omega, by omega, by omega, by omega⟩
theorem txT_size (x : T4) : (txT x).size ≤ 27 := by
  unfold txT txt
  split
  · rename_i h
    obtain ⟨a, b, c, d⟩ := x
    obtain ⟨⟨a1, a2⟩, ⟨b1, b2⟩, ⟨c1, c2⟩, ⟨d1, d2⟩⟩ := h
    simp only at *
    have za := dg_size a (by omega) (by omega)
    have zb := dg_size b (by omega) (by omega)
    have zc := dg_size c (by omega) (by omega)
    have zd := dg_size d (by omega) (by omega)
    have o : ∀ c : UInt8, (⟨#[c]⟩ : ByteArray).size = 1 := fun _ => rfl
    unfold txs dg
    rw [ByteArray.size_append, ByteArray.size_append, ByteArray.size_append, ByteArray.size_append, ByteArray.size_append, ByteArray.size_append, o, o, o]
    omega
  · exact Nat.zero_le _
theorem txT_ne {x : T4} (h : OkT x) : txT x ≠ ⟨#[]⟩ := by
  unfold txT txt
  obtain ⟨a, b, c, d⟩ := x
  show (if Ok4 a b c d then txs a b c d else (⟨#[]⟩ : ByteArray)) ≠ _
  rw [if_pos (show Ok4 a b c d from h)]
  obtain ⟨a', b', c', d', rfl, rfl, rfl, rfl⟩ := ok_nat h
  rw [txs_toB]
  intro e
  have := congrArg (fun s : ByteArray => s.data.toList) e
  exact txl_ne a' b' c' d' this
theorem txT_no {x : T4} (h : ¬ OkT x) : txT x = ⟨#[]⟩ := by unfold txT txt; exact if_neg h
theorem size_len (s : ByteArray) : s.data.toList.length = s.size := by simp
theorem accT_len (xs : List T4) (k : Nat) : (accT xs k).length ≤ k * 28 := by
  induction k with
  | zero => simp [accT]
  | succ k ih =>
    have := txT_size (xs.getD k (0, 0, 0, 0))
    have e := size_len (txT (xs.getD k (0, 0, 0, 0)))
    rw [accT]
    split <;> simp only [List.length_append, List.length_cons, List.length_nil, e] <;> omega
theorem txsT_no {xs : List T4} {k : Nat} (hk : k < xs.length) (h : ¬ OkT (xs.getD k (0, 0, 0, 0))) : txsT xs = ⟨#[]⟩ := by
  unfold txsT
  rw [if_neg]
  intro ha
  exact h (ha _ (by rw [List.getD_eq_getElem?_getD, List.getElem?_eq_getElem hk]; exact List.getElem_mem hk))
theorem txsT_yes {xs : List T4} (h : ∀ k, k < xs.length → OkT (xs.getD k (0, 0, 0, 0))) : txsT xs = toB (accT xs xs.length) := by
  unfold txsT
  rw [if_pos]
  intro x hx
  obtain ⟨k, hk, rfl⟩ := List.mem_iff_getElem.1 hx
  have := h k hk
  rwa [List.getD_eq_getElem?_getD, List.getElem?_eq_getElem hk] at this
theorem toB_append (x y : List UInt8) : toB x ++ toB y = toB (x ++ y) := by
  apply ByteArray.ext; apply Array.toList_inj.1; simp [toB]
theorem ne2 {s : ByteArray} (hz : s ≠ ⟨#[]⟩) : (s.toList == []) = false := by
  rw [beq_eq_false_iff_ne]; intro e; apply hz; apply ByteArray.ext; apply Array.toList_inj.1; rw [ByteArray.toList_eq] at e; exact e

set_option maxHeartbeats 4000000 in
set_option maxRecDepth 100000 in
theorem specTxsText (v : Value) (xs : List T4) (w : World) (hx : xs.length ≤ 1048577) (h : RT w v xs) :
    Calls Tryd.prog 12 #[v] w fun e w' => e = .returned (.string (txsT xs)) ∧ Below w.heap.size w w' := by
  obtain ⟨hl, ao, ca, rfl, ha⟩ := h
  go_enter Tryd.func12, Tryd.ntmps12
  go_wp2
  go_loopw [3, 4] (fun o i wr => ∃ k : Nat, k ≤ xs.length ∧ i = .int .i64 k ∧ o = .string (toB (accT xs k)) ∧ Hid (∀ j, j < k → OkT (xs.getD j (0, 0, 0, 0))) ∧ Below w.heap.size w wr) (fun _ i _ => xs.length - (intOf i).toNat)
  case atStart => exact ⟨0, Nat.zero_le _, rfl, rfl, hide (fun j hj => by omega), Below.refl _ _⟩
  case round =>
    obtain ⟨k, hk, rfl, rfl, HK, br⟩ := hrel
    have hsr := br.size
    by_cases hlt : k < xs.length
    · rcases ha with ha | ⟨g, rfl, ha⟩
      · subst ha; simp at hlt
      obtain ⟨a0, a1, a2, a3⟩ := ha k hlt
      have hg : g < w.heap.size := cell_lt a0
      have c0 := (br.cell (p := ⟨g, k * 4, none⟩) hg).trans a0
      have c1 := (br.cell (p := ⟨g, k * 4 + 1, none⟩) hg).trans a1
      have c2 := (br.cell (p := ⟨g, k * 4 + 2, none⟩) hg).trans a2
      have c3 := (br.cell (p := ⟨g, k * 4 + 3, none⟩) hg).trans a3
      have hal := accT_len xs k
      have hts := txT_size (xs.getD k (0, 0, 0, 0))
      have HS : Hid (accT xs (k + 1) = (if 0 < k then accT xs k ++ [44] else accT xs k) ++ (txT (xs.getD k (0, 0, 0, 0))).data.toList) := rfl
      have HNO := hide (fun h => txsT_no hlt h)
      clear ha
      generalize hxk : xs.getD k (0, 0, 0, 0) = x at *
      obtain ⟨xa, xb, xc, xd⟩ := x
      simp only at c0 c1 c2 c3 a0 a1 a2 a3
      by_cases hok : OkT (xa, xb, xc, xd)
      · have CK := hide fun w => specTxOk_yes xa xb xc xd w hok
        have CT := hide fun w => specTxText xa xb xc xd w
        have HK' : Hid (∀ j, j < k + 1 → OkT (xs.getD j (0, 0, 0, 0))) := fun j hj => by
          by_cases e : j = k
          · subst e; rw [hxk]; exact hok
          · exact HK.out j (by omega)
        have htx : txT (xa, xb, xc, xd) = txt xa xb xc xd := rfl
        rw [htx] at HS hts
        clear htx HK HNO hok hxk
        generalize txt xa xb xc xd = t at *
        go_wp2_with fail
        refine (unhide CK _).mono ?_
        rintro e w1 ⟨rfl, b1⟩
        have b1' := br.trans (b1.mono hsr)
        have s1 := b1.size
        have d0 := (b1'.cell (p := ⟨g, k * 4, none⟩) hg).trans a0
        have d1 := (b1'.cell (p := ⟨g, k * 4 + 1, none⟩) hg).trans a1
        have d2 := (b1'.cell (p := ⟨g, k * 4 + 2, none⟩) hg).trans a2
        have d3 := (b1'.cell (p := ⟨g, k * 4 + 3, none⟩) hg).trans a3
        clear a0 a1 a2 a3 c0 c1 c2 c3
        by_cases hk0 : 0 < k
        · obtain ⟨u, hu⟩ : ∃ u, u = toB (accT xs k ++ [44]) := ⟨_, rfl⟩
          have us : u.size ≤ k * 28 + 1 := by rw [hu, toB_size]; simp; omega
          have q1 : ∀ w, (Op.stringOp .add (toB (accT xs k)) (⟨#[44]⟩ : ByteArray)).run Tryd.prog w = .ok (.string u) w := fun w => by
            rw [run_string_add_sum w _ _ (by rw [toB_size]; show _ + 1 ≤ _; omega), hu, ← toB_append]; rfl
          have q2 : ∀ w, (Op.stringOp .add u t).run Tryd.prog w = .ok (.string (toB (accT xs (k + 1)))) w := fun w => by
            rw [run_string_add_sum w _ _ (by omega), unhide HS, if_pos hk0, hu]
            rw [← toB_data t, toB_append, toB_data t]
          clear hu us HS
          generalize toB (accT xs k) = ok at *
          generalize hnx : toB (accT xs (k + 1)) = ok' at *
          go_wp2_with fail
          refine (unhide CT _).mono ?_
          rintro e w2 ⟨rfl, b2⟩
          have b2' := b1'.trans (b2.mono (by omega))
          go_wp2
          go_roundw
          case rel => exact ⟨k + 1, by omega, by go_num, by rw [hnx], HK', b2'⟩
          case measure => simp [intOf]; omega
        · have q2 : ∀ w, (Op.stringOp .add (toB (accT xs k)) t).run Tryd.prog w = .ok (.string (toB (accT xs (k + 1)))) w := fun w => by
            rw [run_string_add_sum w _ _ (by rw [toB_size]; omega), unhide HS, if_neg hk0]
            rw [← toB_data t, toB_append, toB_data t]
          clear HS
          generalize toB (accT xs k) = ok at *
          generalize hnx : toB (accT xs (k + 1)) = ok' at *
          go_wp2_with fail
          refine (unhide CT _).mono ?_
          rintro e w2 ⟨rfl, b2⟩
          have b2' := b1'.trans (b2.mono (by omega))
          go_wp2
          go_roundw
          case rel => exact ⟨k + 1, by omega, by go_num, by rw [hnx], HK', b2'⟩
          case measure => simp [intOf]; omega
      · have CK := hide fun w => specTxOk_no xa xb xc xd w hok
        have HN := hide ((unhide HNO) hok)
        clear HNO HK HS hok
        generalize toB (accT xs k) = ok at *
        go_wp2_with fail
        refine (unhide CK _).mono ?_
        rintro e w1 ⟨rfl, b1⟩
        go_wp2
        go_ret
        exact ⟨by rw [unhide HN]; rfl, br.trans (b1.mono hsr)⟩
    · have hkn : k = xs.length := by omega
      have HY : Hid (txsT xs = toB (accT xs k)) := by rw [hkn]; rw [hkn] at HK; exact txsT_yes HK.out
      clear HK ha
      generalize toB (accT xs k) = ok at *
      go_wp2
      go_ret
      exact ⟨by rw [HY.out]; rfl, br⟩
end Go.Proofs.YthdehhenkgkkmaaDoor

/- strings.Builder at this program: what WriteByte and WriteString do to a builder of the call's own. -/
namespace Go.Proofs.YthdehhenkgkkmaaDoor
open Go.RowKit
set_option linter.unusedSectionVars false
variable [∀ (a b c d : Int), Decidable (Ok4 a b c d)]
variable [∀ (m a b c d : Int), Decidable (In4 m a b c d)]
variable [∀ (xs ys : List Int), Decidable (LOk xs ys)]
variable [∀ (x : T4), Decidable (OkT x)]

abbrev BT : TypeId := 59
theorem Tryd.infoB : (Tryd.prog.info? 59).map (fun i => (i.zero, i.size, i.bytes)) = some (some (.agg #[.pointer none, .slice none 0 0]), 2, 32) := by kernel_rfl
theorem liesB : liesAt Tryd.prog Tryd.prog.depth 59 (2 / Tryd.prog.cellsOf 59) 0 59 1 = true := by kernel_rfl

set_option maxHeartbeats 1000000 in
set_option maxRecDepth 100000 in
theorem check_used (b : Nat) (w : World) (h0 : w.cell? ⟨b, 0, none⟩ = some (.pointer (some ⟨b, 0, none⟩))) :
    Calls Tryd.prog 53 #[.pointer (some ⟨b, 0, none⟩)] w fun e w' => e = .returned (.tuple #[]) ∧ w' = w := by
  obtain ⟨j, hj, _⟩ := info_parts Tryd.infoB
  have hq := Lib.run_neq_ptr_same (P := Tryd.prog) w (⟨b, 0, none⟩ : Addr) Tryd.underlying57 hj
  go_enter Tryd.func53, Tryd.ntmps53
  go_wp2
  go_end0
  exact ⟨rfl, rfl⟩

set_option maxHeartbeats 1000000 in
set_option maxRecDepth 100000 in
theorem check_new (b : Nat) (w : World) (h0 : w.cell? ⟨b, 0, none⟩ = some (.pointer none)) (hsh : w.shape? b = some (59, 2)) (hfz : w.frozen? ⟨b, 0, none⟩ = false) :
    Calls Tryd.prog 53 #[.pointer (some ⟨b, 0, none⟩)] w fun e w' => e = .returned (.tuple #[]) ∧ w' = w.setCell ⟨b, 0, none⟩ (.pointer (some ⟨b, 0, none⟩)) := by
  obtain ⟨j, hj, _, hjs, _⟩ := info_parts Tryd.infoB
  have hlt : b < w.heap.size := cell_lt h0
  have k1 := Lib.run_to_unsafe (P := Tryd.prog) w (⟨b, 0, none⟩ : Addr) Tryd.underlying57 Tryd.underlying101 hj (by rw [hjs]; decide) hsh (show 0 < 2 by decide)
  have k2 : ∀ x : Value, (callFunc 69 #[x]).run Tryd.prog w = .ok (.value x) w := fun x => by
    rw [run_callFunc_extern Tryd.func69 (by kernel_rfl) (by kernel_rfl) (by kernel_rfl) (e := Extern.AbiNoEscape.same) (by kernel_rfl), Lib.run_noEscape]; rfl
  have k3 := Lib.run_from_unsafe (P := Tryd.prog) w (⟨b, 0, none⟩ : Addr) Tryd.underlying101 Tryd.underlying57 hj hsh liesB
  have hq := Lib.run_neq_ptr_same (P := Tryd.prog) (w.setCell ⟨b, 0, none⟩ (.pointer (some ⟨b, 0, none⟩))) (⟨b, 0, none⟩ : Addr) Tryd.underlying57 hj
  have hc := World.cell?_setCell_same w ⟨b, 0, none⟩ (.pointer (some ⟨b, 0, none⟩)) h0
  go_enter Tryd.func53, Tryd.ntmps53
  go_wp2
  go_end0
  exact ⟨rfl, rfl⟩

theorem check_any (B b : Nat) (bs : List Value) (w : World) (h : Lib.IsBuilder 59 5 B b bs w) :
    Calls Tryd.prog 53 #[.pointer (some ⟨b, 0, none⟩)] w fun e w' => e = .returned (.tuple #[]) ∧ Lib.BuilderAt 59 5 B b (.pointer (some ⟨b, 0, none⟩)) bs w' ∧ Below B w w' := by
  rcases h with h | h
  · refine (check_new b w h.cell0 h.shape h.frozen0).mono ?_
    rintro e w' ⟨rfl, rfl⟩
    exact ⟨rfl, h.used _, (Below.refl B w).setCell (p := ⟨b, 0, none⟩) h.1 _⟩
  · refine (check_used b w h.cell0).mono ?_
    rintro e w' ⟨rfl, rfl⟩
    exact ⟨rfl, h, Below.refl B _⟩
theorem own_slice {w : World} {B : Nat} {e : TypeId} {k : Nat} {v : Value} {n : Nat} {xs : List Value} (h : w.ownsRow B e k v n xs) (hn : 0 < n) : ∃ g cap, v = .slice (some ⟨g, 0, none⟩) n cap := by
  rcases h.2 with ⟨_, h0⟩ | ⟨g, cap, cur, hv, _⟩
  · omega
  · exact ⟨g, cap, hv⟩
/-- What is left of a builder when its buffer has grown. -/
theorem b_block {w1 w2 : World} {b : Nat} {v p : Value} (hbk : w1.heap[b]? = some (.cells #[p, v] 59 (0, 0))) (hg : w1.grownBy w2 v.ownBlock) (hne : v.ownBlock ≠ some b) : w2.heap[b]? = some (.cells #[p, v] 59 (0, 0)) := by
  have hlt : b < w1.heap.size := (Array.getElem?_eq_some_iff.1 hbk).1
  rw [hg.block b hlt (fun e => hne e.symm)]; exact hbk

set_option maxHeartbeats 2000000 in
set_option maxRecDepth 100000 in
theorem writeByte (B b : Nat) (bs : List Value) (c : Int) (w : World) (h : Lib.IsBuilder 59 5 B b bs w) (hlen : bs.length ≤ 1000000000) (hBw : B ≤ w.heap.size) :
    Calls Tryd.prog 31 #[.pointer (some ⟨b, 0, none⟩), .int .u8 c] w fun e w' => e = .returned .nilIface ∧ Lib.BuilderAt 59 5 B b (.pointer (some ⟨b, 0, none⟩)) (bs ++ [.int .u8 c]) w' ∧ Below B w w' := by
  obtain ⟨i0, hi, hz0, hz1, hz2⟩ := info_parts Tryd.info5
  go_enter Tryd.func31, Tryd.ntmps31
  go_wp2_with fail
  refine (check_any B b bs _ h).mono ?_
  rintro e w1 ⟨rfl, ⟨hB, v, hbk, hown, hne⟩, b1⟩
  have s1 := b1.size
  have c1 : w1.cell? ⟨b, 1, none⟩ = some v := by rw [Lib.cell_of_heap hbk]; rfl
  have hba : (w1.alloc (.cells #[.int .u8 c] 5)).heap[b]? = some (.cells #[.pointer (some ⟨b, 0, none⟩), v] 59 (0, 0)) := by
    rw [Lib.alloc_old w1 _ b (Array.getElem?_eq_some_iff.1 hbk).1]; exact hbk
  clear h
  go_wp2_with (first
    | (at_builtin; refine wpList_append_own _ rfl _ _ 22 rfl B 5 i0 (.int .u8 0) 1 1 Tryd.underlying22 hi hz0 hz1 hz2 rfl (by decide) _ _ _ rfl (hown.alloc _) ⟨w1.heap.size, 0, none⟩ 1 1 [.int .u8 c] rfl rfl (one_cell _ _ _) (one_plain _ _) (by unfold maxLen; omega) (by omega) (by simp; omega) ?_; intro v' w2 ho' hg' _; have hb2 := b_block hba hg' hne; have d1 : w2.cell? ⟨b, 1, none⟩ = some v := (by rw [Lib.cell_of_heap hb2]; rfl); have f1 := Lib.frozen_of_heap hb2 1; have be := (b1.alloc (by omega) (.cells #[.int .u8 c] 5)).grown hg' (by simp; omega) (fun k hk => (hown.lt k hk).1); obtain ⟨g, cap, rfl⟩ := own_slice ho' (by omega); clear hg' hown hba hbk c1))
  go_ret
  exact ⟨rfl, Lib.BuilderAt.put hB hb2 (bs' := bs ++ [.int .u8 c]) (by simpa using ho') (by decide), be.setCell (p := ⟨b, 1, none⟩) hB _⟩

set_option maxHeartbeats 2000000 in
set_option maxRecDepth 100000 in
theorem writeString (B b : Nat) (bs : List Value) (s : ByteArray) (w : World) (h : Lib.IsBuilder 59 5 B b bs w) (hlen : bs.length ≤ 1000000000) (hs : s.size ≤ 1000000000) (hs0 : 0 < s.size) (hBw : B ≤ w.heap.size) :
    Calls Tryd.prog 32 #[.pointer (some ⟨b, 0, none⟩), .string s] w fun e w' => e = .returned (.tuple #[.int .i64 s.size, .nilIface]) ∧ Lib.BuilderAt 59 5 B b (.pointer (some ⟨b, 0, none⟩)) (bs ++ Lib.strCells s) w' ∧ Below B w w' := by
  obtain ⟨i0, hi, hz0, hz1, hz2⟩ := info_parts Tryd.info5
  go_enter Tryd.func32, Tryd.ntmps32
  go_wp2_with fail
  refine (check_any B b bs _ h).mono ?_
  rintro e w1 ⟨rfl, ⟨hB, v, hbk, hown, hne⟩, b1⟩
  have s1 := b1.size
  have c1 : w1.cell? ⟨b, 1, none⟩ = some v := by rw [Lib.cell_of_heap hbk]; rfl
  clear h
  go_wp2_with (first
    | (at_builtin; refine Lib.wpList_append_own_string _ rfl _ _ 22 9 rfl B 5 i0 Tryd.underlying22 Tryd.underlying9 hi hz0 hz1 hz2 _ _ _ rfl hown s rfl (by unfold maxLen; omega) (by omega) (by omega) ?_; intro v' w2 ho' hg' _; have hb2 := b_block hbk hg' hne; have d1 : w2.cell? ⟨b, 1, none⟩ = some v := (by rw [Lib.cell_of_heap hb2]; rfl); have f1 := Lib.frozen_of_heap hb2 1; have be := b1.grown hg' (by omega) (fun k hk => (hown.lt k hk).1); obtain ⟨g, cap, rfl⟩ := own_slice ho' (by omega); clear hg' hown hbk c1))
  go_ret2
  exact ⟨rfl, Lib.BuilderAt.put hB hb2 (bs' := bs ++ Lib.strCells s) (by simpa [Lib.strCells_length] using ho') (by decide), be.setCell (p := ⟨b, 1, none⟩) hB _⟩
theorem bat_below {w w' : World} {B b : Nat} {p : Value} {bs : List Value} (h : Lib.BuilderAt 59 5 B b p bs w) (hb : Below w.heap.size w w') : Lib.BuilderAt 59 5 B b p bs w' := by
  have hlt := h.lt
  obtain ⟨hB, v, hbk, hown, hne⟩ := h
  exact ⟨hB, v, (hb.block b hlt).trans hbk, World.ownsRow.kept (row := none) hown ⟨hb.os, hb.tape, hb.output, hb.size, fun k hk _ => hb.block k hk⟩ (by cases v.ownBlock <;> simp), hne⟩
theorem isb_below {w w' : World} {B b : Nat} {bs : List Value} (h : Lib.IsBuilder 59 5 B b bs w) (hb : Below w.heap.size w w') : Lib.IsBuilder 59 5 B b bs w' :=
  h.elim (fun x => .inl (bat_below x hb)) (fun x => .inr (bat_below x hb))
theorem isb_new (w : World) : Lib.IsBuilder 59 5 w.heap.size w.heap.size [] (w.alloc (.cells #[.pointer none, .slice none 0 0] 59)) :=
  .inl ⟨Nat.le_refl _, .slice none 0 0, heap_alloc_new w _, World.ownsRow_nil _ _ _ _, by simp [Value.ownBlock]⟩
end Go.Proofs.YthdehhenkgkkmaaDoor

/- impl.TxsText: what it answers. -/
namespace Go.Proofs.YthdehhenkgkkmaaDoor
open Go.RowKit
set_option linter.unusedSectionVars false
variable [∀ (a b c d : Int), Decidable (Ok4 a b c d)]
variable [∀ (m a b c d : Int), Decidable (In4 m a b c d)]
variable [∀ (xs ys : List Int), Decidable (LOk xs ys)]
variable [∀ (x : T4), Decidable (OkT x)]

theorem strCells_bytes (s : ByteArray) : Lib.strCells s = Lib.byteCells s.data.toList := by simp [Lib.strCells, Lib.byteCells]
theorem byteCells_app (x y : List UInt8) : Lib.byteCells x ++ Lib.byteCells y = Lib.byteCells (x ++ y) := by simp [Lib.byteCells]
theorem byteCells_len (x : List UInt8) : (Lib.byteCells x).length = x.length := by simp [Lib.byteCells]

set_option maxHeartbeats 4000000 in
set_option maxRecDepth 100000 in
theorem implTxsText (v : Value) (xs : List T4) (w : World) (hx : xs.length ≤ 1048577) (h : RT w v xs) (ht : Pow w) :
    Calls Tryd.prog 11 #[v] w fun e w' => e = .returned (.string (txsT xs)) ∧ Below w.heap.size w w' := by
  obtain ⟨hl, ao, ca, rfl, ha⟩ := h
  have HT := hide ht
  clear ht
  go_enter Tryd.func11, Tryd.ntmps11
  go_wp2
  go_loopw [9] (fun i wr => ∃ k : Nat, k ≤ xs.length ∧ i = .int .i64 k ∧ Hid (Lib.IsBuilder 59 5 w.heap.size w.heap.size (Lib.byteCells (accT xs k)) wr) ∧ Hid (∀ j, j < k → OkT (xs.getD j (0, 0, 0, 0))) ∧ Below w.heap.size w wr ∧ w.heap.size + 1 ≤ wr.heap.size) (fun i _ => xs.length - (intOf i).toNat)
  case atStart => exact ⟨0, Nat.zero_le _, rfl, hide (isb_new w), hide (fun j hj => by omega), (Below.refl _ _).alloc (Nat.le_refl _) _, by simp⟩
  case round =>
    obtain ⟨k, hk, rfl, HB, HK, br, hsz⟩ := hrel
    by_cases hlt : k < xs.length
    · rcases ha with ha | ⟨g, rfl, ha⟩
      · subst ha; simp at hlt
      obtain ⟨a0, a1, a2, a3⟩ := ha k hlt
      have hg : g < w.heap.size := cell_lt a0
      have c0 := (br.cell (p := ⟨g, k * 4, none⟩) hg).trans a0
      have c1 := (br.cell (p := ⟨g, k * 4 + 1, none⟩) hg).trans a1
      have c2 := (br.cell (p := ⟨g, k * 4 + 2, none⟩) hg).trans a2
      have c3 := (br.cell (p := ⟨g, k * 4 + 3, none⟩) hg).trans a3
      have hal := accT_len xs k
      have hts := txT_size (xs.getD k (0, 0, 0, 0))
      have HS : Hid (accT xs (k + 1) = (if 0 < k then accT xs k ++ [44] else accT xs k) ++ (txT (xs.getD k (0, 0, 0, 0))).data.toList) := rfl
      have HNO := hide (fun h => txsT_no hlt h)
      clear ha a0 a1 a2 a3
      generalize hxk : xs.getD k (0, 0, 0, 0) = x at *
      obtain ⟨xa, xb, xc, xd⟩ := x
      simp only at c0 c1 c2 c3
      have CT := hide fun w ht => implTxText xa xb xc xd w ht
      have htx : txT (xa, xb, xc, xd) = txt xa xb xc xd := rfl
      have ba : Below w.heap.size w (wr.alloc (.cells #[.int .i64 xa, .int .i64 xb, .int .i64 xc, .int .i64 xd] 26)) := br.alloc (by omega) _
      have bA : Below wr.heap.size wr (wr.alloc (.cells #[.int .i64 xa, .int .i64 xb, .int .i64 xc, .int .i64 xd] 26)) := (Below.refl _ _).alloc (Nat.le_refl _) _
      by_cases hok : OkT (xa, xb, xc, xd)
      · have hne := txT_ne hok
        rw [htx] at hne HS hts
        have HK' : Hid (∀ j, j < k + 1 → OkT (xs.getD j (0, 0, 0, 0))) := fun j hj => by
          by_cases e : j = k
          · subst e; rw [hxk]; exact hok
          · exact HK.out j (by omega)
        clear htx HK HNO hok hxk
        generalize txt xa xb xc xd = t at *
        have hn1 := str_ne hne
        have hn2 := ne2 hne
        have hts0 : 0 < t.size := by
          rcases Nat.eq_zero_or_pos t.size with h0 | h0
          · exact absurd (ByteArray.ext (Array.eq_empty_of_size_eq_zero h0)) hne
          · exact h0
        go_wp2_with fail
        refine (unhide CT _ ((unhide HT).below ba)).mono ?_
        rintro e w1 ⟨rfl, b1⟩
        have b1' := ba.trans (b1.mono ba.size)
        have s1 := b1.size
        have bw : Below wr.heap.size wr w1 := bA.trans (b1.mono bA.size)
        have B1 := hide (isb_below HB.out bw)
        have hs1 : w.heap.size + 1 ≤ w1.heap.size := by have := bw.size; omega
        by_cases hk0 : 0 < k
        · go_wp2_with fail
          refine (writeByte _ _ _ 44 _ (unhide B1) (by rw [byteCells_len]; omega) (by omega)).mono ?_
          rintro e w2 ⟨rfl, B2, b2⟩
          have s2 := b2.size
          have b2' := b1'.trans b2
          have B2' := hide B2
          clear B2
          go_wp2_with fail
          refine (writeString _ _ _ t _ (.inr (unhide B2')) (by simp only [List.length_append, byteCells_len, List.length_cons, List.length_nil]; omega) (by omega) hts0 (by omega)).mono ?_
          rintro e w3 ⟨rfl, B3, b3⟩
          have s3 := b3.size
          have b3' := b2'.trans b3
          have B3' : Hid (Lib.IsBuilder 59 5 w.heap.size w.heap.size (Lib.byteCells (accT xs (k + 1))) w3) := by
            show Lib.IsBuilder _ _ _ _ _ _
            rw [unhide HS, if_pos hk0, ← byteCells_app, ← byteCells_app, ← strCells_bytes]
            exact .inr B3
          clear B3 HS
          go_wp2
          go_roundw
          case rel => exact ⟨k + 1, by omega, by go_num, B3', HK', b3', by omega⟩
          case measure => simp [intOf]; omega
        · go_wp2_with fail
          refine (writeString _ _ _ t _ (unhide B1) (by rw [byteCells_len]; omega) (by omega) hts0 (by omega)).mono ?_
          rintro e w3 ⟨rfl, B3, b3⟩
          have s3 := b3.size
          have b3' := b1'.trans b3
          have B3' : Hid (Lib.IsBuilder 59 5 w.heap.size w.heap.size (Lib.byteCells (accT xs (k + 1))) w3) := by
            show Lib.IsBuilder _ _ _ _ _ _
            rw [unhide HS, if_neg hk0, ← byteCells_app, ← strCells_bytes]
            exact .inr B3
          clear B3 HS
          go_wp2
          go_roundw
          case rel => exact ⟨k + 1, by omega, by go_num, B3', HK', b3', by omega⟩
          case measure => simp [intOf]; omega
      · have HN := hide ((unhide HNO) hok)
        have hte := txT_no hok
        rw [htx] at hte
        rw [hte] at CT
        clear HNO HK HS hok hte htx
        go_wp2_with fail
        refine (unhide CT _ ((unhide HT).below ba)).mono ?_
        rintro e w1 ⟨rfl, b1⟩
        go_wp2
        go_ret
        exact ⟨by rw [unhide HN]; rfl, ba.trans (b1.mono ba.size)⟩
    · have hkn : k = xs.length := by omega
      have HY : Hid (txsT xs = toB (accT xs k)) := by rw [hkn]; rw [hkn] at HK; exact txsT_yes HK.out
      clear HK ha
      go_wp2_with fail
      refine (Tryd.Builder_String_any _ _ _ _ HB.out (by omega)).mono ?_
      rintro e w1 ⟨rfl, b1⟩
      have b1' := br.trans b1
      have HY' : Hid (txsT xs = (⟨(accT xs k).toArray⟩ : ByteArray)) := HY
      generalize (⟨(accT xs k).toArray⟩ : ByteArray) = ok at *
      go_wp2
      go_ret
      exact ⟨by rw [HY'.out]; rfl, b1'⟩
end Go.Proofs.YthdehhenkgkkmaaDoor

/- laws.sameTxs of two lists of the same payments. -/
namespace Go.Proofs.YthdehhenkgkkmaaDoor
open Go.RowKit
set_option linter.unusedSectionVars false
variable [∀ (a b c d : Int), Decidable (Ok4 a b c d)]
variable [∀ (m a b c d : Int), Decidable (In4 m a b c d)]
variable [∀ (xs ys : List Int), Decidable (LOk xs ys)]
variable [∀ (x : T4), Decidable (OkT x)]

set_option maxHeartbeats 2000000 in
set_option maxRecDepth 100000 in
theorem sameTxs_yes (v u : Value) (xs : List T4) (w : World) (hv : RT w v xs) (hu : RT w u xs) :
    Calls Tryd.prog 13 #[v, u] w fun e w' => e = .returned (.bool true) ∧ ∃ n, w' = w.drewN n := by
  obtain ⟨hl, ao, ca, rfl, ha⟩ := hv
  obtain ⟨_, bo, cb, rfl, hb⟩ := hu
  have hbnd : xs.length ≤ 9223372036854775807 := by omega
  go_enter Tryd.func13, Tryd.ntmps13
  go_wp2
  go_loopw [5] (fun i wr => ∃ k n : Nat, k ≤ xs.length ∧ i = .int .i64 k ∧ wr = w.drewN n) (fun i _ => xs.length - (intOf i).toNat)
  case atStart => exact ⟨0, 0, Nat.zero_le _, rfl, rfl⟩
  case round =>
    obtain ⟨k, n, hk, rfl, rfl⟩ := hrel
    by_cases hlt : k < xs.length
    · rcases ha with ha | ⟨g, rfl, ha⟩
      · subst ha; simp at hlt
      rcases hb with hb | ⟨g', rfl, hb⟩
      · subst hb; simp at hlt
      obtain ⟨a0, a1, a2, a3⟩ := ha k hlt
      obtain ⟨b0, b1, b2, b3⟩ := hb k hlt
      clear ha hb
      generalize xs.getD k (0, 0, 0, 0) = x at *
      obtain ⟨xa, xb, xc, xd⟩ := x
      simp only at a0 a1 a2 a3 b0 b1 b2 b3
      go_wp2_with fail
      go_quiet (fail)
      go_wp2
      go_roundw
      case rel => exact ⟨k + 1, _, by omega, by go_num, by rfl⟩
      case measure => simp [intOf]; omega
    · have hkn : k = xs.length := by omega
      subst hkn
      clear ha hb
      go_wp2
      go_ret
      exact ⟨rfl, _, rfl⟩
end Go.Proofs.YthdehhenkgkkmaaDoor
