/- Texts that belong together: MarkTx, TxsOfWalk, ImplTxsIn, MarkSteps, MarkSteps2. -/
import Derived.Test.YtiaafigpgnimeaaDoorBunA
import Derived.Test.YtiaafigpgnimeaaDoorBunC
import Derived.Test.YtiaafigpgnimeaaDoorBunG
import Derived.Test.YtiaafigpgnimeaaDoorBunF
import Derived.Test.YtiaafigpgnimeaaDoorBunE
/- laws.markTxS and heldTxS. -/
namespace Go.Proofs.YtiaafigpgnimeaaDoor
open Go.RowKit

/-- What markTxS writes. -/
def tmark (k0 i : Nat) : T4 := ((k0 : Int) + (i : Int) * 4, (k0 : Int) + (i : Int) * 4 + 1, (k0 : Int) + (i : Int) * 4 + 2, (k0 : Int) + (i : Int) * 4 + 3)
def tmarks (k0 n : Nat) : List T4 := (List.range n).map (tmark k0)
theorem tmarks_len (k0 n : Nat) : (tmarks k0 n).length = n := by simp [tmarks]
theorem tmarks_get (k0 n i : Nat) (h : i < n) : (tmarks k0 n).getD i (0, 0, 0, 0) = tmark k0 i := by simp [tmarks, h]
theorem tmarks_succ (k0 n : Nat) : tmarks k0 (n + 1) = tmarks k0 n ++ [tmark k0 n] := by simp [tmarks, List.range_succ]
/-- The payments behind k rounds. -/
def tmixed (k0 k : Nat) (vs : List T4) : List T4 := tmarks k0 k ++ vs.drop k
theorem tmixed_zero (k0 : Nat) (vs : List T4) : tmixed k0 0 vs = vs := by simp [tmixed, tmarks]
theorem tmixed_all (k0 : Nat) (vs : List T4) : tmixed k0 vs.length vs = tmarks k0 vs.length := by simp [tmixed]
theorem tmixed_len (k0 k : Nat) (vs : List T4) (h : k ≤ vs.length) : (tmixed k0 k vs).length = vs.length := by simp [tmixed, tmarks_len]; omega
theorem tcells_set (xs : List T4) (k : Nat) (x : T4) (hk : k < xs.length) : ((((tcells xs).set (k * 4) (.int .i64 x.1)).set (k * 4 + 1) (.int .i64 x.2.1)).set (k * 4 + 2) (.int .i64 x.2.2.1)).set (k * 4 + 3) (.int .i64 x.2.2.2) = tcells (xs.set k x) := by
  induction xs generalizing k with
  | nil => simp at hk
  | cons y ys ih =>
    have e : ∀ z : T4, ∀ zs, tcells (z :: zs) = .int .i64 z.1 :: .int .i64 z.2.1 :: .int .i64 z.2.2.1 :: .int .i64 z.2.2.2 :: tcells zs := fun z zs => by simp [tcells, tcell]
    cases k with
    | zero => rw [e]; simp [e]
    | succ k =>
      rw [e, List.set_cons_succ, e, ← ih k (by simpa using hk)]
      rw [show (k + 1) * 4 = k * 4 + 1 + 1 + 1 + 1 from by omega]
      simp only [List.set_cons_succ]
theorem tmixed_set (k0 k : Nat) (vs : List T4) (h : k < vs.length) : (tmixed k0 k vs).set k (tmark k0 k) = tmixed k0 (k + 1) vs := by
  unfold tmixed
  rw [tmarks_succ, List.set_append_right _ _ (by simp [tmarks_len]), tmarks_len, Nat.sub_self, List.drop_eq_getElem_cons h, List.set_cons_zero]
  simp

set_option maxHeartbeats 4000000 in
set_option maxRecDepth 100000 in
theorem tmark_row (base g n cap k0 : Nat) (vs : List T4) (w : World) (hn : n ≤ 4194304) (hk1 : k0 ≤ 1000000) (hv : vs.length = n) (h : OT w base (.slice (some ⟨g, 0, none⟩) n cap) vs) :
    Calls Tryd.prog 35 #[.slice (some ⟨g, 0, none⟩) n cap, .int .i64 k0] w fun e w' => e = .returned (.int .i64 (k0 + n * 4)) ∧
      OT w' base (.slice (some ⟨g, 0, none⟩) n cap) (tmarks k0 n) ∧ w.grownBy w' (some g) := by
  have Hv := hide hv
  clear hv
  go_enter Tryd.func35, Tryd.ntmps35
  go_wp2
  go_loopw [1, 5] (fun c i wr => ∃ k : Nat, k ≤ n ∧ i = .int .i64 k ∧ c = .int .i64 ((k0 : Int) + (k : Int) * 4) ∧ OT wr base (.slice (some ⟨g, 0, none⟩) n cap) (tmixed k0 k vs) ∧ w.grownBy wr (some g)) (fun _ i _ => n - (intOf i).toNat)
  case atStart => exact ⟨0, Nat.zero_le _, rfl, by go_num, by rw [tmixed_zero]; exact h, ⟨rfl, rfl, rfl, Nat.le_refl _, fun _ _ _ => rfl⟩⟩
  case round =>
    obtain ⟨k, hk, rfl, rfl, ho, hg⟩ := hrel
    by_cases hlt : k < n
    · have hkv : k < vs.length := by rw [unhide Hv]; exact hlt
      have hlen : (tmixed k0 k vs).length = n := by rw [tmixed_len k0 k vs (by omega), unhide Hv]
      have ho0 : wr.ownsRow base 63 4 (.slice (some ⟨g, 0, none⟩) n cap) n (tcells (tmixed k0 k vs)) := by have := ho; unfold OT at this; rw [hlen] at this; exact this
      obtain ⟨y0, y1, y2, y3⟩ : (∃ u, wr.cell? ⟨g, k * 4, none⟩ = some u) ∧ (∃ u, wr.cell? ⟨g, k * 4 + 1, none⟩ = some u) ∧ (∃ u, wr.cell? ⟨g, k * 4 + 2, none⟩ = some u) ∧ (∃ u, wr.cell? ⟨g, k * 4 + 3, none⟩ = some u) := by
        have gt : ∀ j, j < n * 4 → ∃ u, wr.cell? ⟨g, j, none⟩ = some u := fun j hj => ⟨_, (ho0.cellAt j hj).trans (List.getElem?_eq_getElem (by rw [tcells_len, hlen]; exact hj))⟩
        exact ⟨gt _ (by omega), gt _ (by omega), gt _ (by omega), gt _ (by omega)⟩
      obtain ⟨u0, y0⟩ := y0
      obtain ⟨u1, y1⟩ := y1
      obtain ⟨u2, y2⟩ := y2
      obtain ⟨u3, y3⟩ := y3
      have hfr := ho0.frozenAt
      have t0 := ho0.stored (k * 4) (.int .i64 ((k0 : Int) + (k : Int) * 4))
      have t1 := t0.1.stored (k * 4 + 1) (.int .i64 ((k0 : Int) + (k : Int) * 4 + 1))
      have t2 := t1.1.stored (k * 4 + 2) (.int .i64 ((k0 : Int) + (k : Int) * 4 + 2))
      have t3 := t2.1.stored (k * 4 + 3) (.int .i64 ((k0 : Int) + (k : Int) * 4 + 3))
      have HO := hide t3.1
      have HG := hide (grown_trans hg (grown_trans t0.2 (grown_trans t1.2 (grown_trans t2.2 t3.2))))
      have hlen' : (tmixed k0 (k + 1) vs).length = n := by rw [tmixed_len k0 (k + 1) vs (by omega), unhide Hv]
      clear t0 t1 t2 t3 ho ho0 hg
      go_wp2
      go_roundw
      case rel =>
        refine ⟨k + 1, by omega, by go_num, by go_num, ?_, ?_⟩
        · unfold OT
          rw [hlen', ← tmixed_set k0 k vs hkv, ← tcells_set _ _ _ (by rw [hlen]; exact hlt)]
          exact unhide HO
        · exact unhide HG
      case measure => simp [intOf]; omega
    · have hkn : k = n := by omega
      have HO : Hid (OT wr base (.slice (some ⟨g, 0, none⟩) n cap) (tmarks k0 n)) := by
        have := tmixed_all k0 vs; rw [unhide Hv] at this; rw [← this, ← hkn]; rw [← hkn] at ho; exact ho
      clear ho
      subst hkn
      go_wp2
      go_ret
      exact ⟨rfl, HO.out, hg⟩

set_option maxHeartbeats 4000000 in
set_option maxRecDepth 100000 in
theorem theld_row (v : Value) (n k0 : Nat) (w : World) (hn : n ≤ 4194304) (hk1 : k0 ≤ 1000000) (h : RT w v (tmarks k0 n)) :
    Calls Tryd.prog 36 #[v, .int .i64 k0] w fun e w' => e = .returned (.int .i64 (k0 + n * 4)) ∧ Below w.heap.size w w' := by
  obtain ⟨hl, ao, ca, rfl, ha⟩ := h
  rw [tmarks_len] at hl ha ⊢
  go_enter Tryd.func36, Tryd.ntmps36
  go_wp2
  go_loopw [1, 5] (fun c i wr => ∃ k : Nat, k ≤ n ∧ i = .int .i64 k ∧ c = .int .i64 ((k0 : Int) + (k : Int) * 4) ∧ Below w.heap.size w wr) (fun _ i _ => n - (intOf i).toNat)
  case atStart => exact ⟨0, Nat.zero_le _, rfl, by go_num, Below.refl _ _⟩
  case round =>
    obtain ⟨k, hk, rfl, rfl, hb⟩ := hrel
    by_cases hlt : k < n
    · rcases ha with ha | ⟨b, rfl, ha⟩
      · have := congrArg List.length ha; rw [tmarks_len] at this; simp at this; omega
      obtain ⟨a0, a1, a2, a3⟩ := ha k hlt
      rw [tmarks_get k0 n k hlt] at a0 a1 a2 a3
      simp only [tmark] at a0 a1 a2 a3
      have hlb : b < w.heap.size := cell_lt a0
      have c0 := (hb.cell (p := ⟨b, k * 4, none⟩) hlb).trans a0
      have c1 := (hb.cell (p := ⟨b, k * 4 + 1, none⟩) hlb).trans a1
      have c2 := (hb.cell (p := ⟨b, k * 4 + 2, none⟩) hlb).trans a2
      have c3 := (hb.cell (p := ⟨b, k * 4 + 3, none⟩) hlb).trans a3
      clear ha a0 a1 a2 a3
      go_wp2
      go_roundw
      case rel => exact ⟨k + 1, by omega, by go_num, by go_num, hb⟩
      case measure => simp [intOf]; omega
    · have hkn : k = n := by omega
      subst hkn
      clear ha
      go_wp2
      go_ret
      exact ⟨rfl, hb⟩
end Go.Proofs.YtiaafigpgnimeaaDoor

/- The walk of laws.FnExactTxsOf. -/
namespace Go.Proofs.YtiaafigpgnimeaaDoor
open Go.RowKit

set_option maxHeartbeats 400000 in
set_option maxRecDepth 100000 in
theorem tmark_none (w : World) (k0 : Nat) : Calls Tryd.prog 35 #[.slice none 0 0, .int .i64 k0] w fun e w' => e = .returned (.int .i64 k0) ∧ w' = w := by
  go_enter Tryd.func35, Tryd.ntmps35
  go_wp2
  refine wp_loop_rounds 1 ?_
  rw [rounds_succ]
  go_wp2
  go_ret
  exact ⟨rfl, rfl⟩
theorem tmark1 (base : Nat) (v : Value) (xs : List T4) (w : World) (hl : xs.length ≤ 4194304) (h : OT w base v xs) :
    Calls Tryd.prog 35 #[v, .int .i64 1] w fun e w' => e = .returned (.int .i64 (1 + xs.length * 4)) ∧ OT w' base v (tmarks 1 xs.length) ∧ w.grownBy w' v.ownBlock := by
  have h' := h
  rcases h.2 with ⟨rfl, h0⟩ | ⟨g, cap, cur, rfl, _⟩
  · refine (tmark_none w 1).mono ?_
    rintro e w' ⟨rfl, rfl⟩
    have hx : xs = [] := List.length_eq_zero_iff.1 h0
    subst hx
    exact ⟨by simp, World.ownsRow_nil _ _ _ _, ⟨rfl, rfl, rfl, Nat.le_refl _, fun _ _ _ => rfl⟩⟩
  · refine (tmark_row base g xs.length cap 1 xs w hl (by omega) rfl h').mono ?_
    rintro e w' ⟨rfl, ho, hg⟩
    exact ⟨rfl, ho, hg⟩
theorem theld1 (v : Value) (n : Nat) (w : World) (hn : n ≤ 4194304) (h : RT w v (tmarks 1 n)) :
    Calls Tryd.prog 36 #[v, .int .i64 1] w fun e w' => e = .returned (.int .i64 (1 + n * 4)) ∧ Below w.heap.size w w' := theld_row v n 1 w hn (by omega) h
theorem allTx_len {ps : List ByteArray} {ys : List T4} (h : allTx ps = some ys) : ys.length = ps.length := by
  induction ps generalizing ys with
  | nil => simp [allTx] at h; subst h; rfl
  | cons p ps ih =>
    rw [allTx] at h
    cases hp : txAns p.data.toList with
    | none => rw [hp] at h; cases h
    | some q =>
      rw [hp] at h
      cases hq : allTx ps with
      | none => rw [hq] at h; cases h
      | some zs => rw [hq] at h; simp at h; subst h; simp [ih hq]
theorem txsAns_len (s : ByteArray) (hs : s.size ≤ 1048576) : ((txsAns s).getD []).length ≤ 1048577 := by
  unfold txsAns
  split
  · simp
  · have := splitAns_len s 44
    cases h : allTx (splitAns s 44) with
    | none => simp
    | some ys => have := allTx_len h; simp; omega

end Go.Proofs.YtiaafigpgnimeaaDoor

/- impl.TxsIn. -/
namespace Go.Proofs.YtiaafigpgnimeaaDoor
open Go.RowKit

set_option maxHeartbeats 8000000 in
set_option maxRecDepth 100000 in
theorem implTxsIn (s : ByteArray) (w : World) (hs : s.size ≤ 33554432) (hE : Env w) :
    Calls Tryd.prog 34 #[.string s] w fun e w' => ∃ v, e = .returned v ∧ OT w' w.heap.size v (txsInAns s) ∧ Below w.heap.size w w' := by
  have ST := hide fun w hE => implSteps s w hs hE
  have hl : ((stepsAns s).getD []).length ≤ 30 ∧ ∀ x ∈ (stepsAns s).getD [], x.2.length ≤ 2 := by
    cases h : stepsAns s with
    | none => simp
    | some ss => exact ⟨((names_iff _ _).1 h).2.1, fun x hx => (((names_iff _ _).1 h).2.2.1 x hx).2.1⟩
  unfold txsInAns
  generalize (stepsAns s).isSome = bb at *
  generalize (stepsAns s).getD [] = ss at *
  obtain ⟨hl, h2⟩ := hl
  have H2 := hide h2
  clear h2
  go_enter Tryd.func34, Tryd.ntmps34
  go_wp2_with fail
  refine (unhide ST _ hE).mono ?_
  rintro e w1 ⟨v, rfl, o1, b1⟩
  clear ST hE
  obtain ⟨oa, oc, rfl⟩ := o1.form
  obtain ⟨vs, o1⟩ := o1
  have s1 := b1.size
  have hvb := World.ownsRow.lt o1.row
  have hsb : ∀ k, k < ss.length → ∀ b, (vs.getD k (.slice none 0 0)).ownBlock = some b → w.heap.size ≤ b ∧ b < w1.heap.size := fun k hk => World.ownsRow.lt (o1.each k hk)
  have HVB := hide hvb
  have HSB := hide hsb
  have S1 := hide o1
  clear hvb hsb o1
  go_wp2
  go_loopw [5, 15] (fun out i wr => ∃ k : Nat, k ≤ ss.length ∧ i = .int .i64 k ∧ OT wr w1.heap.size out ((ss.take k).flatMap (·.2)) ∧ OStV wr w.heap.size (.slice oa ss.length oc) ss vs ∧ Below w.heap.size w wr ∧ w1.heap.size ≤ wr.heap.size) (fun _ i _ => ss.length - (intOf i).toNat)
  case atStart => exact ⟨0, Nat.zero_le _, rfl, World.ownsRow_nil _ _ _ _, unhide S1, b1, Nat.le_refl _⟩
  case round =>
    clear S1 b1
    obtain ⟨k, hk, rfl, ot, os, br, sz⟩ := hrel
    by_cases hlt : k < ss.length
    · have hfl := flat_len (ss.take k) fun x hx => unhide H2 x (List.mem_of_mem_take hx)
      rw [List.length_take] at hfl
      have hu2 := unhide H2 (ss.getD k zst) (by rw [List.getD_eq_getElem?_getD, List.getElem?_eq_getElem hlt]; exact List.getElem_mem hlt)
      have HF := hide (flat_more ss k hlt)
      obtain ⟨ha, hca⟩ : ∃ g, oa = some ⟨g, 0, none⟩ := by
        rcases os.row.2 with ⟨e, h0⟩ | ⟨g, cap, cur, e, _⟩
        · omega
        · cases e; exact ⟨g, rfl⟩
      subst hca
      have c0 := World.ownsRow.cellAt os.row (k * 2 + 0) (by omega)
      have c1 := World.ownsRow.cellAt os.row (k * 2 + 1) (by omega)
      rw [scells_get _ k _ (by simp [os.len]; omega) (by omega), zip_get ss vs os.len k hlt] at c0 c1
      replace c0 : wr.cell? ⟨ha, k * 2, none⟩ = some (.int .i64 (ss.getD k zst).1) := by simpa [scell] using c0
      replace c1 : wr.cell? ⟨ha, k * 2 + 1, none⟩ = some (vs.getD k (.slice none 0 0)) := by simpa [scell] using c1
      obtain ⟨ta, tl, tc, hu⟩ : ∃ ta tl tc, vs.getD k (.slice none 0 0) = .slice ta tl tc := by
        rcases (os.each k hlt).2 with ⟨e, h0⟩ | ⟨g, cap, cur, e, _⟩
        · exact ⟨none, 0, 0, e⟩
        · exact ⟨_, _, _, e⟩
      have hbX : Below wr.heap.size wr (wr.alloc (.cells #[.int .i64 (ss.getD k zst).1, vs.getD k (.slice none 0 0)] 47)) := (Below.refl _ _).alloc (Nat.le_refl _) _
      have HU := hide ((os.each k hlt).below hbX)
      have osX := os.below hbX
      have OT1 := hide (ot.below hbX)
      have LT := hide (World.ownsRow.lt ot)
      have K1 : Hid (∀ w' (row : Option Nat), (wr.alloc (.cells #[.int .i64 (ss.getD k zst).1, vs.getD k (.slice none 0 0)] 47)).grownBy w' row → (∀ b, row = some b → w1.heap.size ≤ b) → OStV w' w.heap.size (.slice (some ⟨ha, 0, none⟩) ss.length oc) ss vs) := hide fun w' row hg hrow => by
        refine osX.kept hg ?_ fun j hj => ?_
        · cases hv : (Value.slice (some ⟨ha, 0, none⟩) ss.length oc).ownBlock with
          | none => exact .inl rfl
          | some b =>
            refine .inr fun e => ?_
            have := hrow b e.symm
            have := (unhide HVB b hv).2
            omega
        · cases hv : (vs.getD j (.slice none 0 0)).ownBlock with
          | none => exact .inl rfl
          | some b =>
            refine .inr fun e => ?_
            have := hrow b e.symm
            have := (unhide HSB j hj b hv).2
            omega
      rw [hu] at c1 HU OT1 K1
      have BX := br.trans (hbX.mono br.size)
      rw [hu] at BX
      clear os ot osX hbX hu
      generalize (ss.getD k zst).1 = n at *
      generalize (ss.getD k zst).2 = ts at *
      go_wp2_with (first
        | (at_builtin; refine append_ot rfl _ _ rfl w1.heap.size w.heap.size _ (.slice ta tl tc) _ ts rfl rfl (unhide OT1) (unhide HU) (by omega) (by simp; omega) ?_; intro v' w2 ho' hg' hb'; have RS := unhide K1 w2 _ hg' (fun b e => (unhide LT b e).1); have RB := BX.grown hg' BX.size (fun j e => by have := (unhide LT j e).1; omega); have SZ := hg'.size; simp only [World.size_alloc] at SZ; rw [← unhide HF] at ho'; clear hg' hb'))
      go_roundw
      case rel => exact ⟨k + 1, by omega, by go_num, ho', RS, RB, by omega⟩
      case measure => simp [intOf]; omega
    · obtain rfl : k = ss.length := by omega
      rw [List.take_of_length_le (Nat.le_refl _)] at ot
      have OT1 := hide (row_lower2 ot s1)
      clear ot os
      go_wp2
      go_ret
      exact ⟨_, rfl, unhide OT1, br⟩
end Go.Proofs.YtiaafigpgnimeaaDoor

/- Lists of steps: they are held against each other, marked, and the marks are asked for. -/
namespace Go.Proofs.YtiaafigpgnimeaaDoor
open Go.RowKit

set_option maxHeartbeats 1600000 in
set_option maxRecDepth 100000 in
theorem eqStep_same (n : Int) (u u' : Value) (ts : List T4) (w : World) (h : RT w u ts) (h' : RT w u' ts) :
    Calls Tryd.prog 49 #[.agg #[.int .i64 n, u], .agg #[.int .i64 n, u']] w fun e w' => e = .returned (.bool true) ∧ Below w.heap.size w w' := by
  have EQ := hide fun w h h' => eqTxS_yes u u' ts w h h'
  have bX : Below w.heap.size w ((w.alloc (.cells #[.int .i64 n, u] 47)).alloc (.cells #[.int .i64 n, u'] 47)) := ((Below.refl _ _).alloc (Nat.le_refl _) _).alloc (by simp) _
  have H := hide (h.below bX)
  have H' := hide (h'.below bX)
  obtain ⟨_, ao, ca, rfl, _⟩ := h
  obtain ⟨_, ao', ca', rfl, _⟩ := h'
  go_enter Tryd.func49, Tryd.ntmps49
  go_wp2_with fail
  refine (unhide EQ _ (unhide H) (unhide H')).mono ?_
  rintro _ w1 ⟨rfl, b1⟩
  go_wp2
  go_ret
  exact ⟨rfl, bX.trans (b1.mono bX.size)⟩

set_option maxHeartbeats 4000000 in
set_option maxRecDepth 100000 in
theorem eqStepS_yes (v u : Value) (ss : List St) (w : World) (hl : ss.length ≤ 30) (hv : RSt w v ss) (hu : RSt w u ss) :
    Calls Tryd.prog 20 #[v, u] w fun e w' => e = .returned (.bool true) ∧ Below w.heap.size w w' := by
  obtain ⟨ao, ca, rfl, ha⟩ := hv
  obtain ⟨bo, cb, rfl, hb⟩ := hu
  go_enter Tryd.func20, Tryd.ntmps20
  go_wp2
  go_loopw [5] (fun i wr => ∃ k : Nat, k ≤ ss.length ∧ i = .int .i64 k ∧ Below w.heap.size w wr) (fun i _ => ss.length - (intOf i).toNat)
  case atStart => exact ⟨0, Nat.zero_le _, rfl, Below.refl _ _⟩
  case round =>
    obtain ⟨k, hk, rfl, br⟩ := hrel
    have hsr := br.size
    by_cases hlt : k < ss.length
    · rcases ha with ha | ⟨g, rfl, ha⟩
      · subst ha; simp at hlt
      rcases hb with hb | ⟨g', rfl, hb⟩
      · subst hb; simp at hlt
      obtain ⟨p, a0, a1, ra⟩ := ha k hlt
      obtain ⟨q, b0, b1, rb⟩ := hb k hlt
      have hg : g < w.heap.size := cell_lt a0
      have hg' : g' < w.heap.size := cell_lt b0
      generalize (ss.getD k zst).1 = n at *
      generalize (ss.getD k zst).2 = ts at *
      have K : Hid (∀ w', Below wr.heap.size wr w' → Below wr.heap.size wr w' ∧ (w'.cell? ⟨g, k * 2, none⟩ = some (.int .i64 n) ∧ w'.cell? ⟨g, k * 2 + 1, none⟩ = some p) ∧ (w'.cell? ⟨g', k * 2, none⟩ = some (.int .i64 n) ∧ w'.cell? ⟨g', k * 2 + 1, none⟩ = some q)) := fun w' hb' => by
        have hw := br.trans (hb'.mono hsr)
        exact ⟨hb', ⟨(hw.cell (p := ⟨g, k * 2, none⟩) hg).trans a0, (hw.cell (p := ⟨g, k * 2 + 1, none⟩) hg).trans a1⟩, ⟨(hw.cell (p := ⟨g', k * 2, none⟩) hg').trans b0, (hw.cell (p := ⟨g', k * 2 + 1, none⟩) hg').trans b1⟩⟩
      have EQ : Hid (∀ w', Below wr.heap.size wr w' → Calls Tryd.prog 49 #[.agg #[.int .i64 n, p], .agg #[.int .i64 n, q]] w' fun e w'' => e = .returned (.bool true) ∧ Below w'.heap.size w' w'') := hide fun w' hb' => by
        have hw := br.trans (hb'.mono hsr)
        exact eqStep_same n p q ts w' (ra.below hw) (rb.below hw)
      obtain ⟨_, pa, pc, rfl, _⟩ := ra
      obtain ⟨_, qa, qc, rfl, _⟩ := rb
      have bA : Below wr.heap.size wr wr.drew := Below.drew (Below.refl _ _)
      have hKeep := unhide K _ bA
      clear ha hb a0 a1 b0 b1
      go_wp2_with fail
      go_region_held3 (fun w' => Below wr.heap.size wr w' ∧ (w'.cell? ⟨g, k * 2, none⟩ = some (.int .i64 n) ∧ w'.cell? ⟨g, k * 2 + 1, none⟩ = some (.slice pa ts.length pc)) ∧ (w'.cell? ⟨g', k * 2, none⟩ = some (.int .i64 n) ∧ w'.cell? ⟨g', k * 2 + 1, none⟩ = some (.slice qa ts.length qc))) (exact hKeep) (first
        | (go_at_call 49; have hgo := bA; refine (unhide EQ _ bA).mono ?_; rintro e wa ⟨rfl, ba⟩
           have bB : Below wr.heap.size wr wa := bA.trans ba
           have hKeep := unhide K _ bB; clear bA hgo))
      all_goals
        go_wp2
        go_roundw
        case rel => exact ⟨k + 1, by omega, by go_num, br.trans (bB.mono hsr)⟩
        case measure => simp [intOf]; omega
    · have hkn : k = ss.length := by omega
      subst hkn
      go_wp2
      go_ret
      exact ⟨rfl, br⟩
/-- The marks of a list of steps, from k0 on; where they end. -/
def smk : Nat → List St → List St
  | _, [] => []
  | k, s :: ss => ((k : Int), tmarks (k + 1) s.2.length) :: smk (k + 1 + s.2.length * 4) ss
def kend : Nat → List St → Nat
  | k, [] => k
  | k, s :: ss => kend (k + 1 + s.2.length * 4) ss
theorem smk_len (k : Nat) (ss : List St) : (smk k ss).length = ss.length := by
  induction ss generalizing k with
  | nil => rfl
  | cons s ss ih => simp [smk, ih]
theorem smk_snoc (k : Nat) (ss : List St) (s : St) : smk k (ss ++ [s]) = smk k ss ++ [((kend k ss : Int), tmarks (kend k ss + 1) s.2.length)] ∧ kend k (ss ++ [s]) = kend k ss + 1 + s.2.length * 4 := by
  induction ss generalizing k with
  | nil => exact ⟨rfl, rfl⟩
  | cons x ss ih => simp only [List.cons_append, smk, kend, (ih _).1, (ih _).2]; exact ⟨trivial, trivial⟩
theorem kend_le (k : Nat) (ss : List St) (h : ∀ s ∈ ss, s.2.length ≤ 2) : kend k ss ≤ k + ss.length * 9 := by
  induction ss generalizing k with
  | nil => simp [kend]
  | cons s ss ih =>
    have h1 := h s (by simp)
    have h2 := ih (k + 1 + s.2.length * 4) fun x hx => h x (by simp [hx])
    simp only [kend, List.length_cons]; omega
theorem smk_two (k : Nat) (ss : List St) (h : ∀ s ∈ ss, s.2.length ≤ 2) : ∀ s ∈ smk k ss, s.2.length ≤ 2 := by
  induction ss generalizing k with
  | nil => simp [smk]
  | cons x ss ih =>
    intro s hs
    simp only [smk, List.mem_cons] at hs
    rcases hs with rfl | hs
    · simp only [tmarks_len]; exact h x (by simp)
    · exact ih _ (fun y hy => h y (by simp [hy])) s hs
theorem smk_get (k0 : Nat) (ss : List St) (k : Nat) (hk : k < ss.length) : (smk k0 ss).getD k zst = ((kend k0 (ss.take k) : Int), tmarks (kend k0 (ss.take k) + 1) (ss.getD k zst).2.length) := by
  induction ss generalizing k0 k with
  | nil => simp at hk
  | cons s ss ih =>
    cases k with
    | zero => rfl
    | succ k =>
      have := ih (k0 + 1 + s.2.length * 4) k (by simpa using hk)
      simpa [smk, kend] using this
/-- What of the list is marked behind k rounds. -/
def smix (k0 k : Nat) (ss : List St) : List St := smk k0 (ss.take k) ++ ss.drop k
theorem smix_len (k0 k : Nat) (ss : List St) (h : k ≤ ss.length) : (smix k0 k ss).length = ss.length := by
  simp [smix, smk_len]; omega
theorem smix_get_hi (k0 k j : Nat) (ss : List St) (hj : k ≤ j) (hl : j < ss.length) : (smix k0 k ss).getD j zst = ss.getD j zst := by
  unfold smix
  rw [List.getD_eq_getElem?_getD, List.getElem?_append_right (by simp [smk_len]; omega), List.getElem?_drop, smk_len, List.length_take, show k + (j - min k ss.length) = j by omega, ← List.getD_eq_getElem?_getD]
theorem smix_succ (k0 k : Nat) (ss : List St) (h : k < ss.length) : smix k0 (k + 1) ss = (smix k0 k ss).set k ((kend k0 (ss.take k) : Int), tmarks (kend k0 (ss.take k) + 1) (ss.getD k zst).2.length) := by
  unfold smix
  have e : ss.take (k + 1) = ss.take k ++ [ss.getD k zst] := by
    rw [List.take_succ_eq_append_getElem h, List.getD_eq_getElem?_getD, List.getElem?_eq_getElem h]; rfl
  rw [e, (smk_snoc k0 (ss.take k) (ss.getD k zst)).1, List.set_append_right _ _ (by simp [smk_len]; omega), smk_len, List.length_take, show k - min k ss.length = 0 by omega, List.drop_eq_getElem_cons h, List.set_cons_zero]
  simp
end Go.Proofs.YtiaafigpgnimeaaDoor

/- markStepS and heldStepS. -/
namespace Go.Proofs.YtiaafigpgnimeaaDoor
open Go.RowKit

theorem tmarkAny (base k0 : Nat) (v : Value) (xs : List T4) (w : World) (hl : xs.length ≤ 4194304) (hk : k0 ≤ 1000000) (h : OT w base v xs) :
    Calls Tryd.prog 35 #[v, .int .i64 k0] w fun e w' => e = .returned (.int .i64 (k0 + xs.length * 4)) ∧ OT w' base v (tmarks k0 xs.length) ∧ w.grownBy w' v.ownBlock := by
  have h' := h
  rcases h.2 with ⟨rfl, h0⟩ | ⟨g, cap, cur, rfl, _⟩
  · refine (tmark_none w k0).mono ?_
    rintro e w' ⟨rfl, rfl⟩
    have hx : xs = [] := List.length_eq_zero_iff.1 h0
    subst hx
    exact ⟨by simp, World.ownsRow_nil _ _ _ _, ⟨rfl, rfl, rfl, Nat.le_refl _, fun _ _ _ => rfl⟩⟩
  · refine (tmark_row base g xs.length cap k0 xs w hl hk rfl h').mono ?_
    rintro e w' ⟨rfl, ho, hg⟩
    exact ⟨rfl, ho, hg⟩
theorem scells_set (ps : List (Int × Value)) (k : Nat) (c : Int) (u : Value) (hk : k < ps.length) (hu : (ps.getD k (0, .slice none 0 0)).2 = u) : (scells ps).set (k * 2) (.int .i64 c) = scells (ps.set k (c, u)) := by
  induction ps generalizing k with
  | nil => simp at hk
  | cons p ps ih =>
    have e : ∀ (q : Int × Value) qs, scells (q :: qs) = .int .i64 q.1 :: q.2 :: scells qs := fun q qs => by simp [scells, scell]
    cases k with
    | zero =>
      simp at hu; subst hu
      rw [e, List.set_cons_zero, List.set_cons_zero, e]
    | succ k =>
      rw [List.set_cons_succ, e, e, show (k + 1) * 2 = k * 2 + 1 + 1 by omega, List.set_cons_succ, List.set_cons_succ, ih k (by simpa using hk) (by simpa using hu)]
theorem zip_set (ss : List St) (vs : List Value) (k : Nat) (x : St) (hl : vs.length = ss.length) (hk : k < ss.length) : ((ss.set k x).map (·.1)).zip vs = ((ss.map (·.1)).zip vs).set k (x.1, vs.getD k (.slice none 0 0)) := by
  apply List.ext_getElem?
  intro j
  by_cases hj : j < ss.length
  · rw [List.getElem?_eq_getElem (by simp; omega), List.getElem?_eq_getElem (by simp; omega)]
    rw [List.getElem_set]
    by_cases e : k = j
    · subst e
      simp [List.getElem?_eq_getElem (show k < vs.length by omega)]
    · simp [e]
  · rw [List.getElem?_eq_none (by simp; omega), List.getElem?_eq_none (by simp; omega)]
/-- One step is marked. -/
theorem ost_mark {w w1 w2 : World} {base g n cap k : Nat} {ss : List St} {vs : List Value} {c : Int} {ts : List T4} (h : OStV w base (.slice (some ⟨g, 0, none⟩) n cap) ss vs) (hk : k < ss.length)
    (t : w1.ownsRow base 47 2 (.slice (some ⟨g, 0, none⟩) n cap) ss.length ((scells ((ss.map (·.1)).zip vs)).set (k * 2) (.int .i64 c))) (g1 : w.grownBy w1 (some g))
    (o2 : OT w2 base (vs.getD k (.slice none 0 0)) ts) (g2 : w1.grownBy w2 (vs.getD k (.slice none 0 0)).ownBlock) : OStV w2 base (.slice (some ⟨g, 0, none⟩) n cap) (ss.set k (c, ts)) vs := by
  have key1 : ∀ j, j < ss.length → OT w1 base (vs.getD j (.slice none 0 0)) (ss.getD j zst).2 := fun j hj => by
    refine World.ownsRow.kept (h.each j hj) g1 ?_
    cases hv : (vs.getD j (.slice none 0 0)).ownBlock with
    | none => exact .inl rfl
    | some b =>
      refine .inr fun e => ?_
      have e2 : b = g := by simpa using e
      subst e2
      exact st_ot h.row (h.each j hj) b rfl hv
  have hz : ((ss.map (·.1)).zip vs).length = ss.length := by simp [h.len]
  refine ⟨by simp [h.len], ?_, fun j hj => ?_, fun i j hij hj => h.apart i j hij (by simpa using hj)⟩
  · rw [List.length_set, zip_set ss vs k _ h.len hk, ← scells_set _ k c _ (by omega) (by rw [zip_get ss vs h.len k hk])]
    refine World.ownsRow.kept t g2 (.inr fun e => ?_)
    exact st_ot t (key1 k hk) g rfl (by rw [← e]; rfl)
  · rw [List.length_set] at hj
    by_cases e : k = j
    · subst e
      have : (ss.set k (c, ts)).getD k zst = (c, ts) := by simp [hk]
      rw [this]; exact o2
    · have : (ss.set k (c, ts)).getD j zst = ss.getD j zst := by simp [e]
      rw [this]
      refine World.ownsRow.kept (key1 j hj) g2 ?_
      cases hv : (vs.getD j (.slice none 0 0)).ownBlock with
      | none => exact .inl rfl
      | some b =>
        refine .inr fun e2 => ?_
        rcases Nat.lt_or_ge k j with h3 | h3
        · exact h.apart k j h3 hj b e2.symm hv
        · exact h.apart j k (by omega) hk b hv e2.symm
theorem ost_first {w w1 : World} {base g n cap k : Nat} {ss : List St} {vs : List Value} (h : OStV w base (.slice (some ⟨g, 0, none⟩) n cap) ss vs) (hk : k < ss.length) (g1 : w.grownBy w1 (some g)) : OT w1 base (vs.getD k (.slice none 0 0)) (ss.getD k zst).2 := by
  refine World.ownsRow.kept (h.each k hk) g1 ?_
  cases hv : (vs.getD k (.slice none 0 0)).ownBlock with
  | none => exact .inl rfl
  | some b =>
    refine .inr fun e => ?_
    have e2 : b = g := by simpa using e
    subst e2
    exact st_ot h.row (h.each k hk) b rfl hv

set_option maxHeartbeats 8000000 in
set_option maxRecDepth 100000 in
theorem smark1 (base : Nat) (v : Value) (ss : List St) (vs : List Value) (w : World) (hl : ss.length ≤ 30) (h2 : ∀ s ∈ ss, s.2.length ≤ 2) (hb : base ≤ w.heap.size) (h : OStV w base v ss vs) :
    Calls Tryd.prog 21 #[v, .int .i64 1] w fun e w' => e = .returned (.int .i64 (kend 1 ss)) ∧ OStV w' base v (smk 1 ss) vs ∧ Below base w w' := by
  obtain ⟨va, vc, rfl⟩ := OSt.form ⟨vs, h⟩
  have H2 := hide h2
  have HS := hide h
  clear h2 h
  go_enter Tryd.func21, Tryd.ntmps21
  go_wp2
  go_loopw [1, 5] (fun c i wr => ∃ k : Nat, k ≤ ss.length ∧ i = .int .i64 k ∧ c = .int .i64 ((kend 1 (ss.take k) : Nat) : Int) ∧ OStV wr base (.slice va ss.length vc) (smix 1 k ss) vs ∧ Below base w wr ∧ base ≤ wr.heap.size) (fun _ i _ => ss.length - (intOf i).toNat)
  case atStart => exact ⟨0, Nat.zero_le _, rfl, rfl, unhide HS, Below.refl _ _, hb⟩
  case round =>
    clear HS
    obtain ⟨k, hk, rfl, rfl, os, br, sz⟩ := hrel
    by_cases hlt : k < ss.length
    · have hlen := smix_len 1 k ss hk
      have hkl : k < (smix 1 k ss).length := by omega
      obtain ⟨g, rfl⟩ : ∃ g, va = some ⟨g, 0, none⟩ := by
        rcases os.row.2 with ⟨e, h0⟩ | ⟨g, cap, cur, e, _⟩
        · omega
        · injection e with e1 e2 e3; exact ⟨g, e1⟩
      have hke := kend_le 1 (ss.take k) fun s hs => unhide H2 s (List.mem_of_mem_take hs)
      rw [List.length_take] at hke
      have hkb : kend 1 (ss.take k) ≤ 300 := by omega
      clear hke
      have hts := unhide H2 (ss.getD k zst) (by rw [List.getD_eq_getElem?_getD, List.getElem?_eq_getElem hlt]; exact List.getElem_mem hlt)
      have hge := smix_get_hi 1 k k ss (Nat.le_refl _) hlt
      have row' := os.row
      rw [hlen] at row'
      have c0 := World.ownsRow.cellAt row' (k * 2 + 0) (by omega)
      have c1 := World.ownsRow.cellAt row' (k * 2 + 1) (by omega)
      rw [scells_get _ k _ (by simp [os.len]; omega) (by omega), zip_get _ vs os.len k hkl] at c0 c1
      replace c0 : wr.cell? ⟨g, k * 2, none⟩ = some (.int .i64 ((smix 1 k ss).getD k zst).1) := by simpa [scell] using c0
      replace c1 : wr.cell? ⟨g, k * 2 + 1, none⟩ = some (vs.getD k (.slice none 0 0)) := by simpa [scell] using c1
      have hfr := World.ownsRow.frozenAt row'
      have ST := World.ownsRow.stored row' (k * 2) (.int .i64 ((kend 1 (ss.take k) : Nat) : Int))
      have c1' : (wr.setCell ⟨g, k * 2, none⟩ (.int .i64 ((kend 1 (ss.take k) : Nat) : Int))).cell? ⟨g, k * 2 + 1, none⟩ = some (vs.getD k (.slice none 0 0)) := (World.cell?_setCell_other _ _ _ _ (fun e => by have := congrArg Addr.off e; simp only at this; omega)).trans c1
      have O1 := ost_first os hkl ST.2
      rw [hge] at O1
      have MK := hide (tmarkAny base (kend 1 (ss.take k) + 1) _ _ _ (by omega) (by omega) O1)
      have FIN : Hid (∀ w2, OT w2 base (vs.getD k (.slice none 0 0)) (tmarks (kend 1 (ss.take k) + 1) (ss.getD k zst).2.length) → (wr.setCell ⟨g, k * 2, none⟩ (.int .i64 ((kend 1 (ss.take k) : Nat) : Int))).grownBy w2 (vs.getD k (.slice none 0 0)).ownBlock → OStV w2 base (.slice (some ⟨g, 0, none⟩) ss.length vc) (smix 1 (k + 1) ss) vs ∧ Below base w w2 ∧ base ≤ w2.heap.size) := hide fun w2 o2 g2 => by
        refine ⟨?_, ?_, ?_⟩
        · rw [smix_succ 1 k ss hlt]
          exact ost_mark os hkl (by rw [hlen]; exact ST.1) ST.2 o2 g2
        · have l1 := World.ownsRow.lt row'
          have b1 := br.grown ST.2 sz (fun j e => by cases e; exact (l1 g rfl).1)
          exact b1.grown g2 (Nat.le_trans sz ST.2.size) (fun j e => (World.ownsRow.lt O1 j e).1)
        · exact Nat.le_trans sz (Nat.le_trans ST.2.size g2.size)
      have KE := hide (show ((kend 1 (ss.take (k + 1)) : Nat) : Int) = ((kend 1 (ss.take k) + 1 : Nat) : Int) + ((ss.getD k zst).2.length : Int) * 4 by
        have e : ss.take (k + 1) = ss.take k ++ [ss.getD k zst] := by
          rw [List.take_succ_eq_append_getElem hlt, List.getD_eq_getElem?_getD, List.getElem?_eq_getElem hlt]; rfl
        rw [e, (smk_snoc 1 (ss.take k) (ss.getD k zst)).2]; omega)
      obtain ⟨ta, tl, tc, hu⟩ : ∃ ta tl tc, vs.getD k (.slice none 0 0) = .slice ta tl tc := by
        rcases O1.2 with ⟨e, h0⟩ | ⟨g, cap, cur, e, _⟩
        · exact ⟨none, 0, 0, e⟩
        · exact ⟨_, _, _, e⟩
      rw [hu] at c1' MK FIN
      clear os ST O1 hu c1 hge row'
      generalize (ss.getD k zst).2.length = tn at *
      generalize kend 1 (ss.take k) = kk at *
      generalize hkk : kend 1 (ss.take (k + 1)) = kk' at *
      have e1 : ((kk + 1 : Nat) : Int) = (kk : Int) + 1 := by omega
      rw [e1] at MK KE
      clear e1
      go_wp2_with fail
      refine (unhide MK).mono ?_
      rintro _ w2 ⟨rfl, o2, g2⟩
      obtain ⟨f1, f2, f3⟩ := unhide FIN w2 o2 g2
      clear o2 g2 MK FIN
      go_wp2
      go_roundw
      case rel => exact ⟨k + 1, by omega, by go_num, by rw [hkk, unhide KE], f1, f2, f3⟩
      case measure => simp [intOf]; omega
    · obtain rfl : k = ss.length := by omega
      have e1 : smix 1 ss.length ss = smk 1 ss := by simp [smix]
      have e2 : ss.take ss.length = ss := List.take_of_length_le (Nat.le_refl _)
      rw [e1] at os
      rw [e2]
      have OS' := hide os
      clear os
      go_wp2
      go_ret
      exact ⟨rfl, unhide OS', br⟩

set_option maxHeartbeats 8000000 in
set_option maxRecDepth 100000 in
theorem sheld1 (v : Value) (ss : List St) (w : World) (hl : ss.length ≤ 30) (h2 : ∀ s ∈ ss, s.2.length ≤ 2) (h : RSt w v (smk 1 ss)) :
    Calls Tryd.prog 22 #[v, .int .i64 1] w fun e w' => e = .returned (.int .i64 (kend 1 ss)) ∧ Below w.heap.size w w' := by
  obtain ⟨va, vc, rfl, ha⟩ := h
  rw [smk_len] at ha ⊢
  have H2 := hide h2
  clear h2
  go_enter Tryd.func22, Tryd.ntmps22
  go_wp2
  go_loopw [1, 5] (fun c i wr => ∃ k : Nat, k ≤ ss.length ∧ i = .int .i64 k ∧ c = .int .i64 ((kend 1 (ss.take k) : Nat) : Int) ∧ Below w.heap.size w wr) (fun _ i _ => ss.length - (intOf i).toNat)
  case atStart => exact ⟨0, Nat.zero_le _, rfl, rfl, Below.refl _ _⟩
  case round =>
    obtain ⟨k, hk, rfl, rfl, br⟩ := hrel
    by_cases hlt : k < ss.length
    · rcases ha with ha | ⟨g, rfl, ha⟩
      · have := congrArg List.length ha; rw [smk_len, List.length_nil] at this; omega
      obtain ⟨u, a0, a1, ra⟩ := ha k hlt
      rw [smk_get 1 ss k hlt] at a0 ra
      have hg : g < w.heap.size := cell_lt a0
      have c0 := (br.cell (p := ⟨g, k * 2, none⟩) hg).trans a0
      have c1 := (br.cell (p := ⟨g, k * 2 + 1, none⟩) hg).trans a1
      have hke := kend_le 1 (ss.take k) fun s hs => unhide H2 s (List.mem_of_mem_take hs)
      rw [List.length_take] at hke
      have hkb : kend 1 (ss.take k) ≤ 300 := by omega
      clear hke
      have hts := unhide H2 (ss.getD k zst) (by rw [List.getD_eq_getElem?_getD, List.getElem?_eq_getElem hlt]; exact List.getElem_mem hlt)
      have HD := hide (theld_row u (ss.getD k zst).2.length (kend 1 (ss.take k) + 1) wr (by omega) (by omega) (ra.below br))
      have KE := hide (show ((kend 1 (ss.take (k + 1)) : Nat) : Int) = ((kend 1 (ss.take k) + 1 : Nat) : Int) + ((ss.getD k zst).2.length : Int) * 4 by
        have e : ss.take (k + 1) = ss.take k ++ [ss.getD k zst] := by
          rw [List.take_succ_eq_append_getElem hlt, List.getD_eq_getElem?_getD, List.getElem?_eq_getElem hlt]; rfl
        rw [e, (smk_snoc 1 (ss.take k) (ss.getD k zst)).2]; omega)
      obtain ⟨_, ua, uc, rfl, _⟩ := ra
      rw [tmarks_len] at c1 HD
      clear ha a0 a1
      generalize (ss.getD k zst).2.length = tn at *
      generalize kend 1 (ss.take k) = kk at *
      generalize hkk : kend 1 (ss.take (k + 1)) = kk' at *
      simp only at c0
      have e1 : ((kk + 1 : Nat) : Int) = (kk : Int) + 1 := by omega
      rw [e1] at HD KE
      clear e1
      have e3 : decide ((kk : Int) + 1 + (tn : Int) * 4 < 0) = false := by simp; omega
      go_wp2_with fail
      refine (unhide HD).mono ?_
      rintro _ w2 ⟨rfl, b2⟩
      go_wp2
      go_roundw
      case rel => exact ⟨k + 1, by omega, by go_num, by rw [hkk, unhide KE], br.trans (b2.mono br.size)⟩
      case measure => simp [intOf]; omega
    · obtain rfl : k = ss.length := by omega
      have e2 : ss.take ss.length = ss := List.take_of_length_le (Nat.le_refl _)
      rw [e2]
      clear ha
      go_wp2
      go_ret
      exact ⟨rfl, br⟩
end Go.Proofs.YtiaafigpgnimeaaDoor
