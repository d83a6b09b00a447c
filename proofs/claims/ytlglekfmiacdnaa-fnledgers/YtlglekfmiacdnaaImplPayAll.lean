/- impl.PayAll. -/
import Derived.Test.YtlglekfmiacdnaaPayEachBad
import Derived.Test.YtlglekfmiacdnaaTxRows
import Derived.Laws.EntriesVeiled
namespace Go.Proofs.Ytlglekfmiacdnaa
open Go.RowKit
set_option linter.unusedSectionVars false
variable [∀ (m a b c d : Int), Decidable (In4 m a b c d)]
variable [∀ (xs ys : List Int), Decidable (LOk xs ys)]
variable [∀ (a b c d : Int), Decidable (Ok4 a b c d)]

theorem Try.infoPay : (Try.prog.info? 65).map (fun i => (i.zero, i.size, i.bytes)) = some (some .nilFunc, 1, 8) := by kernel_rfl
/-- The payments behind k rounds. -/
def phalf (ts : List T4) (k : Nat) : List Value := (ts.take k).map pfun ++ List.replicate (ts.length - k) .nilFunc
theorem phalf_zero (ts : List T4) : phalf ts 0 = List.replicate ts.length .nilFunc := by simp [phalf]
theorem phalf_all (ts : List T4) : phalf ts ts.length = ts.map pfun := by simp [phalf]
theorem phalf_len (ts : List T4) (k : Nat) (h : k ≤ ts.length) : (phalf ts k).length = ts.length := by simp [phalf]; omega
theorem phalf_set (ts : List T4) (k : Nat) (h : k < ts.length) : (phalf ts k).set k (pfun (ts.getD k (0, 0, 0, 0))) = phalf ts (k + 1) := by
  have e : ts.length - k = (ts.length - (k + 1)) + 1 := by omega
  have hk : (ts.take k).length = k := by simp; omega
  unfold phalf
  rw [List.take_succ_eq_append_getElem h, e, List.replicate_succ, List.map_append, List.set_append_right _ _ (by simp; omega), List.length_map, hk, Nat.sub_self]
  simp [List.getElem?_eq_getElem h]

set_option maxHeartbeats 16000000 in
set_option maxRecDepth 100000 in
theorem implPayAll (u v p : Value) (xs ys : List Int) (ts : List T4) (w : World) (hu : RI w u xs ∧ RI w v ys) (hp : RT w p ts) (htl : ts.length ≤ 4194304) :
    Calls Try.prog 13 #[lv u v, p] w (EachEnd w (eachAns xs ys ts)) := by
  obtain ⟨i0, hi, hz0, hz1, hz2⟩ := info_parts Try.infoPay
  have EA := hide fun p w h1 h2 => payEach_any u v p xs ys ts w h1 h2
  have RU := hide hu
  obtain ⟨ua, uc, rfl⟩ : ∃ ua uc, u = .slice ua xs.length uc := by obtain ⟨_, ua, uc, h, _⟩ := hu.1; exact ⟨ua, uc, h⟩
  obtain ⟨va, vc, rfl⟩ : ∃ va vc, v = .slice va ys.length vc := by obtain ⟨_, va, vc, h, _⟩ := hu.2; exact ⟨va, vc, h⟩
  obtain ⟨_, pa, pc, rfl, hpc⟩ := hp
  have HPC := hide hpc
  obtain ⟨n, hn⟩ : ∃ n, ts.length = n := ⟨_, rfl⟩
  have Hn := hide hn
  rw [hn] at htl ⊢
  clear hu hpc hn
  obtain ⟨r, hr⟩ : ∃ r, eachAns xs ys ts = r := ⟨_, rfl⟩
  rw [hr] at EA ⊢
  clear hr
  obtain ⟨w0, hw0⟩ : ∃ w0, (w.alloc (.cells #[.slice ua xs.length uc, .slice va ys.length vc] 26)).alloc (.cells #[.slice none 0 0, .slice none 0 0] 26) = w0 := ⟨_, rfl⟩
  have B0 : Below w.heap.size w w0 := hw0 ▸ ((Below.refl w.heap.size w).alloc (Nat.le_refl _) _).alloc (by simp) _
  have L0 : Loc w0 w.heap.size #[.slice ua xs.length uc, .slice va ys.length vc] := hw0 ▸ (loc_at w _ _ rfl).alloc _
  have R0 : Loc w0 (w.heap.size + 1) #[.slice none 0 0, .slice none 0 0] := hw0 ▸ loc_at _ _ _ (by simp)
  have s0 : w0.heap.size = w.heap.size + 2 := by rw [← hw0]; simp
  go_enter Try.func13, Try.ntmps13
  go_wp2_with (first
    | (at_make; refine wpList_make_full _ rfl _ _ 63 rfl (w.heap.size + 2) 65 i0 .nilFunc 1 Try.underlying63 hi hz0 hz1 .i64 .i64 n n n rfl rfl rfl rfl (by rw [hz2]; omega) (by unfold maxLen; omega) (by omega) ?_; intro w1 ho1 hg1
       have k1 := kp_grown hg1
       have L1 := L0.kp k1 (by simp)
       have R1 := R0.kp k1 (by simp)
       have B1 := Below.kp B0 k1 B0.size (by simp)
       have s1 := hg1.size
       rw [s0] at ho1
       clear k1 hg1 L0 R0 B0 hw0))
  have ho1 : w1.ownsRow (w.heap.size + 2) 65 1 (.slice (some ⟨w.heap.size + 2, 0, none⟩) n n) n (phalf ts 0) := by
    have e : (madeCells Value.nilFunc.cells (n * 1)).toList = phalf ts 0 := by
      rw [phalf_zero, unhide Hn, Nat.mul_one]; exact toList_madeCells_one _ _
    rw [← e]; exact ho1
  go_loopw [14] (fun i wr => ∃ k : Nat, k ≤ n ∧ i = .int .i64 k ∧ wr.ownsRow (w.heap.size + 2) 65 1 (.slice (some ⟨w.heap.size + 2, 0, none⟩) n n) n (phalf ts k) ∧ Loc wr w.heap.size #[.slice ua xs.length uc, .slice va ys.length vc] ∧ Loc wr (w.heap.size + 1) #[.slice none 0 0, .slice none 0 0] ∧ Below w.heap.size w wr) (fun i _ => n - (intOf i).toNat)
  case atStart => exact ⟨0, Nat.zero_le _, rfl, ho1, L1, R1, B1⟩
  case round =>
    clear ho1 L1 R1 B1
    obtain ⟨k, hk, rfl, ho, L, R, B⟩ := hrel
    have lw := (World.ownsRow.lt ho (w.heap.size + 2) rfl).2
    by_cases hlt : k < n
    · have hkx : k < ts.length := by rw [unhide Hn]; exact hlt
      obtain ⟨g, rfl, hc⟩ : ∃ g, pa = some ⟨g, 0, none⟩ ∧ Cells4K wr g k (ts.getD k (0, 0, 0, 0)) := by
        rcases unhide HPC with h | ⟨g, h1, h2⟩
        · subst h; simp at hkx
        · obtain ⟨c0, c1, c2, c3⟩ := h2 k hkx
          have hg : g < w.heap.size := cell_lt c0
          exact ⟨g, h1, (B.cell (p := ⟨g, k * 4, none⟩) hg).trans c0, (B.cell (p := ⟨g, k * 4 + 1, none⟩) hg).trans c1, (B.cell (p := ⟨g, k * 4 + 2, none⟩) hg).trans c2, (B.cell (p := ⟨g, k * 4 + 3, none⟩) hg).trans c3⟩
      have PS := hide (phalf_set ts k hkx)
      have PL := phalf_len ts k (by omega)
      obtain ⟨t, ht⟩ : ∃ t, ts.getD k (0, 0, 0, 0) = t := ⟨_, rfl⟩
      rw [ht] at PS hc
      clear ht
      obtain ⟨a, b, c, d⟩ := t
      obtain ⟨c0, c1, c2, c3⟩ := hc
      simp only at c0 c1 c2 c3
      obtain ⟨w2, hw2⟩ : ∃ w2, wr.alloc (.cells (r4 a b c d) 33) = w2 := ⟨_, rfl⟩
      have b2 : Below wr.heap.size wr w2 := hw2 ▸ (Below.refl _ _).alloc (Nat.le_refl _) _
      have X2 : Loc w2 wr.heap.size (r4 a b c d) := hw2 ▸ loc_at wr _ _ rfl
      have ho2 : w2.ownsRow (w.heap.size + 2) 65 1 (.slice (some ⟨w.heap.size + 2, 0, none⟩) n n) n (phalf ts k) := hw2 ▸ ho.alloc _
      have L2 := L.below b2 L.lt
      have R2 := R.below b2 R.lt
      have B2 := B.trans (b2.mono B.size)
      obtain ⟨x0, x1, x2, x3⟩ := X2.cells4
      obtain ⟨e5, he5⟩ : ∃ e5, w2.cell? ⟨w.heap.size + 2, k, none⟩ = some e5 := ⟨_, (ho2.cellAt k (by omega)).trans (List.getElem?_eq_getElem (by rw [PL]; exact hkx))⟩
      have F5 := ho2.frozenAt k
      have HS : Hid ((w2.setCell ⟨w.heap.size + 2, k, none⟩ (pfun (a, b, c, d))).ownsRow (w.heap.size + 2) 65 1 (.slice (some ⟨w.heap.size + 2, 0, none⟩) n n) n (phalf ts (k + 1))) := by
        rw [← unhide PS]; exact (ho2.stored k _).1
      clear ho ho2 L R B X2
      go_wp2
      go_roundw
      case rel => exact ⟨k + 1, by omega, by go_num, unhide HS, L2.other (by simp) _, R2.other (by simp) _, Below.set B2 _ _ (by omega)⟩
      case measure => simp [intOf]; omega
    · have hkn : k = n := by omega
      have HP : RP wr (.slice (some ⟨w.heap.size + 2, 0, none⟩) n n) ts := by
        refine ⟨by rw [unhide Hn]; omega, _, n, by rw [unhide Hn], .inr ⟨_, 0, rfl, fun j hj => ?_⟩⟩
        rw [unhide Hn] at hj
        rw [Nat.zero_add, ho.cellAt j (by omega), hkn]
        have e := phalf_all ts
        rw [unhide Hn] at e
        rw [e]
        have hj' : j < ts.length := by rw [unhide Hn]; exact hj
        simp [List.getElem?_map, List.getElem?_eq_getElem hj']
      have HP := hide HP
      have q0 := L.cell 0 rfl
      have q1 := L.cell 1 rfl
      subst hkn
      clear ho
      go_wp2_with fail
      refine (unhide EA _ _ ⟨(unhide RU).1.below B (Nat.le_refl _), (unhide RU).2.below B (Nat.le_refl _)⟩ (unhide HP)).mono ?_
      rintro _ w5 ⟨ul, vl, cs, mid, rfl, oc, lt1, hm, ol, b5⟩
      have R5 := R.below b5 R.lt
      have B5 := B.trans (b5.mono B.size)
      obtain ⟨la, lc, rfl⟩ := ol.has.form
      obtain ⟨ma, mc, rfl⟩ := ol.next.form
      have y0 := R5.cell 0 rfl
      have y1 := R5.cell 1 rfl
      have FR := R5.frozen
      have tc := World.ownsRow.lt oc
      have oc := hide oc
      have ol := hide ol
      have lr := R.lt
      clear q0 q1 b5 L R B
      go_wp2
      refine bodyPost_ret (v := .tuple #[lv (.slice la r.1.length lc) (.slice ma r.2.1.length mc), cs]) (by simp [results, Try.results13, go_sem, y0, y1]) rfl ?_
      have K7 : Kp w5 ((w5.setCell ⟨w.heap.size + 1, 0, none⟩ (.slice la r.1.length lc)).setCell ⟨w.heap.size + 1, 1, none⟩ (.slice ma r.2.1.length mc)) (fun k => k = w.heap.size + 1) := (set_kp w5 _ 0 _).trans (set_kp _ _ 1 _)
      refine ⟨_, _, _, mid, rfl, ?_, lt1, by omega, ?_, ?_⟩
      · exact ((unhide oc).kp K7 (fun j hj => by have := (tc j hj).1; omega)).mono (by omega)
      · exact ((unhide ol).kp K7 (fun j h1 _ e => by omega)).mono (Nat.le_refl _) (by simp)
      · exact Below.set (Below.set B5 _ _ (by omega)) _ _ (by omega)
end Go.Proofs.Ytlglekfmiacdnaa
