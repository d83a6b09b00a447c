/- spec.l4DrawRight, l4Draw, DrawPoolAdd, DrawPoolTake. -/
import Derived.Test.YthdehhenkgkkmaaDoorBunH
import Derived.Test.YthdehhenkgkkmaaDoorBunK
/- spec.l4DrawRight, l4Draw, DrawPoolAdd, DrawPoolTake. -/
namespace Go.Proofs.YthdehhenkgkkmaaDoor
open Go.RowKit
set_option linter.unusedSectionVars false
variable [∀ (a b c d : Int), Decidable (Ok4 a b c d)]
variable [∀ (m a b c d : Int), Decidable (In4 m a b c d)]
variable [∀ (xs ys : List Int), Decidable (LOk xs ys)]
variable [∀ (x y : T4), Decidable (Bef x y)]
variable [∀ (ts : List T4), Decidable (Asc ts)]
variable [∀ (ts : List T4), Decidable (AllOk ts)]
variable [∀ (ts : List T4), Decidable (POk ts)]

theorem grown_below' {a b c : World} {g : Nat} (h : a.grownBy b (some g)) (k : Below b.heap.size b c) : a.grownBy c (some g) :=
  grown_trans h ⟨k.os, k.tape, k.output, k.size, fun i hi _ => k.block i hi⟩

set_option maxHeartbeats 4000000 in
set_option maxRecDepth 100000 in
theorem drawPoolR (base g ca : Nat) (ao : Option Addr) (zs : List Int) (w : World) (hB : base ≤ w.heap.size) (h : Cur w base g ao ca zs) :
    Calls Tryd.prog 43 #[.pointer (some ⟨g, 0, none⟩)] w fun e w' => ∃ (v : Value) (ts : List T4), e = .returned v ∧ ts.length ≤ 9 ∧ OT w' w.heap.size v ts ∧ Cur w' base g ao ca zs ∧ w.grownBy w' (some g) := by
  have hlt := h.lt
  have H0 := hide (h.alloc hB (.cells #[] 26))
  have PA := hide fun v ts x w h1 h2 h3 => specPoolAdd v ts x w h1 h2 h3
  clear h
  go_enter Tryd.func43, Tryd.ntmps43
  go_wp2
  go_loopw [3, 4] (fun v i wr => ∃ (k : Nat) (ts : List T4), k ≤ 9 ∧ i = .int .i64 k ∧ ts.length ≤ k ∧ OT wr w.heap.size v ts ∧ Cur wr base g ao ca zs ∧ w.grownBy wr (some g)) (fun _ i _ => 9 - (intOf i).toNat)
  case atStart => exact ⟨0, [], by omega, rfl, Nat.le_refl _, World.ownsRow_lit w #[] 0 (Nat.le_refl _) (by unfold maxLen; omega) rfl, unhide H0, World.grownBy_alloc w _ _⟩
  case round =>
    obtain ⟨k, ts, hk, rfl, htl, ho, hc, hg⟩ := hrel
    have hsz := hg.size
    obtain ⟨pa, pc, rfl⟩ := ho.form
    have P := hide (And.intro ho (And.intro hc hg))
    clear ho hc hg H0
    go_wp2_with fail
    refine (below_any base g ca ao zs 9 _ (by omega) (by omega) (by omega) (unhide P).2.1).mono ?_
    rintro e w1 ⟨n, rfl, _, n1, c1, e1⟩
    have s1 := e1.size
    have P1 := hide (And.intro ((unhide P).1.grown e1 hlt) (And.intro c1 (grown_trans (unhide P).2.2 e1)))
    clear P c1 e1
    by_cases hkn : (k : Int) < n
    · go_wp2_with fail
      refine (drawRight base g ca ao zs _ (by omega) (unhide P1).2.1).mono ?_
      rintro e w2 ⟨a, b, c, d, rfl, _, c2, e2⟩
      have s2 := e2.size
      have ho2 := (unhide P1).1.grown e2 hlt
      have hg2 := hide (grown_trans (unhide P1).2.2 e2)
      have hc2 := hide c2
      clear P1 c2 e2
      go_wp2_with fail
      refine (unhide PA _ ts (a, b, c, d) _ (ho2.rt (by omega)) ho2.capped (by omega)).mono ?_
      rintro e w3 ⟨u, rfl, o3, b3⟩
      have s3 := b3.size
      have al := addAns_len ts (a, b, c, d)
      have C3 := (unhide hc2).below (by omega) b3
      have G3 := grown_below' (unhide hg2) b3
      have O3 := hide (o3.mono (show w.heap.size ≤ w2.heap.size by omega))
      clear o3 b3 ho2 hg2 hc2
      generalize addAns ts (a, b, c, d) = q at *
      go_wp2
      go_roundw
      case rel => exact ⟨k + 1, q.1, by omega, by go_num, by omega, unhide O3, C3, G3⟩
      case measure => simp [intOf]; omega
    · have hd : decide ((k : Int) < n) = false := by simpa using hkn
      go_wp2
      go_ret
      exact ⟨_, ts, rfl, by omega, (unhide P1).1, (unhide P1).2.1, (unhide P1).2.2⟩

set_option maxHeartbeats 8000000 in
set_option maxRecDepth 100000 in
theorem drawPool (base g ca : Nat) (ao : Option Addr) (zs : List Int) (w : World) (hB : base ≤ w.heap.size) (h : Cur w base g ao ca zs) :
    Calls Tryd.prog 20 #[.pointer (some ⟨g, 0, none⟩)] w fun e w' => ∃ (v : Value) (ts : List T4), e = .returned v ∧ ts.length ≤ 26 ∧ OT w' w.heap.size v ts ∧ Cur w' base g ao ca zs ∧ w.grownBy w' (some g) := by
  have hlt := h.lt
  have PA := hide fun v ts x w h1 h2 h3 => specPoolAdd v ts x w h1 h2 h3
  go_enter Tryd.func20, Tryd.ntmps20
  go_wp2_with fail
  refine (drawPoolR base g ca ao zs _ hB h).mono ?_
  rintro e w1 ⟨v1, ts, rfl, htl, o1, c1, e1⟩
  have s1 := e1.size
  obtain ⟨pa, pc, rfl⟩ := o1.form
  clear h
  go_wp2_with fail
  refine (below_any base g ca ao zs 8 _ (by omega) (by omega) (by omega) c1).mono ?_
  rintro e w2 ⟨n, rfl, n0, n1, c2, e2⟩
  have s2 := e2.size
  have o2 := o1.grown e2 hlt
  have g2 := grown_trans e1 e2
  clear o1 c1 e1 e2
  by_cases h0 : n = 0
  · subst h0
    go_wp2_with fail
    refine (drawTx base g ca ao zs _ (by omega) c2).mono ?_
    rintro e w3 ⟨a, b, c, d, rfl, c3, e3⟩
    have s3 := e3.size
    obtain ⟨w4, hw4⟩ : ∃ y, w3.alloc (.cells #[.int .i64 a, .int .i64 b, .int .i64 c, .int .i64 d] 26) = y := ⟨_, rfl⟩
    have b4 : Below w3.heap.size w3 w4 := hw4 ▸ (Below.refl _ _).alloc (Nat.le_refl _) _
    have s4 := b4.size
    have o4 := hide ((o2.grown e3 hlt).below b4)
    have c4 := hide (c3.below (by omega) b4)
    have g4 := hide (grown_below' (grown_trans g2 e3) b4)
    have P4 : Hid (PT w4 (.slice (some ⟨w3.heap.size, 0, none⟩) 1 1) [(a, b, c, d)]) := hide (hw4 ▸ OT.pt (base := 0) (World.ownsRow_lit w3 #[.int .i64 a, .int .i64 b, .int .i64 c, .int .i64 d] 1 (Nat.zero_le _) (by unfold maxLen; omega) rfl))
    have tl := World.ownsRow.lt (unhide o4)
    clear o2 c2 g2 c3 e3 b4
    go_wp2_with (first | (at_builtin; refine append_piece rfl _ _ rfl w.heap.size (.slice pa ts.length pc) (.slice (some ⟨w3.heap.size, 0, none⟩) 1 1) ts [(a, b, c, d)] rfl rfl (unhide o4) (unhide P4) (by simp; omega) (by omega) ?_; intro v5 w5 ho5 hg5 _; have O5 := hide ho5; have C5 := hide ((unhide c4).grownNew hg5 (fun j e => by have := (tl j e).1; omega)); have G5 := hide (grown_new (unhide g4) hg5 (fun j e => (tl j e).1)); clear ho5 hg5))
    go_ret
    exact ⟨_, _, rfl, by simp; omega, unhide O5, unhide C5, unhide G5⟩
  · have h0' : (n == 0) = false := by simpa using h0
    by_cases h1 : n = 1
    · subst h1
      have o2 := hide o2
      have c2 := hide c2
      have g2 := hide g2
      go_wp2
      go_loopw [3, 4] (fun v i wr => ∃ (k : Nat) (ys : List T4), k ≤ 4 ∧ i = .int .i64 k ∧ ys.length ≤ 9 + 4 * k ∧ OT wr w.heap.size v ys ∧ Cur wr base g ao ca zs ∧ w.grownBy wr (some g)) (fun _ i _ => 4 - (intOf i).toNat)
      case atStart => exact ⟨0, ts, by omega, by go_num, by omega, unhide o2, unhide c2, unhide g2⟩
      case round =>
        clear o2 c2 g2
        obtain ⟨k, ys, hk, rfl, hyl, ho, hc, hg⟩ := hrel
        obtain ⟨ya, yc, rfl⟩ := ho.form
        by_cases hk4 : k < 4
        · have ho := hide ho
          have hc := hide hc
          have hg := hide hg
          have hkd : decide ((k : Int) < 4) = true := by simp; omega
          go_wp2
          go_loopw [3, 5] (fun v i wr => ∃ (j : Nat) (qs : List T4), j ≤ 4 ∧ i = .int .i64 j ∧ qs.length ≤ 9 + 4 * k + j ∧ OT wr w.heap.size v qs ∧ Cur wr base g ao ca zs ∧ w.grownBy wr (some g)) (fun _ i _ => 4 - (intOf i).toNat)
          case atStart => exact ⟨0, ys, by omega, by go_num, by omega, unhide ho, unhide hc, unhide hg⟩
          case round =>
            clear ho hc hg
            obtain ⟨j, qs, hj, rfl, hql, ho, hc, hg⟩ := hrel
            obtain ⟨qa, qc, rfl⟩ := ho.form
            have sg := hg.size
            by_cases hj4 : j < 4
            · have HO := hide ho
              have HC := hide hc
              have HG := hide hg
              clear ho hc hg
              go_wp2_with fail
              refine (unhide PA _ qs ((k : Int), 0, 0, (j : Int)) _ ((unhide HO).rt (by omega)) (unhide HO).capped (by omega)).mono ?_
              rintro e w3 ⟨u, rfl, o3, b3⟩
              have s3 := b3.size
              have al := addAns_len qs ((k : Int), 0, 0, (j : Int))
              have C3 := (unhide HC).below (by omega) b3
              have G3 := grown_below' (unhide HG) b3
              have O3 := hide (o3.mono sg)
              clear o3 b3 HO HC HG
              generalize addAns qs ((k : Int), 0, 0, (j : Int)) = q at *
              go_wp2
              go_roundw
              case rel => exact ⟨j + 1, q.1, by omega, by go_num, by omega, unhide O3, C3, G3⟩
              case measure => simp [intOf]; omega
            · have hj5 : j = 4 := by omega
              subst hj5
              have ho := hide ho
              go_wp2
              go_roundw
              case rel => exact ⟨k + 1, qs, by omega, by go_num, by omega, unhide ho, hc, hg⟩
              case measure => simp [intOf]; omega
        · have hk5 : k = 4 := by omega
          subst hk5
          have ho := hide ho
          go_wp2
          go_ret
          exact ⟨_, ys, rfl, by omega, unhide ho, hc, hg⟩
    · have h1' : (n == 1) = false := by simpa using h1
      have o2 := hide o2
      go_wp2
      go_ret
      exact ⟨_, ts, rfl, by omega, unhide o2, c2, g2⟩
end Go.Proofs.YthdehhenkgkkmaaDoor
