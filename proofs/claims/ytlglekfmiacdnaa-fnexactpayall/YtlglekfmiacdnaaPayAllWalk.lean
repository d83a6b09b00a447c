/- The walk of laws.FnExactPayAll. -/
import Derived.Test.YtlglekfmiacdnaaSpecPayAll
import Derived.Test.YtlglekfmiacdnaaImplPayAll
import Derived.Test.YtlglekfmiacdnaaTotalWalk
import Derived.Test.YtlglekfmiacdnaaMarkInts
import Derived.Test.YtlglekfmiacdnaaMarkTxP
import Derived.Test.YtlglekfmiacdnaaToTxS
namespace Go.Proofs.Ytlglekfmiacdnaa
open Go.RowKit
set_option linter.unusedSectionVars false
variable [∀ (m a b c d : Int), Decidable (In4 m a b c d)]
variable [∀ (xs ys : List Int), Decidable (LOk xs ys)]
variable [∀ (a b c d : Int), Decidable (Ok4 a b c d)]

theorem OT.kp {w w' : World} {base : Nat} {X : Nat → Prop} {v : Value} {xs : List T4} (h : OT w base v xs) (k : Kp w w' X) (hv : ∀ k, v.ownBlock = some k → ¬ X k) : OT w' base v xs := by
  refine ⟨h.1, ?_⟩
  rcases h.2 with hn | ⟨g, cap, cur, rfl, hb, hgg, rest⟩
  · exact .inl hn
  · refine .inr ⟨g, cap, cur, rfl, hb, ?_, rest⟩
    rw [k.block g (Array.getElem?_eq_some_iff.1 hgg).1 (hv g rfl)]
    exact hgg
theorem eqIntS_b (va vb : Value) (xs : List Int) (w : World) (ha : RI w va xs) (hb : RI w vb xs) :
    Calls Try.prog 34 #[va, vb] w fun e w' => e = .returned (.bool true) ∧ Below w.heap.size w w' := by
  refine (eqIntS_yes va vb xs w ha hb).mono ?_
  rintro e w' ⟨rfl, n, rfl⟩
  exact ⟨rfl, below_drewN' (Below.refl _ _) n⟩

theorem markLedger_at (k lo hi : Nat) (a b : Value) (xs ys : List Int) (w : World) (hk : k = 1 + xs.length + ys.length) (hx : xs.length ≤ 4194304) (hy : ys.length ≤ 4194304) (hh : hi ≤ w.heap.size) (h : OL w lo hi a b xs ys) :
    Calls Try.prog 29 #[lv a b, .int .i64 1] w fun e w' => e = .returned (.int .i64 k) ∧ OL w' lo hi a b (imarks 1 xs.length) (imarks (1 + xs.length) ys.length) ∧ Kp w w' (fun k => lo ≤ k ∧ k < hi) := by
  refine (markLedger_any lo hi a b xs ys w hx hy hh h).mono ?_
  rintro e w' ⟨rfl, h1, h2⟩
  exact ⟨by rw [hk]; simp, h1, h2⟩
theorem heldLedger_at (k : Nat) (a b : Value) (n m : Nat) (w : World) (hk : k = 1 + n + m) (hn : n ≤ 4194304) (h : RI w a (imarks 1 n) ∧ RI w b (imarks (1 + n) m)) :
    Calls Try.prog 30 #[lv a b, .int .i64 1] w fun e w' => e = .returned (.int .i64 k) ∧ Below w.heap.size w w' := by
  refine (heldLedger_any a b n m w hn h).mono ?_
  rintro e w' ⟨rfl, h1⟩
  exact ⟨by rw [hk]; simp, h1⟩

set_option maxHeartbeats 800000 in
set_option maxRecDepth 100000 in
theorem fnPayAll_long (ao bo : Option Addr) (n ca m cb : Nat) (l : Value) (w : World) (h : 1048576 < n + m) (hn : n ≤ 9223372036854775807) (hm : m ≤ 9223372036854775807) :
    Calls Try.prog 9 #[lv (.slice ao n ca) (.slice bo m cb), l] w fun e w' => e = .returned (.bool true) ∧ Below w.heap.size w w' := by
  have SZ : Hid (∀ w, Calls Try.prog 26 #[lv (.slice ao n ca) (.slice bo m cb), .int .i64 1048576] w fun e w' => e = .returned (.int .i64 (-1)) ∧ Below w.heap.size w w') := by
    refine hide fun w => ?_
    by_cases h0 : n ≤ 1048576
    · exact szLedger_no2 ao bo n ca m cb w h0 h hm
    · exact szLedger_no1 ao bo n ca m cb w (by omega) hn
  go_enter Try.func9, Try.ntmps9
  go_wp2_with fail
  refine (unhide SZ _).mono ?_
  rintro e w1 ⟨rfl, b1⟩
  go_wp2
  go_ret
  exact ⟨rfl, ((Below.refl w.heap.size w).alloc (Nat.le_refl _) _).trans (b1.mono (by simp))⟩

set_option maxHeartbeats 800000 in
set_option maxRecDepth 100000 in
theorem fnPayAll_many (ao bo lo_ : Option Addr) (n ca m cb t lc : Nat) (w : World) (h : n + m ≤ 1048576) (ht : 1048576 < n + m + t) (hm : t ≤ 9223372036854775807) :
    Calls Try.prog 9 #[lv (.slice ao n ca) (.slice bo m cb), .slice lo_ t lc] w fun e w' => e = .returned (.bool true) ∧ Below w.heap.size w w' := by
  have SZ := hide fun w => szLedger_yes ao bo n ca m cb w h
  have h1 : decide ((1048576 : Int) - (n : Int) - (m : Int) < 0) = false := by simp; omega
  go_enter Try.func9, Try.ntmps9
  go_wp2_with fail
  refine (unhide SZ _).mono ?_
  rintro e w1 ⟨rfl, b1⟩
  go_wp2_with fail
  refine (szTxS_no _ _ _ _ _ (by omega) (by omega) (by omega) hm).mono ?_
  rintro e w2 ⟨rfl, rfl⟩
  go_wp2
  go_ret
  exact ⟨rfl, ((Below.refl w.heap.size w).alloc (Nat.le_refl _) _).trans (b1.mono (by simp))⟩

set_option maxHeartbeats 8000000 in
set_option maxRecDepth 100000 in
theorem fnPayAll_short (ao bo lo_ : Option Addr) (ca cb lc : Nat) (xs ys : List Int) (ts : List T4) (w : World) (h : xs.length + ys.length + ts.length ≤ 1048576) (ha : AI w ao xs) (hb : AI w bo ys) (hl : AR w lo_ ts) :
    Calls Try.prog 9 #[lv (.slice ao xs.length ca) (.slice bo ys.length cb), .slice lo_ ts.length lc] w fun e w' => e = .returned (.bool true) ∧ Below w.heap.size w w' := by
  have hd : decide ((1048576 : Int) - (xs.length : Int) - (ys.length : Int) < 0) = false := by simp; omega
  have hd2 : decide ((1048576 : Int) - (xs.length : Int) - (ys.length : Int) - (ts.length : Int) < 0) = false := by simp; omega
  have SZ := hide fun w => szLedger_yes ao bo xs.length ca ys.length cb w (by omega)
  have RA : Hid (∀ w', Below w.heap.size w w' → RI w' (.slice ao xs.length ca) xs ∧ RI w' (.slice bo ys.length cb) ys) := hide fun w' hb' => ⟨(ha.ri ca (by omega)).below hb' (Nat.le_refl _), (hb.ri cb (by omega)).below hb' (Nat.le_refl _)⟩
  have RL : Hid (∀ w', Below w.heap.size w w' → AR w' lo_ ts) := hide fun w' hb' => hl.below hb'
  have hx : xs.length ≤ 4194304 := by omega
  have hy : ys.length ≤ 4194304 := by omega
  have htl : ts.length ≤ 1048576 := by omega
  have SP := hide fun u v p w h1 h2 => specPayAll u v p xs ys ts w h1 h2 (by omega)
  have IM := hide fun u v p w h1 h2 => implPayAll u v p xs ys ts w h1 h2 (by omega)
  have hr := anyRun_len xs ys ts ts.length (Nat.le_refl _)
  rw [List.take_of_length_le (Nat.le_refl _), anyRun_each] at hr
  obtain ⟨r, hrr⟩ : ∃ r, eachAns xs ys ts = r := ⟨_, rfl⟩
  rw [hrr] at SP IM hr
  have rx : r.1.length ≤ 4194304 := by omega
  have ry : r.2.1.length ≤ 4194304 := by omega
  have rz : r.2.2.length ≤ 4194304 := by omega
  have hsum : xs.length + ys.length + ts.length ≤ 1048576 := h
  clear ha hb hl h hrr hr
  have TO := hide fun w h => toLedger_any (.slice ao xs.length ca) (.slice bo ys.length cb) xs ys w h
  have TT := hide fun w h => toTxS_any lo_ lc ts w (by omega) h
  obtain ⟨w0, hw0⟩ : ∃ w0, w.alloc (.cells #[.slice ao xs.length ca, .slice bo ys.length cb] 43) = w0 := ⟨_, rfl⟩
  have B0 : Below w.heap.size w w0 := hw0 ▸ (Below.refl w.heap.size w).alloc (Nat.le_refl _) _
  have L := (show Loc w0 w.heap.size #[.slice ao xs.length ca, .slice bo ys.length cb] from hw0 ▸ loc_at w _ _ rfl)
  have q0 := L.cell 0 rfl
  have q1 := L.cell 1 rfl
  go_enter Try.func9, Try.ntmps9
  go_wp2_with fail
  clear hw0 q0 q1
  refine (unhide SZ _).mono ?_
  rintro _ w1 ⟨rfl, b1⟩
  have Bw1 := B0.trans (b1.mono B0.size)
  replace L := L.below b1 L.lt
  have lL := L.lt
  clear SZ b1 B0
  go_wp2_with fail
  refine (szTxS_yes _ _ _ _ _ (by omega) (by omega)).mono ?_
  rintro _ w1' ⟨rfl, rfl⟩
  have q0 := L.cell 0 rfl
  have q1 := L.cell 1 rfl
  go_wp2_with fail
  refine (unhide TO _ (unhide RA _ Bw1)).mono ?_
  rintro _ w2 ⟨u2, v2, rfl, ol2, bb⟩
  have Bw2 := Bw1.trans (bb.mono Bw1.size)
  have sw2 := bb.size
  replace L := L.below bb L.lt
  clear Bw1
  clear bb
  go_wp2_with fail
  refine (unhide TT _ (unhide RL _ Bw2)).mono ?_
  rintro _ w3 ⟨l3, rfl, ot3, bb⟩
  have Bw3 := Bw2.trans (bb.mono Bw2.size)
  have sw3 := bb.size
  replace L := L.below bb L.lt
  replace ol2 := ol2.below bb
  clear Bw2
  clear bb
  go_wp2_with fail
  have r3 := ol2.ri hx hy
  have rt3 := ot3.rt (by omega)
  refine (unhide SP _ _ _ _ r3 rt3).mono ?_
  rintro _ w4 ⟨us, vs, cs, rfl, ou, ov, oc, bb⟩
  have Bw4 := Bw3.trans (bb.mono Bw3.size)
  have sw4 := bb.size
  replace L := L.below bb L.lt
  clear Bw3
  clear bb
  have tou : ∀ j, us.ownBlock = some j → w3.heap.size ≤ j ∧ j < w4.heap.size := World.ownsRow.lt ou
  have tov : ∀ j, vs.ownBlock = some j → w3.heap.size ≤ j ∧ j < w4.heap.size := World.ownsRow.lt ov
  have toc : ∀ j, cs.ownBlock = some j → w3.heap.size ≤ j ∧ j < w4.heap.size := World.ownsRow.lt oc
  clear r3 rt3 ol2 ot3 SP q0 q1
  obtain ⟨usa, usc, rfl⟩ := ou.form
  obtain ⟨vsa, vsc, rfl⟩ := ov.form
  obtain ⟨w5, hw5⟩ : ∃ x, w4.alloc (.cells #[(.slice usa r.1.length usc), (.slice vsa r.2.1.length vsc)] 26) = x := ⟨_, rfl⟩
  have bw5 : Below w4.heap.size w4 w5 := hw5 ▸ (Below.refl _ _).alloc (Nat.le_refl _) _
  have Bw5 := Bw4.trans (bw5.mono Bw4.size)
  have sw5 := bw5.size
  replace L := L.below bw5 L.lt
  replace ou := ou.below bw5
  replace ov := ov.below bw5
  replace oc := oc.below bw5
  clear Bw4
  have WS : Loc w5 w4.heap.size #[(.slice usa r.1.length usc), (.slice vsa r.2.1.length vsc)] := hw5 ▸ loc_at w4 _ _ rfl
  have lWS := WS.lt
  clear bw5
  have q0 := L.cell 0 rfl
  have q1 := L.cell 1 rfl
  go_wp2_with fail
  clear hw5 q0 q1
  refine (unhide TO _ (unhide RA _ Bw5)).mono ?_
  rintro _ w6 ⟨u6, v6, rfl, ol6, bb⟩
  have Bw6 := Bw5.trans (bb.mono Bw5.size)
  have sw6 := bb.size
  replace L := L.below bb L.lt
  replace WS := WS.below bb WS.lt
  replace ou := ou.below bb
  replace ov := ov.below bb
  replace oc := oc.below bb
  clear Bw5
  clear bb
  obtain ⟨ua6, uc6, rfl⟩ := ol6.has.form
  obtain ⟨va6, vc6, rfl⟩ := ol6.next.form
  obtain ⟨w7, hw7⟩ : ∃ x, w6.alloc (.cells #[(.slice ua6 xs.length uc6), (.slice va6 ys.length vc6)] 26) = x := ⟨_, rfl⟩
  have bw7 : Below w6.heap.size w6 w7 := hw7 ▸ (Below.refl _ _).alloc (Nat.le_refl _) _
  have Bw7 := Bw6.trans (bw7.mono Bw6.size)
  have sw7 := bw7.size
  replace L := L.below bw7 L.lt
  replace WS := WS.below bw7 WS.lt
  replace ol6 := ol6.below bw7
  replace ou := ou.below bw7
  replace ov := ov.below bw7
  replace oc := oc.below bw7
  clear Bw6
  have XB : Loc w7 w6.heap.size #[(.slice ua6 xs.length uc6), (.slice va6 ys.length vc6)] := hw7 ▸ loc_at w6 _ _ rfl
  have lXB := XB.lt
  clear bw7
  go_wp2_with fail
  clear hw7
  refine (unhide TT _ (unhide RL _ Bw7)).mono ?_
  rintro _ w8 ⟨l8, rfl, ot8, bb⟩
  have Bw8 := Bw7.trans (bb.mono Bw7.size)
  have sw8 := bb.size
  replace L := L.below bb L.lt
  replace WS := WS.below bb WS.lt
  replace XB := XB.below bb XB.lt
  replace ol6 := ol6.below bb
  replace ou := ou.below bb
  replace ov := ov.below bb
  replace oc := oc.below bb
  clear Bw7
  clear bb
  have tot8 : ∀ j, l8.ownBlock = some j → w7.heap.size ≤ j ∧ j < w8.heap.size := World.ownsRow.lt ot8
  have q0 := XB.cell 0 rfl
  have q1 := XB.cell 1 rfl
  have r8 := ol6.ri hx hy
  have rt8 := ot8.rt (by omega)
  go_wp2_with fail
  refine (unhide IM _ _ _ _ r8 rt8).mono ?_
  rintro _ w9 ⟨ug, vg, cg, mid, rfl, og, ltg, hmid, olg, bb⟩
  have Bw9 := Bw8.trans (bb.mono Bw8.size)
  have sw9 := bb.size
  replace L := L.below bb L.lt
  replace WS := WS.below bb WS.lt
  replace XB := XB.below bb XB.lt
  replace ol6 := ol6.below bb
  replace ou := ou.below bb
  replace ov := ov.below bb
  replace oc := oc.below bb
  replace ot8 := ot8.below bb
  clear Bw8
  clear bb
  have tog : ∀ j, cg.ownBlock = some j → w8.heap.size ≤ j ∧ j < mid ∧ j < w9.heap.size := fun j hj => ⟨(World.ownsRow.lt og j hj).1, ltg j hj, (World.ownsRow.lt og j hj).2⟩
  obtain ⟨uga, ugc, rfl⟩ := olg.has.form
  obtain ⟨vga, vgc, rfl⟩ := olg.next.form
  clear r8 rt8 q0 q1 ltg
  obtain ⟨w10, hw10⟩ : ∃ x, w9.alloc (.cells #[(.slice uga r.1.length ugc), (.slice vga r.2.1.length vgc)] 26) = x := ⟨_, rfl⟩
  have bw10 : Below w9.heap.size w9 w10 := hw10 ▸ (Below.refl _ _).alloc (Nat.le_refl _) _
  have Bw10 := Bw9.trans (bw10.mono Bw9.size)
  have sw10 := bw10.size
  replace L := L.below bw10 L.lt
  replace WS := WS.below bw10 WS.lt
  replace XB := XB.below bw10 XB.lt
  replace ol6 := ol6.below bw10
  replace olg := olg.below bw10
  replace ou := ou.below bw10
  replace ov := ov.below bw10
  replace oc := oc.below bw10
  replace og := og.below bw10
  replace ot8 := ot8.below bw10
  clear Bw9
  have GB : Loc w10 w9.heap.size #[(.slice uga r.1.length ugc), (.slice vga r.2.1.length vgc)] := hw10 ▸ loc_at w9 _ _ rfl
  have lGB := GB.lt
  clear bw10
  have q0 := GB.cell 0 rfl
  have q1 := GB.cell 1 rfl
  have y0 := WS.cell 0 rfl
  have y1 := WS.cell 1 rfl
  go_wp2_with fail
  clear hw10
  refine (eqLedger_yes _ _ _ _ r.1 r.2.1 _ (olg.ri rx ry) ⟨ou.ri rx, ov.ri ry⟩).mono ?_
  rintro _ w11 ⟨rfl, bb⟩
  have Bw11 := Bw10.trans (bb.mono Bw10.size)
  have sc := bb.size
  replace L := L.below bb L.lt
  replace WS := WS.below bb WS.lt
  replace XB := XB.below bb XB.lt
  replace GB := GB.below bb GB.lt
  replace ol6 := ol6.below bb
  replace olg := olg.below bb
  replace ou := ou.below bb
  replace ov := ov.below bb
  replace oc := oc.below bb
  replace og := og.below bb
  replace ot8 := ot8.below bb
  clear Bw10
  clear bb
  clear q0 q1 y0 y1
  go_wp2_with fail
  refine (eqIntS_b _ _ r.2.2 _ (og.ri rz) (oc.ri rz)).mono ?_
  rintro _ w12 ⟨rfl, bb⟩
  have Bw12 := Bw11.trans (bb.mono Bw11.size)
  replace sc := Nat.le_trans sc bb.size
  replace L := L.below bb L.lt
  replace WS := WS.below bb WS.lt
  replace XB := XB.below bb XB.lt
  replace GB := GB.below bb GB.lt
  replace ol6 := ol6.below bb
  replace olg := olg.below bb
  replace ou := ou.below bb
  replace ov := ov.below bb
  replace oc := oc.below bb
  replace og := og.below bb
  replace ot8 := ot8.below bb
  clear Bw11
  clear bb
  have K : Hid (∀ w', Below w12.heap.size w12 w' → (w'.cell? ⟨w6.heap.size, 0, none⟩ = some (.slice ua6 xs.length uc6) ∧ w'.cell? ⟨w6.heap.size, 1, none⟩ = some (.slice va6 ys.length vc6)) ∧ (w'.cell? ⟨w.heap.size, 0, none⟩ = some (.slice ao xs.length ca) ∧ w'.cell? ⟨w.heap.size, 1, none⟩ = some (.slice bo ys.length cb))) := hide fun w' hb' => by
    have l := XB.below hb' XB.lt
    have m := L.below hb' L.lt
    exact ⟨⟨l.cell 0 rfl, l.cell 1 rfl⟩, ⟨m.cell 0 rfl, m.cell 1 rfl⟩⟩
  have bA : Below w12.heap.size w12 w12.drew := Below.drew (Below.refl _ _)
  go_wp2_with fail
  refine wp_region_noPanic ?_
  refine wp_region_held_drew (S := (fun w' => (w'.cell? ⟨w6.heap.size, 0, none⟩ = some (.slice ua6 xs.length uc6) ∧ w'.cell? ⟨w6.heap.size, 1, none⟩ = some (.slice va6 ys.length vc6)) ∧ (w'.cell? ⟨w.heap.size, 0, none⟩ = some (.slice ao xs.length ca) ∧ w'.cell? ⟨w.heap.size, 1, none⟩ = some (.slice bo ys.length cb)))) (by kernel_rfl) (unhide K _ bA) (fun hHeld => ?_)
  refine take_at (i := 0) (d := 55) (v := ?_) rfl rfl (by kernel_rfl) (by kernel_rfl) (by kernel_rfl) (fun _ _ _ h => h) (Or.inl ⟨by rfl, ?_⟩) (by assumption) ?_
  rotate_left
  · intro w hSw
    try dsimp only at hSw
    go_simp
    try with_reducible rfl
  simp only [Act.put, List.setIfInBounds_toArray, List.set_cons_zero, List.set_cons_succ]
  refine take_at (i := 1) (d := 56) (v := ?_) rfl rfl (by kernel_rfl) (by kernel_rfl) (by kernel_rfl) (fun _ _ _ h => h) (Or.inl ⟨by rfl, ?_⟩) (by assumption) ?_
  rotate_left
  · intro w hSw
    try dsimp only at hSw
    go_simp
    try with_reducible rfl
  simp only [Act.put, List.setIfInBounds_toArray, List.set_cons_zero, List.set_cons_succ]
  refine ready_at (i := 2) rfl (by kernel_rfl) (fun KK hKK => ?_)
  go_simp
  refine (unhide TO _ (unhide RA _ (Bw12.trans (bA.mono Bw12.size)))).mono ?_
  rintro _ wa ⟨ut, vt, rfl, ot, ba⟩
  have bB : Below w12.heap.size w12 wa := bA.trans (ba.mono bA.size)
  clear hHeld
  refine hKK.out _ _ (unhide K _ bB) (fun hHeld => ?_)
  clear hKK KK
  refine ready_at (i := 3) rfl (by kernel_rfl) (fun KK hKK => ?_)
  go_simp
  refine (eqLedger_yes _ _ _ _ xs ys _ ((ol6.below bB).ri hx hy) (ot.ri hx hy)).mono ?_
  rintro _ w13 ⟨rfl, b9⟩
  have bC : Below w12.heap.size w12 w13 := bB.trans (b9.mono bB.size)
  clear hHeld
  refine hKK.out _ _ (unhide K _ bC) (fun hHeld => ?_)
  clear hKK KK
  refine take_at (i := 4) (d := 59) (v := ?_) rfl rfl (by kernel_rfl) (by kernel_rfl) (by kernel_rfl) (fun _ _ _ h => h) (Or.inl ⟨by rfl, ?_⟩) (by assumption) ?_
  rotate_left
  · intro w hSw
    try dsimp only at hSw
    go_simp
    try with_reducible rfl
  simp only [Act.put, List.setIfInBounds_toArray, List.set_cons_zero, List.set_cons_succ]
  clear hHeld K ot ba bA bB b9
  refine wpAnyH_done (by kernel_rfl) ?_ _
  refine NoPanic.normal ?_
  have Bw13 := Bw12.trans (bC.mono Bw12.size)
  replace sc := Nat.le_trans sc bC.size
  replace L := L.below bC L.lt
  replace WS := WS.below bC WS.lt
  replace XB := XB.below bC XB.lt
  replace GB := GB.below bC GB.lt
  replace ol6 := ol6.below bC
  replace olg := olg.below bC
  replace ou := ou.below bC
  replace ov := ov.below bC
  replace oc := oc.below bC
  replace og := og.below bC
  replace ot8 := ot8.below bC
  clear Bw12
  clear bC
  go_wp2_with fail
  refine (unhide TT _ (unhide RL _ Bw13)).mono ?_
  rintro _ w14 ⟨l14, rfl, ot14, bb⟩
  have Bw14 := Bw13.trans (bb.mono Bw13.size)
  replace sc := Nat.le_trans sc bb.size
  replace L := L.below bb L.lt
  replace WS := WS.below bb WS.lt
  replace XB := XB.below bb XB.lt
  replace GB := GB.below bb GB.lt
  replace ol6 := ol6.below bb
  replace olg := olg.below bb
  replace ou := ou.below bb
  replace ov := ov.below bb
  replace oc := oc.below bb
  replace og := og.below bb
  replace ot8 := ot8.below bb
  clear Bw13
  clear bb
  have rt1 := ot8.rt (by omega)
  have rt2 := ot14.rt (by omega)
  go_wp2_with fail
  refine (eqTxS_yes _ _ ts _ rt1 rt2).mono ?_
  rintro _ w15 ⟨rfl, bb⟩
  have Bw15 := Bw14.trans (bb.mono Bw14.size)
  replace sc := Nat.le_trans sc bb.size
  replace L := L.below bb L.lt
  replace WS := WS.below bb WS.lt
  replace XB := XB.below bb XB.lt
  replace GB := GB.below bb GB.lt
  replace ol6 := ol6.below bb
  replace olg := olg.below bb
  replace ou := ou.below bb
  replace ov := ov.below bb
  replace oc := oc.below bb
  replace og := og.below bb
  replace ot8 := ot8.below bb
  clear Bw14
  clear bb
  clear rt1 rt2 ot14
  have q0 := XB.cell 0 rfl
  have q1 := XB.cell 1 rfl
  go_wp2_with fail
  obtain ⟨k0, hk0⟩ : ∃ k0 : Nat, k0 = 1 + xs.length + ys.length := ⟨_, rfl⟩
  have k0l : k0 ≤ 100000000 := by omega
  refine (markLedger_at k0 _ _ _ _ xs ys _ hk0 hx hy (by omega) ol6).mono ?_
  clear hk0
  rintro _ w16 ⟨rfl, Pm, km⟩
  have Bw16 := Below.kp Bw15 km Bw15.size (fun k hk => by omega)
  replace sc := Nat.le_trans sc km.size
  replace L := L.kp km (fun h => by omega)
  replace WS := WS.kp km (fun h => by omega)
  replace XB := XB.kp km (fun h => by omega)
  replace GB := GB.kp km (fun h => by omega)
  replace olg := olg.kp km (fun k _ _ h => by omega)
  replace ou := ou.kp km (fun j hj h => by have := tou j hj; omega)
  replace ov := ov.kp km (fun j hj h => by have := tov j hj; omega)
  replace oc := oc.kp km (fun j hj h => by have := toc j hj; omega)
  replace og := og.kp km (fun j hj h => by have := tog j hj; omega)
  replace ot8 := ot8.kp km (fun j hj h => by have := tot8 j hj; omega)
  clear Bw15
  clear Pm km q0 q1 ol6
  go_wp2_with fail
  refine (tmark_any w7.heap.size k0 l8 ts _ (by omega) k0l ot8).mono ?_
  rintro _ w17 ⟨rfl, Tm, gm⟩
  have km := kp_grown gm
  have Bw17 := Below.kp Bw16 km Bw16.size (fun k hk => by (first | (have := tot8 _ h; omega) | (have := tot8 _ hk; omega)))
  replace sc := Nat.le_trans sc km.size
  replace L := L.kp km (fun h => by (first | (have := tot8 _ h; omega) | (have := tot8 _ hk; omega)))
  replace WS := WS.kp km (fun h => by (first | (have := tot8 _ h; omega) | (have := tot8 _ hk; omega)))
  replace XB := XB.kp km (fun h => by (first | (have := tot8 _ h; omega) | (have := tot8 _ hk; omega)))
  replace GB := GB.kp km (fun h => by (first | (have := tot8 _ h; omega) | (have := tot8 _ hk; omega)))
  replace olg := olg.kp km (fun k _ _ h => by (first | (have := tot8 _ h; omega) | (have := tot8 _ hk; omega)))
  replace ou := ou.kp km (fun j hj h => by have := tou j hj; (first | (have := tot8 _ h; omega) | (have := tot8 _ hk; omega)))
  replace ov := ov.kp km (fun j hj h => by have := tov j hj; (first | (have := tot8 _ h; omega) | (have := tot8 _ hk; omega)))
  replace oc := oc.kp km (fun j hj h => by have := toc j hj; (first | (have := tot8 _ h; omega) | (have := tot8 _ hk; omega)))
  replace og := og.kp km (fun j hj h => by have := tog j hj; (first | (have := tot8 _ h; omega) | (have := tot8 _ hk; omega)))
  clear Bw16
  clear Tm gm km ot8
  have hk : decide ((k0 : Int) + (ts.length : Int) * 4 < 0) = false := by simp; omega
  have q0 := GB.cell 0 rfl
  have q1 := GB.cell 1 rfl
  have y0 := WS.cell 0 rfl
  have y1 := WS.cell 1 rfl
  go_wp2_with fail
  refine (eqLedger_yes _ _ _ _ r.1 r.2.1 _ (olg.ri rx ry) ⟨ou.ri rx, ov.ri ry⟩).mono ?_
  rintro _ w18 ⟨rfl, bb⟩
  have Bw18 := Bw17.trans (bb.mono Bw17.size)
  replace sc := Nat.le_trans sc bb.size
  replace L := L.below bb L.lt
  replace WS := WS.below bb WS.lt
  replace XB := XB.below bb XB.lt
  replace GB := GB.below bb GB.lt
  replace olg := olg.below bb
  replace ou := ou.below bb
  replace ov := ov.below bb
  replace oc := oc.below bb
  replace og := og.below bb
  clear Bw17
  clear bb
  clear q0 q1 y0 y1
  go_wp2_with fail
  refine (eqIntS_b _ _ r.2.2 _ (og.ri rz) (oc.ri rz)).mono ?_
  rintro _ w19 ⟨rfl, bb⟩
  have Bw19 := Bw18.trans (bb.mono Bw18.size)
  replace sc := Nat.le_trans sc bb.size
  replace L := L.below bb L.lt
  replace WS := WS.below bb WS.lt
  replace XB := XB.below bb XB.lt
  replace GB := GB.below bb GB.lt
  replace olg := olg.below bb
  replace ou := ou.below bb
  replace ov := ov.below bb
  replace oc := oc.below bb
  replace og := og.below bb
  clear Bw18
  clear bb
  have q0 := GB.cell 0 rfl
  have q1 := GB.cell 1 rfl
  go_wp2_with fail
  obtain ⟨k1, hk1⟩ : ∃ k1 : Nat, k1 = 1 + r.1.length + r.2.1.length := ⟨_, rfl⟩
  have k1l : k1 ≤ 100000000 := by omega
  refine (markLedger_at k1 _ _ _ _ r.1 r.2.1 _ hk1 rx ry (by omega) olg).mono ?_
  have HK1 := hide hk1
  clear hk1
  rintro _ w20 ⟨rfl, Om, km⟩
  have Bw20 := Below.kp Bw19 km Bw19.size (fun k hk => by omega)
  replace sc := Nat.le_trans sc km.size
  replace L := L.kp km (fun h => by omega)
  replace WS := WS.kp km (fun h => by omega)
  replace XB := XB.kp km (fun h => by omega)
  replace GB := GB.kp km (fun h => by omega)
  replace ou := ou.kp km (fun j hj h => by have := tou j hj; omega)
  replace ov := ov.kp km (fun j hj h => by have := tov j hj; omega)
  replace oc := oc.kp km (fun j hj h => by have := toc j hj; omega)
  replace og := og.kp km (fun j hj h => by have := tog j hj; omega)
  clear Bw19
  clear km q0 q1 olg
  go_wp2_with fail
  refine (imark_any w8.heap.size k1 cg r.2.2 _ rz k1l og).mono ?_
  rintro _ w21 ⟨rfl, Cm, gm⟩
  have km := kp_grown gm
  have Bw21 := Below.kp Bw20 km Bw20.size (fun k hk => by (first | (have := tog _ h; omega) | (have := tog _ hk; omega)))
  replace sc := Nat.le_trans sc km.size
  replace L := L.kp km (fun h => by (first | (have := tog _ h; omega) | (have := tog _ hk; omega)))
  replace WS := WS.kp km (fun h => by (first | (have := tog _ h; omega) | (have := tog _ hk; omega)))
  replace XB := XB.kp km (fun h => by (first | (have := tog _ h; omega) | (have := tog _ hk; omega)))
  replace GB := GB.kp km (fun h => by (first | (have := tog _ h; omega) | (have := tog _ hk; omega)))
  replace Om := Om.kp km (fun k _ _ h => by (first | (have := tog _ h; omega) | (have := tog _ hk; omega)))
  replace ou := ou.kp km (fun j hj h => by have := tou j hj; (first | (have := tog _ h; omega) | (have := tog _ hk; omega)))
  replace ov := ov.kp km (fun j hj h => by have := tov j hj; (first | (have := tog _ h; omega) | (have := tog _ hk; omega)))
  replace oc := oc.kp km (fun j hj h => by have := toc j hj; (first | (have := tog _ h; omega) | (have := tog _ hk; omega)))
  clear Bw20
  clear gm km og
  have HL := hide fun w' (hb : Below w21.heap.size w21 w') => (Om.below hb).ri (by rw [imarks_len]; omega) (by rw [imarks_len]; omega)
  have HI := hide fun w' (hb : Below w21.heap.size w21 w') => (Cm.below hb).ri (by rw [imarks_len]; omega)
  have q0 := GB.cell 0 rfl
  have q1 := GB.cell 1 rfl
  have c21 : Below w21.heap.size w21 w21 := Below.refl _ _
  have g1 : decide ((k1 : Int) < 0) = false := by simp
  go_wp2_with fail
  refine (heldLedger_at k1 _ _ _ _ _ (unhide HK1) rx (unhide HL _ c21)).mono ?_
  rintro _ w22 ⟨rfl, bb⟩
  replace c21 := c21.trans (bb.mono c21.size)
  have Bw22 := Bw21.trans (bb.mono Bw21.size)
  replace sc := Nat.le_trans sc bb.size
  replace L := L.below bb L.lt
  replace WS := WS.below bb WS.lt
  replace XB := XB.below bb XB.lt
  replace GB := GB.below bb GB.lt
  replace ou := ou.below bb
  replace ov := ov.below bb
  replace oc := oc.below bb
  clear Bw21
  clear bb q0 q1
  have g3 : decide ((k1 : Int) + (r.2.2.length : Int) < 0) = false := by simp; omega
  go_wp2_with fail
  refine (iheld_any cg r.2.2.length k1 _ k1l (unhide HI _ c21)).mono ?_
  rintro _ _ ⟨rfl, rfl⟩
  have q0 := L.cell 0 rfl
  have q1 := L.cell 1 rfl
  go_wp2_with fail
  refine (unhide TO _ (unhide RA _ Bw22)).mono ?_
  rintro _ w23 ⟨u23, v23, rfl, ol23, bb⟩
  replace c21 := c21.trans (bb.mono c21.size)
  have Bw23 := Bw22.trans (bb.mono Bw22.size)
  replace sc := Nat.le_trans sc bb.size
  replace L := L.below bb L.lt
  replace WS := WS.below bb WS.lt
  replace XB := XB.below bb XB.lt
  replace GB := GB.below bb GB.lt
  replace ou := ou.below bb
  replace ov := ov.below bb
  replace oc := oc.below bb
  clear Bw22
  clear bb q0 q1
  go_wp2_with fail
  refine (unhide TT _ (unhide RL _ Bw23)).mono ?_
  rintro _ w24a ⟨l24, rfl, ot24, bb⟩
  replace c21 := c21.trans (bb.mono c21.size)
  replace ol23 := ol23.below bb
  have Bw24a := Bw23.trans (bb.mono Bw23.size)
  replace sc := Nat.le_trans sc bb.size
  replace L := L.below bb L.lt
  replace WS := WS.below bb WS.lt
  replace XB := XB.below bb XB.lt
  replace GB := GB.below bb GB.lt
  replace ou := ou.below bb
  replace ov := ov.below bb
  replace oc := oc.below bb
  clear Bw23
  clear bb
  have r24 := ol23.ri hx hy
  have rt24 := ot24.rt (by omega)
  go_wp2_with fail
  refine (unhide IM _ _ _ _ r24 rt24).mono ?_
  rintro _ w24b ⟨uh, vh, ch, midh, rfl, oh, lth, hmidh, olh, bb⟩
  replace c21 := c21.trans (bb.mono c21.size)
  have Bw24b := Bw24a.trans (bb.mono Bw24a.size)
  replace sc := Nat.le_trans sc bb.size
  replace L := L.below bb L.lt
  replace WS := WS.below bb WS.lt
  replace XB := XB.below bb XB.lt
  replace GB := GB.below bb GB.lt
  replace ou := ou.below bb
  replace ov := ov.below bb
  replace oc := oc.below bb
  clear Bw24a
  clear bb r24 rt24 ol23 ot24 lth hmidh
  obtain ⟨uha, uhc, rfl⟩ := olh.has.form
  obtain ⟨vha, vhc, rfl⟩ := olh.next.form
  obtain ⟨w24, hw24⟩ : ∃ x, w24b.alloc (.cells #[(.slice uha r.1.length uhc), (.slice vha r.2.1.length vhc)] 26) = x := ⟨_, rfl⟩
  have bb : Below w24b.heap.size w24b w24 := hw24 ▸ (Below.refl _ _).alloc (Nat.le_refl _) _
  replace c21 := c21.trans (bb.mono c21.size)
  replace olh := olh.below bb
  replace oh := oh.below bb
  have Bw24 := Bw24b.trans (bb.mono Bw24b.size)
  replace sc := Nat.le_trans sc bb.size
  replace L := L.below bb L.lt
  replace WS := WS.below bb WS.lt
  replace XB := XB.below bb XB.lt
  replace GB := GB.below bb GB.lt
  replace ou := ou.below bb
  replace ov := ov.below bb
  replace oc := oc.below bb
  clear Bw24b
  have HB : Loc w24 w24b.heap.size #[(.slice uha r.1.length uhc), (.slice vha r.2.1.length vhc)] := hw24 ▸ loc_at w24b _ _ rfl
  clear bb
  have q0 := HB.cell 0 rfl
  have q1 := HB.cell 1 rfl
  have y0 := WS.cell 0 rfl
  have y1 := WS.cell 1 rfl
  go_wp2_with fail
  clear hw24
  refine (eqLedger_yes _ _ _ _ r.1 r.2.1 _ (olh.ri rx ry) ⟨ou.ri rx, ov.ri ry⟩).mono ?_
  rintro _ w25 ⟨rfl, bb⟩
  replace c21 := c21.trans (bb.mono c21.size)
  replace oh := oh.below bb
  have Bw25 := Bw24.trans (bb.mono Bw24.size)
  replace sc := Nat.le_trans sc bb.size
  replace L := L.below bb L.lt
  replace WS := WS.below bb WS.lt
  replace XB := XB.below bb XB.lt
  replace GB := GB.below bb GB.lt
  replace ou := ou.below bb
  replace ov := ov.below bb
  replace oc := oc.below bb
  clear Bw24
  clear bb q0 q1 y0 y1
  go_wp2_with fail
  refine (eqIntS_b _ _ r.2.2 _ (oh.ri rz) (oc.ri rz)).mono ?_
  rintro _ w26 ⟨rfl, bb⟩
  replace c21 := c21.trans (bb.mono c21.size)
  have Bw26 := Bw25.trans (bb.mono Bw25.size)
  replace sc := Nat.le_trans sc bb.size
  replace L := L.below bb L.lt
  replace WS := WS.below bb WS.lt
  replace XB := XB.below bb XB.lt
  replace GB := GB.below bb GB.lt
  replace ou := ou.below bb
  replace ov := ov.below bb
  replace oc := oc.below bb
  clear Bw25
  clear bb
  have q0 := GB.cell 0 rfl
  have q1 := GB.cell 1 rfl
  have g1 : decide ((k1 : Int) < 0) = false := by simp
  go_wp2_with fail
  refine (heldLedger_at k1 _ _ _ _ _ (unhide HK1) rx (unhide HL _ c21)).mono ?_
  rintro _ w27 ⟨rfl, bb⟩
  replace c21 := c21.trans (bb.mono c21.size)
  have Bw27 := Bw26.trans (bb.mono Bw26.size)
  replace sc := Nat.le_trans sc bb.size
  replace L := L.below bb L.lt
  replace WS := WS.below bb WS.lt
  replace XB := XB.below bb XB.lt
  replace GB := GB.below bb GB.lt
  replace ou := ou.below bb
  replace ov := ov.below bb
  replace oc := oc.below bb
  clear Bw26
  clear bb q0 q1
  have g3 : decide ((k1 : Int) + (r.2.2.length : Int) < 0) = false := by simp; omega
  go_wp2_with fail
  refine (iheld_any cg r.2.2.length k1 _ k1l (unhide HI _ c21)).mono ?_
  rintro _ _ ⟨rfl, rfl⟩
  go_wp2
  go_ret
  exact ⟨rfl, Bw27⟩

theorem fnPayAll_walk (ao bo lo_ : Option Addr) (ca cb lc : Nat) (xs ys : List Int) (ts : List T4) (w : World) (hn : xs.length ≤ maxLen) (hm : ys.length ≤ maxLen) (ht : ts.length ≤ maxLen) (ha : AI w ao xs) (hb : AI w bo ys) (hl : AR w lo_ ts) :
    Calls Try.prog 9 #[lv (.slice ao xs.length ca) (.slice bo ys.length cb), .slice lo_ ts.length lc] w fun e w' => e = .returned (.bool true) ∧ Below w.heap.size w w' := by
  unfold maxLen at hn hm ht
  by_cases h : xs.length + ys.length ≤ 1048576
  · by_cases h2 : xs.length + ys.length + ts.length ≤ 1048576
    · exact fnPayAll_short ao bo lo_ ca cb lc xs ys ts w h2 ha hb hl
    · exact fnPayAll_many ao bo lo_ xs.length ca ys.length cb ts.length lc w h (by omega) (by omega)
  · exact fnPayAll_long ao bo xs.length ca ys.length cb _ w (by omega) (by omega) (by omega)
end Go.Proofs.Ytlglekfmiacdnaa
