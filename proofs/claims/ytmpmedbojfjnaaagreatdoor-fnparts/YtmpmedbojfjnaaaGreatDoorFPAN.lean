/- Texts that belong together: QcSame, HeldBy, QcLater. -/
import Derived.Test.YtmpmedbojfjnaaaGreatDoorFPAG
import Derived.Test.YtmpmedbojfjnaaaGreatDoorFPAM
import Derived.BigQuiet
import Derived.WalkKit
import Derived.WalkSmall
import Derived.KernelRfl
import Derived.Deep.RegionHeld3
import Derived.Below
import Derived.Test.YtmpmedbojfjnaaaGreatDoorFPAI
import Derived.Test.YtmpmedbojfjnaaaGreatDoorFPAC
import Derived.Deep.RegionWith
import Derived.Deep.RegionLaw
import Derived.Deep.DeepCutAuto
import Derived.Laws.CopyOwn
namespace Go.Proofs.YtmpmedbojfjnaaaGreatDoor
open Go.RowKit

theorem list_end {xs ys : List Int} {k : Nat} (h1 : k ≤ xs.length) (h2 : k ≤ ys.length) (h : ¬ (k < xs.length ∧ k < ys.length)) (he : ∀ j, j < k → xs.getD j 0 = ys.getD j 0) : xs.length = ys.length ↔ xs = ys := by
 constructor
 ·intro e
  apply List.ext_getElem e
  intro i p q
  have := he i (by omega)
  simpa [List.getD_eq_getElem?_getD, p, q] using this
 ·rintro rfl; rfl
theorem list_off {xs ys : List Int} {k : Nat} (h : xs.getD k 0 ≠ ys.getD k 0) : xs ≠ ys := fun e => h (e ▸ rfl)

set_option maxHeartbeats 1600000 in
set_option maxRecDepth 100000 in
theorem sEqual_any (va vb : Value) (xs ys : List Int) (w : World) (ha : RI w va xs) (hb : RI w vb ys) :
 Calls Tryz.prog 148 #[va, vb] w fun e w' => e = .returned (.bool (decide (xs = ys))) ∧ ∃ n, w' = w.drewN n := by
 obtain ⟨hl, ao, ca, rfl, ha⟩ := ha
 obtain ⟨hl', bo, cb, rfl, hb⟩ := hb
 have EN := hide fun k h1 h2 h he => list_end (xs := xs) (ys := ys) (k := k) h1 h2 h he
 have OF := hide fun k h => list_off (xs := xs) (ys := ys) (k := k) h
 have HE : Hid (∀ b, (xs = ys ↔ b = true) → decide (xs = ys) = b) := hide fun b h => by
  cases b
  ·simpa using h
  ·simpa using h
 have HL : Hid (xs = ys → xs.length = ys.length) := hide fun h => h ▸ rfl
 obtain ⟨n, hn⟩ : ∃ n, xs.length = n := ⟨_, rfl⟩
 obtain ⟨m, hm⟩ : ∃ m, ys.length = m := ⟨_, rfl⟩
 rw [hn] at ha EN hl HL ⊢
 rw [hm] at hb EN hl' HL ⊢
 have Hn : Hid (xs.length = n) := hn
 have Hm : Hid (ys.length = m) := hm
 clear hn hm
 generalize decide (xs = ys) = q at *
 by_cases hnm : n = m
 ·subst hnm
  go_enter Tryz.func148, Tryz.ntmps148
  go_wp2
  go_loopw [13] (fun i wr => ∃ k : Nat, k ≤ n ∧ i = .int .i64 k ∧ (∀ j, j < k → xs.getD j 0 = ys.getD j 0) ∧ ∃ d, wr = w.drewN d) (fun i _ => n - (intOf i).toNat)
  case atStart => exact ⟨0, Nat.zero_le _, rfl, fun j hj => by omega, 0, rfl⟩
  case round =>
   obtain ⟨k, hk, rfl, he, d, rfl⟩ := hrel
   have he := hide he
   by_cases hlt : k < n
   ·rcases ha with ha | ⟨b, off, rfl, ha⟩
    ·subst ha; have := Hn.out; simp at this; omega
    rcases hb with hb | ⟨b', off', rfl, hb⟩
    ·subst hb; have := Hm.out; simp at this; omega
    have ha' := ha k hlt
    have hb' := hb k hlt
    have ER := hide fun (e : xs.getD k 0 = ys.getD k 0) j (hj : j < k + 1) => (by
     by_cases h : j = k
     ·subst h; exact e
     ·exact unhide he j (by omega) : xs.getD j 0 = ys.getD j 0)
    have OK := hide fun h => unhide OF k h
    clear ha hb
    generalize xs.getD k 0 = x at *
    generalize ys.getD k 0 = y at *
    by_cases hxy : x = y
    ·subst hxy
     replace ER := hide (unhide ER rfl)
     clear OK
     go_wp2_with fail
     go_quiet (fail)
     go_wp2
     go_roundw
     case rel => exact ⟨k + 1, by omega, by go_num, unhide ER, _, rfl⟩
     case measure => simp [intOf]; omega
    ·have hq : q = false := unhide HE false (by simp; exact unhide OK hxy)
     subst hq
     have hx : (x == y) = false := by simpa using hxy
     go_wp2_with fail
     go_quiet (fail)
     go_wp2
     go_ret
     exact ⟨rfl, d + nq, by simp [World.drewN, Nat.add_assoc]⟩
   ·have hnm := unhide EN k hk hk (by omega) (unhide he)
    have hq : q = true := unhide HE true (by simpa using hnm)
    have hc : decide ((k : Int) < (n : Int)) = false := by simp; omega
    subst hq
    clear ha hb
    go_wp2
    go_ret
    exact ⟨rfl, _, rfl⟩
 ·have hq : q = false := unhide HE false (by simp; intro e; exact hnm (unhide HL e))
  have hd : ((n : Int) == (m : Int)) = false := by simp; omega
  subst hq
  clear ha hb
  go_enter Tryz.func148, Tryz.ntmps148
  go_wp2
  go_ret
  exact ⟨rfl, 0, rfl⟩

def alikeB (n m : Int) (s t : ByteArray) (xs ys : List Int) : Bool := decide (n = m ∧ s = t ∧ xs = ys)

set_option maxHeartbeats 1600000 in
set_option maxRecDepth 100000 in
theorem qsame_any (g g' : Nat) (n m : Int) (s t : ByteArray) (va vb : Value) (xs ys : List Int) (w : World) (hg : Loc w g #[.int .i64 n, .string s, va]) (hg' : Loc w g' #[.int .i64 m, .string t, vb]) (ha : RI w va xs) (hb : RI w vb ys) :
 Calls Tryz.prog 101 #[.pointer (some ⟨g, 0, none⟩), .pointer (some ⟨g', 0, none⟩)] w fun e w' => e = .returned (.bool (alikeB n m s t xs ys)) ∧ ∃ d, w' = w.drewN d := by
 have EQ := hide fun d => sEqual_any va vb xs ys (w.drewN d) (ha) (hb)
 have x0 := hg.cell 0 rfl
 have x1 := hg.cell 1 rfl
 have x2 := hg.cell 2 rfl
 have y0 := hg'.cell 0 rfl
 have y1 := hg'.cell 1 rfl
 have y2 := hg'.cell 2 rfl
 clear ha hb hg hg'
 by_cases h1 : n = m
 ·by_cases h2 : s = t
  ·have hq : alikeB n m s t xs ys = decide (xs = ys) := by simp [alikeB, h1, h2]
   rw [hq]
   subst h1 h2
   clear hq
   go_enter Tryz.func101, Tryz.ntmps101
   go_wp2_with fail
   go_quiet (first | (go_at_call 148; exact Calls.quiet_of (unhide EQ _)))
   go_wp2
   go_ret
   exact ⟨rfl, _, rfl⟩
  ·have hq : alikeB n m s t xs ys = false := by simp [alikeB, h2]
   rw [hq]
   subst h1
   have hd := str_ne h2
   clear hq
   go_enter Tryz.func101, Tryz.ntmps101
   go_wp2_with fail
   go_quiet (fail)
   go_wp2
   go_ret
   exact ⟨rfl, _, rfl⟩
 ·have hq : alikeB n m s t xs ys = false := by simp [alikeB, h1]
  rw [hq]
  have hd : (n == m) = false := by simpa using h1
  clear hq
  go_enter Tryz.func101, Tryz.ntmps101
  go_wp2_with fail
  go_quiet (fail)
  go_wp2
  go_ret
  exact ⟨rfl, _, rfl⟩
end Go.Proofs.YtmpmedbojfjnaaaGreatDoor
namespace Go.Proofs.YtmpmedbojfjnaaaGreatDoor
open Go Go.RowKit
section
variable {P : Program} {ops : Array Oper} {Q : Exit → Act → World → Prop} {md : Region.Mode} {S : World → Prop}
theorem take_at {i d : Nat} {oi : Oper} {v : Value} {fuel : Nat} {listed : Array Bool} {a : Act} {w : World} (hi : ops[i]? = some oi) (hd : oi.dst = some d)
 (hs : Region.noSelect ops = true) (hf : Region.free md ops listed i = true) (hr : (Region.ready md ops listed).contains i = true)
 (hQ : ∀ c a w, Q (.panic c) (a.put (some d) v) w → Q (.panic c) a w) (hy : YieldsIf P ops S oi v a) (hS : S w)
 (h : wpAnyH P md ops Q S fuel (listed.setIfInBounds i true) (a.put (some d) v) w) : wpAnyH P md ops Q S (fuel + 1) listed a w :=
 wpAnyH_take hi hs hf hr (by rw [hd]; exact hQ) hy hS (by rw [hd]; exact h)
theorem ready_at {i : Nat} {o : Oper} {fuel : Nat} {listed : Array Bool} {a : Act} {w : World} (ho : ops[i]? = some o) (hr : Region.ready md ops listed = [i])
 (h : ∀ K' : Act → World → Prop, Shut (∀ a w, S w → (S w → wpAnyH P md ops Q S fuel (listed.setIfInBounds i true) a w) → K' a w) → if Region.wanted o (yielded ops a.tmps) = true then Oper.wp P o a w K' Q else K' (a.put o.dst undef) w) :
 wpAnyH P md ops Q S (fuel + 1) listed a w :=
 wpAnyH_ready hr (by simp) (AllReadyH.cons ho h AllReadyH.nil)
end
section
variable {P : Program} {ops : Array Oper} {Q : Exit → Act → World → Prop} {md : Region.Mode} {S : World → Prop}
theorem tk (i d : Nat) {oi : Oper} {v : Value} {fuel : Nat} {listed : Array Bool} {a : Act} {w : World} (hi : ops[i]? = some oi) (hd : oi.dst = some d := by exact rfl)
 (hs : Region.noSelect ops = true := by kernel_rfl) (hf : Region.free md ops listed i = true := by kernel_rfl) (hr : (Region.ready md ops listed).contains i = true := by kernel_rfl)
 (hy : YieldsIf P ops S oi v a)
 (hQ : ∀ c a w, Q (.panic c) (a.put (some d) v) w → Q (.panic c) a w := by exact fun _ _ _ h => h) (hS : S w := by assumption)
 (h : wpAnyH P md ops Q S fuel (listed.setIfInBounds i true) (a.put (some d) v) w) : wpAnyH P md ops Q S (fuel + 1) listed a w :=
 take_at hi hd hs hf hr hQ hy hS h
theorem sk (i d : Nat) {oi : Oper} {fuel : Nat} {listed : Array Bool} {a : Act} {w : World} (hi : ops[i]? = some oi) (hd : oi.dst = some d := by exact rfl)
 (hs : Region.noSelect ops = true := by kernel_rfl) (hf : Region.free md ops listed i = true := by kernel_rfl) (hr : (Region.ready md ops listed).contains i = true := by kernel_rfl)
 (hy : YieldsIf P ops S oi undef a := by exact Or.inr ⟨by rfl, rfl⟩)
 (hQ : ∀ c a w, Q (.panic c) (a.put (some d) undef) w → Q (.panic c) a w := by exact fun _ _ _ h => h) (hS : S w := by assumption)
 (h : wpAnyH P md ops Q S fuel (listed.setIfInBounds i true) (a.put (some d) undef) w) : wpAnyH P md ops Q S (fuel + 1) listed a w :=
 take_at hi hd hs hf hr hQ hy hS h
end
theorem pU : (∀ (a : Act) (d : Nat) (v : Value), a.put (some d) v = { a with tmps := a.tmps.setIfInBounds d v }) ∧ (∀ (α : Type) (l : List α) (i : Nat) (x : α), l.toArray.setIfInBounds i x = (l.set i x).toArray) ∧ (∀ (α : Type) (x y : α) (l : List α), (x :: l).set 0 y = y :: l) ∧ (∀ (α : Type) (x y : α) (l : List α) (i : Nat), (x :: l).set (i + 1) y = x :: l.set i y) :=
 ⟨fun _ _ _ => rfl, fun _ _ _ _ => by simp, fun _ _ _ _ => rfl, fun _ _ _ _ _ => rfl⟩
end Go.Proofs.YtmpmedbojfjnaaaGreatDoor
namespace Go.Proofs.YtmpmedbojfjnaaaGreatDoor
open Go.RowKit

set_option maxHeartbeats 1600000 in
set_option maxRecDepth 100000 in
theorem implQcSame (n m : Int) (s t : ByteArray) (va vb : Value) (xs ys : List Int) (w : World) (ha : RI w va xs) (hb : RI w vb ys) :
 Calls Tryz.prog 41 #[qv n s va, qv m t vb] w fun e w' => e = .returned (.bool (alikeB n m s t xs ys)) ∧ Below w.heap.size w w' := by
 have B := hide (qalloc2 w (.cells #[.int .i64 n, .string s, va] 28) (.cells #[.int .i64 m, .string t, vb] 28))
 have SM := hide (qsame_any w.heap.size (w.heap.size + 1) n m s t va vb xs ys _ ((loc_at w #[.int .i64 n, .string s, va] 28 rfl).alloc _) (loc_at (w.alloc _) #[.int .i64 m, .string t, vb] 28 (by simp)) (ha.below (unhide B) (Nat.le_refl _)) (hb.below (unhide B) (Nat.le_refl _)))
 clear ha hb
 go_enter Tryz.func41, Tryz.ntmps41
 go_wp2_with fail
 refine (unhide SM).mono ?_
 rintro e w1 ⟨rfl, d, rfl⟩
 go_wp2
 go_ret
 exact ⟨rfl, below_drewN' (unhide B) _⟩

abbrev zq : Obj := .cells #[.int .i64 0, .string ⟨#[]⟩, .slice none 0 0] 28

set_option maxHeartbeats 4000000 in
set_option maxRecDepth 100000 in
theorem qtold_any (g : Nat) (n : Int) (s : ByteArray) (ao : Option Addr) (ca : Nat) (xs : List Int) (w : World) (hg : Loc w g #[.int .i64 n, .string s, .slice ao xs.length ca]) (ha : RI w (.slice ao xs.length ca) xs) (hs : s.size ≤ 281474976710656) :
 Calls Tryz.prog 97 #[.pointer (some ⟨g, 0, none⟩)] w fun e w' => ∃ u, e = .returned (qv n s u) ∧ OI w' w.heap.size u xs ∧ Below w.heap.size w w' := by
 have CL := hide fun w => clone_any s w hs
 have hgl := hg.lt
 obtain ⟨w0, hw0⟩ : ∃ w0, w.alloc zq = w0 := ⟨_, rfl⟩
 have B0 : Below w.heap.size w w0 := hw0 ▸ qalloc _ _
 have Z0 : Loc w0 w.heap.size #[.int .i64 0, .string ⟨#[]⟩, .slice none 0 0] := hw0 ▸ loc_at w _ _ rfl
 have s0 : w0.heap.size = w.heap.size + 1 := by rw [← hw0]; simp
 have G0 := hg.below B0 hgl
 have K : Hid (∀ w', Below w0.heap.size w0 w' → Below w0.heap.size w0 w' ∧ w'.cell? ⟨g, 0, none⟩ = some (.int .i64 n) ∧ w'.cell? ⟨g, 1, none⟩ = some (.string s)) := hide fun w' hb =>
  ⟨hb, (G0.below hb G0.lt).cell 0 rfl, (G0.below hb G0.lt).cell 1 rfl⟩
 have RA := hide ha
 have HZ := hide Z0
 have HG := hide G0
 clear ha hg Z0 G0
 go_enter Tryz.func97, Tryz.ntmps97
 go_upto_region 1 with fail
 clear hw0
 go_cut [3] (fun c wx => ∃ h, c = .pointer (some ⟨h, 0, none⟩) ∧ w0.heap.size ≤ h ∧ Loc wx h #[.int .i64 n, .string s, .slice none 0 0] ∧ Below w0.heap.size w0 wx)
 case first =>
  clear HZ HG RA
  refine wp_region_noPanic ?_
  refine wp_region_held_drew (S := fun w' => Below w0.heap.size w0 w' ∧ w'.cell? ⟨g, 0, none⟩ = some (.int .i64 n) ∧ w'.cell? ⟨g, 1, none⟩ = some (.string s)) (by kernel_rfl) (unhide K _ (Below.drew (Below.refl _ _))) (fun hHeld => ?_)
  obtain ⟨wd, hd⟩ : ∃ wd, w0.drew = wd := ⟨_, rfl⟩
  have bd : Below w0.heap.size w0 wd := hd ▸ Below.drew (Below.refl _ _)
  have szd := bd.size
  rw [hd] at hHeld ⊢
  clear hd
  refine tk 0 4 (v := ?_) rfl (hy := .inl ⟨by rfl, ?_⟩) (h := ?_); rotate_left
  ·intro w hSw; (try dsimp only at hSw); go_simp; (try with_reducible rfl)
  simp only [pU]
  refine tk 1 5 (v := ?_) rfl (hy := .inl ⟨by rfl, ?_⟩) (h := ?_); rotate_left
  ·intro w hSw; (try dsimp only at hSw); go_simp; (try with_reducible rfl)
  simp only [pU]
  refine tk 2 6 (v := ?_) rfl (hy := .inl ⟨by rfl, ?_⟩) (h := ?_); rotate_left
  ·intro w hSw; (try dsimp only at hSw); go_simp; (try with_reducible rfl)
  simp only [pU]
  refine tk 3 7 (v := ?_) rfl (hy := .inl ⟨by rfl, ?_⟩) (h := ?_); rotate_left
  ·intro w hSw; (try dsimp only at hSw); go_simp; (try with_reducible rfl)
  simp only [pU]
  refine tk 4 8 (v := ?_) rfl (hy := .inl ⟨by rfl, ?_⟩) (h := ?_); rotate_left
  ·intro w hSw; (try dsimp only at hSw); go_simp; (try with_reducible rfl)
  simp only [pU]
  refine tk 5 9 (v := ?_) rfl (hy := .inl ⟨by rfl, ?_⟩) (h := ?_); rotate_left
  ·intro w hSw; (try dsimp only at hSw); go_simp; (try with_reducible rfl)
  simp only [pU]
  refine tk 6 10 (v := ?_) rfl (hy := .inl ⟨by rfl, ?_⟩) (h := ?_); rotate_left
  ·intro w hSw; (try dsimp only at hSw); go_simp; (try with_reducible rfl)
  simp only [pU]
  refine tk 7 11 (v := ?_) rfl (hy := .inl ⟨by rfl, ?_⟩) (h := ?_); rotate_left
  ·intro w hSw; (try dsimp only at hSw); go_simp; (try with_reducible rfl)
  simp only [pU]
  refine wpAnyH_ready (rs := [8, 10]) (by kernel_rfl) (by simp) (AllReadyH.cons rfl (fun KK hKK => ?_) (AllReadyH.cons rfl (fun KK hKK => ?_) AllReadyH.nil))
  ·go_simp
   refine (unhide CL _).mono ?_
   rintro e wc1 ⟨rfl, bnew⟩
   have bc1 : Below w0.heap.size w0 wc1 := bd.trans (bnew.mono bd.size)
   have zzwc1 := bnew.size
   clear hHeld bnew
   refine hKK.out _ _ (unhide K _ bc1) (fun hHeld => ?_)
   clear hKK KK
   refine tk 9 13 (v := ?_) rfl (hy := .inl ⟨by rfl, ?_⟩) (h := ?_); rotate_left
   ·intro w hSw; (try dsimp only at hSw); go_simp; (try with_reducible rfl)
   simp only [pU]
   refine ready_at (i := 10) rfl (by kernel_rfl) (fun KK hKK => ?_)
   go_simp
   obtain ⟨wl2, hwl2⟩ : ∃ x, wc1.alloc (.cells #[.int .i64 0, .string ⟨#[]⟩, .slice none 0 0] 28) = x := ⟨_, rfl⟩
   have bl2 : Below w0.heap.size w0 wl2 := hwl2 ▸ bc1.alloc bc1.size _
   have lg : Loc wl2 wc1.heap.size #[.int .i64 0, .string ⟨#[]⟩, .slice none 0 0] := hwl2 ▸ loc_at wc1 _ _ rfl
   rw [hwl2]
   clear hHeld hwl2
   refine hKK.out _ _ (unhide K _ bl2) (fun hHeld => ?_)
   clear hKK KK
   have q0 := lg.cell 0 rfl
   have q1 := lg.cell 1 rfl
   have q2 := lg.cell 2 rfl
   have FG := lg.frozen
   refine ready_at (i := 11) rfl (by kernel_rfl) (fun KK hKK => ?_)
   go_simp
   have bs : Below w0.heap.size w0 (((wl2.setCell ⟨wc1.heap.size, 0, none⟩ (.int .i64 n)).setCell ⟨wc1.heap.size, 1, none⟩ (.string s)).setCell ⟨wc1.heap.size, 2, none⟩ (.slice none 0 0)) := Below.set (Below.set (Below.set bl2 _ _ (by omega)) _ _ (by omega)) _ _ (by omega)
   clear hHeld
   refine hKK.out _ _ (unhide K _ bs) (fun hHeld => ?_)
   clear hKK KK
   clear hHeld
   refine wpAnyH_done (by kernel_rfl) ?_ _
   refine NoPanic.normal ?_
   go_wp2_with fail
   go_meet
   exact ⟨_, rfl, by omega, ((lg.set 0 _ rfl).set 1 _ rfl).set 2 _ rfl, bs⟩
  ·go_simp
   obtain ⟨wl3, hwl3⟩ : ∃ x, wd.alloc (.cells #[.int .i64 0, .string ⟨#[]⟩, .slice none 0 0] 28) = x := ⟨_, rfl⟩
   have bl3 : Below w0.heap.size w0 wl3 := hwl3 ▸ bd.alloc bd.size _
   have lg : Loc wl3 wd.heap.size #[.int .i64 0, .string ⟨#[]⟩, .slice none 0 0] := hwl3 ▸ loc_at wd _ _ rfl
   rw [hwl3]
   clear hHeld hwl3
   refine hKK.out _ _ (unhide K _ bl3) (fun hHeld => ?_)
   clear hKK KK
   refine ready_at (i := 8) rfl (by kernel_rfl) (fun KK hKK => ?_)
   go_simp
   refine (unhide CL _).mono ?_
   rintro e wc4 ⟨rfl, bnew⟩
   have bc4 : Below w0.heap.size w0 wc4 := bl3.trans (bnew.mono bl3.size)
   have zzwc4 := bnew.size
   have lg := lg.below bnew lg.lt
   clear hHeld bnew
   refine hKK.out _ _ (unhide K _ bc4) (fun hHeld => ?_)
   clear hKK KK
   refine tk 9 13 (v := ?_) rfl (hy := .inl ⟨by rfl, ?_⟩) (h := ?_); rotate_left
   ·intro w hSw; (try dsimp only at hSw); go_simp; (try with_reducible rfl)
   simp only [pU]
   have q0 := lg.cell 0 rfl
   have q1 := lg.cell 1 rfl
   have q2 := lg.cell 2 rfl
   have FG := lg.frozen
   refine ready_at (i := 11) rfl (by kernel_rfl) (fun KK hKK => ?_)
   go_simp
   have bs : Below w0.heap.size w0 (((wc4.setCell ⟨wd.heap.size, 0, none⟩ (.int .i64 n)).setCell ⟨wd.heap.size, 1, none⟩ (.string s)).setCell ⟨wd.heap.size, 2, none⟩ (.slice none 0 0)) := Below.set (Below.set (Below.set bc4 _ _ (by omega)) _ _ (by omega)) _ _ (by omega)
   clear hHeld
   refine hKK.out _ _ (unhide K _ bs) (fun hHeld => ?_)
   clear hKK KK
   clear hHeld
   refine wpAnyH_done (by kernel_rfl) ?_ _
   refine NoPanic.normal ?_
   go_wp2_with fail
   go_meet
   exact ⟨_, rfl, by omega, ((lg.set 0 _ rfl).set 1 _ rfl).set 2 _ rfl, bs⟩
 case rest =>
  obtain ⟨h, rfl, hh, LH, bw⟩ := hcut
  have G1 := (unhide HG).below bw (unhide HG).lt
  have Z1 := (unhide HZ).below bw (unhide HZ).lt
  have R1 := unhide RA
  have B1 : Below w.heap.size w wc := B0.trans (bw.mono B0.size)
  have s1 := bw.size
  have l1 := LH.lt
  have x2 := G1.cell 2 rfl
  have y0 := Z1.cell 0 rfl
  have y1 := Z1.cell 1 rfl
  have y2 := Z1.cell 2 rfl
  have fy := Z1.frozen
  have h0 := LH.cell 0 rfl
  have h1 := LH.cell 1 rfl
  have h2 := LH.cell 2 rfl
  have fh := LH.frozen
  have hl := R1.1
  clear HG HZ RA K CL bw B0
  by_cases hx : xs = []
  ·subst hx
   go_wp2
   refine bodyPost_ret (v := qv n s (.slice none 0 0)) (by simp [results, Tryz.results97, go_sem, y0, y1, y2]) rfl ?_
   exact ⟨_, rfl, World.ownsRow_nil _ _ _ _, Below.set (Below.set (Below.set B1 _ _ (Nat.le_refl _)) _ _ (Nat.le_refl _)) _ _ (Nat.le_refl _)⟩
  ·have hp : 0 < xs.length := List.length_pos_iff.2 hx
   obtain ⟨cs, hcs⟩ : ∃ cs, xs.map (Value.int .i64) = cs := ⟨_, rfl⟩
   have hcl : cs.length = xs.length := by rw [← hcs]; simp
   have hone : ∀ v ∈ cs, v.oneCell' = true := by rw [← hcs]; exact ints_plain64 xs
   obtain ⟨ad, rfl, hcells⟩ : ∃ ad, ao = some ad ∧ ∀ j u, cs[j]? = some u → w.cell? (ad.add j) = some u := by
    obtain ⟨_, ao', ca', e, hr⟩ := R1
    cases e
    rcases hr with rfl | ⟨b, off, rfl, hr⟩
    ·exact absurd rfl hx
    ·exact ⟨_, rfl, hcs ▸ inews_cells hr⟩
   have hrows : ∀ w', Below w.heap.size w w' → ∀ j u, cs[j]? = some u → w'.cell? (ad.add j) = some u := fun w' hb j u hj => (hb.cell (cell_lt (hcells j u hj))).trans (hcells j u hj)
   have HR := hide hrows
   have HC := hide hcs
   obtain ⟨i0, hi, hz0, hz1, hz2⟩ := info_parts Tryz.info3
   obtain ⟨m, hm⟩ : ∃ m, xs.length = m := ⟨_, rfl⟩
   rw [hm] at hl hcl hp x2 G1
   have Hm := hide hm
   clear R1 hcells hrows hcs hm hx
   have hgt : decide ((0 : Int) < (m : Int)) = true := by simpa using hp
   go_upto_region 4 with (first | (at_make; refine wpList_make_full _ rfl _ _ 26 rfl wc.heap.size 3 i0 (.int .i64 0) 1 Tryz.underlying26 hi hz0 hz1 .i64 .i64 m m m rfl rfl rfl rfl (by rw [hz2]; omega) (by unfold maxLen; omega) (Nat.le_refl _) ?_; intro w2 ho2 hg2
                                   have b2 : Below wc.heap.size wc w2 := (Below.refl _ _).grown hg2 (Nat.le_refl _) (by simp)
                                   have L2 := LH.below b2 LH.lt
                                   have k2 := L2.cell 2 rfl
                                   have f2 := L2.frozen))
   obtain ⟨hlen, hrow⟩ := ho2
   rcases hrow with ⟨e, _⟩ | ⟨row, cap, cur, e, hrb, hrh, _, hcm, hcz, hct⟩
   ·cases e
   cases e
   have hlt2 : wc.heap.size < w2.heap.size := (Array.getElem?_eq_some_iff.1 hrh).1
   obtain ⟨w3, hw3⟩ : ∃ w3, w2.setCell ⟨h, 2, none⟩ (.slice (some ⟨wc.heap.size, 0, none⟩) m m) = w3 := ⟨_, rfl⟩
   have B3 : Below w.heap.size w w3 := hw3 ▸ Below.set (B1.trans (b2.mono B1.size)) (g := h) 2 _ (by omega)
   have K3 : Kp w2 w3 (fun k => k = h) := hw3 ▸ set_kp w2 h 2 _
   have L3 : Loc w3 h #[.int .i64 n, .string s, .slice (some ⟨wc.heap.size, 0, none⟩) m m] := hw3 ▸ L2.set 2 _ rfl
   have Z3 := (Z1.below b2 Z1.lt).kp K3 (by omega)
   have G3 := (G1.below b2 G1.lt).kp K3 (by omega)
   have H3 : w3.heap[wc.heap.size]? = some (.cells cur.toList.toArray 3 (0, 0)) := by rw [K3.block _ hlt2 (by omega)]; simpa using hrh
   have c3 := unhide HR w3 B3
   have z3 := K3.size
   have p2 := L3.cell 2 rfl
   have q2 := G3.cell 2 rfl
   have hcz' : cur.toList.length = m := by simpa using hcz
   rw [hw3]
   clear hw3 k2 f2 h0 h1 h2 fh y0 y1 y2 fy x2
   have H3h := hide H3
   have C3 := hide c3
   go_region_law (refine step_copy_splice rfl (.tmp 28) (.tmp 32) 26 26 rfl 3 Tryz.underlying26 (by rw [hi]; simp [hz1]) (some ⟨wc.heap.size, 0, none⟩) (some ad) m m m ca (by simp [Act.eval]) (by simp [Act.eval]) wc.heap.size 0 cur.toList 3 (unhide H3h) cs (by rw [hcl]; simp) (fun _ => ⟨rfl, _, rfl, unhide C3⟩) (by omega) hone wc.heap.size w3 ⟨rfl, rfl, rfl, Nat.le_refl _, fun _ _ => rfl⟩ (Nat.le_refl _) ?_; intro w4 hg4 hb4)
   all_goals
    have L4 := L3.below hb4 l1
    have Z4 := Z3.below hb4 (by omega)
    have B4 : Below w.heap.size w w4 := B3.trans (hb4.mono (by omega))
    have h0 := L4.cell 0 rfl
    have h1 := L4.cell 1 rfl
    have h2 := L4.cell 2 rfl
    have y0 := Z4.cell 0 rfl
    have y1 := Z4.cell 1 rfl
    have y2 := Z4.cell 2 rfl
    have fy := Z4.frozen
    have O4 : OI w4 w.heap.size (.slice (some ⟨wc.heap.size, 0, none⟩) m m) xs := by
     refine ⟨by rw [unhide Hm]; simp [unhide Hm], .inr ⟨wc.heap.size, m, _, by rw [unhide Hm], by omega, hg4.out, by rw [unhide Hm]; exact Nat.le_refl _, hcm, ?_, ?_⟩⟩
     ·rw [List.size_toArray, length_splice _ _ _ (by omega), hcz', Nat.mul_one]
     ·rw [unhide HC]; simp [splice, unhide Hm, hcl]
    have HO := hide O4
    clear L3 Z3 G3 H3 c3 p2 q2 K3 L4 Z4 O4 hg4 hb4 LH Z1 G1 b2 L2 hlen hct hcz hrh
    go_wp2
    refine bodyPost_ret (v := qv n s (.slice (some ⟨wc.heap.size, 0, none⟩) m m)) (by simp [results, Tryz.results97, go_sem, y0, y1, y2]) rfl ?_
    have K5 : Kp w4 (((w4.setCell ⟨w.heap.size, 0, none⟩ (.int .i64 n)).setCell ⟨w.heap.size, 1, none⟩ (.string s)).setCell ⟨w.heap.size, 2, none⟩ (.slice (some ⟨wc.heap.size, 0, none⟩) m m)) (fun k => k = w.heap.size) := ((set_kp _ _ _ _).trans (set_kp _ _ _ _)).trans (set_kp _ _ _ _)
    exact ⟨_, rfl, (unhide HO).kp K5 (fun k hk => by simp [Value.ownBlock] at hk; omega), Below.set (Below.set (Below.set B4 _ _ (Nat.le_refl _)) _ _ (Nat.le_refl _)) _ _ (Nat.le_refl _)⟩
end Go.Proofs.YtmpmedbojfjnaaaGreatDoor
