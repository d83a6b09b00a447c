/- Lemmas; their conditions stand in each statement. -/
import Derived.Test.YtmpffkpilbbclaaGreatDoorSABF
import Derived.Test.YtmpffkpilbbclaaGreatDoorSABB
import Derived.Deep.RegionLawGrows
set_option maxRecDepth 100000
set_option maxHeartbeats 16000000
set_option linter.unusedSectionVars false
namespace Go.Proofs.YtmpffkpilbbclaaGreatDoor
section
open Go.RowKit
abbrev b8 (a b c d e f g h : Int) : Array Value := #[.int .i64 a,.int .i64 b,.int .i64 c,.int .i64 d,.int .i64 e,.int .i64 f,.int .i64 g,.int .i64 h]
abbrev bkv (a b c d e f g h : Int) : Value := .agg (b8 a b c d e f g h)
def In4 (m a b c d : Int) : Prop := (0 ≤ a ∧ a ≤ m) ∧ (0 ≤ b ∧ b ≤ m) ∧ (0 ≤ c ∧ c ≤ m) ∧ (0 ≤ d ∧ d ≤ m)
variable [∀ (m a b c d : Int), Decidable (In4 m a b c d)]
def C8 (w : World) (G : Nat) (a b c d e f g h : Int) : Prop :=
 (w.cell? ⟨G, 0, none⟩ = some (.int .i64 a) ∧ w.cell? ⟨G, 1, none⟩ = some (.int .i64 b) ∧ w.cell? ⟨G, 2, none⟩ = some (.int .i64 c) ∧ w.cell? ⟨G, 3, none⟩ = some (.int .i64 d)) ∧
 (w.cell? ⟨G, 4, none⟩ = some (.int .i64 e) ∧ w.cell? ⟨G, 5, none⟩ = some (.int .i64 f) ∧ w.cell? ⟨G, 6, none⟩ = some (.int .i64 g) ∧ w.cell? ⟨G, 7, none⟩ = some (.int .i64 h))
theorem Loc.c8 {w : World} {G : Nat} {a b c d e f g h : Int} (l : Loc w G (b8 a b c d e f g h)) : C8 w G a b c d e f g h :=
 ⟨⟨l.cell 0 rfl, l.cell 1 rfl, l.cell 2 rfl, l.cell 3 rfl⟩, ⟨l.cell 4 rfl, l.cell 5 rfl, l.cell 6 rfl, l.cell 7 rfl⟩⟩

theorem row_eq (n : Nat) (a b c d a' b' c' d' : Int) (w : World) : (Op.equalIn (n + 2) 147 (rv a b c d) (rv a' b' c' d')).run Tryz.prog w = .ok (decide (a = a' ∧ b = b' ∧ c = c' ∧ d = d')) w := by
 have hs : ∀ w, (Go.sizeOf 3).run Tryz.prog w = .ok 1 w:=by intro w; simp [go_sem]
 have hp : ∀ (w : World) (cs : Array Value) (j : Nat) (x : Int), cs[j]? = some (.int .i64 x) → (part 3 cs j).run Tryz.prog w = .ok (.int .i64 x) w:=by
  intro w cs j x h
  simp [part, hs, h]
 have p0:=fun w (x y z u : Int) => hp w (r4 x y z u) 0 x rfl
 have p1:=fun w (x y z u : Int) => hp w (r4 x y z u) 1 y rfl
 have p2:=fun w (x y z u : Int) => hp w (r4 x y z u) 2 z rfl
 have p3:=fun w (x y z u : Int) => hp w (r4 x y z u) 3 u rfl
 have he:=fun w (x y : Int) => run_equalIn_int (P:=Tryz.prog) w n 3 .i64 .i64 x y Tryz.underlying3
 rw [Op.equalIn]
 simp only [Sem.run_bind, run_underlying Tryz.underlying147, Result.andThen_ok, hs, Std.Legacy.Range.forIn_eq_forIn_range', Std.Legacy.Range.size, show List.range' 0 ((4 - 0 + 1 - 1) / 1) 1 = [0, 1, 2, 3] from rfl, List.forIn_cons, Nat.mul_one, p0, he]
 by_cases h0 : a = a'
 ·by_cases h1 : b = b'
  ·by_cases h2 : c = c'
   ·by_cases h3 : d = d'
    ·simp [h0, h1, h2, h3, p1, p2, p3, he]
    simp [h0, h1, h2, h3, p1, p2, p3, he]
   simp [h0, h1, h2, p1, p2, he]
  simp [h0, h1, p1, he]
 simp [h0]
theorem In4.same {m a b c d : Int} (h : In4 m a b c d) : cl m a = a ∧ cl m b = b ∧ cl m c = c ∧ cl m d = d := ⟨cl_same.2 h.1, cl_same.2 h.2.1, cl_same.2 h.2.2.1, cl_same.2 h.2.2.2⟩
theorem In4.iff (m a b c d : Int) : (a = cl m a ∧ b = cl m b ∧ c = cl m c ∧ d = cl m d) ↔ In4 m a b c d := by
 unfold In4
 constructor
 ·rintro ⟨h1, h2, h3, h4⟩; exact ⟨cl_same.1 h1.symm, cl_same.1 h2.symm, cl_same.1 h3.symm, cl_same.1 h4.symm⟩
 rintro ⟨h1, h2, h3, h4⟩; exact ⟨(cl_same.2 h1).symm, (cl_same.2 h2).symm, (cl_same.2 h3).symm, (cl_same.2 h4).symm⟩

theorem ok_has (a b c d e f g h : Int) (w : World) (h1 : In4 400 a b c d) :
 Calls Tryz.prog 153 #[bkv a b c d e f g h] w fun o w' => o = .returned (.bool (decide (In4 100 e f g h))) ∧ Below w.heap.size w w' := by
 obtain ⟨q, hq⟩ : ∃ q, decide (In4 100 e f g h) = q:=⟨_, rfl⟩
 obtain ⟨ea, fa, ga, ha, BN2, E2⟩ : ∃ ea fa ga ha : Int, Hid (∀ w, Calls Tryz.prog 185 #[rv e f g h,.int .i64 100] w fun o w' => o = .returned (rv ea fa ga ha) ∧ Below w.heap.size w w') ∧ (∀ w, (Op.equalIn 10000 147 (rv e f g h) (rv ea fa ga ha)).run Tryz.prog w = .ok q w) :=
  ⟨_, _, _, _, hide fun w => bounded_any e f g h 100 w (by omega), fun w => by rw [row_eq 9998]; simp only [In4.iff, hq]⟩
 have BN1 : Hid (∀ w, Calls Tryz.prog 185 #[rv a b c d,.int .i64 400] w fun o w' => o = .returned (rv a b c d) ∧ Below w.heap.size w w'):=by
  refine hide fun w => ?_
  have:=bounded_any a b c d 400 w (by omega)
  rwa [h1.same.1, h1.same.2.1, h1.same.2.2.1, h1.same.2.2.2] at this
 have E1 : ∀ w, (Op.equalIn 10000 147 (rv a b c d) (rv a b c d)).run Tryz.prog w = .ok true w:=fun w => by rw [row_eq 9998]; simp
 rw [hq]
 clear h1 hq
 obtain ⟨w0, hw0⟩ : ∃ w0, w.alloc (.cells (b8 a b c d e f g h) 149) = w0:=⟨_, rfl⟩
 have B0 : Below w.heap.size w w0:=hw0 ▸ (Below.refl _ _).alloc (Nat.le_refl _) _
 have L0 : Loc w0 w.heap.size (b8 a b c d e f g h):=hw0 ▸ loc_at w _ _ rfl
 have K : Hid (∀ w', Below w0.heap.size w0 w' → Below w0.heap.size w0 w' ∧ C8 w' w.heap.size a b c d e f g h):=hide fun w' hb' => ⟨hb', (L0.up hb').c8⟩
 have bA : Below w0.heap.size w0 w0.drew:=Below.drew (Below.refl _ _)
 have hKeep:=K.out _ bA
 unfold C8 at hKeep
 clear L0
 go_enter Tryz.func153, Tryz.ntmps153
 go_wp2_with fail
 clear hw0
 go_region_held3 (fun w' => Below w0.heap.size w0 w' ∧ ((w'.cell? ⟨w.heap.size, 0, none⟩ = some (.int .i64 a) ∧ w'.cell? ⟨w.heap.size, 1, none⟩ = some (.int .i64 b) ∧ w'.cell? ⟨w.heap.size, 2, none⟩ = some (.int .i64 c) ∧ w'.cell? ⟨w.heap.size, 3, none⟩ = some (.int .i64 d)) ∧
 (w'.cell? ⟨w.heap.size, 4, none⟩ = some (.int .i64 e) ∧ w'.cell? ⟨w.heap.size, 5, none⟩ = some (.int .i64 f) ∧ w'.cell? ⟨w.heap.size, 6, none⟩ = some (.int .i64 g) ∧ w'.cell? ⟨w.heap.size, 7, none⟩ = some (.int .i64 h)))) (exact hKeep) (first
  | (go_at_call 185; have hgo := bA; refine (BN1.out _).mono ?_; rintro _ wa ⟨rfl, b7⟩
     have bB : Below w0.heap.size w0 wa:=bu bA b7
     have hKeep:=K.out _ bB; clear bA hgo b7)
  | (go_at_call 185; have hgo := bB; refine (BN2.out _).mono ?_; rintro _ wb ⟨rfl, b8⟩
     have bC : Below w0.heap.size w0 wb:=bu bB b8
     have hKeep:=K.out _ bC; clear bB hgo b8))
 all_goals
  go_wp2
  go_ret
  exact ⟨rfl, bu B0 bC⟩

theorem ok_hasnt (a b c d e f g h : Int) (w : World) (h1 : ¬ In4 400 a b c d) :
 Calls Tryz.prog 153 #[bkv a b c d e f g h] w fun o w' => o = .returned (.bool false) ∧ Below w.heap.size w w' := by
 obtain ⟨ea, fa, ga, ha, BN1, E1⟩ : ∃ ea fa ga ha : Int, Hid (∀ w, Calls Tryz.prog 185 #[rv a b c d,.int .i64 400] w fun o w' => o = .returned (rv ea fa ga ha) ∧ Below w.heap.size w w') ∧ (∀ w, (Op.equalIn 10000 147 (rv a b c d) (rv ea fa ga ha)).run Tryz.prog w = .ok false w) :=
  ⟨_, _, _, _, hide fun w => bounded_any a b c d 400 w (by omega), fun w => by rw [row_eq 9998]; simp only [In4.iff, h1, decide_false]⟩
 clear h1
 obtain ⟨w0, hw0⟩ : ∃ w0, w.alloc (.cells (b8 a b c d e f g h) 149) = w0:=⟨_, rfl⟩
 have B0 : Below w.heap.size w w0:=hw0 ▸ (Below.refl _ _).alloc (Nat.le_refl _) _
 have L0 : Loc w0 w.heap.size (b8 a b c d e f g h):=hw0 ▸ loc_at w _ _ rfl
 have K : Hid (∀ w', Below w0.heap.size w0 w' → Below w0.heap.size w0 w' ∧ C8 w' w.heap.size a b c d e f g h):=hide fun w' hb' => ⟨hb', (L0.up hb').c8⟩
 have bA : Below w0.heap.size w0 w0.drew:=Below.drew (Below.refl _ _)
 have hKeep:=K.out _ bA
 unfold C8 at hKeep
 clear L0
 go_enter Tryz.func153, Tryz.ntmps153
 go_wp2_with fail
 clear hw0
 refine wp_region_noPanic ?_
 refine wp_region_held_drew (S := (fun w' => Below w0.heap.size w0 w' ∧ ((w'.cell? ⟨w.heap.size, 0, none⟩ = some (.int .i64 a) ∧ w'.cell? ⟨w.heap.size, 1, none⟩ = some (.int .i64 b) ∧ w'.cell? ⟨w.heap.size, 2, none⟩ = some (.int .i64 c) ∧ w'.cell? ⟨w.heap.size, 3, none⟩ = some (.int .i64 d)) ∧ (w'.cell? ⟨w.heap.size, 4, none⟩ = some (.int .i64 e) ∧ w'.cell? ⟨w.heap.size, 5, none⟩ = some (.int .i64 f) ∧ w'.cell? ⟨w.heap.size, 6, none⟩ = some (.int .i64 g) ∧ w'.cell? ⟨w.heap.size, 7, none⟩ = some (.int .i64 h))))) (by kernel_rfl) hKeep (fun hHeld => ?_)
 refine tx 0 3 ?_
 refine tx 1 4 ?_
 refine tx 2 5 ?_
 refine tx 3 6 ?_
 refine rd 4 rfl (fun KK hKK => ?_)
 go_simp
 refine (BN1.out _).mono ?_
 rintro _ wa ⟨rfl, b7⟩
 have bB : Below w0.heap.size w0 wa:=bu bA b7
 have hKeep:=K.out _ bB
 clear bA b7
 refine hKK.out _ _ hKeep (fun hHeld => ?_)
 clear hKK KK
 refine tx 5 8 ?_
 refine tx 6 9 ?_
 refine sx 7 10 ?_
 refine sx 8 11 ?_
 refine sx 9 12 ?_
 refine sx 10 13 ?_
 refine sx 11 14 ?_
 refine sx 12 15 ?_
 refine tx 13 16 ?_
 refine tx 14 2 ?_
 refine wdn ?_
 go_wp2
 go_ret
 exact ⟨rfl, bu B0 bB⟩

theorem ok_any (a b c d e f g h : Int) (w : World) :
 Calls Tryz.prog 153 #[bkv a b c d e f g h] w fun o w' => o = .returned (.bool (decide (In4 400 a b c d ∧ In4 100 e f g h))) ∧ Below w.heap.size w w' := by
 by_cases h1 : In4 400 a b c d
 ·simpa [h1] using ok_has a b c d e f g h w h1
 simpa [h1] using ok_hasnt a b c d e f g h w h1
end
section
open Go.RowKit
variable [∀ (m a b c d : Int), Decidable (In4 m a b c d)]
theorem four_of {xs : List Int} (h : xs.length = 4) : ∃ a b c d, xs = [a, b, c, d] := by
 match xs, h with
 | [a, b, c, d], _ => exact ⟨a, b, c, d, rfl⟩
theorem RI.four {w : World} {v : Value} {a b c d : Int} (h : RI w v [a, b, c, d]) : ∃ g off cap, v = .slice (some ⟨g, off, none⟩) 4 cap ∧
 (w.cell? ⟨g, off, none⟩ = some (.int .i64 a) ∧ w.cell? ⟨g, off + 1, none⟩ = some (.int .i64 b) ∧ w.cell? ⟨g, off + 2, none⟩ = some (.int .i64 c) ∧ w.cell? ⟨g, off + 3, none⟩ = some (.int .i64 d)) := by
 obtain ⟨_, ao, cap, rfl, h⟩:=h
 rcases h with h | ⟨g, off, rfl, h⟩
 ·cases h
 exact ⟨g, off, cap, rfl, h 0 (by simp), h 1 (by simp), h 2 (by simp), h 3 (by simp)⟩

def put8 (w : World) (G : Nat) (a b c d e f g h : Int) : World :=
 (((((((w.setCell ⟨G, 0, none⟩ (.int .i64 a)).setCell ⟨G, 1, none⟩ (.int .i64 b)).setCell ⟨G, 2, none⟩ (.int .i64 c)).setCell ⟨G, 3, none⟩ (.int .i64 d)).setCell ⟨G, 4, none⟩ (.int .i64 e)).setCell ⟨G, 5, none⟩ (.int .i64 f)).setCell ⟨G, 6, none⟩ (.int .i64 g)).setCell ⟨G, 7, none⟩ (.int .i64 h)
theorem Loc.put8 {w : World} {G : Nat} {a b c d e f g h a' b' c' d' e' f' g' h' : Int} (l : Loc w G (b8 a' b' c' d' e' f' g' h')) : Loc (put8 w G a b c d e f g h) G (b8 a b c d e f g h) := by
 unfold _root_.Go.Proofs.YtmpffkpilbbclaaGreatDoor.put8
 refine Loc.set (cs := b8 a b c d e f g h') ?_ 7 _ rfl
 refine Loc.set (cs := b8 a b c d e f g' h') ?_ 6 _ rfl
 refine Loc.set (cs := b8 a b c d e f' g' h') ?_ 5 _ rfl
 refine Loc.set (cs := b8 a b c d e' f' g' h') ?_ 4 _ rfl
 refine Loc.set (cs := b8 a b c d' e' f' g' h') ?_ 3 _ rfl
 refine Loc.set (cs := b8 a b c' d' e' f' g' h') ?_ 2 _ rfl
 refine Loc.set (cs := b8 a b' c' d' e' f' g' h') ?_ 1 _ rfl
 refine Loc.set (cs := b8 a' b' c' d' e' f' g' h') ?_ 0 _ rfl
 exact l
theorem Loc.put8_other {w : World} {G G' : Nat} {cs : Array Value} (l : Loc w G' cs) (hg : G' ≠ G) (a b c d e f g h : Int) : Loc (_root_.Go.Proofs.YtmpffkpilbbclaaGreatDoor.put8 w G a b c d e f g h) G' cs :=
 (((((((l.other hg _).other hg _).other hg _).other hg _).other hg _).other hg _).other hg _).other hg _
theorem put8_below {w wa : World} {B G : Nat} (hb : Below B w wa) (hg : B ≤ G) (a b c d e f g h : Int) : Below B w (put8 wa G a b c d e f g h) :=
 Below.set (Below.set (Below.set (Below.set (Below.set (Below.set (Below.set (Below.set hb _ _ hg) _ _ hg) _ _ hg) _ _ hg) _ _ hg) _ _ hg) _ _ hg) _ _ hg
theorem put8_kp (w : World) (G : Nat) (a b c d e f g h : Int) : Kp w (put8 w G a b c d e f g h) (fun k => k = G) :=
 (((((((set_kp w G 0 _).trans (set_kp _ G 1 _)).trans (set_kp _ G 2 _)).trans (set_kp _ G 3 _)).trans (set_kp _ G 4 _)).trans (set_kp _ G 5 _)).trans (set_kp _ G 6 _)).trans (set_kp _ G 7 _)

theorem arrayAt (g o c : Nat) (w : World) : (Instr.arrayAt 147 (.slice (some ⟨g, o, none⟩) 4 c)).run Tryz.prog w = .ok (.pointer (some ⟨g, o, none⟩)) w := by
 simp [Instr.arrayAt, run_underlying Tryz.underlying147, go_sem]

theorem bookOf_four (u v : Value) (a b c d e f g h : Int) (w : World) (hu : RI w u [a, b, c, d]) (hv : RI w v [e, f, g, h]) :
 Calls Tryz.prog 154 #[lv u v] w fun o w' => o = .returned (.tuple #[bkv a b c d e f g h,.bool (decide (In4 400 a b c d ∧ In4 100 e f g h))]) ∧ Below w.heap.size w w' := by
 obtain ⟨g1, o1, c1, rfl, x0, x1, x2, x3⟩:=hu.four
 obtain ⟨g2, o2, c2, rfl, y0, y1, y2, y3⟩:=hv.four
 have OK:=hide fun w => ok_any a b c d e f g h w
 generalize decide (In4 400 a b c d ∧ In4 100 e f g h) = q at *
 clear hu hv
 obtain ⟨w0, hw0⟩ : ∃ w0, (w.alloc (.cells #[.slice (some ⟨g1, o1, none⟩) 4 c1,.slice (some ⟨g2, o2, none⟩) 4 c2] 60)).alloc (.cells (b8 0 0 0 0 0 0 0 0) 149) = w0:=⟨_, rfl⟩
 have B0 : Below w.heap.size w w0:=hw0 ▸ ((Below.refl _ _).alloc (Nat.le_refl _) _).alloc (by simp) _
 have L0 : Loc w0 w.heap.size #[.slice (some ⟨g1, o1, none⟩) 4 c1,.slice (some ⟨g2, o2, none⟩) 4 c2]:=hw0 ▸ (loc_at w _ _ rfl).alloc _
 have R0 : Loc w0 (w.heap.size + 1) (b8 0 0 0 0 0 0 0 0):=hw0 ▸ loc_at _ _ _ (by simp)
 have l1 : g1 < w.heap.size:=cell_lt x0
 have l2 : g2 < w.heap.size:=cell_lt y0
 have s0:=B0.size
 have K : Hid (∀ w', Below w0.heap.size w0 w' → Below w0.heap.size w0 w' ∧ (w'.cell? ⟨w.heap.size, 0, none⟩ = some (.slice (some ⟨g1, o1, none⟩) 4 c1) ∧ w'.cell? ⟨w.heap.size, 1, none⟩ = some (.slice (some ⟨g2, o2, none⟩) 4 c2)) ∧
  (w'.cell? ⟨g1, o1, none⟩ = some (.int .i64 a) ∧ w'.cell? ⟨g1, o1 + 1, none⟩ = some (.int .i64 b) ∧ w'.cell? ⟨g1, o1 + 2, none⟩ = some (.int .i64 c) ∧ w'.cell? ⟨g1, o1 + 3, none⟩ = some (.int .i64 d)) ∧
  (w'.cell? ⟨g2, o2, none⟩ = some (.int .i64 e) ∧ w'.cell? ⟨g2, o2 + 1, none⟩ = some (.int .i64 f) ∧ w'.cell? ⟨g2, o2 + 2, none⟩ = some (.int .i64 g) ∧ w'.cell? ⟨g2, o2 + 3, none⟩ = some (.int .i64 h))) := hide fun w' hb' => by
  have L:=L0.up hb'
  have bb:=B0.trans (hb'.mono s0)
  exact ⟨hb', ⟨L.cell 0 rfl, L.cell 1 rfl⟩, ⟨(bb.cell (p := ⟨g1, o1, none⟩) l1).trans x0, (bb.cell (p := ⟨g1, o1 + 1, none⟩) l1).trans x1, (bb.cell (p := ⟨g1, o1 + 2, none⟩) l1).trans x2, (bb.cell (p := ⟨g1, o1 + 3, none⟩) l1).trans x3⟩,
   ⟨(bb.cell (p := ⟨g2, o2, none⟩) l2).trans y0, (bb.cell (p := ⟨g2, o2 + 1, none⟩) l2).trans y1, (bb.cell (p := ⟨g2, o2 + 2, none⟩) l2).trans y2, (bb.cell (p := ⟨g2, o2 + 3, none⟩) l2).trans y3⟩⟩
 have p0:=L0.cell 0 rfl
 have p1:=L0.cell 1 rfl
 have bA : Below w0.heap.size w0 w0.drew:=Below.drew (Below.refl _ _)
 clear x0 x1 x2 x3 y0 y1 y2 y3
 have A1:=arrayAt g1 o1 c1
 have A2:=arrayAt g2 o2 c2
 go_enter Tryz.func154, Tryz.ntmps154
 go_wp2_with fail
 clear hw0 p0 p1
 refine wp_region_noPanic ?_
 refine wp_region_held_drew (S := (fun w' => Below w0.heap.size w0 w' ∧ (w'.cell? ⟨w.heap.size, 0, none⟩ = some (.slice (some ⟨g1, o1, none⟩) 4 c1) ∧ w'.cell? ⟨w.heap.size, 1, none⟩ = some (.slice (some ⟨g2, o2, none⟩) 4 c2)) ∧ (w'.cell? ⟨g1, o1, none⟩ = some (.int .i64 a) ∧ w'.cell? ⟨g1, o1 + 1, none⟩ = some (.int .i64 b) ∧ w'.cell? ⟨g1, o1 + 2, none⟩ = some (.int .i64 c) ∧ w'.cell? ⟨g1, o1 + 3, none⟩ = some (.int .i64 d)) ∧ (w'.cell? ⟨g2, o2, none⟩ = some (.int .i64 e) ∧ w'.cell? ⟨g2, o2 + 1, none⟩ = some (.int .i64 f) ∧ w'.cell? ⟨g2, o2 + 2, none⟩ = some (.int .i64 g) ∧ w'.cell? ⟨g2, o2 + 3, none⟩ = some (.int .i64 h)))) (by kernel_rfl) (K.out _ bA) (fun hHeld => ?_)
 refine tx 0 16 ?_
 refine tx 1 17 ?_
 refine tx 2 18 ?_
 refine tx 3 19 ?_
 refine tx 4 20 ?_
 refine tx 5 21 ?_
 refine tx 6 22 ?_
 refine tx 7 23 ?_
 refine tx 8 24 ?_
 refine rd 9 rfl (fun KK hKK => ?_)
 go_simp
 have bB : Below w0.heap.size w0 (w0.alloc (.cells (b8 0 0 0 0 0 0 0 0) 149)).drew:=Below.drew ((Below.refl _ _).alloc (Nat.le_refl _) _)
 clear hHeld
 refine hKK.out _ _ (K.out _ bB) (fun hHeld => ?_)
 clear hKK KK
 refine rd 10 rfl (fun KK hKK => ?_)
 go_simp
 clear hHeld
 refine hKK.out _ _ (K.out _ (Below.drew ((Below.refl _ _).alloc (Nat.le_refl _) _))) (fun hHeld => ?_)
 clear hKK KK hHeld bB bA K A1 A2
 refine wdn ?_
 obtain ⟨w1, hw1⟩ : ∃ w1, (w0.alloc (.cells (b8 a b c d e f g h) 149)).drew = w1:=⟨_, rfl⟩
 have B1 : Below w.heap.size w w1:=hw1 ▸ Below.drew (B0.alloc s0 _)
 have b1 : Below w0.heap.size w0 w1:=hw1 ▸ Below.drew ((Below.refl _ _).alloc (Nat.le_refl _) _)
 have R1 : Loc w1 (w.heap.size + 1) (b8 0 0 0 0 0 0 0 0):=R0.up b1
 have G1 : Loc w1 w0.heap.size (b8 a b c d e f g h):=hw1 ▸ loc_at w0 _ _ rfl
 have ne : w.heap.size + 1 < w0.heap.size:=R0.lt
 rw [hw1]
 clear hw1 R0 L0 b1
 go_wp2_with fail
 refine wp_region_noPanic ?_
 refine wp_region_held_drew (S := (fun w' => (w'.cell? ⟨w0.heap.size, 0, none⟩ = some (.int .i64 a) ∧ w'.cell? ⟨w0.heap.size, 1, none⟩ = some (.int .i64 b) ∧ w'.cell? ⟨w0.heap.size, 2, none⟩ = some (.int .i64 c) ∧ w'.cell? ⟨w0.heap.size, 3, none⟩ = some (.int .i64 d)) ∧ (w'.cell? ⟨w0.heap.size, 4, none⟩ = some (.int .i64 e) ∧ w'.cell? ⟨w0.heap.size, 5, none⟩ = some (.int .i64 f) ∧ w'.cell? ⟨w0.heap.size, 6, none⟩ = some (.int .i64 g) ∧ w'.cell? ⟨w0.heap.size, 7, none⟩ = some (.int .i64 h)))) (by kernel_rfl) (show C8 w1.drew w0.heap.size a b c d e f g h from G1.c8) (fun hHeld => ?_)
 refine tx 0 25 ?_
 refine tx 1 26 ?_
 refine rd 2 rfl (fun KK hKK => ?_)
 go_simp
 refine (OK.out _).mono ?_
 rintro _ wa ⟨rfl, b2⟩
 have b2:=undrew b2
 have G2:=G1.up b2
 have R2:=R1.up b2
 have B2:=bu B1 b2
 clear G1 R1 B1 b2 hHeld
 refine hKK.out _ _ G2.c8 (fun hHeld => ?_)
 clear hKK KK
 obtain ⟨⟨y0, y1, y2, y3⟩, ⟨y4, y5, y6, y7⟩⟩:=R2.c8
 have FR:=R2.frozen
 refine rd 3 rfl (fun KK hKK => ?_)
 go_simp
 have G3 : Loc (put8 wa (w.heap.size + 1) a b c d e f g h) w0.heap.size (b8 a b c d e f g h):=G2.put8_other (by omega) _ _ _ _ _ _ _ _
 clear hHeld
 refine hKK.out _ _ G3.c8 (fun hHeld => ?_)
 clear hKK KK
 refine tx 4 3 ?_
 clear hHeld G3 G2 y0 y1 y2 y3 y4 y5 y6 y7 FR
 refine wdn ?_
 have F : Loc (put8 wa (w.heap.size + 1) a b c d e f g h) (w.heap.size + 1) (b8 a b c d e f g h):=R2.put8
 have B4 : Below w.heap.size w (put8 wa (w.heap.size + 1) a b c d e f g h):=put8_below B2 (by omega) _ _ _ _ _ _ _ _
 obtain ⟨w4, hw4⟩ : ∃ w4, (put8 wa (w.heap.size + 1) a b c d e f g h) = w4:=⟨_, rfl⟩
 rw [hw4] at F B4
 unfold put8 at hw4
 rw [hw4]
 clear hw4 R2 B2
 obtain ⟨⟨y0, y1, y2, y3⟩, ⟨y4, y5, y6, y7⟩⟩:=F.c8
 go_wp2
 refine bodyPost_ret (v := .tuple #[bkv a b c d e f g h,.bool q]) (by simp [results, Tryz.results154, go_sem, y0, y1, y2, y3, y4, y5, y6, y7]) rfl ?_
 exact ⟨rfl, B4⟩
theorem ri_has {w : World} {G : Nat} {a b c d e f g h : Int} (l : Loc w G (b8 a b c d e f g h)) : RI w (.slice (some ⟨G, 0, none⟩) 4 4) [a, b, c, d] := by
 refine ⟨by simp, some ⟨G, 0, none⟩, 4, rfl, .inr ⟨G, 0, rfl, fun k hk => ?_⟩⟩
 match k, hk with
 | 0, _ => exact l.cell 0 rfl
 | 1, _ => exact l.cell 1 rfl
 | 2, _ => exact l.cell 2 rfl
 | 3, _ => exact l.cell 3 rfl
theorem ri_next {w : World} {G : Nat} {a b c d e f g h : Int} (l : Loc w G (b8 a b c d e f g h)) : RI w (.slice (some ⟨G, 4, none⟩) 4 4) [e, f, g, h] := by
 refine ⟨by simp, some ⟨G, 4, none⟩, 4, rfl, .inr ⟨G, 4, rfl, fun k hk => ?_⟩⟩
 match k, hk with
 | 0, _ => exact l.cell 4 rfl
 | 1, _ => exact l.cell 5 rfl
 | 2, _ => exact l.cell 6 rfl
 | 3, _ => exact l.cell 7 rfl

theorem ledger_any (a b c d e f g h : Int) (w : World) :
 Calls Tryz.prog 97 #[bkv a b c d e f g h] w fun o w' => ∃ u v, o = .returned (lv u v) ∧ OL w' w.heap.size w'.heap.size u v [a, b, c, d] [e, f, g, h] ∧ Below w.heap.size w w' := by
 obtain ⟨w0, hw0⟩ : ∃ w0, (w.alloc (.cells (b8 a b c d e f g h) 149)).alloc (.cells #[.slice none 0 0,.slice none 0 0] 60) = w0:=⟨_, rfl⟩
 have B0 : Below w.heap.size w w0:=hw0 ▸ ((Below.refl _ _).alloc (Nat.le_refl _) _).alloc (by simp) _
 have L0 : Loc w0 w.heap.size (b8 a b c d e f g h):=hw0 ▸ (loc_at w _ _ rfl).alloc _
 have R0 : Loc w0 (w.heap.size + 1) #[.slice none 0 0,.slice none 0 0]:=hw0 ▸ loc_at _ _ _ (by simp)
 go_enter Tryz.func97, Tryz.ntmps97
 go_wp2_with fail
 clear hw0
 refine wp_region_noPanic ?_
 refine wp_region_held_drew (S := (fun w' => (w'.cell? ⟨w.heap.size, 0, none⟩ = some (.int .i64 a) ∧ w'.cell? ⟨w.heap.size, 1, none⟩ = some (.int .i64 b) ∧ w'.cell? ⟨w.heap.size, 2, none⟩ = some (.int .i64 c) ∧ w'.cell? ⟨w.heap.size, 3, none⟩ = some (.int .i64 d)) ∧ (w'.cell? ⟨w.heap.size, 4, none⟩ = some (.int .i64 e) ∧ w'.cell? ⟨w.heap.size, 5, none⟩ = some (.int .i64 f) ∧ w'.cell? ⟨w.heap.size, 6, none⟩ = some (.int .i64 g) ∧ w'.cell? ⟨w.heap.size, 7, none⟩ = some (.int .i64 h)))) (by kernel_rfl) (show C8 w0.drew w.heap.size a b c d e f g h from L0.c8) (fun hHeld => ?_)
 refine tx 0 3 ?_
 refine tx 1 4 ?_
 refine tx 3 6 ?_
 refine tx 4 7 ?_
 refine rd 2 rfl (fun KK hKK => ?_)
 go_simp
 refine (copyInts_any _ [a, b, c, d] _ (ri_has (w := w0.drew) L0)).mono ?_
 rintro _ w1 ⟨u, rfl, o1, b1⟩
 have b1:=undrew b1
 have L1:=L0.up b1
 have R1:=R0.up b1
 have B1:=bu B0 b1
 have s1:=b1.size
 have t1:=World.ownsRow.lt o1
 clear hHeld
 refine hKK.out _ _ L1.c8 (fun hHeld => ?_)
 clear hKK KK
 refine rd 5 rfl (fun KK hKK => ?_)
 go_simp
 refine (copyInts_any _ [e, f, g, h] _ (ri_next L1)).mono ?_
 rintro _ w2 ⟨v, rfl, o2, b2⟩
 have L2:=L1.up b2
 have R2:=R1.up b2
 have B2:=bu B1 b2
 have s2:=b2.size
 have t2:=World.ownsRow.lt o2
 have o1':=o1.below b2
 clear hHeld
 refine hKK.out _ _ L2.c8 (fun hHeld => ?_)
 clear hKK KK
 obtain ⟨ua, uc, rfl⟩:=o1.form
 obtain ⟨va, vc, rfl⟩:=o2.form
 refine tx 6 9 ?_
 have y0:=R2.cell 0 rfl
 have y1:=R2.cell 1 rfl
 have FR:=R2.frozen
 refine rd 7 rfl (fun KK hKK => ?_)
 go_simp
 have L3:=(L2.other (p:=⟨w.heap.size + 1, 0, none⟩) (by simp) (.slice ua [a, b, c, d].length uc)).other (p:=⟨w.heap.size + 1, 1, none⟩) (by simp) (.slice va [e, f, g, h].length vc)
 clear hHeld
 refine hKK.out _ _ L3.c8 (fun hHeld => ?_)
 clear hKK KK hHeld L3 L2 L1 L0
 refine wdn ?_
 go_wp2
 refine bodyPost_ret (v := lv (.slice ua [a, b, c, d].length uc) (.slice va [e, f, g, h].length vc)) (by simp [results, Tryz.results97, go_sem, y0, y1]) rfl ?_
 have K3 : Kp w2 ((w2.setCell ⟨w.heap.size + 1, 0, none⟩ (.slice ua [a, b, c, d].length uc)).setCell ⟨w.heap.size + 1, 1, none⟩ (.slice va [e, f, g, h].length vc)) (fun k => k = w.heap.size + 1):=(set_kp w2 _ 0 _).trans (set_kp _ _ 1 _)
 have ls:=R0.lt
 refine ⟨_, _, rfl, ⟨?_, ?_, ?_, ?_, ?_⟩, ?_⟩
 ·exact (o1'.kp K3 (fun k hk => by have := t1 k hk; simp at this; omega)).mono (by simp; omega)
 ·exact (o2.kp K3 (fun k hk => by have := t2 k hk; omega)).mono (by omega)
 ·intro k hk; have := t1 k hk; simp; omega
 ·intro k hk; have := t2 k hk; simp; omega
 ·intro k hk h'; have := t1 k hk; have := t2 k h'; omega
 exact Below.set (Below.set B2 _ _ (by omega)) _ _ (by omega)
theorem implLedgerNew (w : World) :
 Calls Tryz.prog 42 #[] w fun o w' => ∃ u v, o = .returned (lv u v) ∧ OL w' w.heap.size w'.heap.size u v [100, 100, 100, 100] [0, 0, 0, 0] ∧ Below w.heap.size w w' := by
 go_enter Tryz.func42, Tryz.ntmps42
 go_wp2
 refine wp_loop_rounds 5 ?_
 rw [rounds_succ]
 go_wp2
 rw [rounds_succ]
 go_wp2
 rw [rounds_succ]
 go_wp2
 rw [rounds_succ]
 go_wp2
 rw [rounds_succ]
 go_wp2_with fail
 refine (ledger_any 100 100 100 100 0 0 0 0 _).mono ?_
 rintro _ w1 ⟨u, v, rfl, o1, b1⟩
 have B1 : Below w.heap.size w w1:=(((Below.refl w.heap.size w).alloc (Nat.le_refl _) _).alloc (by simp) _).trans (b1.mono (by simp; omega))
 have R1 : Loc w1 w.heap.size #[.slice none 0 0,.slice none 0 0]:=((loc_at w _ _ rfl).alloc _).below b1 (by simp; omega)
 have s1:=b1.size
 simp at s1
 obtain ⟨ua, uc, rfl⟩:=o1.has.form
 obtain ⟨va, vc, rfl⟩:=o1.next.form
 have y0:=R1.cell 0 rfl
 have y1:=R1.cell 1 rfl
 have FR:=R1.frozen
 have O1:=hide o1
 clear b1 o1
 go_wp2
 refine bodyPost_ret (v := lv (.slice ua [(100 : Int), 100, 100, 100].length uc) (.slice va [(0 : Int), 0, 0, 0].length vc)) (by simp [results, Tryz.results42, go_sem, y0, y1]) rfl ?_
 have K : Kp w1 ((w1.setCell ⟨w.heap.size, 0, none⟩ (.slice ua [(100 : Int), 100, 100, 100].length uc)).setCell ⟨w.heap.size, 1, none⟩ (.slice va [(0 : Int), 0, 0, 0].length vc)) (fun k => k = w.heap.size):=(set_kp w1 _ 0 _).trans (set_kp _ _ 1 _)
 refine ⟨_, _, rfl, (O1.out.kp K (fun k hk _ e => by simp at hk; omega)).mono (by simp; omega) (by simp), ?_⟩
 exact Below.set (Below.set B1 _ _ (Nat.le_refl _)) _ _ (Nat.le_refl _)

theorem own_form {w : World} {base size n : Nat} {e : TypeId} {v : Value} {xs : List Value} (h : w.ownsRow base e size v n xs) (hn : 0 < n) : ∃ g cap, v = .slice (some ⟨g, 0, none⟩) n cap := by
 rcases h.2 with ⟨_, h0⟩ | ⟨g, cap, cur, rfl, _⟩
 ·omega
 exact ⟨g, cap, rfl⟩
theorem specLedgerNew (w : World) :
 Calls Tryz.prog 30 #[] w fun o w' => ∃ u v, o = .returned (lv u v) ∧ OL w' w.heap.size w'.heap.size u v [100, 100, 100, 100] [0, 0, 0, 0] ∧ Below w.heap.size w w' := by
 obtain ⟨i0, hi, hz0, hz1, hz2⟩:=info_parts Tryz.info3
 go_enter Tryz.func30, Tryz.ntmps30
 go_wp2_with (first | (at_make; refine wpList_make_full _ rfl _ _ 24 rfl (w.heap.size + 1) 3 i0 (.int .i64 0) 1 Tryz.underlying24 hi hz0 hz1 .i64 .i64 4 4 4 rfl rfl rfl rfl (by rw [hz2]; omega) (by unfold maxLen; omega) (by simp) ?_; intro w0 ho0 hg0))
 have e0 : (madeCells (Value.int IntKind.i64 0).cells (4 * 1)).toList = [(0 : Int), 0, 0, 0].map (Value.int .i64):=toList_madeCells_one _ _
 rw [e0] at ho0
 have on0 : OI w0 (w.heap.size + 1) (.slice (some ⟨(w.alloc (.cells #[.slice none 0 0,.slice none 0 0] 60)).heap.size, 0, none⟩) 4 4) [0, 0, 0, 0]:=ho0
 have B0 : Below w.heap.size w w0:=((Below.refl w.heap.size w).alloc (Nat.le_refl _) _).grown hg0 (by simp) (by simp)
 have R0 : Loc w0 w.heap.size #[.slice none 0 0,.slice none 0 0]:=(loc_at w _ _ rfl).kp (kp_grown hg0) (by simp)
 have s0:=hg0.size
 have lt0:=World.ownsRow.lt on0
 simp at s0 lt0 on0
 have lt0 : w.heap.size + 1 < w0.heap.size:=(lt0 (w.heap.size + 1) rfl).2
 clear ho0 hg0 e0
 go_loopw [2] (fun i wr => ∃ (k : Nat) (v : Value), k ≤ 4 ∧ i = .int .i64 k ∧ Loc wr w0.heap.size #[v, (.slice (some ⟨w.heap.size + 1, 0, none⟩) 4 4)] ∧ Loc wr w.heap.size #[.slice none 0 0,.slice none 0 0] ∧ OI wr (w0.heap.size + 1) v (List.replicate k 100) ∧ OI wr (w.heap.size + 1) (.slice (some ⟨w.heap.size + 1, 0, none⟩) 4 4) [0, 0, 0, 0] ∧ w0.heap.size + 1 ≤ wr.heap.size ∧ Below w.heap.size w wr) (fun i _ => 4 - (intOf i).toNat)
 case atStart => exact ⟨0, _, Nat.zero_le _, rfl, loc_at w0 _ _ rfl, R0.alloc _, World.ownsRow_nil _ _ _ _, on0.below ((Below.refl _ _).alloc (Nat.le_refl _) _), by simp, B0.alloc B0.size _⟩
 case round =>
  clear on0 B0 R0
  obtain ⟨k, v, hk, rfl, L, R, ho, on, sr, B⟩:=hrel
  have B:=hide B
  have R:=hide R
  have on:=hide on
  obtain ⟨va, vc, hv⟩:=ho.form
  subst hv
  rw [List.length_replicate] at *
  have x0:=L.cell 0 rfl
  have x1:=L.cell 1 rfl
  have FL:=L.frozen
  have L:=hide L
  by_cases hlt : k < 4
  ·have ho0 : wr.ownsRow (w0.heap.size + 1) 3 1 (.slice va k vc) k ((List.replicate k (100 : Int)).map (Value.int .i64)):=by have:=ho; unfold OI at this; rwa [List.length_replicate] at this
   have lto:=World.ownsRow.lt ho0
   clear ho
   go_wp2_with (first
    | (at_builtin; refine wpList_append_own _ rfl _ _ 24 rfl (w0.heap.size + 1) 3 i0 (.int .i64 0) 1 8 Tryz.underlying24 hi hz0 hz1 hz2 rfl (by decide) (.slice va k vc) _ _ rfl (ho0.alloc _) ⟨wr.heap.size, 0, none⟩ 1 1 [.int .i64 100] rfl rfl (one_cell _ _ _) (one_plain _ _) (by unfold maxLen; omega) (by omega) (by simp; omega) ?_; intro v' w1 ho' hg' _
       obtain ⟨g', c', rfl⟩:=own_form ho' (by omega)
       have k1 : Kp wr w1 (fun j => (Value.slice va k vc).ownBlock = some j):=(Below.kpOf ((Below.refl _ _).alloc (Nat.le_refl _) _) _).trans (kp_grown hg')
       have L1:=L.out.kp k1 (fun e => by have:=(lto _ e).1; omega)
       have R1:=hide (R.out.kp k1 (fun e => by have:=(lto _ e).1; omega))
       have on1:=hide (on.out.kp k1 (fun j hj e => by have:=(lto _ e).1; simp [Value.ownBlock] at hj; omega))
       have B1:=hide (Below.kp B.out k1 B.out.size (fun j e => by have:=(lto _ e).1; omega))
       have s1:=k1.size
       have x0:=L1.cell 0 rfl
       have x1:=L1.cell 1 rfl
       have FL:=L1.frozen
       have L1:=hide L1
       have ho1 : OI w1 (w0.heap.size + 1) (.slice (some ⟨g', 0, none⟩) (k + 1) c') (List.replicate (k + 1) 100):=by
        unfold OI; rw [List.replicate_succ']; simpa using ho'
       have lt1:=World.ownsRow.lt ho1 g' rfl
       have ho1:=hide ho1
       clear k1 hg' ho' ho0))
   go_roundw
   case rel => exact ⟨k + 1, _, by omega, by go_num, L1.out.set 0 _ rfl, R1.out.other (by simp; omega) _, ho1.out.kp (set_kp _ _ _ _) (fun j hj e => by simp [Value.ownBlock] at hj; omega), on1.out.kp (set_kp _ _ _ _) (fun j hj e => by simp [Value.ownBlock] at hj; omega), by simp; omega, Below.set B1.out _ _ (by omega)⟩
   case measure => simp [intOf]; omega
  have hk4 : k = 4:=by omega
  subst hk4
  have ho:=hide ho
  have y0:=R.out.cell 0 rfl
  have y1:=R.out.cell 1 rfl
  have FR:=R.out.frozen
  have lto:=World.ownsRow.lt ho.out
  have ltn:=World.ownsRow.lt on.out
  go_wp2
  refine bodyPost_ret (v := lv (.slice va 4 vc) (.slice (some ⟨w.heap.size + 1, 0, none⟩) 4 4)) (by simp [results, Tryz.results30, go_sem, y0, y1]) rfl ?_
  have K : Kp wr ((wr.setCell ⟨w.heap.size, 0, none⟩ (.slice va 4 vc)).setCell ⟨w.heap.size, 1, none⟩ (.slice (some ⟨w.heap.size + 1, 0, none⟩) 4 4)) (fun k => k = w.heap.size):=(set_kp wr _ 0 _).trans (set_kp _ _ 1 _)
  refine ⟨_, _, rfl, ⟨(ho.out.kp K (fun k hk e => by have := (lto k hk).1; omega)).mono (by omega), (on.out.kp K (fun k hk e => by have := (ltn k hk).1; omega)).mono (by omega), fun k hk => by have := (lto k hk).2; simp; omega, fun k hk => by have := (ltn k hk).2; simp; omega, fun k hk h' => ?_⟩, ?_⟩
  ·have:=(lto k hk).1; simp [Value.ownBlock] at h'; omega
  exact Below.set (Below.set B.out _ _ (Nat.le_refl _)) _ _ (Nat.le_refl _)
end
section
open Go.RowKit
theorem run_append_nothing (ty : TypeId) (g cap : Nat) (w : World) : (Builtin.append_ #[24, 24] ty #[.slice (some ⟨g, 0, none⟩) 0 0,.slice none 0 cap]).run Tryz.prog w = .ok (.slice (some ⟨g, 0, none⟩) 0 0) w := by
 obtain ⟨i0, hi, hz0, hz1, hz2⟩:=info_parts Tryz.info3
 simp [Builtin.append_, run_underlying Tryz.underlying24, sizeOf, typeInfo, hi, Builtin.lenOf, Builtin.firstCells, storeCells]
theorem step_copy {ops : Array Oper} {o : Oper} {a : Act} {w : World} {K : Act → World → Prop} {Q : Exit → Act → World → Prop} {E : Prop}
 {d : Nat} (hd : o.dst = some d) (hg : o.guard = none) (s x : Operand) (hop : o.op = Op.call { callee := Callee.builtin Builtin.append, args := #[s, x], argTypes := #[24, 24] })
 (g : Nat) (hs : a.eval s = .slice (some ⟨g, 0, none⟩) 0 0) (xs : List Int) (hx : RI w (a.eval x) xs) (hown : OI w g (.slice (some ⟨g, 0, none⟩) 0 0) [])
 (hK : ∀ v' w', OI w' g v' xs → (∀ k, v'.ownBlock = some k → k = g ∨ w.heap.size ≤ k) → Below w.heap.size w w' → K (a.put (some d) v') w') :
 if Region.wanted o (yielded ops a.tmps) = true then Oper.wp Tryz.prog o a w K Q else E := by
 rw [← hd] at hK
 obtain ⟨i0, hi, hz0, hz1, hz2⟩:=info_parts Tryz.info3
 obtain ⟨hl, ao, cap, hv, h⟩:=hx
 have hw : Region.wanted o (yielded ops a.tmps) = true:=by simp [Region.wanted, hg]
 by_cases h0 : xs = []
 ·subst h0
  match ao with
  | some ad =>
   refine step_append_room hg s x 24 hop 3 i0 1 Tryz.underlying24 hi hz1 g 0 0 0 hs ad 0 cap [] hv rfl (fun j u hj => by simp at hj) (fun u hu => by simp at hu) (Nat.le_refl _) (fun j hj => by simp at hj) ?_
   exact hK _ _ hown (fun k hk => .inl (by simpa [Value.ownBlock] using hk.symm)) (Below.refl _ _)
  | none =>
   have hrun:=run_append_nothing o.type g cap w
   rw [if_pos hw]
   unfold Oper.wp
   simp [execOp, hop, resolve, invoke, builtin, hs, hv, hrun, Result.andThen]
   exact hK _ _ hown (fun k hk => .inl (by simpa [Value.ownBlock] using hk.symm)) (Below.refl _ _)
 obtain ⟨b, off, rfl, hc⟩:=h.resolve_left h0
 have hn : 0 < xs.length:=List.length_pos_iff.2 h0
 refine step_append_grows hg s x 24 hop 3 i0 (.int .i64 0) 1 8 Tryz.underlying24 hi hz0 hz1 hz2 rfl (by decide) (some ⟨g, 0, none⟩) 0 0 [] hs (by simp) (by simp) (fun b hb j u hj => by simp at hj) ⟨b, off, none⟩ xs.length cap (xs.map (Value.int .i64)) hv (by simp) (inews_cells hc) (ints_plain64 xs) (by omega) (by unfold maxLen; omega) (by omega) ?_
 intro v' w' ho hgr
 have ho' : OI w' w.heap.size v' xs:=by simpa [OI] using ho
 exact hK _ _ (ho'.mono (Nat.le_of_lt (World.ownsRow.lt hown g rfl).2)) (fun k hk => .inr (World.ownsRow.lt ho' k hk).1) ((Below.refl _ _).grown hgr (Nat.le_refl _) (by simp))
theorem l3Copy_any (u v : Value) (xs ys : List Int) (w : World) (hu : RI w u xs ∧ RI w v ys) :
 Calls Tryz.prog 74 #[lv u v] w fun o w' => ∃ u' v', o = .returned (lv u' v') ∧ OL w' w.heap.size w'.heap.size u' v' xs ys ∧ Below w.heap.size w w' := by
 have RU:=hide hu
 obtain ⟨ua, uc, rfl⟩ : ∃ ua uc, u = .slice ua xs.length uc:=by obtain ⟨_, ua, uc, h, _⟩:=hu.1; exact ⟨ua, uc, h⟩
 obtain ⟨va, vc, rfl⟩ : ∃ va vc, v = .slice va ys.length vc:=by obtain ⟨_, va, vc, h, _⟩:=hu.2; exact ⟨va, vc, h⟩
 clear hu
 obtain ⟨w0, hw0⟩ : ∃ w0, (w.alloc (.cells #[.slice ua xs.length uc,.slice va ys.length vc] 60)).alloc (.cells #[.slice none 0 0,.slice none 0 0] 60) = w0:=⟨_, rfl⟩
 have B0 : Below w.heap.size w w0:=hw0 ▸ ((Below.refl w.heap.size w).alloc (Nat.le_refl _) _).alloc (by simp) _
 have L0 : Loc w0 w.heap.size #[.slice ua xs.length uc,.slice va ys.length vc]:=hw0 ▸ (loc_at w _ _ rfl).alloc _
 have R0 : Loc w0 (w.heap.size + 1) #[.slice none 0 0,.slice none 0 0]:=hw0 ▸ loc_at _ _ _ (by simp)
 go_enter Tryz.func74, Tryz.ntmps74
 go_wp2_with fail
 clear hw0
 refine wp_region_noPanic ?_
 refine wp_region_held_drew (S := (fun w' => w'.cell? ⟨w.heap.size, 0, none⟩ = some (.slice ua xs.length uc) ∧ w'.cell? ⟨w.heap.size, 1, none⟩ = some (.slice va ys.length vc))) (by kernel_rfl) ⟨L0.cell 0 rfl, L0.cell 1 rfl⟩ (fun hHeld => ?_)
 obtain ⟨wd, hd⟩ : ∃ wd, w0.drew = wd:=⟨_, rfl⟩
 have Lwd : Loc wd w.heap.size #[.slice ua xs.length uc,.slice va ys.length vc]:=hd ▸ L0
 have Rwd : Loc wd (w.heap.size + 1) #[.slice none 0 0,.slice none 0 0]:=hd ▸ R0
 have Bwd : Below w.heap.size w wd:=hd ▸ Below.drew B0
 have lwd:=Rwd.lt
 rw [hd] at hHeld ⊢
 clear hd
 refine tx 1 4 ?_
 refine tx 2 5 ?_
 refine tx 5 8 ?_
 refine tx 6 9 ?_
 refine wpAnyH_ready (rs := [0, 4]) (by kernel_rfl) (by simp) (AllReadyH.cons rfl (fun KK hKK => ?_) (AllReadyH.cons rfl (fun KK hKK => ?_) AllReadyH.nil))
 ·go_simp
  obtain ⟨a1, ha1⟩ : ∃ x, wd.alloc (.cells #[] 3) = x:=⟨_, rfl⟩
  have ba1 : Below wd.heap.size wd a1:=ha1 ▸ (Below.refl _ _).alloc (Nat.le_refl _) _
  have za1 : wd.heap.size < a1.heap.size:=by rw [← ha1]; simp
  have La1:=Lwd.up ba1
  have Ra1:=Rwd.up ba1
  have Ba1:=bu Bwd ba1
  have sa1:=ba1.size
  have E0a1 : OI a1 wd.heap.size (.slice (some ⟨wd.heap.size, 0, none⟩) 0 0) []:=ha1 ▸ World.ownsRow_lit wd #[] 0 (Nat.le_refl _) (by unfold maxLen; omega) rfl
  rw [ha1]
  clear hHeld ha1
  refine hKK.out _ _ ⟨La1.cell 0 rfl, La1.cell 1 rfl⟩ (fun hHeld => ?_)
  clear hKK KK
  refine wpAnyH_ready (rs := [3, 4]) (by kernel_rfl) (by simp) (AllReadyH.cons rfl (fun KK hKK => ?_) (AllReadyH.cons rfl (fun KK hKK => ?_) AllReadyH.nil))
  ·refine step_copy (d := 6) rfl rfl (.tmp 3) (.tmp 5) rfl wd.heap.size rfl xs (RU.out.1.below Ba1) E0a1 ?_
   intro v3 a2 o3 n3 ba2
   have La2:=La1.up ba2
   have Ra2:=Ra1.up ba2
   have Ba2:=bu Ba1 ba2
   have sa2:=ba2.size
   have E0a2:=E0a1.below ba2
   have OHa2:=o3
   have t3:=World.ownsRow.lt o3
   clear hHeld
   refine hKK.out _ _ ⟨La2.cell 0 rfl, La2.cell 1 rfl⟩ (fun hHeld => ?_)
   clear hKK KK
   simp only [pU]
   refine rd 4 rfl (fun KK hKK => ?_)
   go_simp
   obtain ⟨a3, ha3⟩ : ∃ x, a2.alloc (.cells #[] 3) = x:=⟨_, rfl⟩
   have ba3 : Below a2.heap.size a2 a3:=ha3 ▸ (Below.refl _ _).alloc (Nat.le_refl _) _
   have za3 : a2.heap.size < a3.heap.size:=by rw [← ha3]; simp
   have La3:=La2.up ba3
   have Ra3:=Ra2.up ba3
   have Ba3:=bu Ba2 ba3
   have sa3:=ba3.size
   have E0a3:=E0a2.below ba3
   have OHa3:=OHa2.below ba3
   have E4a3 : OI a3 a2.heap.size (.slice (some ⟨a2.heap.size, 0, none⟩) 0 0) []:=ha3 ▸ World.ownsRow_lit a2 #[] 0 (Nat.le_refl _) (by unfold maxLen; omega) rfl
   rw [ha3]
   clear hHeld ha3
   refine hKK.out _ _ ⟨La3.cell 0 rfl, La3.cell 1 rfl⟩ (fun hHeld => ?_)
   clear hKK KK
   refine rd 7 rfl (fun KK hKK => ?_)
   refine step_copy (d := 10) rfl rfl (.tmp 7) (.tmp 9) rfl a2.heap.size rfl ys (RU.out.2.below Ba3) E4a3 ?_
   intro v7 a4 o7 n7 ba4
   have La4:=La3.up ba4
   have Ra4:=Ra3.up ba4
   have Ba4:=bu Ba3 ba4
   have sa4:=ba4.size
   have E0a4:=E0a3.below ba4
   have E4a4:=E4a3.below ba4
   have OHa4:=OHa3.below ba4
   have t7:=World.ownsRow.lt o7
   clear hHeld
   refine hKK.out _ _ ⟨La4.cell 0 rfl, La4.cell 1 rfl⟩ (fun hHeld => ?_)
   clear hKK KK
   simp only [pU]
   obtain ⟨la, lc, hla⟩:=OHa4.form
   obtain ⟨ma, mc, hma⟩:=o7.form
   subst hla hma
   refine tx 8 11 ?_
   have q0:=Ra4.cell 0 rfl
   have q1:=Ra4.cell 1 rfl
   have FR:=Ra4.frozen
   refine rd 9 rfl (fun KK hKK => ?_)
   go_simp
   have L9:=(La4.other (p:=⟨w.heap.size + 1, 0, none⟩) (by simp) (.slice la xs.length lc)).other (p:=⟨w.heap.size + 1, 1, none⟩) (by simp) (.slice ma ys.length mc)
   clear hHeld
   refine hKK.out _ _ ⟨L9.cell 0 rfl, L9.cell 1 rfl⟩ (fun hHeld => ?_)
   clear hKK KK hHeld L9
   refine wdn ?_
   go_wp2
   refine bodyPost_ret (v := lv (.slice la xs.length lc) (.slice ma ys.length mc)) (by simp [results, Tryz.results74, go_sem, q0, q1]) rfl ?_
   have K7 : Kp a4 ((a4.setCell ⟨w.heap.size + 1, 0, none⟩ (.slice la xs.length lc)).setCell ⟨w.heap.size + 1, 1, none⟩ (.slice ma ys.length mc)) (fun k => k = w.heap.size + 1):=(set_kp a4 _ 0 _).trans (set_kp _ _ 1 _)
   refine ⟨_, _, rfl, ⟨?_, ?_, ?_, ?_, ?_⟩, ?_⟩
   ·exact (OHa4.kp K7 (fun j hj => by have := t3 j hj; omega)).mono (by omega)
   ·exact (o7.kp K7 (fun j hj => by have := t7 j hj; omega)).mono (by omega)
   ·intro j hj; have := t3 j hj; simp; omega
   ·intro j hj; have := t7 j hj; simp; omega
   ·intro j hj h'; have := t3 j hj; have := t7 j h'; have := n3 j hj; have := n7 j h'; omega
   exact Below.set (Below.set Ba4 _ _ (by omega)) _ _ (by omega)
  go_simp
  obtain ⟨a5, ha5⟩ : ∃ x, a1.alloc (.cells #[] 3) = x:=⟨_, rfl⟩
  have ba5 : Below a1.heap.size a1 a5:=ha5 ▸ (Below.refl _ _).alloc (Nat.le_refl _) _
  have za5 : a1.heap.size < a5.heap.size:=by rw [← ha5]; simp
  have La5:=La1.up ba5
  have Ra5:=Ra1.up ba5
  have Ba5:=bu Ba1 ba5
  have sa5:=ba5.size
  have E0a5:=E0a1.below ba5
  have E4a5 : OI a5 a1.heap.size (.slice (some ⟨a1.heap.size, 0, none⟩) 0 0) []:=ha5 ▸ World.ownsRow_lit a1 #[] 0 (Nat.le_refl _) (by unfold maxLen; omega) rfl
  rw [ha5]
  clear hHeld ha5
  refine hKK.out _ _ ⟨La5.cell 0 rfl, La5.cell 1 rfl⟩ (fun hHeld => ?_)
  clear hKK KK
  refine rd 3 rfl (fun KK hKK => ?_)
  refine step_copy (d := 6) rfl rfl (.tmp 3) (.tmp 5) rfl wd.heap.size rfl xs (RU.out.1.below Ba5) E0a5 ?_
  intro v3 a6 o3 n3 ba6
  have La6:=La5.up ba6
  have Ra6:=Ra5.up ba6
  have Ba6:=bu Ba5 ba6
  have sa6:=ba6.size
  have E0a6:=E0a5.below ba6
  have E4a6:=E4a5.below ba6
  have OHa6:=o3
  have t3:=World.ownsRow.lt o3
  clear hHeld
  refine hKK.out _ _ ⟨La6.cell 0 rfl, La6.cell 1 rfl⟩ (fun hHeld => ?_)
  clear hKK KK
  simp only [pU]
  refine rd 7 rfl (fun KK hKK => ?_)
  refine step_copy (d := 10) rfl rfl (.tmp 7) (.tmp 9) rfl a1.heap.size rfl ys (RU.out.2.below Ba6) E4a6 ?_
  intro v7 a7 o7 n7 ba7
  have La7:=La6.up ba7
  have Ra7:=Ra6.up ba7
  have Ba7:=bu Ba6 ba7
  have sa7:=ba7.size
  have E0a7:=E0a6.below ba7
  have E4a7:=E4a6.below ba7
  have OHa7:=OHa6.below ba7
  have t7:=World.ownsRow.lt o7
  clear hHeld
  refine hKK.out _ _ ⟨La7.cell 0 rfl, La7.cell 1 rfl⟩ (fun hHeld => ?_)
  clear hKK KK
  simp only [pU]
  obtain ⟨la, lc, hla⟩:=OHa7.form
  obtain ⟨ma, mc, hma⟩:=o7.form
  subst hla hma
  refine tx 8 11 ?_
  have q0:=Ra7.cell 0 rfl
  have q1:=Ra7.cell 1 rfl
  have FR:=Ra7.frozen
  refine rd 9 rfl (fun KK hKK => ?_)
  go_simp
  have L9:=(La7.other (p:=⟨w.heap.size + 1, 0, none⟩) (by simp) (.slice la xs.length lc)).other (p:=⟨w.heap.size + 1, 1, none⟩) (by simp) (.slice ma ys.length mc)
  clear hHeld
  refine hKK.out _ _ ⟨L9.cell 0 rfl, L9.cell 1 rfl⟩ (fun hHeld => ?_)
  clear hKK KK hHeld L9
  refine wdn ?_
  go_wp2
  refine bodyPost_ret (v := lv (.slice la xs.length lc) (.slice ma ys.length mc)) (by simp [results, Tryz.results74, go_sem, q0, q1]) rfl ?_
  have K7 : Kp a7 ((a7.setCell ⟨w.heap.size + 1, 0, none⟩ (.slice la xs.length lc)).setCell ⟨w.heap.size + 1, 1, none⟩ (.slice ma ys.length mc)) (fun k => k = w.heap.size + 1):=(set_kp a7 _ 0 _).trans (set_kp _ _ 1 _)
  refine ⟨_, _, rfl, ⟨?_, ?_, ?_, ?_, ?_⟩, ?_⟩
  ·exact (OHa7.kp K7 (fun j hj => by have := t3 j hj; omega)).mono (by omega)
  ·exact (o7.kp K7 (fun j hj => by have := t7 j hj; omega)).mono (by omega)
  ·intro j hj; have := t3 j hj; simp; omega
  ·intro j hj; have := t7 j hj; simp; omega
  ·intro j hj h'; have := t3 j hj; have := t7 j h'; have := n3 j hj; have := n7 j h'; omega
  exact Below.set (Below.set Ba7 _ _ (by omega)) _ _ (by omega)
 go_simp
 obtain ⟨a8, ha8⟩ : ∃ x, wd.alloc (.cells #[] 3) = x:=⟨_, rfl⟩
 have ba8 : Below wd.heap.size wd a8:=ha8 ▸ (Below.refl _ _).alloc (Nat.le_refl _) _
 have za8 : wd.heap.size < a8.heap.size:=by rw [← ha8]; simp
 have La8:=Lwd.up ba8
 have Ra8:=Rwd.up ba8
 have Ba8:=bu Bwd ba8
 have sa8:=ba8.size
 have E4a8 : OI a8 wd.heap.size (.slice (some ⟨wd.heap.size, 0, none⟩) 0 0) []:=ha8 ▸ World.ownsRow_lit wd #[] 0 (Nat.le_refl _) (by unfold maxLen; omega) rfl
 rw [ha8]
 clear hHeld ha8
 refine hKK.out _ _ ⟨La8.cell 0 rfl, La8.cell 1 rfl⟩ (fun hHeld => ?_)
 clear hKK KK
 refine rd 0 rfl (fun KK hKK => ?_)
 go_simp
 obtain ⟨a9, ha9⟩ : ∃ x, a8.alloc (.cells #[] 3) = x:=⟨_, rfl⟩
 have ba9 : Below a8.heap.size a8 a9:=ha9 ▸ (Below.refl _ _).alloc (Nat.le_refl _) _
 have za9 : a8.heap.size < a9.heap.size:=by rw [← ha9]; simp
 have La9:=La8.up ba9
 have Ra9:=Ra8.up ba9
 have Ba9:=bu Ba8 ba9
 have sa9:=ba9.size
 have E4a9:=E4a8.below ba9
 have E0a9 : OI a9 a8.heap.size (.slice (some ⟨a8.heap.size, 0, none⟩) 0 0) []:=ha9 ▸ World.ownsRow_lit a8 #[] 0 (Nat.le_refl _) (by unfold maxLen; omega) rfl
 rw [ha9]
 clear hHeld ha9
 refine hKK.out _ _ ⟨La9.cell 0 rfl, La9.cell 1 rfl⟩ (fun hHeld => ?_)
 clear hKK KK
 refine rd 3 rfl (fun KK hKK => ?_)
 refine step_copy (d := 6) rfl rfl (.tmp 3) (.tmp 5) rfl a8.heap.size rfl xs (RU.out.1.below Ba9) E0a9 ?_
 intro v3 a10 o3 n3 ba10
 have La10:=La9.up ba10
 have Ra10:=Ra9.up ba10
 have Ba10:=bu Ba9 ba10
 have sa10:=ba10.size
 have E0a10:=E0a9.below ba10
 have E4a10:=E4a9.below ba10
 have OHa10:=o3
 have t3:=World.ownsRow.lt o3
 clear hHeld
 refine hKK.out _ _ ⟨La10.cell 0 rfl, La10.cell 1 rfl⟩ (fun hHeld => ?_)
 clear hKK KK
 simp only [pU]
 refine rd 7 rfl (fun KK hKK => ?_)
 refine step_copy (d := 10) rfl rfl (.tmp 7) (.tmp 9) rfl wd.heap.size rfl ys (RU.out.2.below Ba10) E4a10 ?_
 intro v7 a11 o7 n7 ba11
 have La11:=La10.up ba11
 have Ra11:=Ra10.up ba11
 have Ba11:=bu Ba10 ba11
 have sa11:=ba11.size
 have E0a11:=E0a10.below ba11
 have E4a11:=E4a10.below ba11
 have OHa11:=OHa10.below ba11
 have t7:=World.ownsRow.lt o7
 clear hHeld
 refine hKK.out _ _ ⟨La11.cell 0 rfl, La11.cell 1 rfl⟩ (fun hHeld => ?_)
 clear hKK KK
 simp only [pU]
 obtain ⟨la, lc, hla⟩:=OHa11.form
 obtain ⟨ma, mc, hma⟩:=o7.form
 subst hla hma
 refine tx 8 11 ?_
 have q0:=Ra11.cell 0 rfl
 have q1:=Ra11.cell 1 rfl
 have FR:=Ra11.frozen
 refine rd 9 rfl (fun KK hKK => ?_)
 go_simp
 have L9:=(La11.other (p:=⟨w.heap.size + 1, 0, none⟩) (by simp) (.slice la xs.length lc)).other (p:=⟨w.heap.size + 1, 1, none⟩) (by simp) (.slice ma ys.length mc)
 clear hHeld
 refine hKK.out _ _ ⟨L9.cell 0 rfl, L9.cell 1 rfl⟩ (fun hHeld => ?_)
 clear hKK KK hHeld L9
 refine wdn ?_
 go_wp2
 refine bodyPost_ret (v := lv (.slice la xs.length lc) (.slice ma ys.length mc)) (by simp [results, Tryz.results74, go_sem, q0, q1]) rfl ?_
 have K7 : Kp a11 ((a11.setCell ⟨w.heap.size + 1, 0, none⟩ (.slice la xs.length lc)).setCell ⟨w.heap.size + 1, 1, none⟩ (.slice ma ys.length mc)) (fun k => k = w.heap.size + 1):=(set_kp a11 _ 0 _).trans (set_kp _ _ 1 _)
 refine ⟨_, _, rfl, ⟨?_, ?_, ?_, ?_, ?_⟩, ?_⟩
 ·exact (OHa11.kp K7 (fun j hj => by have := t3 j hj; omega)).mono (by omega)
 ·exact (o7.kp K7 (fun j hj => by have := t7 j hj; omega)).mono (by omega)
 ·intro j hj; have := t3 j hj; simp; omega
 ·intro j hj; have := t7 j hj; simp; omega
 ·intro j hj h'; have := t3 j hj; have := t7 j h'; have := n3 j hj; have := n7 j h'; omega
 exact Below.set (Below.set Ba11 _ _ (by omega)) _ _ (by omega)
end
end Go.Proofs.YtmpffkpilbbclaaGreatDoor
