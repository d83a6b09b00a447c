/- Lemmas; their conditions stand in each statement. -/
import Derived.Deep.RegionHeld3
import Derived.Test.YtjkcphnohhpihaaPDAA
import Derived.Deep.DeepCutAuto
set_option maxRecDepth 100000
set_option maxHeartbeats 4000000
set_option linter.unusedSectionVars false
namespace Go.Proofs.Ytjkcphnohhpihaa
section
open Go Go.RowKit
section
variable {P : Program} {ops : Array Oper} {Q : Exit → Act → World → Prop} {md : Region.Mode} {S : World → Prop}
theorem take_at {i d : Nat} {oi : Oper} {v : Value} {fuel : Nat} {listed : Array Bool} {a : Act} {w : World} (hi : ops[i]? = some oi) (hd : oi.dst = some d)
 (hs : Region.noSelect ops = true) (hf : Region.free md ops listed i = true) (hr : (Region.ready md ops listed).contains i = true)
 (hQ : ∀ c a w, Q (.panic c) (a.put (some d) v) w → Q (.panic c) a w) (hy : YieldsIf P ops S oi v a) (hS : S w)
 (h : wpAnyH P md ops Q S fuel (listed.setIfInBounds i true) (a.put (some d) v) w) : wpAnyH P md ops Q S (fuel + 1) listed a w :=
 wpAnyH_take hi hs hf hr (by rw [hd]; exact hQ) hy hS (by rw [hd]; exact h)
theorem ready_at {i : Nat} {o : Oper} {fuel : Nat} {listed : Array Bool} {a : Act} {w : World} (ho : ops[i]? = some o) (hr : Region.ready md ops listed = [i])
 (h : ∀ K' : Act → World → Prop, Shut (∀ a w, S w → (S w → wpAnyH P md ops Q S fuel (listed.setIfInBounds i true) a w) → K' a w) → if Region.wanted o (yielded ops a.tmps) = true then Oper.wp P o a w K' Q else K' (a.put o.dst undef) w) :
 wpAnyH P md ops Q S (fuel + 1) listed a w :=
 wpAnyH_ready hr (by simp) (AllReadyH.cons ho h AllReadyH.nil)
end
section
variable {P : Program} {ops : Array Oper} {Q : Exit → Act → World → Prop} {md : Region.Mode} {S : World → Prop}
theorem tk (i d : Nat) {oi : Oper} {v : Value} {fuel : Nat} {listed : Array Bool} {a : Act} {w : World} (hi : ops[i]? = some oi) (hd : oi.dst = some d := by exact rfl)
 (hs : Region.noSelect ops = true := by kernel_rfl) (hf : Region.free md ops listed i = true := by kernel_rfl) (hr : (Region.ready md ops listed).contains i = true := by kernel_rfl)
 (hy : YieldsIf P ops S oi v a)
 (hQ : ∀ c a w, Q (.panic c) (a.put (some d) v) w → Q (.panic c) a w := by exact fun _ _ _ h => h) (hS : S w := by assumption)
 (h : wpAnyH P md ops Q S fuel (listed.setIfInBounds i true) (a.put (some d) v) w) : wpAnyH P md ops Q S (fuel + 1) listed a w :=
 take_at hi hd hs hf hr hQ hy hS h
theorem sk (i d : Nat) {oi : Oper} {fuel : Nat} {listed : Array Bool} {a : Act} {w : World} (hi : ops[i]? = some oi) (hd : oi.dst = some d := by exact rfl)
 (hs : Region.noSelect ops = true := by kernel_rfl) (hf : Region.free md ops listed i = true := by kernel_rfl) (hr : (Region.ready md ops listed).contains i = true := by kernel_rfl)
 (hy : YieldsIf P ops S oi undef a := by exact Or.inr ⟨by rfl, rfl⟩)
 (hQ : ∀ c a w, Q (.panic c) (a.put (some d) undef) w → Q (.panic c) a w := by exact fun _ _ _ h => h) (hS : S w := by assumption)
 (h : wpAnyH P md ops Q S fuel (listed.setIfInBounds i true) (a.put (some d) undef) w) : wpAnyH P md ops Q S (fuel + 1) listed a w :=
 take_at hi hd hs hf hr hQ hy hS h
theorem tj (i d : Nat) {oi : Oper} {v : Value} {fuel : Nat} {listed : Array Bool} {a : Act} {w : World} (hi : ops[i]? = some oi)
 (hy : ∀ w, S w → (execOp a.eval oi).run P w = .ok (.value v) w) (h : wpAnyH P md ops Q S fuel (listed.setIfInBounds i true) (a.put (some d) v) w) (hw : Region.wanted oi (yielded ops a.tmps) = true := by rfl) (hd : oi.dst = some d := by exact rfl)
 (hs : Region.noSelect ops = true := by kernel_rfl) (hf : Region.free md ops listed i = true := by kernel_rfl) (hr : (Region.ready md ops listed).contains i = true := by kernel_rfl)
 (hQ : ∀ c a w, Q (.panic c) (a.put (some d) v) w → Q (.panic c) a w := by exact fun _ _ _ h => h) (hS : S w := by assumption) : wpAnyH P md ops Q S (fuel + 1) listed a w :=
 take_at hi hd hs hf hr hQ (.inl ⟨hw, hy⟩) hS h
theorem rd (i : Nat) {o : Oper} {fuel : Nat} {listed : Array Bool} {a : Act} {w : World} (ho : ops[i]? = some o)
 (h : ∀ K' : Act → World → Prop, Shut (∀ a w, S w → (S w → wpAnyH P md ops Q S fuel (listed.setIfInBounds i true) a w) → K' a w) → if Region.wanted o (yielded ops a.tmps) = true then Oper.wp P o a w K' Q else K' (a.put o.dst undef) w) (hr : Region.ready md ops listed = [i] := by kernel_rfl) :
 wpAnyH P md ops Q S (fuel + 1) listed a w := ready_at ho hr h
theorem wrd {id : Nat} {a : Act} {w : World} (K : Hid (∀ w', Below w.heap.size w w' → S w')) (b : Below w.heap.size w w.drew)
 (h : S w.drew → wpAnyH P .any ops Q S ops.size (Array.replicate ops.size false) a w.drew) (hm : P.follows .mixedOrders = true := by kernel_rfl) : (Code.region id ops true).wp P Q a w :=
 wp_region_held_drew hm (K.out _ b) h
theorem wrn {id : Nat} {a : Act} {w : World} (K : Hid (∀ w', Below w.heap.size w w' → S w')) (b : Below w.heap.size w w.drew)
 (h : S w.drew → wpAnyH P .any ops (NoPanic Q) S ops.size (Array.replicate ops.size false) a w.drew) (hm : P.follows .mixedOrders = true := by kernel_rfl) : (Code.region id ops true).wp P Q a w :=
 wp_region_noPanic (wrd K b h hm)
theorem wdn {fuel : Nat} {listed : Array Bool} {a : Act} {w : World} (h : Q .normal a w) (hr : Region.ready md ops listed = [] := by kernel_rfl) : wpAnyH P md ops (NoPanic Q) S fuel listed a w :=
 wpAnyH_done hr (NoPanic.normal h) _
theorem tz (i d : Nat) {oi : Oper} {v : Value} {fuel : Nat} {listed : Array Bool} {a : Act} {w : World}
 (h : wpAnyH P md ops Q S fuel (listed.setIfInBounds i true) (a.put (some d) v) w) (hi : ops[i]? = some oi := by exact rfl) (hy : ∀ w, S w → (execOp a.eval oi).run P w = .ok (.value v) w := by intro w h;go_simp;try rfl) (hw : Region.wanted oi (yielded ops a.tmps) = true := by rfl) (hd : oi.dst = some d := by exact rfl)
 (hs : Region.noSelect ops = true := by kernel_rfl) (hf : Region.free md ops listed i = true := by kernel_rfl) (hr : (Region.ready md ops listed).contains i = true := by kernel_rfl)
 (hQ : ∀ c a w, Q (.panic c) (a.put (some d) v) w → Q (.panic c) a w := by exact fun _ _ _ h => h) (hS : S w := by assumption) : wpAnyH P md ops Q S (fuel + 1) listed a w :=
 take_at hi hd hs hf hr hQ (.inl ⟨hw, hy⟩) hS h
end
theorem pU : (∀ (a : Act) (d : Nat) (v : Value), a.put (some d) v = { a with tmps := a.tmps.setIfInBounds d v }) ∧ (∀ (α : Type) (l : List α) (i : Nat) (x : α), l.toArray.setIfInBounds i x = (l.set i x).toArray) ∧ (∀ (α : Type) (x y : α) (l : List α), (x :: l).set 0 y = y :: l) ∧ (∀ (α : Type) (x y : α) (l : List α) (i : Nat), (x :: l).set (i + 1) y = x :: l.set i y) :=
 ⟨fun _ _ _ => rfl, fun _ _ _ _ => by simp, fun _ _ _ _ => rfl, fun _ _ _ _ _ => rfl⟩
section
variable {P : Program} {ops : Array Oper} {Q : Exit → Act → World → Prop} {md : Region.Mode} {S : World → Prop}
theorem tx (i d : Nat) {oi : Oper} {v : Value} {fuel : Nat} {listed : Array Bool} {a A : Act} {w : World}
 (h : wpAnyH P md ops Q S fuel (listed.setIfInBounds i true) A w) (hi : ops[i]? = some oi := by exact rfl) (hy : ∀ w, S w → (execOp a.eval oi).run P w = .ok (.value v) w := by intro w h;go_simp;try rfl)
 (hA : A = a.put (some d) v := by simp only [pU];exact rfl) (hw : Region.wanted oi (yielded ops a.tmps) = true := by rfl) (hd : oi.dst = some d := by exact rfl)
 (hs : Region.noSelect ops = true := by kernel_rfl) (hf : Region.free md ops listed i = true := by kernel_rfl) (hr : (Region.ready md ops listed).contains i = true := by kernel_rfl)
 (hQ : ∀ c a w, Q (.panic c) (a.put (some d) v) w → Q (.panic c) a w := by exact fun _ _ _ h => h) (hS : S w := by assumption) : wpAnyH P md ops Q S (fuel + 1) listed a w :=
 take_at hi hd hs hf hr hQ (.inl ⟨hw, hy⟩) hS (hA ▸ h)
end
section
variable {P : Program} {ops : Array Oper} {Q : Exit → Act → World → Prop} {S : World → Prop}
theorem wra {id : Nat} {a : Act} {w : World} (K : Hid (∀ w', Below w.heap.size w w' → S w'))
 (h : Below w.heap.size w w.drew → S w.drew → wpAnyH P .any ops (NoPanic Q) S ops.size (Array.replicate ops.size false) a w.drew) (hm : P.follows .mixedOrders = true := by kernel_rfl) : (Code.region id ops true).wp P Q a w :=
 wrn K (Below.drew (Below.refl _ _)) (h (Below.drew (Below.refl _ _))) hm
theorem wrk {id : Nat} {a : Act} {w : World} {X : Nat → Prop} (K : Hid (∀ w', Kp w w' X → S w'))
 (h : ∀ v, Kp w v X → Below w.heap.size w v → S v → wpAnyH P .any ops (NoPanic Q) S ops.size (Array.replicate ops.size false) a v) (hm : P.follows .mixedOrders = true := by kernel_rfl) : (Code.region id ops true).wp P Q a w :=
 wp_region_noPanic (wp_region_held_drew hm (K.out _ (Below.kpOf (Below.drew (Below.refl _ _)) _)) (h _ (Below.kpOf (Below.drew (Below.refl _ _)) _) (Below.drew (Below.refl _ _))))
end
section
variable {P : Program} {ops : Array Oper} {Q : Exit → Act → World → Prop} {md : Region.Mode} {S : World → Prop}
theorem sx (i d : Nat) {oi : Oper} {fuel : Nat} {listed : Array Bool} {a A : Act} {w : World} (h : wpAnyH P md ops Q S fuel (listed.setIfInBounds i true) A w) (hi : ops[i]? = some oi := by exact rfl)
 (hA : A = a.put (some d) undef := by simp only [pU];exact rfl) (hd : oi.dst = some d := by exact rfl)
 (hs : Region.noSelect ops = true := by kernel_rfl) (hf : Region.free md ops listed i = true := by kernel_rfl) (hr : (Region.ready md ops listed).contains i = true := by kernel_rfl)
 (hy : YieldsIf P ops S oi undef a := by exact Or.inr ⟨by rfl, rfl⟩)
 (hQ : ∀ c a w, Q (.panic c) (a.put (some d) undef) w → Q (.panic c) a w := by exact fun _ _ _ h => h) (hS : S w := by assumption) : wpAnyH P md ops Q S (fuel + 1) listed a w :=
 take_at hi hd hs hf hr hQ hy hS (hA ▸ h)
end
end
section
open Go.RowKit
theorem eqPart_yes (n : Int) (s : ByteArray) (a b : Value) (xs : List Int) (w : World) (ha : RI w a xs) (hb : RI w b xs) :
 Calls Try.prog 23 #[qv n s a, qv n s b] w fun e w' => e = .returned (.bool true) ∧ Below w.heap.size w w' := by
 have R1:=hide ha
 have R2:=hide hb
 have B:=hide (qalloc2 w (.cells #[.int .i64 n,.string s, a] 36) (.cells #[.int .i64 n,.string s, b] 36))
 clear ha hb
 go_enter Try.func23, Try.ntmps23
 go_wp2_with fail
 refine (eqIntS_yes a b xs _ (R1.out.below B.out (Nat.le_refl _)) (R2.out.below B.out (Nat.le_refl _))).mono ?_
 rintro e w1 ⟨rfl, n, rfl⟩
 go_wp2
 go_ret
 exact ⟨rfl, below_drewN' B.out _⟩

theorem szPart_yes (n : Int) (s : ByteArray) (ao : Option Addr) (m ca : Nat) (left : Int) (w : World) (h : (s.size : Int) + m ≤ left) (hl : left ≤ 1048576) :
 Calls Try.prog 16 #[qv n s (.slice ao m ca),.int .i64 left] w fun e w' => e = .returned (.int .i64 (left - s.size - m)) ∧ Below w.heap.size w w' := by
 have h1 : decide ((left : Int) - (s.size : Int) < 0) = false:=by simp; omega
 have h2 : decide ((left : Int) - (s.size : Int) - (m : Int) < 0) = false:=by simp; omega
 go_enter Try.func16, Try.ntmps16
 go_wp2_with (first | (go_at_call 32; refine (szIntS_yes _ _ _ _ _ (by omega) (by omega)).mono ?_; rintro e w' ⟨rfl, rfl⟩))
 go_ret
 exact ⟨rfl, qalloc _ _⟩

theorem szPart_no1 (n : Int) (s : ByteArray) (ao : Option Addr) (m ca : Nat) (left : Int) (w : World) (h0 : 0 ≤ left) (h : left < s.size) (hs : s.size ≤ 9223372036854775807) (hl : left ≤ 1048576) :
 Calls Try.prog 16 #[qv n s (.slice ao m ca),.int .i64 left] w fun e w' => e = .returned (.int .i64 (-1)) ∧ Below w.heap.size w w' := by
 have h1 : decide ((left : Int) - (s.size : Int) < 0) = true:=by simp; omega
 go_enter Try.func16, Try.ntmps16
 go_wp2
 go_ret
 exact ⟨rfl, qalloc _ _⟩

theorem szPart_no2 (n : Int) (s : ByteArray) (ao : Option Addr) (m ca : Nat) (left : Int) (w : World) (h0 : (s.size : Int) ≤ left) (h : left < s.size + m) (hm : m ≤ 9223372036854775807) (hl : left ≤ 1048576) :
 Calls Try.prog 16 #[qv n s (.slice ao m ca),.int .i64 left] w fun e w' => e = .returned (.int .i64 (-1)) ∧ Below w.heap.size w w' := by
 have h1 : decide ((left : Int) - (s.size : Int) < 0) = false:=by simp; omega
 go_enter Try.func16, Try.ntmps16
 go_wp2_with fail
 refine (szIntS_no _ _ _ _ _ (by omega) (by omega) (by omega) hm).mono ?_
 rintro e w' ⟨rfl, rfl⟩
 go_wp2
 go_ret
 exact ⟨rfl, qalloc _ _⟩

theorem szPart_no (n : Int) (s : ByteArray) (ao : Option Addr) (m ca : Nat) (left : Int) (w : World) (h0 : 0 ≤ left) (h : left < s.size + m) (hs : s.size ≤ 9223372036854775807) (hm : m ≤ 9223372036854775807) (hl : left ≤ 1048576) :
 Calls Try.prog 16 #[qv n s (.slice ao m ca),.int .i64 left] w fun e w' => e = .returned (.int .i64 (-1)) ∧ Below w.heap.size w w' := by
 by_cases h1 : left < (s.size : Int)
 ·exact szPart_no1 n s ao m ca left w h0 h1 hs hl
 exact szPart_no2 n s ao m ca left w (by omega) h hm hl

theorem toPart_any (n : Int) (s : ByteArray) (a : Value) (xs : List Int) (w : World) (ha : RI w a xs) :
 Calls Try.prog 18 #[qv n s a] w fun e w' => ∃ u, e = .returned (qv n s u) ∧ OI w' w.heap.size u xs ∧ Below w.heap.size w w' := by
 have R1:=hide ha
 clear ha
 go_enter Try.func18, Try.ntmps18
 go_wp2_with fail
 refine Calls.mono (toIntS_any a xs _ (R1.out.below ((((Below.refl w.heap.size w).alloc (Nat.le_refl _) _).alloc (by simp) _).alloc (by simp; omega) _) (Nat.le_refl _))) ?_
 rintro e w1 ⟨u, rfl, o1, b1⟩
 have s1:=b1.size
 have L1 : Loc w1 (w.heap.size + 1) #[.int .i64 0,.string ⟨#[]⟩,.slice none 0 0]:=Loc.below (Loc.alloc (loc_at (w.alloc _) #[.int .i64 0,.string ⟨#[]⟩,.slice none 0 0] _ (by simp)) _) b1 (by simp)
 have L2 : Loc w1 (w.heap.size + 1 + 1) #[.int .i64 n,.string s,.slice none 0 0]:=Loc.below (loc_at ((w.alloc _).alloc _) #[.int .i64 n,.string s,.slice none 0 0] _ (by simp)) b1 (by simp)
 have B1 : Below w.heap.size w w1:=((((Below.refl w.heap.size w).alloc (Nat.le_refl _) _).alloc (by simp) _).alloc (by simp; omega) _).trans (b1.mono (by simp; omega))
 have lt1:=World.ownsRow.lt o1
 simp at lt1 s1
 have y0:=L1.cell 0 rfl
 have y1:=L1.cell 1 rfl
 have y2:=L1.cell 2 rfl
 have fy0:=L1.frozen 0
 have fy1:=L1.frozen 1
 have fy2:=L1.frozen 2
 have z0:=L2.cell 0 rfl
 have z1:=L2.cell 1 rfl
 have z2:=L2.cell 2 rfl
 have fz2:=L2.frozen 2
 obtain ⟨ua, uc, hu⟩:=o1.form
 have O1:=hide o1
 clear o1 b1
 subst hu
 go_wp2
 refine bodyPost_ret (v := qv n s (.slice ua xs.length uc)) (by simp [results, Try.results18, go_sem, y0, y1, y2]) rfl ?_
 have K : Kp w1 ((((w1.setCell ⟨w.heap.size + 1 + 1, 2, none⟩ (.slice ua xs.length uc)).setCell ⟨w.heap.size + 1, 0, none⟩ (.int .i64 n)).setCell ⟨w.heap.size + 1, 1, none⟩ (.string s)).setCell ⟨w.heap.size + 1, 2, none⟩ (.slice ua xs.length uc)) (fun k => k = w.heap.size + 1 ∨ k = w.heap.size + 1 + 1) :=
  (((((set_kp _ _ _ _).mono (fun k h => .inr h))).trans ((set_kp _ _ _ _).mono (fun k h => .inl h))).trans ((set_kp _ _ _ _).mono (fun k h => .inl h))).trans ((set_kp _ _ _ _).mono (fun k h => .inl h))
 exact ⟨_, rfl, (O1.out.kp K (fun k hk => by have := lt1 k hk; omega)).mono (by simp; omega), Below.kp B1 K B1.size (fun k hk => by omega)⟩

abbrev zpo : Obj := .cells #[.int .i64 0,.string ⟨#[]⟩,.slice none 0 0] 36

theorem l10Copy_any (n : Int) (s : ByteArray) (v : Value) (xs : List Int) (w : World) (h : RI w v xs) :
 Calls Try.prog 17 #[qv n s v] w fun e w' => ∃ u, e = .returned (qv n s u) ∧ OI w' w.heap.size u xs ∧ Below w.heap.size w w' := by
 obtain ⟨ao, ca, rfl⟩:=h.form
 have hl:=h.1
 obtain ⟨w0, hw0⟩ : ∃ w0, ((w.alloc (.cells #[.int .i64 n,.string s,.slice ao xs.length ca] 36)).alloc zpo).alloc (.cells #[] 3) = w0:=⟨_, rfl⟩
 have B0 : Below w.heap.size w w0:=hw0 ▸ ((qalloc2 _ _ _).alloc (by simp; omega) _)
 have LA : Loc w0 w.heap.size #[.int .i64 n,.string s,.slice ao xs.length ca]:=hw0 ▸ ((loc_at w _ _ rfl).alloc _).alloc _
 have LZ : Loc w0 (w.heap.size + 1) #[.int .i64 0,.string ⟨#[]⟩,.slice none 0 0]:=hw0 ▸ (loc_at (w.alloc _) _ _ (by simp)).alloc _
 have s0 : w0.heap.size = w.heap.size + 1 + 1 + 1:=by rw [← hw0]; simp
 have O0 : OI w0 (w.heap.size + 1 + 1) (.slice (some ⟨w.heap.size + 1 + 1, 0, none⟩) 0 0) []:=by
  have:=World.ownsRow_lit (base:=w.heap.size + 1 + 1) (e:=3) (size:=1) ((w.alloc (.cells #[.int .i64 n,.string s,.slice ao xs.length ca] 36)).alloc zpo) #[] 0 (by simp) (by unfold maxLen; omega) (by simp)
  rw [hw0] at this
  simpa [OI] using this
 have P0:=hide (h.pi.below B0)
 have x2:=LA.cell 2 rfl
 have HL:=hide LA
 have HZ:=hide LZ
 clear h LA LZ
 go_enter Try.func17, Try.ntmps17
 go_wp2_with (first | (at_builtin; clear hw0; refine append_ints rfl _ _ rfl (w.heap.size + 1 + 1) (.slice (some ⟨w.heap.size + 1 + 1, 0, none⟩) 0 0) (.slice ao xs.length ca) [] xs rfl rfl O0 P0.out (by simp; omega) (by omega) ?_; intro v' w2 ho2 hg2 _
                       have k2:=kp_grown hg2
                       have L2:=HL.out.kp k2 (by simp [Value.ownBlock]; omega)
                       have Z2:=HZ.out.kp k2 (by simp [Value.ownBlock])
                       have B2:=Below.kp B0 k2 B0.size (fun k hk => by simp [Value.ownBlock] at hk; omega)
                       have lt2:=World.ownsRow.lt ho2
                       have p0:=L2.cell 0 rfl
                       have p1:=L2.cell 1 rfl
                       have p2:=L2.cell 2 rfl
                       have fp:=L2.frozen
                       have y0:=Z2.cell 0 rfl
                       have y1:=Z2.cell 1 rfl
                       have y2:=Z2.cell 2 rfl
                       have fy:=Z2.frozen
                       obtain ⟨ua, uc, rfl⟩:=ho2.form
                       have O2:=hide ho2
                       clear ho2 hg2 k2 L2 Z2))
 refine bodyPost_ret (v := qv n s (.slice ua ([] ++ xs).length uc)) (by simp [results, Try.results17, go_sem, y0, y1, y2]) rfl ?_
 have K5 : Kp w2 ((((w2.setCell ⟨w.heap.size, 2, none⟩ (.slice ua ([] ++ xs).length uc)).setCell ⟨w.heap.size + 1, 0, none⟩ (.int .i64 n)).setCell ⟨w.heap.size + 1, 1, none⟩ (.string s)).setCell ⟨w.heap.size + 1, 2, none⟩ (.slice ua ([] ++ xs).length uc)) (fun k => k = w.heap.size ∨ k = w.heap.size + 1) :=
  (((((set_kp _ _ _ _).mono (fun k h => .inl h))).trans ((set_kp _ _ _ _).mono (fun k h => .inr h))).trans ((set_kp _ _ _ _).mono (fun k h => .inr h))).trans ((set_kp _ _ _ _).mono (fun k h => .inr h))
 exact ⟨_, rfl, (O2.out.kp K5 (fun k hk => by have := lt2 k hk; omega)).mono (by omega), Below.kp B2 K5 B2.size (fun k hk => by omega)⟩
theorem OI.one {w : World} {base : Nat} {u : Value} {xs : List Int} (h : OI w base u xs) : u.oneCell' = true := by
 obtain ⟨a, c, rfl⟩:=h.form; rfl
theorem append_part {ops : Array Oper} {rest : List Oper} {o : Oper} {a : Act} {Q : Exit → Act → World → Prop} {w : World} (hgd : o.guard = none) (s x : Operand)
 (ho : o.op = .call { callee := .builtin .append, args := #[s, x], argTypes := #[24, 24] }) (base N : Nat) (v : Value) (ps : List Pt) (vs : List Value) (g cp : Nat) (m : Int) (nm : ByteArray) (u : Value) (xs : List Int) (hs : a.eval s = v) (hx : a.eval x = .slice (some ⟨g, 0, none⟩) 1 cp)
 (htab : OPtV w base v ps vs) (c0 : w.cell? ⟨g, 0, none⟩ = some (.int .i64 m)) (c1 : w.cell? ⟨g, 1, none⟩ = some (.string nm)) (c2 : w.cell? ⟨g, 2, none⟩ = some u) (hu : OI w N u xs)
 (hN : ∀ k, k < ps.length → ∀ b, (vs.getD k (.slice none 0 0)).ownBlock = some b → b < N) (hbN : base ≤ N) (hl : ps.length ≤ 4194304) (hbase : base ≤ w.heap.size)
 (h : ∀ v' w', OPtV w' base v' (ps ++ [(m, nm, xs)]) (vs ++ [u]) → w.grownBy w' v.ownBlock → (v'.ownBlock = v.ownBlock ∨ v'.ownBlock = some w.heap.size) → wpList Try.prog ops Q rest (a.put o.dst v') w') :
 wpList Try.prog ops Q (o :: rest) a w := by
 obtain ⟨i0, hi, hz0, hz1, hz2⟩:=info_parts Try.infoPt
 have hn : ∀ j y, (pcell ((m, nm), u))[j]? = some y → w.cell? ((⟨g, 0, none⟩ : Addr).add j) = some y:=by
  intro j y hj
  match j, hj with
  | 0, hj => simp [pcell] at hj; subst hj; simpa [Addr.add] using c0
  | 1, hj => simp [pcell] at hj; subst hj; simpa [Addr.add] using c1
  | 2, hj => simp [pcell] at hj; subst hj; simpa [Addr.add] using c2
  | j + 3, hj => simp [pcell] at hj
 have hp : ∀ y ∈ pcell ((m, nm), u), y.oneCell' = true:=by
  intro y hy
  simp [pcell] at hy
  rcases hy with rfl | rfl | rfl
  ·rfl
  ·rfl
  exact hu.one
 refine wpList_append_own_at _ hgd s x 24 ho base 36 i0 (qv 0 ⟨#[]⟩ (.slice none 0 0)) 3 48 Try.underlying24 hi hz0 hz1 hz2 rfl (by decide) v ps.length (pcells ((ps.map phd).zip vs)) hs htab.row ⟨g, 0, none⟩ 1 cp (pcell ((m, nm), u)) hx (by simp [pcell]) hn hp (by unfold maxLen; omega) (by omega) hbase ?_
 intro v' w' ho' hg' _ hb'
 exact h v' w' (opt_more htab hu hN hbN ho' hg') hg' hb'
theorem opt_empty (w : World) : OPtV (w.alloc (.cells #[] 36)) w.heap.size (.slice (some ⟨w.heap.size, 0, none⟩) 0 0) [] [] := by
 refine ⟨rfl, ?_, fun k hk => by simp at hk, fun i j _ hj => by simp at hj⟩
 have:=World.ownsRow_lit (base:=w.heap.size) (e:=36) (size:=3) w #[] 0 (Nat.le_refl _) (by unfold maxLen; omega) (by simp)
 simpa [pcells] using this
theorem pt_take {ps : List Pt} {k : Nat} (hk : k < ps.length) : ps.take (k + 1) = ps.take k ++ [ps.getD k zpt] := by
 rw [List.take_succ_eq_append_getElem hk]
 simp [List.getElem?_eq_getElem hk]

theorem l10Table_any (v : Value) (ps : List Pt) (w : World) (hl : ps.length ≤ 4194304) (h : RPt w v ps) :
 Calls Try.prog 48 #[v] w fun e w' => ∃ u, e = .returned u ∧ OPt w' w.heap.size u ps ∧ Below w.heap.size w w' := by
 obtain ⟨ao, ca, rfl⟩:=h.form
 obtain ⟨n, hn⟩ : ∃ n, ps.length = n:=⟨_, rfl⟩
 have Hn:=hide hn
 obtain ⟨w0, hw0⟩ : ∃ y, w.alloc (.cells #[] 36) = y:=⟨_, rfl⟩
 have B0 : Below w.heap.size w w0:=hw0 ▸ qalloc _ _
 have T0 : OPtV w0 w.heap.size (.slice (some ⟨w.heap.size, 0, none⟩) 0 0) [] []:=hw0 ▸ opt_empty w
 have H:=hide h
 rw [hn] at hl H ⊢
 clear h hn
 go_enter Try.func48, Try.ntmps48
 go_wp2
 go_loopw [3, 4] (fun t i wr => ∃ (k : Nat) (vs : List Value) (ta : Option Addr) (tc : Nat), k ≤ n ∧ i = .int .i64 k ∧ t = .slice ta k tc ∧ OPtV wr w.heap.size (.slice ta k tc) (ps.take k) vs ∧ Below w.heap.size w wr) (fun _ i _ => n - (intOf i).toNat)
 case atStart => exact ⟨0, _, _, _, Nat.zero_le _, rfl, rfl, T0, B0⟩
 case round =>
  clear T0 B0 hw0
  obtain ⟨k, vs, ta, tc, hk, rfl, rfl, T, br⟩:=hrel
  by_cases hlt : k < n
  ·have hkx : k < ps.length:=by have:=Hn.out; omega
   have HT:=hide (pt_take hkx)
   obtain ⟨g, off, u, rfl, c0, c1, c2, ru⟩:=(H.out.below br).at k hkx
   obtain ⟨x, hx⟩ : ∃ x, ps.getD k zpt = x:=⟨_, rfl⟩
   rw [hx] at c0 c1 ru HT
   clear hx
   obtain ⟨m, s, xs⟩:=x
   simp only at c0 c1 ru
   have CP:=hide fun w h => l10Copy_any m s u xs w h
   obtain ⟨ua, uc, rfl⟩:=ru.form
   have RU:=hide ru
   have TT:=hide T
   have hlk : (ps.take k).length = k:=by simp; omega
   clear ru T H
   generalize xs.length = xl at *
   go_wp2_with fail
   refine (CP.out _ RU.out).mono ?_
   rintro e w2 ⟨u2, rfl, o2, b2⟩
   have T2:=TT.out.below b2
   have B2:=bu br b2
   obtain ⟨w3, hw3⟩ : ∃ y, w2.alloc (.cells #[.int .i64 m,.string s, u2] 36) = y:=⟨_, rfl⟩
   have t3 : Below w2.heap.size w2 w3:=hw3 ▸ qalloc _ _
   have L3 : Loc w3 w2.heap.size #[.int .i64 m,.string s, u2]:=hw3 ▸ loc_at w2 _ _ rfl
   have T3:=hide (T2.below t3)
   have O3:=hide (o2.below t3)
   have B3:=bu B2 t3
   have hN : Hid (∀ j, j < (ps.take k).length → ∀ b, (vs.getD j (.slice none 0 0)).ownBlock = some b → b < wr.heap.size):=hide fun j hj b hb => (World.ownsRow.lt (TT.out.each j hj) b hb).2
   have d0:=L3.cell 0 rfl
   have d1:=L3.cell 1 rfl
   have d2:=L3.cell 2 rfl
   obtain ⟨xa, xc, rfl⟩:=o2.form
   have sr:=br.size
   have s3:=B3.size
   clear T2 B2 o2 b2 TT CP RU c0 c1 c2 t3 L3
   go_wp2_with (first
    | (at_builtin; clear hw3; refine append_part rfl _ _ rfl w.heap.size wr.heap.size (.slice ta k tc) (ps.take k) vs w2.heap.size 1 m s _ xs rfl rfl T3.out d0 d1 d2 O3.out hN.out sr (by omega) s3 ?_; intro v4 w4 ho4 hg4 _
       have r4:=World.ownsRow.lt T3.out.row
       have B4:=B3.grown hg4 s3 (fun j e => (r4 j e).1)
       obtain ⟨a4, c4, hv4⟩:=OPt.form ⟨_, ho4⟩
       rw [← HT.out] at hv4 ho4
       rw [show (ps.take (k + 1)).length = k + 1 by simp; omega] at hv4
       subst hv4
       have O4:=hide ho4
       clear T3 O3 B3 ho4 hg4 r4 d0 d1 d2 hN))
   go_roundw
   case rel => exact ⟨k + 1, _, a4, c4, by omega, by go_num, by go_num, O4.out, B4⟩
   case measure => simp [intOf]; omega
  have hkn : ps.take k = ps:=List.take_of_length_le (by have:=Hn.out; omega)
  rw [hkn] at T
  have T':=hide T
  clear T hkn H
  go_wp2
  go_ret
  exact ⟨_, rfl, ⟨_, T'.out⟩, br⟩
end
section

def addL (s : List Int) (i : Int) : List Int := if i ∈ s then s else s.takeWhile (fun x => decide (x < i)) ++ i :: s.dropWhile (fun x => decide (x < i))
def joinL (a b : List Int) : List Int := (a ++ b).foldl addL []
def OkL (n : Int) (s : List Int) : Prop := (∀ x ∈ s, 0 ≤ x ∧ x < n) ∧ s.Pairwise (· < ·)
theorem mem_add (s : List Int) (i x : Int) : x ∈ addL s i ↔ x ∈ s ∨ x = i := by
 unfold addL
 split
 ·rename_i h
  constructor
  ·exact .inl
  rintro (h1 | rfl)
  ·exact h1
  exact h
 have e:=List.takeWhile_append_dropWhile (p:=fun x => decide (x < i)) (l:=s)
 have h2 : x ∈ s ↔ x ∈ s.takeWhile (fun x => decide (x < i)) ∨ x ∈ s.dropWhile (fun x => decide (x < i)):=by
  conv => lhs; rw [← e]
  exact List.mem_append
 simp only [List.mem_append, List.mem_cons, h2]
 constructor
 ·rintro (h | h | h)
  ·exact .inl (.inl h)
  ·exact .inr h
  exact .inl (.inr h)
 rintro ((h | h) | h)
 ·exact .inl h
 ·exact .inr (.inr h)
 exact .inr (.inl h)
theorem fold_mem (l s : List Int) (x : Int) : x ∈ l.foldl addL s ↔ x ∈ s ∨ x ∈ l := by
 induction l generalizing s with
 | nil => simp
 | cons c l ih => rw [List.foldl_cons, ih, mem_add, List.mem_cons, or_assoc]
theorem mem_join (a b : List Int) (x : Int) : x ∈ joinL a b ↔ x ∈ a ∨ x ∈ b := by
 unfold joinL; rw [fold_mem]; simp
theorem add_len (s : List Int) (i : Int) : (addL s i).length ≤ s.length + 1 := by
 unfold addL
 split
 ·omega
 have e:=congrArg List.length (List.takeWhile_append_dropWhile (p:=fun x => decide (x < i)) (l:=s))
 rw [List.length_append] at e
 rw [List.length_append, List.length_cons]; omega
theorem fold_len (l s : List Int) : (l.foldl addL s).length ≤ s.length + l.length := by
 induction l generalizing s with
 | nil => simp
 | cons c l ih =>
  have h1:=ih (addL s c)
  have h2:=add_len s c
  rw [List.foldl_cons, List.length_cons]; omega
theorem fold_snoc (l s : List Int) (x : Int) : (l ++ [x]).foldl addL s = addL (l.foldl addL s) x := by rw [List.foldl_append]; rfl
def WfL (xs : List Int) : Prop := ∀ x ∈ xs, (Lit.int .i64 x).wf = true
theorem WfL.at {xs : List Int} (h : WfL xs) (k : Nat) (hk : k < xs.length) : (Lit.int .i64 (xs.getD k 0)).wf = true := by
 rw [List.getD_eq_getElem?_getD, List.getElem?_eq_getElem hk]; exact h _ (List.getElem_mem hk)
end
section
open Go.RowKit
def befP (a b : Pt) : Bool := decide (a.1 < b.1) || (decide (a.1 = b.1) && Op.bytesLess a.2.1.toList b.2.1.toList)
def samP (a b : Pt) : Bool := decide (a.1 = b.1) && (a.2.1.toList == b.2.1.toList)
def joinP (a b : Pt) : Pt := (a.1, a.2.1, joinL a.2.2 b.2.2)
def addP : List Pt → Pt → List Pt
 | [], p => [p]
 | x :: xs, p => if befP x p then x :: addP xs p else if samP x p then joinP x p :: xs else p :: x :: xs
def dropP (ps : List Pt) (v : Int) : List Pt := ps.filter fun x => decide (v ≤ x.1)
def rowP : List Pt → Bool
 | [] => true
 | [_] => true
 | a :: b :: t => befP a b && rowP (b :: t)

theorem addP_len (ps : List Pt) (p : Pt) : (addP ps p).length ≤ ps.length + 1 := by
 induction ps with
 | nil => simp [addP]
 | cons x ps ih => unfold addP; split <;> (try split) <;> simp <;> omega
theorem drop_take (ps : List Pt) (k : Nat) (view : Int) (hk : k < ps.length) : dropP (ps.take (k + 1)) view = dropP (ps.take k) view ++ (if view ≤ (ps.getD k zpt).1 then [ps.getD k zpt] else []) := by
 rw [pt_take hk]
 unfold dropP
 rw [List.filter_append]
 simp [List.filter_cons]

theorem specTableDrop (v : Value) (ps : List Pt) (view : Int) (w : World) (hl : ps.length ≤ 4194304) (h : RPt w v ps) :
 Calls Try.prog 6 #[v,.int .i64 view] w fun e w' => ∃ u, e = .returned u ∧ OPt w' w.heap.size u (dropP ps view) ∧ Below w.heap.size w w' := by
 obtain ⟨ao, ca, rfl⟩:=h.form
 obtain ⟨n, hn⟩ : ∃ n, ps.length = n:=⟨_, rfl⟩
 have Hn:=hide hn
 obtain ⟨w0, hw0⟩ : ∃ y, w.alloc (.cells #[] 36) = y:=⟨_, rfl⟩
 have B0 : Below w.heap.size w w0:=hw0 ▸ qalloc _ _
 have T0 : OPtV w0 w.heap.size (.slice (some ⟨w.heap.size, 0, none⟩) 0 0) [] []:=hw0 ▸ opt_empty w
 have H:=hide h
 rw [hn] at hl H ⊢
 clear h hn
 go_enter Try.func6, Try.ntmps6
 go_wp2
 go_loopw [5, 6] (fun t i wr => ∃ (k : Nat) (ds : List Pt) (vs : List Value) (ta : Option Addr) (tc : Nat), k ≤ n ∧ i = .int .i64 k ∧ t = .slice ta ds.length tc ∧ ds.length ≤ k ∧ Hid (dropP (ps.take k) view = ds) ∧ OPtV wr w.heap.size (.slice ta ds.length tc) ds vs ∧ Below w.heap.size w wr) (fun _ i _ => n - (intOf i).toNat)
 case atStart => exact ⟨0, [], _, _, _, Nat.zero_le _, rfl, rfl, Nat.le_refl _, hide (by simp [dropP]), T0, B0⟩
 case round =>
  clear T0 B0 hw0
  obtain ⟨k, ds, vs, ta, tc, hk, rfl, rfl, hdl, HD, T, br⟩:=hrel
  by_cases hlt : k < n
  ·have hkx : k < ps.length:=by have:=Hn.out; omega
   have HT:=hide (drop_take ps k view hkx)
   rw [HD.out] at HT
   obtain ⟨g, off, u, rfl, c0, c1, c2, ru⟩:=(H.out.below br).at k hkx
   obtain ⟨x, hx⟩ : ∃ x, ps.getD k zpt = x:=⟨_, rfl⟩
   rw [hx] at c0 c1 ru HT
   clear hx
   obtain ⟨m, s, xs⟩:=x
   simp only at c0 c1 ru
   have CP:=hide fun w h => l10Copy_any m s u xs w h
   obtain ⟨ua, uc, rfl⟩:=ru.form
   have RU:=hide ru
   have TT:=hide T
   clear ru T H
   generalize xs.length = xl at *
   by_cases hv : view ≤ m
   ·rw [if_pos hv] at HT
    go_wp2_with fail
    refine (CP.out _ RU.out).mono ?_
    rintro e w2 ⟨u2, rfl, o2, b2⟩
    have T2:=TT.out.below b2
    have B2:=bu br b2
    obtain ⟨w3, hw3⟩ : ∃ y, w2.alloc (.cells #[.int .i64 m,.string s, u2] 36) = y:=⟨_, rfl⟩
    have t3 : Below w2.heap.size w2 w3:=hw3 ▸ qalloc _ _
    have L3 : Loc w3 w2.heap.size #[.int .i64 m,.string s, u2]:=hw3 ▸ loc_at w2 _ _ rfl
    have T3:=hide (T2.below t3)
    have O3:=hide (o2.below t3)
    have B3:=bu B2 t3
    have hN : Hid (∀ j, j < (ds).length → ∀ b, (vs.getD j (.slice none 0 0)).ownBlock = some b → b < wr.heap.size):=hide fun j hj b hb => (World.ownsRow.lt (TT.out.each j hj) b hb).2
    have d0:=L3.cell 0 rfl
    have d1:=L3.cell 1 rfl
    have d2:=L3.cell 2 rfl
    obtain ⟨xa, xc, rfl⟩:=o2.form
    have sr:=br.size
    have s3:=B3.size
    clear T2 B2 o2 b2 TT CP RU c0 c1 c2 t3 L3
    go_wp2_with (first
     | (at_builtin; clear hw3; refine append_part rfl _ _ rfl w.heap.size wr.heap.size (.slice ta ds.length tc) (ds) vs w2.heap.size 1 m s _ xs rfl rfl T3.out d0 d1 d2 O3.out hN.out sr (by omega) s3 ?_; intro v4 w4 ho4 hg4 _
        have r4:=World.ownsRow.lt T3.out.row
        have B4:=B3.grown hg4 s3 (fun j e => (r4 j e).1)
        obtain ⟨a4, c4, hv4⟩:=OPt.form ⟨_, ho4⟩
        subst hv4
        have O4:=hide ho4
        clear T3 O3 B3 ho4 hg4 r4 d0 d1 d2 hN))
    go_roundw
    case rel => exact ⟨k + 1, ds ++ [(m, s, xs)], _, a4, c4, by omega, by go_num, by simp, by simp; omega, HT, O4.out, B4⟩
    case measure => simp [intOf]; omega
   rw [if_neg hv, List.append_nil] at HT
   clear CP RU
   go_wp2
   go_roundw
   case rel => exact ⟨k + 1, ds, vs, ta, tc, by omega, by go_num, rfl, by omega, HT, TT.out, br⟩
   case measure => simp [intOf]; omega
  have hkn : ps.take k = ps:=List.take_of_length_le (by have:=Hn.out; omega)
  rw [hkn] at HD
  have T':=hide T
  have HD':=HD.out
  subst HD'
  clear T hkn H
  go_wp2
  go_ret
  exact ⟨_, rfl, ⟨_, T'.out⟩, br⟩
theorem in_yes (x lo hi : Int) (w : World) (h1 : lo ≤ x) (h2 : x ≤ hi) : Calls Try.prog 60 #[.int .i64 x,.int .i64 lo,.int .i64 hi] w fun e w' => e = .returned (.bool true) ∧ w' = w := by
 go_enter Try.func60, Try.ntmps60
 go_wp2
 go_ret
 exact ⟨rfl, rfl⟩

theorem in_no (x lo hi : Int) (w : World) (h : x < lo ∨ hi < x) : Calls Try.prog 60 #[.int .i64 x,.int .i64 lo,.int .i64 hi] w fun e w' => e = .returned (.bool false) ∧ w' = w := by
 by_cases h1 : lo ≤ x
 ·have h2 : ¬ x ≤ hi:=by omega
  clear h
  go_enter Try.func60, Try.ntmps60
  go_wp2
  go_ret
  exact ⟨rfl, rfl⟩
 have hd : decide (lo ≤ x) = false:=by simpa using h1
 clear h
 go_enter Try.func60, Try.ntmps60
 go_wp2
 go_ret
 exact ⟨rfl, rfl⟩
end
section
open Go.RowKit
def Ok4 (a b c d : Int) : Prop := (0 ≤ a ∧ a ≤ 3) ∧ (0 ≤ b ∧ b ≤ 3) ∧ (0 ≤ c ∧ c ≤ 1000) ∧ (0 ≤ d ∧ d ≤ 99)
variable [∀ (a b c d : Int), Decidable (Ok4 a b c d)]
abbrev txv (a b c d : Int) : Value := .agg #[.int .i64 a,.int .i64 b,.int .i64 c,.int .i64 d]

theorem specTxOk_yes (a b c d : Int) (w : World) (h : Ok4 a b c d) :
 Calls Try.prog 69 #[txv a b c d] w fun e w' => e = .returned (.bool true) ∧ Below w.heap.size w w' := by
 obtain ⟨⟨a1, a2⟩, ⟨b1, b2⟩, ⟨c1, c2⟩, ⟨d1, d2⟩⟩:=h
 go_enter Try.func69, Try.ntmps69
 go_wp2_with (first | (go_at_call 60; refine (in_yes _ _ _ _ (by omega) (by omega)).mono ?_; rintro e w' ⟨rfl, rfl⟩))
 go_ret
 exact ⟨rfl, (Below.refl _ _).alloc (Nat.le_refl _) _⟩

theorem specTxOk_no (a b c d : Int) (w : World) (h : ¬ Ok4 a b c d) :
 Calls Try.prog 69 #[txv a b c d] w fun e w' => e = .returned (.bool false) ∧ Below w.heap.size w w' := by
 by_cases ha : 0 ≤ a ∧ a ≤ 3
 ·obtain ⟨a1, a2⟩:=ha
  by_cases hb : 0 ≤ b ∧ b ≤ 3
  ·obtain ⟨b1, b2⟩:=hb
   by_cases hc : 0 ≤ c ∧ c ≤ 1000
   ·obtain ⟨c1, c2⟩:=hc
    have hd : d < 0 ∨ 99 < d:=by unfold Ok4 at h; omega
    clear h
    go_enter Try.func69, Try.ntmps69
    go_wp2_with (first | (go_at_call 60; refine (in_yes _ _ _ _ (by omega) (by omega)).mono ?_; rintro e w' ⟨rfl, rfl⟩) | (go_at_call 60; refine (in_no _ _ _ _ (by omega)).mono ?_; rintro e w' ⟨rfl, rfl⟩))
    go_ret
    exact ⟨rfl, (Below.refl _ _).alloc (Nat.le_refl _) _⟩
   have hc' : c < 0 ∨ 1000 < c:=by omega
   clear h hc
   go_enter Try.func69, Try.ntmps69
   go_wp2_with (first | (go_at_call 60; refine (in_yes _ _ _ _ (by omega) (by omega)).mono ?_; rintro e w' ⟨rfl, rfl⟩) | (go_at_call 60; refine (in_no _ _ _ _ (by omega)).mono ?_; rintro e w' ⟨rfl, rfl⟩))
   go_ret
   exact ⟨rfl, (Below.refl _ _).alloc (Nat.le_refl _) _⟩
  have hb' : b < 0 ∨ 3 < b:=by omega
  clear h hb
  go_enter Try.func69, Try.ntmps69
  go_wp2_with (first | (go_at_call 60; refine (in_yes _ _ _ _ (by omega) (by omega)).mono ?_; rintro e w' ⟨rfl, rfl⟩) | (go_at_call 60; refine (in_no _ _ _ _ (by omega)).mono ?_; rintro e w' ⟨rfl, rfl⟩))
  go_ret
  exact ⟨rfl, (Below.refl _ _).alloc (Nat.le_refl _) _⟩
 have ha' : a < 0 ∨ 3 < a:=by omega
 clear h ha
 go_enter Try.func69, Try.ntmps69
 go_wp2_with (first | (go_at_call 60; refine (in_yes _ _ _ _ (by omega) (by omega)).mono ?_; rintro e w' ⟨rfl, rfl⟩) | (go_at_call 60; refine (in_no _ _ _ _ (by omega)).mono ?_; rintro e w' ⟨rfl, rfl⟩))
 go_ret
 exact ⟨rfl, (Below.refl _ _).alloc (Nat.le_refl _) _⟩
end
section
open Go.RowKit
variable [∀ (a b c d : Int), Decidable (Ok4 a b c d)]
abbrev cv (n f : Int) : Value := .agg #[.int .i64 n,.int .i64 f]
def COk (n f : Int) : Prop := (4 ≤ n ∧ n ≤ 7) ∧ 1 ≤ f ∧ f ≤ 6
variable [∀ (n f : Int), Decidable (COk n f)]
theorem conf_below (w : World) (o : Obj) : Below w.heap.size w (w.alloc o) := (Below.refl _ _).alloc (Nat.le_refl _) _

theorem specConfOk (n f : Int) (w : World) :
 Calls Try.prog 59 #[cv n f] w fun e w' => e = .returned (.bool (decide (COk n f))) ∧ Below w.heap.size w w' := by
 by_cases h1 : 4 ≤ n ∧ n ≤ 7
 ·by_cases h2 : 1 ≤ f ∧ f ≤ 6
  ·have hd : decide (COk n f) = true:=by simp [COk, h1, h2]
   rw [hd]
   go_enter Try.func59, Try.ntmps59
   go_wp2_with (first | (go_at_call 60; refine (in_yes _ _ _ _ (by omega) (by omega)).mono ?_; rintro e w' ⟨rfl, rfl⟩))
   go_ret
   exact ⟨rfl, conf_below _ _⟩
  have hd : decide (COk n f) = false:=by simp [COk, h1]; omega
  rw [hd]
  go_enter Try.func59, Try.ntmps59
  go_wp2_with fail
  refine (in_yes _ _ _ _ (by omega) (by omega)).mono ?_
  rintro e w' ⟨rfl, rfl⟩
  go_wp2_with fail
  refine (in_no _ _ _ _ (by omega)).mono ?_
  rintro e w' ⟨rfl, rfl⟩
  go_wp2
  go_ret
  exact ⟨rfl, conf_below _ _⟩
 have hd : decide (COk n f) = false:=by simp only [decide_eq_false_iff_not]; rintro ⟨h, _⟩; exact h1 h
 rw [hd]
 go_enter Try.func59, Try.ntmps59
 go_wp2_with fail
 refine (in_no _ _ _ _ (by omega)).mono ?_
 rintro e w' ⟨rfl, rfl⟩
 go_wp2
 go_ret
 exact ⟨rfl, conf_below _ _⟩
end
end Go.Proofs.Ytjkcphnohhpihaa
