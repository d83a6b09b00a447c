/- Lemmas; their conditions stand in each statement. -/
import Derived.Test.YtjkcphnohhpihaaGreatDoorPPAB
set_option maxRecDepth 100000
set_option maxHeartbeats 4000000
namespace Go.Proofs.YtjkcphnohhpihaaGreatDoor
section
open Go Go.RowKit
section
variable {P : Program} {ops : Array Oper} {Q : Exit → Act → World → Prop} {md : Region.Mode} {S : World → Prop}
theorem take_at {i d : Nat} {oi : Oper} {v : Value} {fuel : Nat} {listed : Array Bool} {a : Act} {w : World} (hi : ops[i]? = some oi) (hd : oi.dst = some d)
 (hs : Region.noSelect ops = true) (hf : Region.free md ops listed i = true) (hr : (Region.ready md ops listed).contains i = true)
 (hQ : ∀ c a w, Q (.panic c) (a.put (some d) v) w → Q (.panic c) a w) (hy : YieldsIf P ops S oi v a) (hS : S w)
 (h : wpAnyH P md ops Q S fuel (listed.setIfInBounds i true) (a.put (some d) v) w) : wpAnyH P md ops Q S (fuel + 1) listed a w :=
 wpAnyH_take hi hs hf hr (by rw [hd]; exact hQ) hy hS (by rw [hd]; exact h)
theorem ready_at {i : Nat} {o : Oper} {fuel : Nat} {listed : Array Bool} {a : Act} {w : World} (ho : ops[i]? = some o) (hr : Region.ready md ops listed = [i])
 (h : ∀ K' : Act → World → Prop, Shut (∀ a w, S w → (S w → wpAnyH P md ops Q S fuel (listed.setIfInBounds i true) a w) → K' a w) → if Region.wanted o (yielded ops a.tmps) = true then Oper.wp P o a w K' Q else K' (a.put o.dst undef) w) :
 wpAnyH P md ops Q S (fuel + 1) listed a w :=
 wpAnyH_ready hr (by simp) (AllReadyH.cons ho h AllReadyH.nil)
end
section
variable {P : Program} {ops : Array Oper} {Q : Exit → Act → World → Prop} {md : Region.Mode} {S : World → Prop}
theorem tk (i d : Nat) {oi : Oper} {v : Value} {fuel : Nat} {listed : Array Bool} {a : Act} {w : World} (hi : ops[i]? = some oi) (hd : oi.dst = some d := by exact rfl)
 (hs : Region.noSelect ops = true := by kernel_rfl) (hf : Region.free md ops listed i = true := by kernel_rfl) (hr : (Region.ready md ops listed).contains i = true := by kernel_rfl)
 (hy : YieldsIf P ops S oi v a)
 (hQ : ∀ c a w, Q (.panic c) (a.put (some d) v) w → Q (.panic c) a w := by exact fun _ _ _ h => h) (hS : S w := by assumption)
 (h : wpAnyH P md ops Q S fuel (listed.setIfInBounds i true) (a.put (some d) v) w) : wpAnyH P md ops Q S (fuel + 1) listed a w :=
 take_at hi hd hs hf hr hQ hy hS h
theorem sk (i d : Nat) {oi : Oper} {fuel : Nat} {listed : Array Bool} {a : Act} {w : World} (hi : ops[i]? = some oi) (hd : oi.dst = some d := by exact rfl)
 (hs : Region.noSelect ops = true := by kernel_rfl) (hf : Region.free md ops listed i = true := by kernel_rfl) (hr : (Region.ready md ops listed).contains i = true := by kernel_rfl)
 (hy : YieldsIf P ops S oi undef a := by exact Or.inr ⟨by rfl, rfl⟩)
 (hQ : ∀ c a w, Q (.panic c) (a.put (some d) undef) w → Q (.panic c) a w := by exact fun _ _ _ h => h) (hS : S w := by assumption)
 (h : wpAnyH P md ops Q S fuel (listed.setIfInBounds i true) (a.put (some d) undef) w) : wpAnyH P md ops Q S (fuel + 1) listed a w :=
 take_at hi hd hs hf hr hQ hy hS h
theorem tj (i d : Nat) {oi : Oper} {v : Value} {fuel : Nat} {listed : Array Bool} {a : Act} {w : World} (hi : ops[i]? = some oi)
 (hy : ∀ w, S w → (execOp a.eval oi).run P w = .ok (.value v) w) (h : wpAnyH P md ops Q S fuel (listed.setIfInBounds i true) (a.put (some d) v) w) (hw : Region.wanted oi (yielded ops a.tmps) = true := by rfl) (hd : oi.dst = some d := by exact rfl)
 (hs : Region.noSelect ops = true := by kernel_rfl) (hf : Region.free md ops listed i = true := by kernel_rfl) (hr : (Region.ready md ops listed).contains i = true := by kernel_rfl)
 (hQ : ∀ c a w, Q (.panic c) (a.put (some d) v) w → Q (.panic c) a w := by exact fun _ _ _ h => h) (hS : S w := by assumption) : wpAnyH P md ops Q S (fuel + 1) listed a w :=
 take_at hi hd hs hf hr hQ (.inl ⟨hw, hy⟩) hS h
theorem rd (i : Nat) {o : Oper} {fuel : Nat} {listed : Array Bool} {a : Act} {w : World} (ho : ops[i]? = some o)
 (h : ∀ K' : Act → World → Prop, Shut (∀ a w, S w → (S w → wpAnyH P md ops Q S fuel (listed.setIfInBounds i true) a w) → K' a w) → if Region.wanted o (yielded ops a.tmps) = true then Oper.wp P o a w K' Q else K' (a.put o.dst undef) w) (hr : Region.ready md ops listed = [i] := by kernel_rfl) :
 wpAnyH P md ops Q S (fuel + 1) listed a w := ready_at ho hr h
theorem wrd {id : Nat} {a : Act} {w : World} (K : Hid (∀ w', Below w.heap.size w w' → S w')) (b : Below w.heap.size w w.drew)
 (h : S w.drew → wpAnyH P .any ops Q S ops.size (Array.replicate ops.size false) a w.drew) (hm : P.follows .mixedOrders = true := by kernel_rfl) : (Code.region id ops true).wp P Q a w :=
 wp_region_held_drew hm (K.out _ b) h
theorem wrn {id : Nat} {a : Act} {w : World} (K : Hid (∀ w', Below w.heap.size w w' → S w')) (b : Below w.heap.size w w.drew)
 (h : S w.drew → wpAnyH P .any ops (NoPanic Q) S ops.size (Array.replicate ops.size false) a w.drew) (hm : P.follows .mixedOrders = true := by kernel_rfl) : (Code.region id ops true).wp P Q a w :=
 wp_region_noPanic (wrd K b h hm)
theorem wdn {fuel : Nat} {listed : Array Bool} {a : Act} {w : World} (h : Q .normal a w) (hr : Region.ready md ops listed = [] := by kernel_rfl) : wpAnyH P md ops (NoPanic Q) S fuel listed a w :=
 wpAnyH_done hr (NoPanic.normal h) _
theorem tz (i d : Nat) {oi : Oper} {v : Value} {fuel : Nat} {listed : Array Bool} {a : Act} {w : World}
 (h : wpAnyH P md ops Q S fuel (listed.setIfInBounds i true) (a.put (some d) v) w) (hi : ops[i]? = some oi := by exact rfl) (hy : ∀ w, S w → (execOp a.eval oi).run P w = .ok (.value v) w := by intro w h;go_simp;try rfl) (hw : Region.wanted oi (yielded ops a.tmps) = true := by rfl) (hd : oi.dst = some d := by exact rfl)
 (hs : Region.noSelect ops = true := by kernel_rfl) (hf : Region.free md ops listed i = true := by kernel_rfl) (hr : (Region.ready md ops listed).contains i = true := by kernel_rfl)
 (hQ : ∀ c a w, Q (.panic c) (a.put (some d) v) w → Q (.panic c) a w := by exact fun _ _ _ h => h) (hS : S w := by assumption) : wpAnyH P md ops Q S (fuel + 1) listed a w :=
 take_at hi hd hs hf hr hQ (.inl ⟨hw, hy⟩) hS h
end
theorem pU : (∀ (a : Act) (d : Nat) (v : Value), a.put (some d) v = { a with tmps := a.tmps.setIfInBounds d v }) ∧ (∀ (α : Type) (l : List α) (i : Nat) (x : α), l.toArray.setIfInBounds i x = (l.set i x).toArray) ∧ (∀ (α : Type) (x y : α) (l : List α), (x :: l).set 0 y = y :: l) ∧ (∀ (α : Type) (x y : α) (l : List α) (i : Nat), (x :: l).set (i + 1) y = x :: l.set i y) :=
 ⟨fun _ _ _ => rfl, fun _ _ _ _ => by simp, fun _ _ _ _ => rfl, fun _ _ _ _ _ => rfl⟩
section
variable {P : Program} {ops : Array Oper} {Q : Exit → Act → World → Prop} {md : Region.Mode} {S : World → Prop}
theorem tx (i d : Nat) {oi : Oper} {v : Value} {fuel : Nat} {listed : Array Bool} {a A : Act} {w : World}
 (h : wpAnyH P md ops Q S fuel (listed.setIfInBounds i true) A w) (hi : ops[i]? = some oi := by exact rfl) (hy : ∀ w, S w → (execOp a.eval oi).run P w = .ok (.value v) w := by intro w h;go_simp;try rfl)
 (hA : A = a.put (some d) v := by simp only [pU];exact rfl) (hw : Region.wanted oi (yielded ops a.tmps) = true := by rfl) (hd : oi.dst = some d := by exact rfl)
 (hs : Region.noSelect ops = true := by kernel_rfl) (hf : Region.free md ops listed i = true := by kernel_rfl) (hr : (Region.ready md ops listed).contains i = true := by kernel_rfl)
 (hQ : ∀ c a w, Q (.panic c) (a.put (some d) v) w → Q (.panic c) a w := by exact fun _ _ _ h => h) (hS : S w := by assumption) : wpAnyH P md ops Q S (fuel + 1) listed a w :=
 take_at hi hd hs hf hr hQ (.inl ⟨hw, hy⟩) hS (hA ▸ h)
end
section
variable {P : Program} {ops : Array Oper} {Q : Exit → Act → World → Prop} {S : World → Prop}
theorem wra {id : Nat} {a : Act} {w : World} (K : Hid (∀ w', Below w.heap.size w w' → S w'))
 (h : Below w.heap.size w w.drew → S w.drew → wpAnyH P .any ops (NoPanic Q) S ops.size (Array.replicate ops.size false) a w.drew) (hm : P.follows .mixedOrders = true := by kernel_rfl) : (Code.region id ops true).wp P Q a w :=
 wrn K (Below.drew (Below.refl _ _)) (h (Below.drew (Below.refl _ _))) hm
theorem wrk {id : Nat} {a : Act} {w : World} {X : Nat → Prop} (K : Hid (∀ w', Kp w w' X → S w'))
 (h : ∀ v, Kp w v X → Below w.heap.size w v → S v → wpAnyH P .any ops (NoPanic Q) S ops.size (Array.replicate ops.size false) a v) (hm : P.follows .mixedOrders = true := by kernel_rfl) : (Code.region id ops true).wp P Q a w :=
 wp_region_noPanic (wp_region_held_drew hm (K.out _ (Below.kpOf (Below.drew (Below.refl _ _)) _)) (h _ (Below.kpOf (Below.drew (Below.refl _ _)) _) (Below.drew (Below.refl _ _))))
end
section
variable {P : Program} {ops : Array Oper} {Q : Exit → Act → World → Prop} {md : Region.Mode} {S : World → Prop}
theorem sx (i d : Nat) {oi : Oper} {fuel : Nat} {listed : Array Bool} {a A : Act} {w : World} (h : wpAnyH P md ops Q S fuel (listed.setIfInBounds i true) A w) (hi : ops[i]? = some oi := by exact rfl)
 (hA : A = a.put (some d) undef := by simp only [pU];exact rfl) (hd : oi.dst = some d := by exact rfl)
 (hs : Region.noSelect ops = true := by kernel_rfl) (hf : Region.free md ops listed i = true := by kernel_rfl) (hr : (Region.ready md ops listed).contains i = true := by kernel_rfl)
 (hy : YieldsIf P ops S oi undef a := by exact Or.inr ⟨by rfl, rfl⟩)
 (hQ : ∀ c a w, Q (.panic c) (a.put (some d) undef) w → Q (.panic c) a w := by exact fun _ _ _ h => h) (hS : S w := by assumption) : wpAnyH P md ops Q S (fuel + 1) listed a w :=
 take_at hi hd hs hf hr hQ hy hS (hA ▸ h)
end
end
section
open Go.RowKit
theorem eqPart_yes (n : Int) (s : ByteArray) (a b : Value) (xs : List Int) (w : World) (ha : RI w a xs) (hb : RI w b xs) :
 Calls Tryz.prog 13 #[qv n s a, qv n s b] w fun e w' => e = .returned (.bool true) ∧ Below w.heap.size w w' := by
 have R1:=hide ha
 have R2:=hide hb
 have B:=hide (qalloc2 w (.cells #[.int .i64 n,.string s, a] 36) (.cells #[.int .i64 n,.string s, b] 36))
 clear ha hb
 go_enter Tryz.func13, Tryz.ntmps13
 go_wp2_with fail
 refine (eqIntS_yes a b xs _ (R1.out.below B.out (Nat.le_refl _)) (R2.out.below B.out (Nat.le_refl _))).mono ?_
 rintro e w1 ⟨rfl, n, rfl⟩
 go_wp2
 go_ret
 exact ⟨rfl, below_drewN' B.out _⟩

theorem markPart_any (n : Int) (s : ByteArray) (base : Nat) (v : Value) (xs : List Int) (k0 : Nat) (w : World) (hl : xs.length ≤ 4194304) (hk : k0 ≤ 100000000) (h : OI w base v xs) :
 Calls Tryz.prog 15 #[qv n s v,.int .i64 k0] w fun e w' => e = .returned (.int .i64 (k0 + xs.length)) ∧ OI w' base v (imarks k0 xs.length) ∧ Kp w w' (fun k => v.ownBlock = some k) := by
 have B:=hide (qalloc w (.cells #[.int .i64 n,.string s, v] 36))
 have H:=hide (h.below B.out)
 have hb:=World.ownsRow.lt h
 have MK:=hide fun w h => imark_any base k0 v xs w hl hk h
 clear h
 go_enter Tryz.func15, Tryz.ntmps15
 go_wp2_with fail
 refine (MK.out _ H.out).mono ?_
 rintro e w1 ⟨rfl, o1, g1⟩
 have K:=(Below.kpOf B.out (fun k => v.ownBlock = some k)).trans (kp_grown g1)
 go_wp2
 go_ret
 exact ⟨rfl, o1, K⟩

theorem szPart_yes (n : Int) (s : ByteArray) (ao : Option Addr) (m ca : Nat) (left : Int) (w : World) (h : (s.size : Int) + m ≤ left) (hl : left ≤ 1048576) :
 Calls Tryz.prog 6 #[qv n s (.slice ao m ca),.int .i64 left] w fun e w' => e = .returned (.int .i64 (left - s.size - m)) ∧ Below w.heap.size w w' := by
 have h1 : decide ((left : Int) - (s.size : Int) < 0) = false:=by simp; omega
 have h2 : decide ((left : Int) - (s.size : Int) - (m : Int) < 0) = false:=by simp; omega
 go_enter Tryz.func6, Tryz.ntmps6
 go_wp2_with (first | (go_at_call 43; refine (szIntS_yes _ _ _ _ _ (by omega) (by omega)).mono ?_; rintro e w' ⟨rfl, rfl⟩))
 go_ret
 exact ⟨rfl, qalloc _ _⟩

theorem szPart_no1 (n : Int) (s : ByteArray) (ao : Option Addr) (m ca : Nat) (left : Int) (w : World) (h0 : 0 ≤ left) (h : left < s.size) (hs : s.size ≤ 9223372036854775807) (hl : left ≤ 1048576) :
 Calls Tryz.prog 6 #[qv n s (.slice ao m ca),.int .i64 left] w fun e w' => e = .returned (.int .i64 (-1)) ∧ Below w.heap.size w w' := by
 have h1 : decide ((left : Int) - (s.size : Int) < 0) = true:=by simp; omega
 go_enter Tryz.func6, Tryz.ntmps6
 go_wp2
 go_ret
 exact ⟨rfl, qalloc _ _⟩

theorem szPart_no2 (n : Int) (s : ByteArray) (ao : Option Addr) (m ca : Nat) (left : Int) (w : World) (h0 : (s.size : Int) ≤ left) (h : left < s.size + m) (hm : m ≤ 9223372036854775807) (hl : left ≤ 1048576) :
 Calls Tryz.prog 6 #[qv n s (.slice ao m ca),.int .i64 left] w fun e w' => e = .returned (.int .i64 (-1)) ∧ Below w.heap.size w w' := by
 have h1 : decide ((left : Int) - (s.size : Int) < 0) = false:=by simp; omega
 go_enter Tryz.func6, Tryz.ntmps6
 go_wp2_with fail
 refine (szIntS_no _ _ _ _ _ (by omega) (by omega) (by omega) hm).mono ?_
 rintro e w' ⟨rfl, rfl⟩
 go_wp2
 go_ret
 exact ⟨rfl, qalloc _ _⟩

theorem szPart_no (n : Int) (s : ByteArray) (ao : Option Addr) (m ca : Nat) (left : Int) (w : World) (h0 : 0 ≤ left) (h : left < s.size + m) (hs : s.size ≤ 9223372036854775807) (hm : m ≤ 9223372036854775807) (hl : left ≤ 1048576) :
 Calls Tryz.prog 6 #[qv n s (.slice ao m ca),.int .i64 left] w fun e w' => e = .returned (.int .i64 (-1)) ∧ Below w.heap.size w w' := by
 by_cases h1 : left < (s.size : Int)
 ·exact szPart_no1 n s ao m ca left w h0 h1 hs hl
 exact szPart_no2 n s ao m ca left w (by omega) h hm hl

theorem toPart_any (n : Int) (s : ByteArray) (a : Value) (xs : List Int) (w : World) (ha : RI w a xs) :
 Calls Tryz.prog 10 #[qv n s a] w fun e w' => ∃ u, e = .returned (qv n s u) ∧ OI w' w.heap.size u xs ∧ Below w.heap.size w w' := by
 have R1:=hide ha
 clear ha
 go_enter Tryz.func10, Tryz.ntmps10
 go_wp2_with fail
 refine Calls.mono (toIntS_any a xs _ (R1.out.below ((((Below.refl w.heap.size w).alloc (Nat.le_refl _) _).alloc (by simp) _).alloc (by simp; omega) _) (Nat.le_refl _))) ?_
 rintro e w1 ⟨u, rfl, o1, b1⟩
 have s1:=b1.size
 have L1 : Loc w1 (w.heap.size + 1) #[.int .i64 0,.string ⟨#[]⟩,.slice none 0 0]:=Loc.below (Loc.alloc (loc_at (w.alloc _) #[.int .i64 0,.string ⟨#[]⟩,.slice none 0 0] _ (by simp)) _) b1 (by simp)
 have L2 : Loc w1 (w.heap.size + 1 + 1) #[.int .i64 n,.string s,.slice none 0 0]:=Loc.below (loc_at ((w.alloc _).alloc _) #[.int .i64 n,.string s,.slice none 0 0] _ (by simp)) b1 (by simp)
 have B1 : Below w.heap.size w w1:=((((Below.refl w.heap.size w).alloc (Nat.le_refl _) _).alloc (by simp) _).alloc (by simp; omega) _).trans (b1.mono (by simp; omega))
 have lt1:=World.ownsRow.lt o1
 simp at lt1 s1
 have y0:=L1.cell 0 rfl
 have y1:=L1.cell 1 rfl
 have y2:=L1.cell 2 rfl
 have fy0:=L1.frozen 0
 have fy1:=L1.frozen 1
 have fy2:=L1.frozen 2
 have z0:=L2.cell 0 rfl
 have z1:=L2.cell 1 rfl
 have z2:=L2.cell 2 rfl
 have fz2:=L2.frozen 2
 obtain ⟨ua, uc, hu⟩:=o1.form
 have O1:=hide o1
 clear o1 b1
 subst hu
 go_wp2
 refine bodyPost_ret (v := qv n s (.slice ua xs.length uc)) (by simp [results, Tryz.results10, go_sem, y0, y1, y2]) rfl ?_
 have K : Kp w1 ((((w1.setCell ⟨w.heap.size + 1 + 1, 2, none⟩ (.slice ua xs.length uc)).setCell ⟨w.heap.size + 1, 0, none⟩ (.int .i64 n)).setCell ⟨w.heap.size + 1, 1, none⟩ (.string s)).setCell ⟨w.heap.size + 1, 2, none⟩ (.slice ua xs.length uc)) (fun k => k = w.heap.size + 1 ∨ k = w.heap.size + 1 + 1) :=
  (((((set_kp _ _ _ _).mono (fun k h => .inr h))).trans ((set_kp _ _ _ _).mono (fun k h => .inl h))).trans ((set_kp _ _ _ _).mono (fun k h => .inl h))).trans ((set_kp _ _ _ _).mono (fun k h => .inl h))
 exact ⟨_, rfl, (O1.out.kp K (fun k hk => by have := lt1 k hk; omega)).mono (by simp; omega), Below.kp B1 K B1.size (fun k hk => by omega)⟩

abbrev zpo : Obj := .cells #[.int .i64 0,.string ⟨#[]⟩,.slice none 0 0] 36

theorem l10Copy_any (n : Int) (s : ByteArray) (v : Value) (xs : List Int) (w : World) (h : RI w v xs) :
 Calls Tryz.prog 44 #[qv n s v] w fun e w' => ∃ u, e = .returned (qv n s u) ∧ OI w' w.heap.size u xs ∧ Below w.heap.size w w' := by
 obtain ⟨ao, ca, rfl⟩:=h.form
 have hl:=h.1
 obtain ⟨w0, hw0⟩ : ∃ w0, ((w.alloc (.cells #[.int .i64 n,.string s,.slice ao xs.length ca] 36)).alloc zpo).alloc (.cells #[] 3) = w0:=⟨_, rfl⟩
 have B0 : Below w.heap.size w w0:=hw0 ▸ ((qalloc2 _ _ _).alloc (by simp; omega) _)
 have LA : Loc w0 w.heap.size #[.int .i64 n,.string s,.slice ao xs.length ca]:=hw0 ▸ ((loc_at w _ _ rfl).alloc _).alloc _
 have LZ : Loc w0 (w.heap.size + 1) #[.int .i64 0,.string ⟨#[]⟩,.slice none 0 0]:=hw0 ▸ (loc_at (w.alloc _) _ _ (by simp)).alloc _
 have s0 : w0.heap.size = w.heap.size + 1 + 1 + 1:=by rw [← hw0]; simp
 have O0 : OI w0 (w.heap.size + 1 + 1) (.slice (some ⟨w.heap.size + 1 + 1, 0, none⟩) 0 0) []:=by
  have:=World.ownsRow_lit (base:=w.heap.size + 1 + 1) (e:=3) (size:=1) ((w.alloc (.cells #[.int .i64 n,.string s,.slice ao xs.length ca] 36)).alloc zpo) #[] 0 (by simp) (by unfold maxLen; omega) (by simp)
  rw [hw0] at this
  simpa [OI] using this
 have P0:=hide (h.pi.below B0)
 have x2:=LA.cell 2 rfl
 have HL:=hide LA
 have HZ:=hide LZ
 clear h LA LZ
 go_enter Tryz.func44, Tryz.ntmps44
 go_wp2_with (first | (at_builtin; clear hw0; refine append_ints rfl _ _ rfl (w.heap.size + 1 + 1) (.slice (some ⟨w.heap.size + 1 + 1, 0, none⟩) 0 0) (.slice ao xs.length ca) [] xs rfl rfl O0 P0.out (by simp; omega) (by omega) ?_; intro v' w2 ho2 hg2 _
                       have k2:=kp_grown hg2
                       have L2:=HL.out.kp k2 (by simp [Value.ownBlock]; omega)
                       have Z2:=HZ.out.kp k2 (by simp [Value.ownBlock])
                       have B2:=Below.kp B0 k2 B0.size (fun k hk => by simp [Value.ownBlock] at hk; omega)
                       have lt2:=World.ownsRow.lt ho2
                       have p0:=L2.cell 0 rfl
                       have p1:=L2.cell 1 rfl
                       have p2:=L2.cell 2 rfl
                       have fp:=L2.frozen
                       have y0:=Z2.cell 0 rfl
                       have y1:=Z2.cell 1 rfl
                       have y2:=Z2.cell 2 rfl
                       have fy:=Z2.frozen
                       obtain ⟨ua, uc, rfl⟩:=ho2.form
                       have O2:=hide ho2
                       clear ho2 hg2 k2 L2 Z2))
 refine bodyPost_ret (v := qv n s (.slice ua ([] ++ xs).length uc)) (by simp [results, Tryz.results44, go_sem, y0, y1, y2]) rfl ?_
 have K5 : Kp w2 ((((w2.setCell ⟨w.heap.size, 2, none⟩ (.slice ua ([] ++ xs).length uc)).setCell ⟨w.heap.size + 1, 0, none⟩ (.int .i64 n)).setCell ⟨w.heap.size + 1, 1, none⟩ (.string s)).setCell ⟨w.heap.size + 1, 2, none⟩ (.slice ua ([] ++ xs).length uc)) (fun k => k = w.heap.size ∨ k = w.heap.size + 1) :=
  (((((set_kp _ _ _ _).mono (fun k h => .inl h))).trans ((set_kp _ _ _ _).mono (fun k h => .inr h))).trans ((set_kp _ _ _ _).mono (fun k h => .inr h))).trans ((set_kp _ _ _ _).mono (fun k h => .inr h))
 exact ⟨_, rfl, (O2.out.kp K5 (fun k hk => by have := lt2 k hk; omega)).mono (by omega), Below.kp B2 K5 B2.size (fun k hk => by omega)⟩
theorem itake_more (xs : List Int) (k : Nat) (h : k < xs.length) : xs.take (k + 1) = xs.take k ++ [xs.getD k 0] := by
 rw [List.take_succ_eq_append_getElem h, List.getD_eq_getElem?_getD, List.getElem?_eq_getElem h]; rfl
theorem getD_mem_int {xs : List Int} {k : Nat} (h : k < xs.length) : xs.getD k 0 ∈ xs := by
 rw [List.getD_eq_getElem?_getD, List.getElem?_eq_getElem h]; exact List.getElem_mem h

theorem specSetHas (v : Value) (xs : List Int) (i : Int) (w : World) (h : RI w v xs) :
 Calls Tryz.prog 120 #[v,.int .i64 i] w fun e w' => e = .returned (.bool (decide (i ∈ xs))) ∧ w' = w := by
 have hl:=h.1
 obtain ⟨ao, ca, rfl⟩:=h.form
 have H:=hide h
 obtain ⟨n, hn⟩ : ∃ n, xs.length = n:=⟨_, rfl⟩
 have Hn:=hide hn
 obtain ⟨r, hr⟩ : ∃ r, decide (i ∈ xs) = r:=⟨_, rfl⟩
 have HR:=hide hr
 rw [hn] at hl H ⊢
 rw [hr]
 clear h hn hr
 go_enter Tryz.func120, Tryz.ntmps120
 go_wp2
 go_loopw [5] (fun j wr => ∃ k : Nat, k ≤ n ∧ j = .int .i64 k ∧ Hid (i ∉ xs.take k) ∧ wr = w) (fun j _ => n - (intOf j).toNat)
 case atStart => exact ⟨0, Nat.zero_le _, rfl, hide (by simp), rfl⟩
 case round =>
  obtain ⟨k, hk, rfl, HK, rfl⟩:=hrel
  by_cases hlt : k < n
  ·have hkx : k < xs.length:=by have:=Hn.out; omega
   obtain ⟨b, off, rfl, c⟩:=H.out.at k hkx
   have HT:=hide (itake_more xs k hkx)
   have HM:=hide (getD_mem_int hkx)
   generalize xs.getD k 0 = d at *
   by_cases e : d = i
   ·subst e
    have hrr : r = true:=by rw [← HR.out]; exact decide_eq_true HM.out
    subst hrr
    clear HT HM HK
    go_wp2
    go_ret
    exact ⟨rfl, rfl⟩
   have HK' : Hid (i ∉ xs.take (k + 1)):=hide (by rw [HT.out]; simp; exact ⟨HK.out, fun e2 => e e2.symm⟩)
   have e' : decide (d = i) = false:=by simpa using e
   have e2 : (d == i) = false:=by simpa using e
   clear HT HM HK
   go_wp2
   go_roundw
   case rel => exact ⟨k + 1, by omega, by go_num, HK', by first | rfl | trivial⟩
   case measure => simp [intOf]; omega
  have hkn : k = xs.length:=by have:=Hn.out; omega
  have hrr : r = false:=by
   rw [← HR.out]
   have:=HK.out
   rw [hkn, List.take_of_length_le (Nat.le_refl _)] at this
   exact decide_eq_false this
  subst hrr
  clear HK
  go_wp2
  go_ret
  exact ⟨rfl, rfl⟩

theorem specSetAdd (v : Value) (xs : List Int) (i : Int) (w : World) (h : RI w v xs) (hc : Cap v) (hx : xs.length ≤ 4194303) :
 Calls Tryz.prog 102 #[v,.int .i64 i] w fun e w' => ∃ u, e = .returned u ∧ OI w' w.heap.size u (addL xs i) ∧ Below w.heap.size w w' := by
 have SH:=hide fun w h => specSetHas v xs i w h
 obtain ⟨ao, ca, rfl⟩:=h.form
 obtain ⟨hcn, hcm⟩ : xs.length ≤ ca ∧ ca ≤ maxLen:=by obtain ⟨_, _, _, e, h1, h2⟩:=hc; cases e; exact ⟨h1, h2⟩
 unfold maxLen at hcm
 have H:=hide h
 have HP:=hide h.pi
 clear h hc
 have O0 : OI (w.alloc (.cells #[] 3)) w.heap.size (.slice (some ⟨w.heap.size, 0, none⟩) 0 0) []:=by
  have:=World.ownsRow_lit (base:=w.heap.size) (e:=3) (size:=1) w #[] 0 (Nat.le_refl _) (by unfold maxLen; omega) (by simp)
  simpa [OI] using this
 have b0 : Below w.heap.size w (w.alloc (.cells #[] 3)):=(Below.refl _ _).alloc (Nat.le_refl _) _
 have P0:=hide (HP.out.below b0)
 by_cases hm : i ∈ xs
 ·have ea : addL xs i = xs:=if_pos hm
  rw [ea]
  rw [decide_eq_true hm] at SH
  clear hm ea
  go_enter Tryz.func102, Tryz.ntmps102
  go_wp2_with fail
  refine (SH.out _ H.out).mono ?_
  rintro _ w1 ⟨rfl, rfl⟩
  go_wp2_with (first | (at_builtin; refine append_ints rfl _ _ rfl w1.heap.size (.slice (some ⟨w1.heap.size, 0, none⟩) 0 0) (.slice ao xs.length ca) [] xs rfl rfl O0 P0.out (by simp; omega) (by simp) ?_; intro v' w2 ho' hg' _; have RB := b0.grown hg' (by simp) (fun j e => by simp [Value.ownBlock] at e; omega); clear hg'))
  go_ret
  exact ⟨_, rfl, by simpa using ho', RB⟩
 have ea : addL xs i = xs.takeWhile (fun x => decide (x < i)) ++ i :: xs.dropWhile (fun x => decide (x < i)):=if_neg hm
 rw [decide_eq_false hm] at SH
 have EA:=hide ea
 clear hm ea
 obtain ⟨n, hn⟩ : ∃ n, xs.length = n:=⟨_, rfl⟩
 have Hn:=hide hn
 rw [hn] at H P0 hx hcn SH HP ⊢
 clear hn
 go_enter Tryz.func102, Tryz.ntmps102
 go_wp2_with fail
 refine (SH.out _ H.out).mono ?_
 rintro _ w1 ⟨rfl, rfl⟩
 go_wp2
 go_loopw [5] (fun j wr => ∃ k : Nat, k ≤ n ∧ j = .int .i64 k ∧ Hid (∀ x ∈ xs.take k, x < i) ∧ wr = w1) (fun j _ => n - (intOf j).toNat)
 case atStart => exact ⟨0, Nat.zero_le _, rfl, hide (by simp), rfl⟩
 case round =>
  obtain ⟨k, hk, rfl, HK, rfl⟩:=hrel
  have FIN : Hid ((k < n → ¬ xs.getD k 0 < i) → addL xs i = xs.take k ++ i :: xs.drop k):=hide fun hst => by
   have hkx : k ≤ xs.length:=by have:=Hn.out; omega
   have e1 : xs.takeWhile (fun x => decide (x < i)) = xs.take k ∧ xs.dropWhile (fun x => decide (x < i)) = xs.drop k:=by
    have hall : ∀ x ∈ xs.take k, (decide (x < i)) = true:=fun x hx => by simpa using HK.out x hx
    have hd : xs.drop k = [] ∨ ∃ c t, xs.drop k = c :: t ∧ ¬ c < i:=by
     by_cases hlt : k < xs.length
     ·right
      refine ⟨_, _, List.drop_eq_getElem_cons hlt, ?_⟩
      have:=hst (by have:=Hn.out; omega)
      rwa [List.getD_eq_getElem?_getD, List.getElem?_eq_getElem hlt] at this
     left; exact List.drop_of_length_le (by omega)
    conv => lhs; lhs; rw [← List.take_append_drop k xs]
    conv => rhs; lhs; rw [← List.take_append_drop k xs]
    rw [List.takeWhile_append_of_pos hall, List.dropWhile_append_of_pos hall]
    rcases hd with e | ⟨c, t, e, hc⟩
    ·rw [e]; simp
    rw [e]; simp [hc]
   rw [EA.out, e1.1, e1.2]
  by_cases hgo : k < n ∧ xs.getD k 0 < i
  ·obtain ⟨hlt, hd⟩:=hgo
   have hkx : k < xs.length:=by have:=Hn.out; omega
   obtain ⟨b, off, rfl, c⟩:=H.out.at k hkx
   have HT:=hide (itake_more xs k hkx)
   generalize xs.getD k 0 = d at *
   have HK' : Hid (∀ x ∈ xs.take (k + 1), x < i):=hide (by
    rw [HT.out]; intro x hx
    rcases List.mem_append.1 hx with hx | hx
    ·exact HK.out x hx
    simp at hx; subst hx; exact hd)
   have hd' : decide (d < i) = true:=by simpa using hd
   clear HT HK FIN hd
   go_wp2
   go_roundw
   case rel => exact ⟨k + 1, by omega, by go_num, HK', by first | rfl | trivial⟩
   case measure => simp [intOf]; omega
  have F:=hide (FIN.out fun hlt hd => hgo ⟨hlt, hd⟩)
  have p1:=P0.out.take k hk ca
  have p2:=HP.out.drop k (ca - k) (bo:=if ca = k then ao else ao.map (·.add (k * 1))) (fun hlt => if_neg (by omega))
  have hs1 : ∀ w, (Instr.slice 25 (.slice ao n ca) none (some (.int .i64 (k : Int))) none).run Tryz.prog w = .ok (.slice ao k ca) w:=fun w => icut_to ao n ca k w (by omega)
  have hs2 : ∀ w, (Instr.slice 25 (.slice ao n ca) (some (.int .i64 (k : Int))) none none).run Tryz.prog w = .ok (.slice (if ca = k then ao else ao.map (·.add (k * 1))) (n - k) (ca - k)) w:=fun w => icut_from ao n ca k w hk
  generalize (if ca = k then ao else ao.map (·.add (k * 1))) = bo at *
  have P1:=hide p1
  have P2:=hide p2
  have hlk : (xs.take k).length = k:=by rw [List.length_take]; have:=Hn.out; omega
  have hld : (xs.drop k).length = n - k:=by rw [List.length_drop, Hn.out]
  have HLK:=hide hlk
  have HLD:=hide hld
  clear p1 p2 hlk hld FIN HK
  generalize xs.take k = fs at *
  generalize xs.drop k = bs at *
  have sz0 : wr.heap.size + 1 = (wr.alloc (.cells #[] 3)).heap.size:=by simp
  have A1 : Hid True:=hide trivial
  have A2 : Hid True:=hide trivial
  have A3 : Hid True:=hide trivial
  have EX : Hid (k < n → ∃ b off d, ao = some ⟨b, off, none⟩ ∧ wr.cell? ⟨b, off + k, none⟩ = some (.int .i64 d) ∧ ¬ d < i):=hide fun hlt => by
   obtain ⟨b, off, e, c⟩:=H.out.at k (by have:=Hn.out; omega)
   exact ⟨b, off, _, e, c, fun hd => hgo ⟨hlt, hd⟩⟩
  clear hgo
  by_cases hlt : k < n
  ·obtain ⟨b, off, d, rfl, c, hd⟩:=EX.out hlt
   have hd' : decide (d < i) = false:=by simpa using hd
   clear EX hd
   go_wp2_with (first
    | (at_builtin; have hh := A1; refine append_ints rfl _ _ rfl wr.heap.size (.slice (some ⟨wr.heap.size, 0, none⟩) 0 0) (.slice (some ⟨b, off, none⟩) k ca) [] (fs) rfl rfl O0 P1.out (by rw [HLK.out]; simp; omega) (by simp) ?_; intro v1 w2 ho1 hg1 hb1; have O1 : OI w2 wr.heap.size v1 (fs) := (by simpa using ho1); have B1 := b0.grown hg1 (by simp) (fun j e => by simp [Value.ownBlock] at e; omega); have l1 := World.ownsRow.lt O1; obtain ⟨a1, c1, rfl⟩ := O1.form; have O1' := hide (World.ownsRow.alloc O1 (.cells #[.int .i64 i] 3)); have B1' := B1.trans ((((Below.refl _ w2).alloc (Nat.le_refl _) (.cells #[.int .i64 i] 3))).mono B1.size); clear A1 ho1 hg1 hb1 O1)
    | (at_builtin; have hh := A2; refine append_ints rfl _ _ rfl wr.heap.size (.slice a1 fs.length c1) (.slice (some ⟨w2.heap.size, 0, none⟩) 1 1) (fs) [i] rfl rfl O1'.out ⟨_, _, rfl, .inr ⟨_, rfl, cell_one_new _ _ _⟩⟩ (by rw [HLK.out]; simp; omega) B1'.size ?_; intro v2 w3 ho2 hg2 hb2; have B2 := B1'.grown hg2 B1'.size (fun j e => (l1 j e).1); obtain ⟨a2, c2, hv2⟩ := ho2.form; rw [List.length_append, List.length_singleton] at hv2; subst hv2; have O2 := hide ho2; have l2 := World.ownsRow.lt ho2; have P3 := hide (P2.out.below B2); clear A2 ho2 hg2 hb2)
    | (at_builtin; have hh := A3; refine append_ints rfl _ _ rfl wr.heap.size (.slice a2 (fs.length + 1) c2) (.slice bo (n - k) (ca - k)) (fs ++ [i]) (bs) rfl rfl O2.out P3.out (by rw [HLD.out, List.length_append, HLK.out]; simp; omega) B2.size ?_; intro v3 w4 ho3 hg3 hb3; have B3 := B2.grown hg3 B2.size (fun j e => (l2 j e).1); clear A3 hg3 hb3))
   go_ret
   exact ⟨_, rfl, by rw [F.out]; simpa using ho3, B3⟩
  have hd0 : decide ((k : Int) < (n : Int)) = false:=by simp; omega
  clear EX
  go_wp2_with (first
   | (at_builtin; have hh := A1; refine append_ints rfl _ _ rfl wr.heap.size (.slice (some ⟨wr.heap.size, 0, none⟩) 0 0) (.slice ao k ca) [] (fs) rfl rfl O0 P1.out (by rw [HLK.out]; simp; omega) (by simp) ?_; intro v1 w2 ho1 hg1 hb1; have O1 : OI w2 wr.heap.size v1 (fs) := (by simpa using ho1); have B1 := b0.grown hg1 (by simp) (fun j e => by simp [Value.ownBlock] at e; omega); have l1 := World.ownsRow.lt O1; obtain ⟨a1, c1, rfl⟩ := O1.form; have O1' := hide (World.ownsRow.alloc O1 (.cells #[.int .i64 i] 3)); have B1' := B1.trans ((((Below.refl _ w2).alloc (Nat.le_refl _) (.cells #[.int .i64 i] 3))).mono B1.size); clear A1 ho1 hg1 hb1 O1)
   | (at_builtin; have hh := A2; refine append_ints rfl _ _ rfl wr.heap.size (.slice a1 fs.length c1) (.slice (some ⟨w2.heap.size, 0, none⟩) 1 1) (fs) [i] rfl rfl O1'.out ⟨_, _, rfl, .inr ⟨_, rfl, cell_one_new _ _ _⟩⟩ (by rw [HLK.out]; simp; omega) B1'.size ?_; intro v2 w3 ho2 hg2 hb2; have B2 := B1'.grown hg2 B1'.size (fun j e => (l1 j e).1); obtain ⟨a2, c2, hv2⟩ := ho2.form; rw [List.length_append, List.length_singleton] at hv2; subst hv2; have O2 := hide ho2; have l2 := World.ownsRow.lt ho2; have P3 := hide (P2.out.below B2); clear A2 ho2 hg2 hb2)
   | (at_builtin; have hh := A3; refine append_ints rfl _ _ rfl wr.heap.size (.slice a2 (fs.length + 1) c2) (.slice bo (n - k) (ca - k)) (fs ++ [i]) (bs) rfl rfl O2.out P3.out (by rw [HLD.out, List.length_append, HLK.out]; simp; omega) B2.size ?_; intro v3 w4 ho3 hg3 hb3; have B3 := B2.grown hg3 B2.size (fun j e => (l2 j e).1); clear A3 hg3 hb3))
  go_ret
  exact ⟨_, rfl, by rw [F.out]; simpa using ho3, B3⟩

theorem specSetJoin (va vb : Value) (xs bs : List Int) (w : World) (ha : RI w va xs) (hb : RI w vb bs) (hl : xs.length + bs.length ≤ 4194303) :
 Calls Tryz.prog 60 #[va, vb] w fun e w' => ∃ u, e = .returned u ∧ OI w' w.heap.size u (joinL xs bs) ∧ Below w.heap.size w w' := by
 obtain ⟨aa, ca, rfl⟩:=ha.form
 obtain ⟨ba, cb, rfl⟩:=hb.form
 have HA:=hide ha
 have HB:=hide hb
 obtain ⟨n, hn⟩ : ∃ n, xs.length = n:=⟨_, rfl⟩
 obtain ⟨m, hm⟩ : ∃ n, bs.length = n:=⟨_, rfl⟩
 have Hn:=hide hn
 have Hm:=hide hm
 rw [hn] at HA hl ⊢
 rw [hm] at HB hl ⊢
 clear ha hb hn hm
 have O0 : OI (w.alloc (.cells #[] 3)) w.heap.size (.slice (some ⟨w.heap.size, 0, none⟩) 0 0) []:=by
  have:=World.ownsRow_lit (base:=w.heap.size) (e:=3) (size:=1) w #[] 0 (Nat.le_refl _) (by unfold maxLen; omega) (by simp)
  simpa [OI] using this
 have b0 : Below w.heap.size w (w.alloc (.cells #[] 3)):=(Below.refl _ _).alloc (Nat.le_refl _) _
 go_enter Tryz.func60, Tryz.ntmps60
 go_wp2
 go_loopw [5, 6] (fun out j wr => ∃ k : Nat, k ≤ n ∧ j = .int .i64 k ∧ OI wr w.heap.size out ((xs.take k).foldl addL []) ∧ Below w.heap.size w wr) (fun _ j _ => n - (intOf j).toNat)
 case atStart => exact ⟨0, Nat.zero_le _, rfl, O0, b0⟩
 case round =>
  clear O0 b0
  obtain ⟨k, hk, rfl, ho, br⟩:=hrel
  have hsr:=br.size
  by_cases hlt : k < n
  ·have hkx : k < xs.length:=by have:=Hn.out; omega
   obtain ⟨b, off, rfl, c⟩:=(HA.out.below br).at k hkx
   have HT:=hide (show (xs.take (k + 1)).foldl addL [] = addL ((xs.take k).foldl addL []) (xs.getD k 0) by rw [itake_more xs k hkx, fold_snoc])
   have hfl:=fold_len (xs.take k) []
   rw [List.length_take, List.length_nil] at hfl
   generalize xs.getD k 0 = d at *
   generalize (xs.take k).foldl addL [] = acc at *
   have SA:=hide (specSetAdd _ acc d _ (ho.ri (by omega)) ho.cap (by omega))
   obtain ⟨oa, oc, rfl⟩:=ho.form
   clear ho hfl
   go_wp2_with fail
   refine SA.out.mono ?_
   rintro _ w1 ⟨u, rfl, o1, b1⟩
   obtain ⟨ua, uc, rfl⟩:=o1.form
   have O1:=OI.mono o1 hsr
   have B1:=br.trans (b1.mono hsr)
   clear o1 b1 SA
   go_wp2
   go_roundw
   case rel => exact ⟨k + 1, by omega, by go_num, by rw [HT.out]; exact O1, B1⟩
   case measure => simp [intOf]; omega
  have hkn : k = xs.length:=by have:=Hn.out; omega
  have e1 : xs.take k = xs:=List.take_of_length_le (by omega)
  rw [e1] at ho
  have HO:=hide ho
  have hd0 : decide ((k : Int) < (n : Int)) = false:=by simp; omega
  clear ho hkn e1
  obtain ⟨oa, oc, ho0⟩:=HO.out.form
  go_wp2
  go_loopw [5, 7] (fun out j wq => ∃ k : Nat, k ≤ m ∧ j = .int .i64 k ∧ OI wq w.heap.size out ((xs ++ bs.take k).foldl addL []) ∧ Below w.heap.size w wq) (fun _ j _ => m - (intOf j).toNat)
  case atStart => exact ⟨0, Nat.zero_le _, rfl, by simpa using HO.out, br⟩
  case round =>
   clear HO br
   obtain ⟨k2, hk2, rfl, ho, br⟩:=hrel
   have hsr2:=br.size
   by_cases hlt2 : k2 < m
   ·have hkx : k2 < bs.length:=by have:=Hm.out; omega
    obtain ⟨b, off, rfl, c⟩:=(HB.out.below br).at k2 hkx
    have HT:=hide (show (xs ++ bs.take (k2 + 1)).foldl addL [] = addL ((xs ++ bs.take k2).foldl addL []) (bs.getD k2 0) by rw [itake_more bs k2 hkx, ← List.append_assoc, fold_snoc])
    have hfl:=fold_len (xs ++ bs.take k2) []
    rw [List.length_append, Hn.out, List.length_take, List.length_nil] at hfl
    generalize bs.getD k2 0 = d at *
    generalize (xs ++ bs.take k2).foldl addL [] = acc at *
    have SA:=hide (specSetAdd _ acc d _ (ho.ri (by omega)) ho.cap (by omega))
    obtain ⟨oa2, oc2, rfl⟩:=ho.form
    clear ho hfl
    go_wp2_with fail
    refine SA.out.mono ?_
    rintro _ w1 ⟨u, rfl, o1, b1⟩
    obtain ⟨ua, uc, rfl⟩:=o1.form
    have O1:=OI.mono o1 hsr2
    have B1:=br.trans (b1.mono hsr2)
    clear o1 b1 SA
    go_wp2
    go_roundw
    case rel => exact ⟨k2 + 1, by omega, by go_num, by rw [HT.out]; exact O1, B1⟩
    case measure => simp [intOf]; omega
   have hkn : k2 = bs.length:=by have:=Hm.out; omega
   have e1 : bs.take k2 = bs:=List.take_of_length_le (by omega)
   rw [e1] at ho
   have HO:=hide ho
   have hd2 : decide ((k2 : Int) < (m : Int)) = false:=by simp; omega
   clear ho hkn e1
   go_wp2
   go_ret
   exact ⟨_, rfl, HO.out, br⟩
end
end Go.Proofs.YtjkcphnohhpihaaGreatDoor
