/- Texts that belong together: WhoPlain, LedgerNew0, NoteWho, Blk, Saf. -/
import Derived.Test.YtbigcmcliamenaaGreatDoorNABB
import Derived.Test.YtbigcmcliamenaaGreatDoorNAAA
import Derived.Test.YtbigcmcliamenaaGreatDoorNAAB
namespace Go.Proofs.YtbigcmcliamenaaGreatDoor
open Go.RowKit
set_option linter.unusedSectionVars false
variable [∀ (a b c d : Int), Decidable (Ok4 a b c d)]
variable [∀ (a b c d : Nat), Decidable (okN a b c d)]
variable [∀ (last : Int) (s : St), Decidable (GoodSt last s)]
variable [∀ (x : T4), Decidable (OkT x)]
variable [∀ (n : Int) (s : List Int), Decidable (OkL n s)]
variable [∀ (n f : Int), Decidable (COk n f)]

theorem Kp.over {a b c : World} {X Y : Nat → Prop} (h : Kp a b X) (k : Kp b c Y) (hy : ∀ j, Y j → a.heap.size ≤ j ∨ X j) : Kp a c X :=
 ⟨k.os.trans h.os, k.tape.trans h.tape, k.output.trans h.output, Nat.le_trans h.size k.size, fun i hi hx => (k.block i (Nat.lt_of_lt_of_le hi h.size) (fun hj => by rcases hy i hj with h1 | h1 <;> first | omega | exact hx h1)).trans (h.block i hi hx)⟩
def lenV : Value → Nat
 | .slice _ n _ => n
 | _ => 0

def WhoInv (L : Int) (ok : Bool) (xs : List Int) (p : Int) (m : Int) (ys : List Int) (q : Int) (okc : Bool) : Prop :=
 (okc = false → (ok && (getWho L xs p).isSome) = false) ∧ (okc = true → ok = true ∧ (ys.length : Int) ≤ m ∧ m ≤ L ∧ getWho L xs p = (getN xs (m.toNat - ys.length) q).map fun z => (ys ++ z.1, z.2))
theorem who_start {L : Int} {ok : Bool} {xs : List Int} {p m q : Int} {ok1 : Bool} (h : Got ok (getNum xs p) ok1 m q) (hm : 0 ≤ m) : WhoInv L ok xs p m [] q (ok1 && decide (m ≤ L)) := by
 obtain ⟨h1, h2⟩ := h
 unfold WhoInv getWho
 constructor
 ·intro hf
  cases hg : getNum xs p with
  | none => simp
  | some z =>
   rw [hg] at h1 h2
   simp only [Option.isSome_some, Bool.and_true] at h1
   subst h1
   cases ok1 with
   | false => simp
   | true =>
    obtain rfl := Option.some.inj (h2 rfl)
    simp only [Bool.true_and, decide_eq_false_iff_not] at hf
    simp [if_neg hf]
 ·intro ht
  simp only [Bool.and_eq_true, decide_eq_true_eq] at ht
  obtain ⟨rfl, hl⟩ := ht
  have e := h2 rfl
  have hk : ok = true := by
   cases ok with
   | true => rfl
   | false => simp at h1
  refine ⟨hk, by simpa using hm, hl, ?_⟩
  rw [e]
  simp only [if_pos hl, List.length_nil, Nat.sub_zero, List.nil_append]
  cases getN xs m.toNat q <;> rfl
theorem who_step {L : Int} {ok : Bool} {xs : List Int} {p m : Int} {ys : List Int} {q : Int} (h : WhoInv L ok xs p m ys q true) (hl : (ys.length : Int) < m) {x q2 : Int} {ok2 : Bool} (g : Got true (getNum xs q) ok2 x q2) : WhoInv L ok xs p m (ys ++ [x]) q2 ok2 := by
 obtain ⟨hk, h1, h2, h3⟩ := h.2 rfl
 obtain ⟨g1, g2⟩ := g
 rw [show m.toNat - ys.length = (m.toNat - (ys ++ [x]).length) + 1 from by simp; omega] at h3
 constructor
 ·intro hf
  rw [hf] at g1
  have hn : getNum xs q = none := by
   cases hg : getNum xs q with
   | none => rfl
   | some z => rw [hg] at g1; simp at g1
  rw [getN_stop xs _ q hn] at h3
  rw [h3]; simp
 ·intro ht
  refine ⟨hk, by simp; omega, h2, ?_⟩
  rw [h3, getN_more xs _ q (g2 ht)]
  cases getN xs (m.toNat - (ys ++ [x]).length) q2 with
  | none => rfl
  | some z => simp
theorem who_end {L : Int} {ok : Bool} {xs : List Int} {p m : Int} {ys : List Int} {q : Int} {okc : Bool} (h : WhoInv L ok xs p m ys q okc) (hl : okc = false ∨ ¬ (ys.length : Int) < m) : Got ok (getWho L xs p) okc ys q := by
 cases okc with
 | false => exact ⟨(h.1 rfl).symm, by simp⟩
 | true =>
  obtain ⟨hk, h1, h2, h3⟩ := h.2 rfl
  have hn : ¬ (ys.length : Int) < m := by rcases hl with h | h; cases h; exact h
  rw [show m.toNat - ys.length = 0 from by omega] at h3
  simp only [getN, Option.map_some, List.append_nil] at h3
  exact ⟨by rw [h3, hk]; rfl, fun _ => h3⟩
def thenG {α β γ : Type} (r : Option (α × Int)) (f : α → Int → Option (β × Int)) (c : α → β → γ) : Option (γ × Int) := match r with
 | none => none
 | some z => match f z.1 z.2 with
  | none => none
  | some t => some (c z.1 t.1, t.2)
theorem got_bind {α β γ : Type} {ok ok1 ok2 : Bool} {r : Option (α × Int)} {x : α} {q : Int} {f : α → Int → Option (β × Int)} {y : β} {q2 : Int} (c : α → β → γ) (h : Got ok r ok1 x q) (k : Got ok1 (f x q) ok2 y q2) :
 Got ok (thenG r f c) ok2 (c x y) q2 := by
 obtain ⟨h1, h2⟩ := h
 obtain ⟨k1, k2⟩ := k
 cases r with
 | none =>
  simp only [Option.isSome_none, Bool.and_false] at h1
  subst h1
  simp only [Bool.false_and] at k1
  subst k1
  exact ⟨by simp [thenG], by simp⟩
 | some z =>
  simp only [Option.isSome_some, Bool.and_true] at h1
  subst h1
  cases ok1 with
  | false =>
   simp only [Bool.false_and] at k1
   subst k1
   exact ⟨by simp, by simp⟩
  | true =>
   obtain rfl := Option.some.inj (h2 rfl)
   simp only [Bool.true_and] at k1
   subst k1
   unfold thenG
   simp only
   generalize f x q = r2 at *
   cases r2 with
   | none => exact ⟨rfl, fun h => by cases h⟩
   | some t =>
    obtain rfl := Option.some.inj (k2 rfl)
    exact ⟨rfl, fun _ => rfl⟩
theorem getQc_then (L : Int) (xs : List Int) (p : Int) : getQc L xs p = thenG (getNum xs p) (fun _ q => thenG (getText xs q) (fun _ q => getWho L xs q) Prod.mk) Prod.mk := by
 unfold getQc thenG
 cases getNum xs p with
 | none => rfl
 | some z =>
  simp only
  cases getText xs z.2 with
  | none => rfl
  | some t =>
   simp only
   cases getWho L xs t.2 <;> rfl
theorem getSafe_then (L : Int) (xs : List Int) (p : Int) : getSafe L xs p = thenG (getNum xs p) (fun _ q => thenG (getNum xs q) (fun _ q => thenG (getQc L xs q) (fun _ q => getText xs q) Prod.mk) Prod.mk) Prod.mk := by
 unfold getSafe thenG
 cases getNum xs p with
 | none => rfl
 | some z =>
  simp only
  cases getNum xs z.2 with
  | none => rfl
  | some t =>
   simp only
   cases getQc L xs t.2 with
   | none => rfl
   | some u =>
    simp only
    cases getText xs u.2 <;> rfl
theorem got_qc {L : Int} {ok : Bool} {xs : List Int} {p : Int} {ok1 ok2 ok3 : Bool} {v q1 : Int} {s : ByteArray} {q2 : Int} {ys : List Int} {q3 : Int} (h1 : Got ok (getNum xs p) ok1 v q1) (h2 : Got ok1 (getText xs q1) ok2 s q2) (h3 : Got ok2 (getWho L xs q2) ok3 ys q3) : Got ok (getQc L xs p) ok3 (v, s, ys) q3 := by
 rw [getQc_then]
 exact got_bind Prod.mk h1 (got_bind (f := fun _ q => getWho L xs q) Prod.mk h2 h3)
theorem got_safe {L : Int} {ok : Bool} {xs : List Int} {p : Int} {ok1 ok2 ok3 ok4 : Bool} {vo q1 lo q2 : Int} {c : QcT} {q3 : Int} {d : ByteArray} {q4 : Int} (h1 : Got ok (getNum xs p) ok1 vo q1) (h2 : Got ok1 (getNum xs q1) ok2 lo q2) (h3 : Got ok2 (getQc L xs q2) ok3 c q3) (h4 : Got ok3 (getText xs q3) ok4 d q4) : Got ok (getSafe L xs p) ok4 (vo, lo, c, d) q4 := by
 rw [getSafe_then]
 exact got_bind Prod.mk h1 (got_bind Prod.mk h2 (got_bind (f := fun _ q => getText xs q) Prod.mk h3 h4))
end Go.Proofs.YtbigcmcliamenaaGreatDoor
namespace Go.Proofs.YtbigcmcliamenaaGreatDoor
open Go.RowKit

theorem OI.more {B : Nat} {w1 : World} {v' : Value} {xs : List Int} {c : Int} (ho' : w1.ownsRow B 3 1 v' (xs.length + 1) (xs.map (Value.int .i64) ++ [.int .i64 c])) : OI w1 B v' (xs ++ [c]) := by
 unfold OI
 rw [List.length_append, List.map_append]
 exact ho'
end Go.Proofs.YtbigcmcliamenaaGreatDoor
namespace Go.Proofs.YtbigcmcliamenaaGreatDoor
open Go.RowKit
set_option linter.unusedSectionVars false
variable [∀ (a b c d : Int), Decidable (Ok4 a b c d)]
variable [∀ (a b c d : Nat), Decidable (okN a b c d)]
variable [∀ (last : Int) (s : St), Decidable (GoodSt last s)]
variable [∀ (x : T4), Decidable (OkT x)]
variable [∀ (n : Int) (s : List Int), Decidable (OkL n s)]
variable [∀ (n f : Int), Decidable (COk n f)]

def WhoEnd (g : Nat) (ao : Option Addr) (ca : Nat) (xs : List Int) (fr p : Int) (ok : Bool) (w : World) (e : Ending) (w' : World) : Prop :=
 ∃ (u : Value) (ys : List Int) (q : Int) (ok' : Bool), e = .returned u ∧ Got ok (getWho 7 xs p) ok' ys q ∧ ys.length ≤ 7 ∧ Stays xs p q ∧ Loc w' g #[.slice ao xs.length ca, .int .i64 fr, .int .i64 q, errV ok' fr] ∧ OI w' w.heap.size u ys ∧ Kp w w' (fun k => k = g)

set_option maxHeartbeats 8000000 in
set_option maxRecDepth 100000 in
theorem rwho_any (W0 : World) (g : Nat) (ao : Option Addr) (ca : Nat) (xs : List Int) (fr p : Int) (ok : Bool) (w : World) (hr : RB W0 (.slice ao xs.length ca) xs) (hb : Bytes xs) (hE : Env W0) (h0 : W0.heap.size ≤ g) (hB : Below W0.heap.size W0 w) (hl : Loc w g #[.slice ao xs.length ca, .int .i64 fr, .int .i64 p, errV ok fr]) :
 Calls Tryz.prog 106 #[.pointer (some ⟨g, 0, none⟩)] w (WhoEnd g ao ca xs fr p ok w) := by
 obtain ⟨i0, hi, hz0, hz1, hz2⟩ := info_parts Tryz.info3
 have hgw := hl.lt
 have NU := hide fun (p : Int) (ok : Bool) (w' : World) (k : Kp w w' (fun k => k = g)) hl => rnum_any W0 g ao ca xs fr p ok w' hr hb hE (Below.kp hB k hB.size (fun j e => by omega)) hl
 have N0 := hide (unhide NU p ok w (Kp.refl _ _) hl)
 clear hl hr hb hE h0 hB
 go_enter Tryz.func106, Tryz.ntmps106
 go_wp2_with fail
 refine (unhide N0).mono ?_
 rintro e w1 ⟨m, q1, ok1, rfl, G1, hm, S1, L1, K1⟩
 clear N0
 have IV := hide (who_start (L := 7) G1 hm.1)
 obtain ⟨dm, hdm⟩ : ∃ b, decide (m ≤ 7) = b := ⟨_, rfl⟩
 rw [hdm] at IV
 clear G1
 go_wp2_with fail
 refine (must_any g _ fr q1 ok1 dm w1 L1).mono ?_
 rintro e w2 ⟨rfl, L2, K2⟩
 have K3 := K1.trans K2
 clear K1 K2 L1 hdm
 generalize (ok1 && dm) = ok2 at *
 go_wp2
 go_loopw [4] (fun v wr => ∃ (ys : List Int) (q : Int) (okc : Bool), OI wr w.heap.size v ys ∧ ys.length ≤ 7 ∧ Hid (WhoInv 7 ok xs p m ys q okc) ∧ Stays xs p q ∧ Loc wr g #[.slice ao xs.length ca, .int .i64 fr, .int .i64 q, errV okc fr] ∧ Kp w wr (fun k => k = g)) (fun v _ => 7 - lenV v)
 case atStart => exact ⟨[], q1, ok2, World.ownsRow_nil _ _ _ _, by simp, IV, S1, L2, K3⟩
 case round =>
  clear IV L2 K3 S1
  obtain ⟨ys, q, okc, ho, hl7, IV, S1, LG, KG⟩ := hrel
  have c3 := LG.cell 3 rfl
  obtain ⟨va, vc, rfl⟩ := ho.form
  have hlt := World.ownsRow.lt ho
  have hsz := KG.size
  cases okc with
  | false =>
   have c3' : wr.cell? ⟨g, 3, none⟩ = some (lackV fr) := c3
   have HF := hide (who_end (unhide IV) (.inl rfl))
   clear c3
   go_wp2
   go_ret
   exact ⟨_, ys, q, false, rfl, unhide HF, hl7, S1, LG, ho, KG⟩
  | true =>
   have c3' : wr.cell? ⟨g, 3, none⟩ = some .nilIface := c3
   clear c3
   by_cases hlm : (ys.length : Int) < m
   ·have hm7 := (((unhide IV).2 rfl).2.2.1 : m ≤ 7)
    have hd : decide ((ys.length : Int) < m) = true := by simpa using hlm
    have NX := hide (unhide NU q true wr KG LG)
    have LG' := hide LG
    clear LG
    go_wp2_with fail
    refine (unhide NX).mono ?_
    rintro e w5 ⟨x, q2, ok5, rfl, G5, hx, S5, L5, K5⟩
    have o5 := ho.kp K5 (fun k hk e => by have := hlt k hk; subst e; omega)
    have ST := hide (who_step (unhide IV) hlm G5)
    have z5 := K5.size
    clear NX c3' G5 LG'
    go_wp2_with (first
     | (at_builtin; refine wpList_append_own _ rfl _ _ 26 rfl w.heap.size 3 i0 (.int .i64 0) 1 8 Tryz.underlying26 hi hz0 hz1 hz2 rfl (by decide) (.slice va ys.length vc) _ _ rfl (World.ownsRow.alloc o5 _) ⟨w5.heap.size, 0, none⟩ 1 1 [.int .i64 x] rfl rfl (one_cell _ _ _) (one_plain _ _) (by unfold maxLen; omega) (by omega) (by simp; omega) ?_; intro v' w6 ho' hg' _
        have KA := (kp_grown hg')))
    go_roundw
    case rel =>
     have K6 : Kp w w6 (fun k => k = g) := ((KG.trans K5).trans (Below.kpOf (conf_below _ _) _)).over KA (fun j e => .inl (by have := hlt j e; omega))
     have L6 := (L5.alloc (.cells #[.int .i64 x] 3)).kp KA (fun e => by have := hlt g e; omega)
     have hl6 : (ys ++ [x]).length ≤ 7 := by rw [List.length_append]; simp only [List.length_cons, List.length_nil]; omega
     exact ⟨ys ++ [x], q2, ok5, OI.more ho', hl6, ST, S1.trans S5, L6, K6⟩
    case measure =>
     have hln := (OI.more ho').form
     obtain ⟨a, b, rfl⟩ := hln
     simp [lenV]
     omega
   ·have hd : decide ((ys.length : Int) < m) = false := by simpa using hlm
    have HF := hide (who_end (unhide IV) (.inr hlm))
    go_wp2
    go_ret
    exact ⟨_, ys, q, true, rfl, unhide HF, hl7, S1, LG, ho, KG⟩
end Go.Proofs.YtbigcmcliamenaaGreatDoor
namespace Go.Proofs.YtbigcmcliamenaaGreatDoor
open Go.RowKit

abbrev bv (m : ByteArray) (n : Int) (s : ByteArray) (v : Value) : Value := .agg #[.string m, .int .i64 n, .string s, v]

theorem Kp.same (w : World) (X : Nat → Prop) : Kp w w X := Below.kpOf (Below.refl w.heap.size w) X
theorem Kp.put {a b : World} {X : Nat → Prop} (h : Kp a b X) {g : Nat} (hg : X g) (j : Nat) (v : Value) : Kp a (b.setCell ⟨g, j, none⟩ v) X := h.trans ((set_kp _ _ _ _).mono fun _ e => e ▸ hg)
abbrev zb : Array Value := #[.string ⟨#[]⟩, .int .i64 0, .string ⟨#[]⟩, .slice none 0 0]

abbrev sv (vo lo n : Int) (s : ByteArray) (v : Value) (d : ByteArray) : Value := .agg #[.int .i64 vo, .int .i64 lo, .int .i64 n, .string s, v, .string d]

set_option maxHeartbeats 1600000 in
set_option maxRecDepth 100000 in
theorem eqSafe_yes (vo lo n : Int) (s : ByteArray) (a b : Value) (xs : List Int) (d : ByteArray) (w : World) (ha : RI w a xs) (hb : RI w b xs) :
 Calls Tryz.prog 44 #[sv vo lo n s a d, sv vo lo n s b d] w fun e w' => e = .returned (.bool true) ∧ Below w.heap.size w w' := by
 obtain ⟨w0, hw0⟩ : ∃ w0, (w.alloc (.cells #[.int .i64 vo, .int .i64 lo, .int .i64 n, .string s, a, .string d] 30)).alloc (.cells #[.int .i64 vo, .int .i64 lo, .int .i64 n, .string s, b, .string d] 30) = w0 := ⟨_, rfl⟩
 have B0 : Below w.heap.size w w0 := hw0 ▸ qalloc2 _ _ _
 have LA : Loc w0 w.heap.size #[.int .i64 vo, .int .i64 lo, .int .i64 n, .string s, a, .string d] := hw0 ▸ (loc_at w _ _ rfl).alloc _
 have LB : Loc w0 (w.heap.size + 1) #[.int .i64 vo, .int .i64 lo, .int .i64 n, .string s, b, .string d] := hw0 ▸ loc_at (w.alloc _) _ _ (by simp)
 have EQ := hide (eqQc_yes n s a b xs w0 (ha.below B0 (Nat.le_refl _)) (hb.below B0 (Nat.le_refl _)))
 have HA := hide LA
 have HB := hide LB
 have x0 := LA.cell 0 rfl
 have x1 := LA.cell 1 rfl
 have x2 := LA.cell 2 rfl
 have x3 := LA.cell 3 rfl
 have x4 := LA.cell 4 rfl
 have x5 := LA.cell 5 rfl
 have y0 := LB.cell 0 rfl
 have y1 := LB.cell 1 rfl
 have y2 := LB.cell 2 rfl
 have y3 := LB.cell 3 rfl
 have y4 := LB.cell 4 rfl
 have y5 := LB.cell 5 rfl
 clear ha hb LA LB
 go_enter Tryz.func44, Tryz.ntmps44
 go_wp2_with fail
 clear hw0
 refine (unhide EQ).mono ?_
 rintro e w1 ⟨rfl, b1⟩
 have A1 := ((unhide HA).below b1 (unhide HA).lt).cell 5 rfl
 have C1 := ((unhide HB).below b1 (unhide HB).lt).cell 5 rfl
 have B1 := B0.trans (b1.mono B0.size)
 clear b1 x0 y0 x1 y1 x2 y2 x3 y3 x4 y4 x5 y5 EQ HA HB
 go_wp2
 go_ret
 exact ⟨rfl, B1⟩

set_option maxHeartbeats 1600000 in
set_option maxRecDepth 100000 in
theorem heldSafe_any (vo lo n : Int) (s : ByteArray) (v : Value) (d : ByteArray) (k : Nat) (w : World) (h : RI w v (imarks 1 k)) :
 Calls Tryz.prog 46 #[sv vo lo n s v d, .int .i64 1] w fun e w' => e = .returned (.int .i64 (1 + k)) ∧ Below w.heap.size w w' := by
 have R1 := hide h
 have B := hide (qalloc w (.cells #[.int .i64 vo, .int .i64 lo, .int .i64 n, .string s, v, .string d] 30))
 have hd : decide ((1 : Int) + (k : Int) < 0) = false := by simp; omega
 clear h
 go_enter Tryz.func46, Tryz.ntmps46
 go_wp2_with fail
 refine (heldQc_any n s v k _ ((unhide R1).below (unhide B) (Nat.le_refl _))).mono ?_
 rintro e w1 ⟨rfl, b1⟩
 go_wp2
 go_ret
 exact ⟨rfl, (unhide B).trans (b1.mono (unhide B).size)⟩

set_option maxHeartbeats 1600000 in
set_option maxRecDepth 100000 in
theorem markSafe_any (vo lo n : Int) (s : ByteArray) (base : Nat) (v : Value) (d : ByteArray) (xs : List Int) (k0 : Nat) (w : World) (hl : xs.length ≤ 4194304) (hk : k0 ≤ 100000000) (h : OI w base v xs) :
 Calls Tryz.prog 45 #[sv vo lo n s v d, .int .i64 k0] w fun e w' => e = .returned (.int .i64 (k0 + xs.length)) ∧ OI w' base v (imarks k0 xs.length) ∧ Kp w w' (fun k => v.ownBlock = some k) := by
 have B := hide (qalloc w (.cells #[.int .i64 vo, .int .i64 lo, .int .i64 n, .string s, v, .string d] 30))
 have H := hide (h.below (unhide B))
 have MK := hide fun w h => markQc_any n s base v xs k0 w hl hk h
 clear h
 go_enter Tryz.func45, Tryz.ntmps45
 go_wp2_with fail
 refine (unhide MK _ (unhide H)).mono ?_
 rintro e w1 ⟨rfl, o1, k1⟩
 have K := (Below.kpOf (unhide B) (fun k => v.ownBlock = some k)).trans k1
 go_wp2
 go_ret
 exact ⟨rfl, o1, K⟩

set_option maxHeartbeats 1600000 in
set_option maxRecDepth 100000 in
theorem szSafe_yes (vo lo n : Int) (s : ByteArray) (ao : Option Addr) (k ca : Nat) (d : ByteArray) (left : Int) (w : World) (h : (s.size : Int) + k + d.size ≤ left) (hl : left ≤ 1048576) :
 Calls Tryz.prog 42 #[sv vo lo n s (.slice ao k ca) d, .int .i64 left] w fun e w' => e = .returned (.int .i64 (left - s.size - k - d.size)) ∧ Below w.heap.size w w' := by
 have h2 : decide ((left : Int) - (s.size : Int) - (k : Int) < 0) = false := by simp; omega
 have h1 : decide ((left : Int) - (s.size : Int) - (k : Int) - (d.size : Int) < 0) = false := by simp; omega
 have ZQ := hide fun w => szQc_yes n s ao k ca left w (by omega) (by omega)
 obtain ⟨w0, hw0⟩ : ∃ w0, w.alloc (.cells #[.int .i64 vo, .int .i64 lo, .int .i64 n, .string s, .slice ao k ca, .string d] 63) = w0 := ⟨_, rfl⟩
 have B0 : Below w.heap.size w w0 := hw0 ▸ qalloc _ _
 have LA : Loc w0 w.heap.size #[.int .i64 vo, .int .i64 lo, .int .i64 n, .string s, .slice ao k ca, .string d] := hw0 ▸ loc_at w _ _ rfl
 have HA := hide LA
 have x0 := LA.cell 0 rfl
 have x1 := LA.cell 1 rfl
 have x2 := LA.cell 2 rfl
 have x3 := LA.cell 3 rfl
 have x4 := LA.cell 4 rfl
 have x5 := LA.cell 5 rfl
 clear LA
 go_enter Tryz.func42, Tryz.ntmps42
 go_wp2_with fail
 clear hw0
 refine (unhide ZQ _).mono ?_
 rintro e w1 ⟨rfl, b1⟩
 have A1 := ((unhide HA).below b1 (unhide HA).lt).cell 5 rfl
 have B1 := B0.trans (b1.mono B0.size)
 clear b1 x0 x1 x2 x3 x4 x5 HA
 go_wp2
 go_ret
 exact ⟨rfl, B1⟩
set_option maxHeartbeats 1600000 in
set_option maxRecDepth 100000 in
theorem szSafe_no1 (vo lo n : Int) (s : ByteArray) (ao : Option Addr) (k ca : Nat) (d : ByteArray) (left : Int) (w : World) (h0 : 0 ≤ left) (h : left < s.size + k) (hs : s.size ≤ 9223372036854775807) (hk : k ≤ 9223372036854775807) (hl : left ≤ 1048576) :
 Calls Tryz.prog 42 #[sv vo lo n s (.slice ao k ca) d, .int .i64 left] w fun e w' => e = .returned (.int .i64 (-1)) ∧ Below w.heap.size w w' := by
 have ZQ := hide fun w => szQc_no n s ao k ca left w (by omega) (by omega) hs hk (by omega)
 obtain ⟨w0, hw0⟩ : ∃ w0, w.alloc (.cells #[.int .i64 vo, .int .i64 lo, .int .i64 n, .string s, .slice ao k ca, .string d] 63) = w0 := ⟨_, rfl⟩
 have B0 : Below w.heap.size w w0 := hw0 ▸ qalloc _ _
 have LA : Loc w0 w.heap.size #[.int .i64 vo, .int .i64 lo, .int .i64 n, .string s, .slice ao k ca, .string d] := hw0 ▸ loc_at w _ _ rfl
 have HA := hide LA
 have x0 := LA.cell 0 rfl
 have x1 := LA.cell 1 rfl
 have x2 := LA.cell 2 rfl
 have x3 := LA.cell 3 rfl
 have x4 := LA.cell 4 rfl
 have x5 := LA.cell 5 rfl
 clear LA
 go_enter Tryz.func42, Tryz.ntmps42
 go_wp2_with fail
 clear hw0
 refine (unhide ZQ _).mono ?_
 rintro e w1 ⟨rfl, b1⟩
 have A1 := ((unhide HA).below b1 (unhide HA).lt).cell 5 rfl
 have B1 := B0.trans (b1.mono B0.size)
 clear b1 x0 x1 x2 x3 x4 x5 HA
 go_wp2
 go_ret
 exact ⟨rfl, B1⟩
set_option maxHeartbeats 1600000 in
set_option maxRecDepth 100000 in
theorem szSafe_no2 (vo lo n : Int) (s : ByteArray) (ao : Option Addr) (k ca : Nat) (d : ByteArray) (left : Int) (w : World) (h0 : (s.size : Int) + k ≤ left) (h : left < s.size + k + d.size) (hd : d.size ≤ 9223372036854775807) (hl : left ≤ 1048576) :
 Calls Tryz.prog 42 #[sv vo lo n s (.slice ao k ca) d, .int .i64 left] w fun e w' => e = .returned (.int .i64 (-1)) ∧ Below w.heap.size w w' := by
 have h2 : decide ((left : Int) - (s.size : Int) - (k : Int) < 0) = false := by simp; omega
 have h1 : decide ((left : Int) - (s.size : Int) - (k : Int) - (d.size : Int) < 0) = true := by simp; omega
 have ZQ := hide fun w => szQc_yes n s ao k ca left w (by omega) (by omega)
 obtain ⟨w0, hw0⟩ : ∃ w0, w.alloc (.cells #[.int .i64 vo, .int .i64 lo, .int .i64 n, .string s, .slice ao k ca, .string d] 63) = w0 := ⟨_, rfl⟩
 have B0 : Below w.heap.size w w0 := hw0 ▸ qalloc _ _
 have LA : Loc w0 w.heap.size #[.int .i64 vo, .int .i64 lo, .int .i64 n, .string s, .slice ao k ca, .string d] := hw0 ▸ loc_at w _ _ rfl
 have HA := hide LA
 have x0 := LA.cell 0 rfl
 have x1 := LA.cell 1 rfl
 have x2 := LA.cell 2 rfl
 have x3 := LA.cell 3 rfl
 have x4 := LA.cell 4 rfl
 have x5 := LA.cell 5 rfl
 clear LA
 go_enter Tryz.func42, Tryz.ntmps42
 go_wp2_with fail
 clear hw0
 refine (unhide ZQ _).mono ?_
 rintro e w1 ⟨rfl, b1⟩
 have A1 := ((unhide HA).below b1 (unhide HA).lt).cell 5 rfl
 have B1 := B0.trans (b1.mono B0.size)
 clear b1 x0 x1 x2 x3 x4 x5 HA
 go_wp2
 go_ret
 exact ⟨rfl, B1⟩
theorem szSafe_no (vo lo n : Int) (s : ByteArray) (ao : Option Addr) (k ca : Nat) (d : ByteArray) (left : Int) (w : World) (h0 : 0 ≤ left) (h : left < s.size + k + d.size) (hs : s.size ≤ 9223372036854775807) (hk : k ≤ 9223372036854775807) (hd : d.size ≤ 9223372036854775807) (hl : left ≤ 1048576) :
 Calls Tryz.prog 42 #[sv vo lo n s (.slice ao k ca) d, .int .i64 left] w fun e w' => e = .returned (.int .i64 (-1)) ∧ Below w.heap.size w w' := by
 by_cases h1 : left < (s.size : Int) + k
 ·exact szSafe_no1 vo lo n s ao k ca d left w h0 h1 hs hk hl
 ·exact szSafe_no2 vo lo n s ao k ca d left w (by omega) h hd hl

abbrev zs6 : Array Value := #[.int .i64 0, .int .i64 0, .int .i64 0, .string ⟨#[]⟩, .slice none 0 0, .string ⟨#[]⟩]
theorem kp6 (w : World) (g : Nat) (a b c d e f : Value) : Kp w ((((((w.setCell ⟨g, 0, none⟩ a).setCell ⟨g, 1, none⟩ b).setCell ⟨g, 2, none⟩ c).setCell ⟨g, 3, none⟩ d).setCell ⟨g, 4, none⟩ e).setCell ⟨g, 5, none⟩ f) (fun k => k = g) :=
 (((((set_kp _ _ _ _).trans (set_kp _ _ _ _)).trans (set_kp _ _ _ _)).trans (set_kp _ _ _ _)).trans (set_kp _ _ _ _)).trans (set_kp _ _ _ _)
set_option maxHeartbeats 1600000 in
set_option maxRecDepth 100000 in
theorem toSafe_any (vo lo n : Int) (s : ByteArray) (a : Value) (xs : List Int) (d : ByteArray) (w : World) (ha : RI w a xs) :
 Calls Tryz.prog 43 #[sv vo lo n s a d] w fun e w' => ∃ u, e = .returned (sv vo lo n s u d) ∧ OI w' w.heap.size u xs ∧ Below w.heap.size w w' := by
 obtain ⟨w0, hw0⟩ : ∃ w0, ((w.alloc (.cells #[.int .i64 vo, .int .i64 lo, .int .i64 n, .string s, a, .string d] 63)).alloc (.cells zs6 30)).alloc (.cells #[.int .i64 vo, .int .i64 lo, .int .i64 0, .string ⟨#[]⟩, .slice none 0 0, .string ⟨#[]⟩] 30) = w0 := ⟨_, rfl⟩
 have B0 : Below w.heap.size w w0 := hw0 ▸ ((qalloc2 _ _ _).alloc (by simp; omega) _)
 have LZ : Loc w0 (w.heap.size + 1) zs6 := hw0 ▸ (loc_at (w.alloc _) _ _ (by simp)).alloc _
 have LO : Loc w0 (w.heap.size + 1 + 1) #[.int .i64 vo, .int .i64 lo, .int .i64 0, .string ⟨#[]⟩, .slice none 0 0, .string ⟨#[]⟩] := hw0 ▸ loc_at ((w.alloc _).alloc _) _ _ (by simp)
 have s0 : w0.heap.size = w.heap.size + 1 + 1 + 1 := by rw [← hw0]; simp
 have LA : Loc w0 w.heap.size #[.int .i64 vo, .int .i64 lo, .int .i64 n, .string s, a, .string d] := hw0 ▸ ((loc_at w _ _ rfl).alloc _).alloc _
 have p0 := LA.cell 0 rfl
 have p1 := LA.cell 1 rfl
 have p2 := LA.cell 2 rfl
 have p3 := LA.cell 3 rfl
 have p4 := LA.cell 4 rfl
 have p5 := LA.cell 5 rfl
 have TQ := hide (toQc_any n s a xs w0 (ha.below B0 (Nat.le_refl _)))
 have HZ := hide LZ
 have HO := hide LO
 have HA := hide LA
 clear ha LZ LO LA
 go_enter Tryz.func43, Tryz.ntmps43
 go_wp2_with fail
 clear hw0
 refine (unhide TQ).mono ?_
 rintro e w1 ⟨u, rfl, o1, b1⟩
 have B1 : Below w.heap.size w w1 := B0.trans (b1.mono B0.size)
 have Z1 := (unhide HZ).below b1 (unhide HZ).lt
 have O1 := (unhide HO).below b1 (unhide HO).lt
 have A1 := (unhide HA).below b1 (unhide HA).lt
 have y0 := Z1.cell 0 rfl
 have y1 := Z1.cell 1 rfl
 have y2 := Z1.cell 2 rfl
 have y3 := Z1.cell 3 rfl
 have y4 := Z1.cell 4 rfl
 have y5 := Z1.cell 5 rfl
 have fy := Z1.frozen
 have x0 := O1.cell 0 rfl
 have x1 := O1.cell 1 rfl
 have x2 := O1.cell 2 rfl
 have x3 := O1.cell 3 rfl
 have x4 := O1.cell 4 rfl
 have x5 := O1.cell 5 rfl
 have fx := O1.frozen
 have a5 := A1.cell 5 rfl
 have lt1 := World.ownsRow.lt o1
 obtain ⟨ua, uc, rfl⟩ := o1.form
 have H1 := hide o1
 clear o1 b1 Z1 O1 A1 HZ HO HA TQ p0 p1 p2 p3 p4 p5
 go_wp2
 refine bodyPost_ret (v := sv vo lo n s (.slice ua xs.length uc) d) (by simp [results, Tryz.results43, go_sem, y0, y1, y2, y3, y4, y5]) rfl ?_
 have K : Kp w1 _ (fun k => k = w.heap.size + 1 ∨ k = w.heap.size + 1 + 1) := (((((((((((Kp.same w1 _).put (g := w.heap.size + 1 + 1) (.inr rfl) 2 (.int .i64 n)).put (g := w.heap.size + 1 + 1) (.inr rfl) 3 (.string s)).put (g := w.heap.size + 1 + 1) (.inr rfl) 4 (.slice ua xs.length uc)).put (g := w.heap.size + 1 + 1) (.inr rfl) 5 (.string d)).put (g := w.heap.size + 1) (.inl rfl) 0 (.int .i64 vo)).put (g := w.heap.size + 1) (.inl rfl) 1 (.int .i64 lo)).put (g := w.heap.size + 1) (.inl rfl) 2 (.int .i64 n)).put (g := w.heap.size + 1) (.inl rfl) 3 (.string s)).put (g := w.heap.size + 1) (.inl rfl) 4 (.slice ua xs.length uc)).put (g := w.heap.size + 1) (.inl rfl) 5 (.string d))
 exact ⟨_, rfl, ((unhide H1).kp K (fun k hk => by have := lt1 k hk; omega)).mono (by omega), Below.kp B1 K B1.size (fun k hk => by omega)⟩
end Go.Proofs.YtbigcmcliamenaaGreatDoor
