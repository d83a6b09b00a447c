/- Texts that belong together: NoteRead, WhoPlain, LedgerNew0, NoteWho, NoteQc, NotePlain2. -/
import Derived.Test.YtndpjhiidmdlhaaGreatDoorRCBH
import Derived.Test.YtndpjhiidmdlhaaGreatDoorRCAL
import Derived.Test.YtndpjhiidmdlhaaGreatDoorRCAE
import Derived.Deep.DeepCutAuto
import Derived.Laws.EntriesVeiled
import Derived.Test.YtndpjhiidmdlhaaGreatDoorRCAA
import Derived.Test.YtndpjhiidmdlhaaGreatDoorRCAX
set_option maxRecDepth 100000
set_option maxHeartbeats 16000000
namespace Go.Proofs.YtndpjhiidmdlhaaGreatDoor
open Go.RowKit
set_option linter.unusedSectionVars false
variable [∀ (a b c d : Int), Decidable (Ok4 a b c d)]
variable [∀ (a b c d : Nat), Decidable (okN a b c d)]
variable [∀ (last : Int) (s : St), Decidable (GoodSt last s)]
variable [∀ (x : T4), Decidable (OkT x)]
variable [∀ (n : Int) (s : List Int), Decidable (OkL n s)]
variable [∀ (n f : Int), Decidable (COk n f)]

def errV : Bool → Int → Value
 | true, _ => .nilIface
 | false, n => lackV n
def Got {α : Type} (ok : Bool) (r : Option (α × Int)) (ok' : Bool) (x : α) (q : Int) : Prop := ok' = (ok && r.isSome) ∧ (ok' = true → r = some (x, q))
def Stays (xs : List Int) (p q : Int) : Prop := q = p ∨ (0 ≤ q ∧ q ≤ xs.length)
theorem Stays.trans {xs : List Int} {p q r : Int} (h : Stays xs p q) (k : Stays xs q r) : Stays xs p r := by unfold Stays at *; omega

theorem goOn_yes (g : Nat) (v : Value) (fr p next : Int) (ev : Value) (w : World) (hl : Loc w g #[v,.int .i64 fr,.int .i64 p, ev]) :
 Calls Tryz.prog 247 #[.pointer (some ⟨g, 0, none⟩),.int .i64 next,.bool true] w fun e w' => e = .returned (.tuple #[]) ∧ Loc w' g #[v,.int .i64 fr,.int .i64 next, ev] ∧ Kp w w' (fun k => k = g) := by
 have c2:=hl.cell 2 rfl
 have f2:=hl.frozen 2
 have HL:=hide hl
 clear hl
 go_enter Tryz.func247, Tryz.ntmps247
 go_wp2
 go_end0
 exact ⟨rfl, HL.out.set 2 _ rfl, set_kp _ _ _ _⟩

theorem goOn_no (g : Nat) (v : Value) (fr p next : Int) (ev : Value) (w : World) (hl : Loc w g #[v,.int .i64 fr,.int .i64 p, ev]) :
 Calls Tryz.prog 247 #[.pointer (some ⟨g, 0, none⟩),.int .i64 next,.bool false] w fun e w' => e = .returned (.tuple #[]) ∧ Loc w' g #[v,.int .i64 fr,.int .i64 p, lackV fr] ∧ Kp w w' (fun k => k = g) := by
 have c1:=hl.cell 1 rfl
 have c3:=hl.cell 3 rfl
 have f3:=hl.frozen 3
 have HL:=hide hl
 clear hl
 go_enter Tryz.func247, Tryz.ntmps247
 go_wp2
 refine bodyPost_ret (v := .tuple #[]) (by simp [results, Tryz.results247, go_sem]) rfl ?_
 exact ⟨rfl, HL.out.set 3 _ rfl, set_kp _ _ _ _⟩

theorem must_any (g : Nat) (v : Value) (fr p : Int) (ok right : Bool) (w : World) (hl : Loc w g #[v,.int .i64 fr,.int .i64 p, errV ok fr]) :
 Calls Tryz.prog 223 #[.pointer (some ⟨g, 0, none⟩),.bool right] w fun e w' => e = .returned (.tuple #[]) ∧ Loc w' g #[v,.int .i64 fr,.int .i64 p, errV (ok && right) fr] ∧ Kp w w' (fun k => k = g) := by
 have c2:=hl.cell 2 rfl
 cases right with
 | true =>
  rw [Bool.and_true]
  have GO:=hide (goOn_yes g v fr p p (errV ok fr) w hl)
  clear hl
  go_enter Tryz.func223, Tryz.ntmps223
  go_wp2_with fail
  refine GO.out.mono ?_
  rintro e w' ⟨rfl, L1, K1⟩
  go_wp2
  go_end0
  exact ⟨rfl, L1, K1⟩
 | false =>
  rw [Bool.and_false]
  have GO:=hide (goOn_no g v fr p p (errV ok fr) w hl)
  clear hl
  go_enter Tryz.func223, Tryz.ntmps223
  go_wp2_with fail
  refine GO.out.mono ?_
  rintro e w' ⟨rfl, L1, K1⟩
  go_wp2
  go_end0
  exact ⟨rfl, L1, K1⟩

theorem lacks_no (g : Nat) (v : Value) (fr p : Int) (w : World) (hl : Loc w g #[v,.int .i64 fr,.int .i64 p,.nilIface]) :
 Calls Tryz.prog 184 #[.pointer (some ⟨g, 0, none⟩)] w fun e w' => e = .returned (.tuple #[.int .i64 0,.bool false]) ∧ Below w.heap.size w w' := by
 obtain ⟨w0, hw0⟩ : ∃ y, w.alloc (.cells #[.int .i64 0] 275) = y:=⟨_, rfl⟩
 have B0 : Below w.heap.size w w0:=hw0 ▸ conf_below _ _
 have c3:=(hl.up B0).cell 3 rfl
 have L0 : Loc w0 w.heap.size #[.int .i64 0]:=hw0 ▸ loc_at w _ _ rfl
 have d0:=L0.cell 0 rfl
 clear hl L0
 go_enter Tryz.func184, Tryz.ntmps184
 go_wp2_with fail
 clear hw0
 refine (as_nil _ _).mono ?_
 rintro e w' ⟨rfl, rfl⟩
 go_wp2
 go_ret2
 exact ⟨rfl, B0⟩

theorem lacks_yes (g : Nat) (v : Value) (fr p : Int) (w : World) (hg : EnvT w) (hl : Loc w g #[v,.int .i64 fr,.int .i64 p, lackV fr]) :
 Calls Tryz.prog 184 #[.pointer (some ⟨g, 0, none⟩)] w fun e w' => e = .returned (.tuple #[.int .i64 fr,.bool true]) ∧ Below w.heap.size w w' := by
 obtain ⟨w0, hw0⟩ : ∃ y, w.alloc (.cells #[.int .i64 0] 275) = y:=⟨_, rfl⟩
 have B0 : Below w.heap.size w w0:=hw0 ▸ conf_below _ _
 have c3:=(hl.up B0).cell 3 rfl
 have L0 : Loc w0 w.heap.size #[.int .i64 0]:=hw0 ▸ loc_at w _ _ rfl
 have AS:=hide (as_hit fr w.heap.size (.int .i64 0) w0 (hg.below B0) L0)
 clear hl L0
 go_enter Tryz.func184, Tryz.ntmps184
 go_wp2_with fail
 clear hw0
 refine AS.out.mono ?_
 rintro e w1 ⟨rfl, L1, K1⟩
 have d0:=L1.cell 0 rfl
 have B1 : Below w.heap.size w w1:=Below.kp B0 K1 B0.size (fun k hk => by omega)
 clear L1 K1 AS
 go_wp2
 go_ret2
 exact ⟨rfl, B1⟩
theorem lacks_any (g : Nat) (v : Value) (fr p : Int) (ok : Bool) (w : World) (hg : EnvT w) (hl : Loc w g #[v,.int .i64 fr,.int .i64 p, errV ok fr]) :
 Calls Tryz.prog 184 #[.pointer (some ⟨g, 0, none⟩)] w fun e w' => e = .returned (.tuple #[.int .i64 (if ok then 0 else fr),.bool (!ok)]) ∧ Below w.heap.size w w' := by
 cases ok with
 | true => exact lacks_no g v fr p w hl
 | false => exact lacks_yes g v fr p w hg hl

theorem rnum_any (W0 : World) (g : Nat) (ao : Option Addr) (ca : Nat) (xs : List Int) (fr p : Int) (ok : Bool) (w : World) (hr : RB W0 (.slice ao xs.length ca) xs) (hb : Bytes xs) (hE : Env W0) (hB : Below W0.heap.size W0 w) (hl : Loc w g #[.slice ao xs.length ca,.int .i64 fr,.int .i64 p, errV ok fr]) :
 Calls Tryz.prog 221 #[.pointer (some ⟨g, 0, none⟩)] w fun e w' => ∃ (x : Int) (q : Int) (ok' : Bool), e = .returned (.int .i64 x) ∧ Got ok (getNum xs p) ok' x q ∧ (0 ≤ x ∧ x ≤ 2147483647) ∧ Stays xs p q ∧ Loc w' g #[.slice ao xs.length ca,.int .i64 fr,.int .i64 q, errV ok' fr] ∧ Kp w w' (fun k => k = g) := by
 obtain ⟨u, pv, he⟩:=hE.no
 cases hgn : getNum xs p with
 | none =>
  have GN:=hide fun w' (b : Below w.heap.size w w') => getNum_none (.slice ao xs.length ca) xs p u pv w' (hr.below (bu hB b)) hb (((bu hB b).cell (cell_lt he)).trans he) (hide hgn)
  have HL:=hide hl
  clear hr hE he hB
  have LG:=HL.out
  clear hl HL
  have Bw : Below w.heap.size w w:=Below.refl _ _
  go_enter Tryz.func221, Tryz.ntmps221
  have K : Hid (∀ w', Below w.heap.size w w' → (fun w' => Below w.heap.size w w' ∧ (w'.cell? ⟨g, 0, none⟩ = some (.slice ao xs.length ca) ∧ w'.cell? ⟨g, 1, none⟩ = some (.int .i64 fr) ∧ w'.cell? ⟨g, 2, none⟩ = some (.int .i64 p) ∧ w'.cell? ⟨g, 3, none⟩ = some (errV ok fr))) w'):=hide fun w' hb' => ⟨hb', ⟨(LG.up hb').cell 0 rfl, (LG.up hb').cell 1 rfl, (LG.up hb').cell 2 rfl, (LG.up hb').cell 3 rfl⟩⟩
  go_upto_region 1 with fail
  have bA : Below w.heap.size w w.drew:=Below.drew (Below.refl _ _)
  refine wrn K bA (fun hHeld => ?_)
  refine' tj 0 7 rfl ?_ ?_;rotate_left
  ·intro w h;go_simp;try rfl
  simp only [pU]
  refine' tj 4 11 rfl ?_ ?_;rotate_left
  ·intro w h;go_simp;try rfl
  simp only [pU]
  refine' tj 1 8 rfl ?_ ?_;rotate_left
  ·intro w h;go_simp;try rfl
  simp only [pU]
  refine' tj 5 12 rfl ?_ ?_;rotate_left
  ·intro w h;go_simp;try rfl
  simp only [pU]
  refine' tj 2 9 rfl ?_ ?_;rotate_left
  ·intro w h;go_simp;try rfl
  simp only [pU]
  refine' tj 6 13 rfl ?_ ?_;rotate_left
  ·intro w h;go_simp;try rfl
  simp only [pU]
  refine' tj 3 10 rfl ?_ ?_;rotate_left
  ·intro w h;go_simp;try rfl
  simp only [pU]
  refine' tj 7 14 rfl ?_ ?_;rotate_left
  ·intro w h;go_simp;try rfl
  simp only [pU]
  refine rd 8 rfl (fun KK hKK => ?_)
  go_simp
  have hgo:=bA
  refine (GN.out _ hgo).mono ?_
  rintro e wz1_1 ⟨rfl, bb⟩
  have bz1 : Below w.heap.size w wz1_1:=bu bA bb
  clear bA hgo bb
  clear hHeld
  refine hKK.out _ _ (K.out _ bz1) (fun hHeld => ?_)
  clear hKK KK
  refine' tj 9 6 rfl ?_ ?_;rotate_left
  ·intro w h;go_simp;try rfl
  simp only [pU]
  refine' tj 10 16 rfl ?_ ?_;rotate_left
  ·intro w h;go_simp;try rfl
  simp only [pU]
  refine' tj 11 17 rfl ?_ ?_;rotate_left
  ·intro w h;go_simp;try rfl
  simp only [pU]
  refine' tj 12 18 rfl ?_ ?_;rotate_left
  ·intro w h;go_simp;try rfl
  simp only [pU]
  refine' tj 13 3 rfl ?_ ?_;rotate_left
  ·intro w h;go_simp;try rfl
  simp only [pU]
  refine' tj 14 4 rfl ?_ ?_;rotate_left
  ·intro w h;go_simp;try rfl
  simp only [pU]
  refine' tj 15 5 rfl ?_ ?_;rotate_left
  ·intro w h;go_simp;try rfl
  simp only [pU]
  clear hHeld
  refine wdn ?_
  have bb:=bz1
  have Bwz1_1:=bu Bw bb
  have swz1_1:=bb.size
  replace LG:=LG.up bb
  clear Bw
  clear bb bz1 K
  clear GN
  have GO:=hide (goOn_no g (.slice ao xs.length ca) fr p 0 (errV ok fr) wz1_1 LG)
  clear LG
  go_wp2_with fail
  refine GO.out.mono ?_
  rintro e w2 ⟨rfl, L2, K2⟩
  clear GO
  have K3:=(Below.kpOf Bwz1_1 (fun k => k = g)).trans K2
  go_wp2
  go_ret
  exact ⟨0, p, false, rfl, ⟨by simp, by simp⟩, by simp, .inl rfl, L2, K3⟩
 | some z =>
  obtain ⟨n, q⟩:=z
  have GN:=hide fun w' (b : Below w.heap.size w w') => getNum_some (.slice ao xs.length ca) xs p n q u pv w' (hr.below (bu hB b)) hb (((bu hB b).cell (cell_lt he)).trans he) (hide hgn)
  have bd:=getNum_bd xs hb p n q hgn
  have HL:=hide hl
  clear hr hE he hB
  have LG:=HL.out
  clear hl HL
  have Bw : Below w.heap.size w w:=Below.refl _ _
  go_enter Tryz.func221, Tryz.ntmps221
  have K : Hid (∀ w', Below w.heap.size w w' → (fun w' => Below w.heap.size w w' ∧ (w'.cell? ⟨g, 0, none⟩ = some (.slice ao xs.length ca) ∧ w'.cell? ⟨g, 1, none⟩ = some (.int .i64 fr) ∧ w'.cell? ⟨g, 2, none⟩ = some (.int .i64 p) ∧ w'.cell? ⟨g, 3, none⟩ = some (errV ok fr))) w'):=hide fun w' hb' => ⟨hb', ⟨(LG.up hb').cell 0 rfl, (LG.up hb').cell 1 rfl, (LG.up hb').cell 2 rfl, (LG.up hb').cell 3 rfl⟩⟩
  go_upto_region 1 with fail
  have bA : Below w.heap.size w w.drew:=Below.drew (Below.refl _ _)
  refine wrn K bA (fun hHeld => ?_)
  refine' tj 0 7 rfl ?_ ?_;rotate_left
  ·intro w h;go_simp;try rfl
  simp only [pU]
  refine' tj 4 11 rfl ?_ ?_;rotate_left
  ·intro w h;go_simp;try rfl
  simp only [pU]
  refine' tj 1 8 rfl ?_ ?_;rotate_left
  ·intro w h;go_simp;try rfl
  simp only [pU]
  refine' tj 5 12 rfl ?_ ?_;rotate_left
  ·intro w h;go_simp;try rfl
  simp only [pU]
  refine' tj 2 9 rfl ?_ ?_;rotate_left
  ·intro w h;go_simp;try rfl
  simp only [pU]
  refine' tj 6 13 rfl ?_ ?_;rotate_left
  ·intro w h;go_simp;try rfl
  simp only [pU]
  refine' tj 3 10 rfl ?_ ?_;rotate_left
  ·intro w h;go_simp;try rfl
  simp only [pU]
  refine' tj 7 14 rfl ?_ ?_;rotate_left
  ·intro w h;go_simp;try rfl
  simp only [pU]
  refine rd 8 rfl (fun KK hKK => ?_)
  go_simp
  have hgo:=bA
  refine (GN.out _ hgo).mono ?_
  rintro e wz1_1 ⟨rfl, bb⟩
  have bz1 : Below w.heap.size w wz1_1:=bu bA bb
  clear bA hgo bb
  clear hHeld
  refine hKK.out _ _ (K.out _ bz1) (fun hHeld => ?_)
  clear hKK KK
  refine' tj 9 6 rfl ?_ ?_;rotate_left
  ·intro w h;go_simp;try rfl
  simp only [pU]
  refine' tj 10 16 rfl ?_ ?_;rotate_left
  ·intro w h;go_simp;try rfl
  simp only [pU]
  refine' tj 11 17 rfl ?_ ?_;rotate_left
  ·intro w h;go_simp;try rfl
  simp only [pU]
  refine' tj 12 18 rfl ?_ ?_;rotate_left
  ·intro w h;go_simp;try rfl
  simp only [pU]
  refine' tj 13 3 rfl ?_ ?_;rotate_left
  ·intro w h;go_simp;try rfl
  simp only [pU]
  refine' tj 14 4 rfl ?_ ?_;rotate_left
  ·intro w h;go_simp;try rfl
  simp only [pU]
  refine' tj 15 5 rfl ?_ ?_;rotate_left
  ·intro w h;go_simp;try rfl
  simp only [pU]
  clear hHeld
  refine wdn ?_
  have bb:=bz1
  have Bwz1_1:=bu Bw bb
  have swz1_1:=bb.size
  replace LG:=LG.up bb
  clear Bw
  clear bb bz1 K
  clear GN
  have GO:=hide (goOn_yes g (.slice ao xs.length ca) fr p q (errV ok fr) wz1_1 LG)
  clear LG
  go_wp2_with fail
  refine GO.out.mono ?_
  rintro e w2 ⟨rfl, L2, K2⟩
  clear GO
  have K3:=(Below.kpOf Bwz1_1 (fun k => k = g)).trans K2
  go_wp2
  go_ret
  exact ⟨n, q, ok, rfl, ⟨by simp, fun _ => rfl⟩, by omega, .inr (by omega), L2, K3⟩

theorem getText_bd (xs : List Int) (hb : Bytes xs) (p : Int) (s : ByteArray) (q : Int) (h : getText xs p = some (s, q)) : s.size ≤ xs.length ∧ 0 < q ∧ q ≤ xs.length := by
 unfold getText at h
 cases hg : getNum xs p with
 | none => rw [hg] at h; cases h
 | some x =>
  obtain ⟨n, r⟩:=x
  have bd:=getNum_bd xs hb p n r hg
  rw [hg] at h
  by_cases hl : n ≤ (xs.length : Int) - r
  ·simp only [if_pos hl, Option.some.injEq, Prod.mk.injEq] at h
   obtain ⟨rfl, rfl⟩:=h
   refine ⟨?_, by omega, by omega⟩
   unfold textAt
   rw [strOfNums_size, win_len _ _ _ (by omega)]
   omega
  ·simp [if_neg hl] at h
theorem rtext_any (W0 : World) (g : Nat) (ao : Option Addr) (ca : Nat) (xs : List Int) (fr p : Int) (ok : Bool) (w : World) (hr : RB W0 (.slice ao xs.length ca) xs) (hb : Bytes xs) (hE : Env W0) (hB : Below W0.heap.size W0 w) (hl : Loc w g #[.slice ao xs.length ca,.int .i64 fr,.int .i64 p, errV ok fr]) :
 Calls Tryz.prog 249 #[.pointer (some ⟨g, 0, none⟩)] w fun e w' => ∃ (x : ByteArray) (q : Int) (ok' : Bool), e = .returned (.string x) ∧ Got ok (getText xs p) ok' x q ∧ x.size ≤ xs.length ∧ Stays xs p q ∧ Loc w' g #[.slice ao xs.length ca,.int .i64 fr,.int .i64 q, errV ok' fr] ∧ Kp w w' (fun k => k = g) := by
 obtain ⟨u, pv, he⟩:=hE.no
 cases hgn : getText xs p with
 | none =>
  have GN:=hide fun w' (b : Below w.heap.size w w') => getTextI_none (.slice ao xs.length ca) xs p u pv w' (hr.below (bu hB b)) hb (((bu hB b).cell (cell_lt he)).trans he) (hide hgn)
  have HL:=hide hl
  clear hr hE he hB
  have LG:=HL.out
  clear hl HL
  have Bw : Below w.heap.size w w:=Below.refl _ _
  go_enter Tryz.func249, Tryz.ntmps249
  have K : Hid (∀ w', Below w.heap.size w w' → (fun w' => Below w.heap.size w w' ∧ (w'.cell? ⟨g, 0, none⟩ = some (.slice ao xs.length ca) ∧ w'.cell? ⟨g, 1, none⟩ = some (.int .i64 fr) ∧ w'.cell? ⟨g, 2, none⟩ = some (.int .i64 p) ∧ w'.cell? ⟨g, 3, none⟩ = some (errV ok fr))) w'):=hide fun w' hb' => ⟨hb', ⟨(LG.up hb').cell 0 rfl, (LG.up hb').cell 1 rfl, (LG.up hb').cell 2 rfl, (LG.up hb').cell 3 rfl⟩⟩
  go_upto_region 1 with fail
  have bA : Below w.heap.size w w.drew:=Below.drew (Below.refl _ _)
  refine wrn K bA (fun hHeld => ?_)
  refine' tj 0 7 rfl ?_ ?_;rotate_left
  ·intro w h;go_simp;try rfl
  simp only [pU]
  refine' tj 4 11 rfl ?_ ?_;rotate_left
  ·intro w h;go_simp;try rfl
  simp only [pU]
  refine' tj 1 8 rfl ?_ ?_;rotate_left
  ·intro w h;go_simp;try rfl
  simp only [pU]
  refine' tj 5 12 rfl ?_ ?_;rotate_left
  ·intro w h;go_simp;try rfl
  simp only [pU]
  refine' tj 2 9 rfl ?_ ?_;rotate_left
  ·intro w h;go_simp;try rfl
  simp only [pU]
  refine' tj 6 13 rfl ?_ ?_;rotate_left
  ·intro w h;go_simp;try rfl
  simp only [pU]
  refine' tj 3 10 rfl ?_ ?_;rotate_left
  ·intro w h;go_simp;try rfl
  simp only [pU]
  refine' tj 7 14 rfl ?_ ?_;rotate_left
  ·intro w h;go_simp;try rfl
  simp only [pU]
  refine rd 8 rfl (fun KK hKK => ?_)
  go_simp
  have hgo:=bA
  refine (GN.out _ hgo).mono ?_
  rintro e wz1_1 ⟨rfl, bb⟩
  have bz1 : Below w.heap.size w wz1_1:=bu bA bb
  clear bA hgo bb
  clear hHeld
  refine hKK.out _ _ (K.out _ bz1) (fun hHeld => ?_)
  clear hKK KK
  refine' tj 9 6 rfl ?_ ?_;rotate_left
  ·intro w h;go_simp;try rfl
  simp only [pU]
  refine' tj 10 16 rfl ?_ ?_;rotate_left
  ·intro w h;go_simp;try rfl
  simp only [pU]
  refine' tj 11 17 rfl ?_ ?_;rotate_left
  ·intro w h;go_simp;try rfl
  simp only [pU]
  refine' tj 12 18 rfl ?_ ?_;rotate_left
  ·intro w h;go_simp;try rfl
  simp only [pU]
  refine' tj 13 3 rfl ?_ ?_;rotate_left
  ·intro w h;go_simp;try rfl
  simp only [pU]
  refine' tj 14 4 rfl ?_ ?_;rotate_left
  ·intro w h;go_simp;try rfl
  simp only [pU]
  refine' tj 15 5 rfl ?_ ?_;rotate_left
  ·intro w h;go_simp;try rfl
  simp only [pU]
  clear hHeld
  refine wdn ?_
  have bb:=bz1
  have Bwz1_1:=bu Bw bb
  have swz1_1:=bb.size
  replace LG:=LG.up bb
  clear Bw
  clear bb bz1 K
  clear GN
  have GO:=hide (goOn_no g (.slice ao xs.length ca) fr p 0 (errV ok fr) wz1_1 LG)
  clear LG
  go_wp2_with fail
  refine GO.out.mono ?_
  rintro e w2 ⟨rfl, L2, K2⟩
  clear GO
  have K3:=(Below.kpOf Bwz1_1 (fun k => k = g)).trans K2
  go_wp2
  go_ret
  exact ⟨⟨#[]⟩, p, false, rfl, ⟨by simp, by simp⟩, Nat.zero_le _,.inl rfl, L2, K3⟩
 | some z =>
  obtain ⟨n, q⟩:=z
  have GN:=hide fun w' (b : Below w.heap.size w w') => getTextI_some (.slice ao xs.length ca) xs p n q u pv w' (hr.below (bu hB b)) hb (((bu hB b).cell (cell_lt he)).trans he) (hide hgn)
  have bd:=getText_bd xs hb p n q hgn
  have HL:=hide hl
  clear hr hE he hB
  have LG:=HL.out
  clear hl HL
  have Bw : Below w.heap.size w w:=Below.refl _ _
  go_enter Tryz.func249, Tryz.ntmps249
  have K : Hid (∀ w', Below w.heap.size w w' → (fun w' => Below w.heap.size w w' ∧ (w'.cell? ⟨g, 0, none⟩ = some (.slice ao xs.length ca) ∧ w'.cell? ⟨g, 1, none⟩ = some (.int .i64 fr) ∧ w'.cell? ⟨g, 2, none⟩ = some (.int .i64 p) ∧ w'.cell? ⟨g, 3, none⟩ = some (errV ok fr))) w'):=hide fun w' hb' => ⟨hb', ⟨(LG.up hb').cell 0 rfl, (LG.up hb').cell 1 rfl, (LG.up hb').cell 2 rfl, (LG.up hb').cell 3 rfl⟩⟩
  go_upto_region 1 with fail
  have bA : Below w.heap.size w w.drew:=Below.drew (Below.refl _ _)
  refine wrn K bA (fun hHeld => ?_)
  refine' tj 0 7 rfl ?_ ?_;rotate_left
  ·intro w h;go_simp;try rfl
  simp only [pU]
  refine' tj 4 11 rfl ?_ ?_;rotate_left
  ·intro w h;go_simp;try rfl
  simp only [pU]
  refine' tj 1 8 rfl ?_ ?_;rotate_left
  ·intro w h;go_simp;try rfl
  simp only [pU]
  refine' tj 5 12 rfl ?_ ?_;rotate_left
  ·intro w h;go_simp;try rfl
  simp only [pU]
  refine' tj 2 9 rfl ?_ ?_;rotate_left
  ·intro w h;go_simp;try rfl
  simp only [pU]
  refine' tj 6 13 rfl ?_ ?_;rotate_left
  ·intro w h;go_simp;try rfl
  simp only [pU]
  refine' tj 3 10 rfl ?_ ?_;rotate_left
  ·intro w h;go_simp;try rfl
  simp only [pU]
  refine' tj 7 14 rfl ?_ ?_;rotate_left
  ·intro w h;go_simp;try rfl
  simp only [pU]
  refine rd 8 rfl (fun KK hKK => ?_)
  go_simp
  have hgo:=bA
  refine (GN.out _ hgo).mono ?_
  rintro e wz1_1 ⟨rfl, bb⟩
  have bz1 : Below w.heap.size w wz1_1:=bu bA bb
  clear bA hgo bb
  clear hHeld
  refine hKK.out _ _ (K.out _ bz1) (fun hHeld => ?_)
  clear hKK KK
  refine' tj 9 6 rfl ?_ ?_;rotate_left
  ·intro w h;go_simp;try rfl
  simp only [pU]
  refine' tj 10 16 rfl ?_ ?_;rotate_left
  ·intro w h;go_simp;try rfl
  simp only [pU]
  refine' tj 11 17 rfl ?_ ?_;rotate_left
  ·intro w h;go_simp;try rfl
  simp only [pU]
  refine' tj 12 18 rfl ?_ ?_;rotate_left
  ·intro w h;go_simp;try rfl
  simp only [pU]
  refine' tj 13 3 rfl ?_ ?_;rotate_left
  ·intro w h;go_simp;try rfl
  simp only [pU]
  refine' tj 14 4 rfl ?_ ?_;rotate_left
  ·intro w h;go_simp;try rfl
  simp only [pU]
  refine' tj 15 5 rfl ?_ ?_;rotate_left
  ·intro w h;go_simp;try rfl
  simp only [pU]
  clear hHeld
  refine wdn ?_
  have bb:=bz1
  have Bwz1_1:=bu Bw bb
  have swz1_1:=bb.size
  replace LG:=LG.up bb
  clear Bw
  clear bb bz1 K
  clear GN
  have GO:=hide (goOn_yes g (.slice ao xs.length ca) fr p q (errV ok fr) wz1_1 LG)
  clear LG
  go_wp2_with fail
  refine GO.out.mono ?_
  rintro e w2 ⟨rfl, L2, K2⟩
  clear GO
  have K3:=(Below.kpOf Bwz1_1 (fun k => k = g)).trans K2
  go_wp2
  go_ret
  exact ⟨n, q, ok, rfl, ⟨by simp, fun _ => rfl⟩, by omega, .inr (by omega), L2, K3⟩

theorem Kp.over {a b c : World} {X Y : Nat → Prop} (h : Kp a b X) (k : Kp b c Y) (hy : ∀ j, Y j → a.heap.size ≤ j ∨ X j) : Kp a c X :=
 ⟨k.os.trans h.os, k.tape.trans h.tape, k.output.trans h.output, Nat.le_trans h.size k.size, fun i hi hx => (k.block i (Nat.lt_of_lt_of_le hi h.size) (fun hj => by rcases hy i hj with h1 | h1 <;> first | omega | exact hx h1)).trans (h.block i hi hx)⟩
def lenV : Value → Nat
 | .slice _ n _ => n
 | _ => 0

def WhoInv (L : Int) (ok : Bool) (xs : List Int) (p : Int) (m : Int) (ys : List Int) (q : Int) (okc : Bool) : Prop :=
 (okc = false → (ok && (getWho L xs p).isSome) = false) ∧ (okc = true → ok = true ∧ (ys.length : Int) ≤ m ∧ m ≤ L ∧ getWho L xs p = (getN xs (m.toNat - ys.length) q).map fun z => (ys ++ z.1, z.2))
theorem who_start {L : Int} {ok : Bool} {xs : List Int} {p m q : Int} {ok1 : Bool} (h : Got ok (getNum xs p) ok1 m q) (hm : 0 ≤ m) : WhoInv L ok xs p m [] q (ok1 && decide (m ≤ L)) := by
 obtain ⟨h1, h2⟩:=h
 unfold WhoInv getWho
 constructor
 ·intro hf
  cases hg : getNum xs p with
  | none => simp
  | some z =>
   rw [hg] at h1 h2
   simp only [Option.isSome_some, Bool.and_true] at h1
   subst h1
   cases ok1 with
   | false => simp
   | true =>
    obtain rfl:=Option.some.inj (h2 rfl)
    simp only [Bool.true_and, decide_eq_false_iff_not] at hf
    simp [if_neg hf]
 ·intro ht
  simp only [Bool.and_eq_true, decide_eq_true_eq] at ht
  obtain ⟨rfl, hl⟩:=ht
  have e:=h2 rfl
  have hk : ok = true:=by
   cases ok with
   | true => rfl
   | false => simp at h1
  refine ⟨hk, by simpa using hm, hl, ?_⟩
  rw [e]
  simp only [if_pos hl, List.length_nil, Nat.sub_zero, List.nil_append]
  cases getN xs m.toNat q <;> rfl
theorem who_step {L : Int} {ok : Bool} {xs : List Int} {p m : Int} {ys : List Int} {q : Int} (h : WhoInv L ok xs p m ys q true) (hl : (ys.length : Int) < m) {x q2 : Int} {ok2 : Bool} (g : Got true (getNum xs q) ok2 x q2) : WhoInv L ok xs p m (ys ++ [x]) q2 ok2 := by
 obtain ⟨hk, h1, h2, h3⟩:=h.2 rfl
 obtain ⟨g1, g2⟩:=g
 rw [show m.toNat - ys.length = (m.toNat - (ys ++ [x]).length) + 1 from by simp; omega] at h3
 constructor
 ·intro hf
  rw [hf] at g1
  have hn : getNum xs q = none:=by
   cases hg : getNum xs q with
   | none => rfl
   | some z => rw [hg] at g1; simp at g1
  rw [getN_stop xs _ q hn] at h3
  rw [h3]; simp
 ·intro ht
  refine ⟨hk, by simp; omega, h2, ?_⟩
  rw [h3, getN_more xs _ q (g2 ht)]
  cases getN xs (m.toNat - (ys ++ [x]).length) q2 with
  | none => rfl
  | some z => simp
theorem who_end {L : Int} {ok : Bool} {xs : List Int} {p m : Int} {ys : List Int} {q : Int} {okc : Bool} (h : WhoInv L ok xs p m ys q okc) (hl : okc = false ∨ ¬ (ys.length : Int) < m) : Got ok (getWho L xs p) okc ys q := by
 cases okc with
 | false => exact ⟨(h.1 rfl).symm, by simp⟩
 | true =>
  obtain ⟨hk, h1, h2, h3⟩:=h.2 rfl
  have hn : ¬ (ys.length : Int) < m:=by rcases hl with h | h; cases h; exact h
  rw [show m.toNat - ys.length = 0 from by omega] at h3
  simp only [getN, Option.map_some, List.append_nil] at h3
  exact ⟨by rw [h3, hk]; rfl, fun _ => h3⟩
def thenG {α β γ : Type} (r : Option (α × Int)) (f : α → Int → Option (β × Int)) (c : α → β → γ) : Option (γ × Int) := match r with
 | none => none
 | some z => match f z.1 z.2 with
  | none => none
  | some t => some (c z.1 t.1, t.2)
theorem got_bind {α β γ : Type} {ok ok1 ok2 : Bool} {r : Option (α × Int)} {x : α} {q : Int} {f : α → Int → Option (β × Int)} {y : β} {q2 : Int} (c : α → β → γ) (h : Got ok r ok1 x q) (k : Got ok1 (f x q) ok2 y q2) :
 Got ok (thenG r f c) ok2 (c x y) q2 := by
 obtain ⟨h1, h2⟩:=h
 obtain ⟨k1, k2⟩:=k
 cases r with
 | none =>
  simp only [Option.isSome_none, Bool.and_false] at h1
  subst h1
  simp only [Bool.false_and] at k1
  subst k1
  exact ⟨by simp [thenG], by simp⟩
 | some z =>
  simp only [Option.isSome_some, Bool.and_true] at h1
  subst h1
  cases ok1 with
  | false =>
   simp only [Bool.false_and] at k1
   subst k1
   exact ⟨by simp, by simp⟩
  | true =>
   obtain rfl:=Option.some.inj (h2 rfl)
   simp only [Bool.true_and] at k1
   subst k1
   unfold thenG
   simp only
   generalize f x q = r2 at *
   cases r2 with
   | none => exact ⟨rfl, fun h => by cases h⟩
   | some t =>
    obtain rfl:=Option.some.inj (k2 rfl)
    exact ⟨rfl, fun _ => rfl⟩
theorem getQc_then (L : Int) (xs : List Int) (p : Int) : getQc L xs p = thenG (getNum xs p) (fun _ q => thenG (getText xs q) (fun _ q => getWho L xs q) Prod.mk) Prod.mk := by
 unfold getQc thenG
 cases getNum xs p with
 | none => rfl
 | some z =>
  simp only
  cases getText xs z.2 with
  | none => rfl
  | some t =>
   simp only
   cases getWho L xs t.2 <;> rfl
theorem getSafe_then (L : Int) (xs : List Int) (p : Int) : getSafe L xs p = thenG (getNum xs p) (fun _ q => thenG (getNum xs q) (fun _ q => thenG (getQc L xs q) (fun _ q => getText xs q) Prod.mk) Prod.mk) Prod.mk := by
 unfold getSafe thenG
 cases getNum xs p with
 | none => rfl
 | some z =>
  simp only
  cases getNum xs z.2 with
  | none => rfl
  | some t =>
   simp only
   cases getQc L xs t.2 with
   | none => rfl
   | some u =>
    simp only
    cases getText xs u.2 <;> rfl
theorem got_qc {L : Int} {ok : Bool} {xs : List Int} {p : Int} {ok1 ok2 ok3 : Bool} {v q1 : Int} {s : ByteArray} {q2 : Int} {ys : List Int} {q3 : Int} (h1 : Got ok (getNum xs p) ok1 v q1) (h2 : Got ok1 (getText xs q1) ok2 s q2) (h3 : Got ok2 (getWho L xs q2) ok3 ys q3) : Got ok (getQc L xs p) ok3 (v, s, ys) q3 := by
 rw [getQc_then]
 exact got_bind Prod.mk h1 (got_bind (f := fun _ q => getWho L xs q) Prod.mk h2 h3)
theorem got_safe {L : Int} {ok : Bool} {xs : List Int} {p : Int} {ok1 ok2 ok3 ok4 : Bool} {vo q1 lo q2 : Int} {c : QcT} {q3 : Int} {d : ByteArray} {q4 : Int} (h1 : Got ok (getNum xs p) ok1 vo q1) (h2 : Got ok1 (getNum xs q1) ok2 lo q2) (h3 : Got ok2 (getQc L xs q2) ok3 c q3) (h4 : Got ok3 (getText xs q3) ok4 d q4) : Got ok (getSafe L xs p) ok4 (vo, lo, c, d) q4 := by
 rw [getSafe_then]
 exact got_bind Prod.mk h1 (got_bind Prod.mk h2 (got_bind (f := fun _ q => getText xs q) Prod.mk h3 h4))
end Go.Proofs.YtndpjhiidmdlhaaGreatDoor
namespace Go.Proofs.YtndpjhiidmdlhaaGreatDoor
open Go.RowKit

theorem OI.more {B : Nat} {w1 : World} {v' : Value} {xs : List Int} {c : Int} (ho' : w1.ownsRow B 3 1 v' (xs.length + 1) (xs.map (Value.int .i64) ++ [.int .i64 c])) : OI w1 B v' (xs ++ [c]) := by
 unfold OI
 rw [List.length_append, List.map_append]
 exact ho'
end Go.Proofs.YtndpjhiidmdlhaaGreatDoor
namespace Go.Proofs.YtndpjhiidmdlhaaGreatDoor
open Go.RowKit
set_option linter.unusedSectionVars false
variable [∀ (a b c d : Int), Decidable (Ok4 a b c d)]
variable [∀ (a b c d : Nat), Decidable (okN a b c d)]
variable [∀ (last : Int) (s : St), Decidable (GoodSt last s)]
variable [∀ (x : T4), Decidable (OkT x)]
variable [∀ (n : Int) (s : List Int), Decidable (OkL n s)]
variable [∀ (n f : Int), Decidable (COk n f)]

def WhoEnd (g : Nat) (ao : Option Addr) (ca : Nat) (xs : List Int) (fr p : Int) (ok : Bool) (w : World) (e : Ending) (w' : World) : Prop :=
 ∃ (u : Value) (ys : List Int) (q : Int) (ok' : Bool), e = .returned u ∧ Got ok (getWho 7 xs p) ok' ys q ∧ ys.length ≤ 7 ∧ Stays xs p q ∧ Loc w' g #[.slice ao xs.length ca,.int .i64 fr,.int .i64 q, errV ok' fr] ∧ OI w' w.heap.size u ys ∧ Kp w w' (fun k => k = g)

theorem rwho_any (W0 : World) (g : Nat) (ao : Option Addr) (ca : Nat) (xs : List Int) (fr p : Int) (ok : Bool) (w : World) (hr : RB W0 (.slice ao xs.length ca) xs) (hb : Bytes xs) (hE : Env W0) (h0 : W0.heap.size ≤ g) (hB : Below W0.heap.size W0 w) (hl : Loc w g #[.slice ao xs.length ca,.int .i64 fr,.int .i64 p, errV ok fr]) :
 Calls Tryz.prog 269 #[.pointer (some ⟨g, 0, none⟩)] w (WhoEnd g ao ca xs fr p ok w) := by
 obtain ⟨i0, hi, hz0, hz1, hz2⟩:=info_parts Tryz.info3
 have hgw:=hl.lt
 have NU:=hide fun (p : Int) (ok : Bool) (w' : World) (k : Kp w w' (fun k => k = g)) hl => rnum_any W0 g ao ca xs fr p ok w' hr hb hE (Below.kp hB k hB.size (fun j e => by omega)) hl
 have N0:=hide (NU.out p ok w (Kp.refl _ _) hl)
 clear hl hr hb hE h0 hB
 go_enter Tryz.func269, Tryz.ntmps269
 go_wp2_with fail
 refine N0.out.mono ?_
 rintro e w1 ⟨m, q1, ok1, rfl, G1, hm, S1, L1, K1⟩
 clear N0
 have IV:=hide (who_start (L:=7) G1 hm.1)
 obtain ⟨dm, hdm⟩ : ∃ b, decide (m ≤ 7) = b:=⟨_, rfl⟩
 rw [hdm] at IV
 clear G1
 go_wp2_with fail
 refine (must_any g _ fr q1 ok1 dm w1 L1).mono ?_
 rintro e w2 ⟨rfl, L2, K2⟩
 have K3:=K1.trans K2
 clear K1 K2 L1 hdm
 generalize (ok1 && dm) = ok2 at *
 go_wp2
 go_loopw [4] (fun v wr => ∃ (ys : List Int) (q : Int) (okc : Bool), OI wr w.heap.size v ys ∧ ys.length ≤ 7 ∧ Hid (WhoInv 7 ok xs p m ys q okc) ∧ Stays xs p q ∧ Loc wr g #[.slice ao xs.length ca,.int .i64 fr,.int .i64 q, errV okc fr] ∧ Kp w wr (fun k => k = g)) (fun v _ => 7 - lenV v)
 case atStart => exact ⟨[], q1, ok2, World.ownsRow_nil _ _ _ _, by simp, IV, S1, L2, K3⟩
 case round =>
  clear IV L2 K3 S1
  obtain ⟨ys, q, okc, ho, hl7, IV, S1, LG, KG⟩:=hrel
  have c3:=LG.cell 3 rfl
  obtain ⟨va, vc, rfl⟩:=ho.form
  have hlt:=World.ownsRow.lt ho
  have hsz:=KG.size
  cases okc with
  | false =>
   have c3' : wr.cell? ⟨g, 3, none⟩ = some (lackV fr):=c3
   have HF:=hide (who_end IV.out (.inl rfl))
   clear c3
   go_wp2
   go_ret
   exact ⟨_, ys, q, false, rfl, HF.out, hl7, S1, LG, ho, KG⟩
  | true =>
   have c3' : wr.cell? ⟨g, 3, none⟩ = some .nilIface:=c3
   clear c3
   by_cases hlm : (ys.length : Int) < m
   ·have hm7:=((IV.out.2 rfl).2.2.1 : m ≤ 7)
    have hd : decide ((ys.length : Int) < m) = true:=by simpa using hlm
    have NX:=hide (NU.out q true wr KG LG)
    have LG':=hide LG
    clear LG
    go_wp2_with fail
    refine NX.out.mono ?_
    rintro e w5 ⟨x, q2, ok5, rfl, G5, hx, S5, L5, K5⟩
    have o5:=ho.kp K5 (fun k hk e => by have:=hlt k hk; subst e; omega)
    have ST:=hide (who_step IV.out hlm G5)
    have z5:=K5.size
    clear NX c3' G5 LG'
    go_wp2_with (first
     | (at_builtin; refine wpList_append_own _ rfl _ _ 24 rfl w.heap.size 3 i0 (.int .i64 0) 1 8 Tryz.underlying24 hi hz0 hz1 hz2 rfl (by decide) (.slice va ys.length vc) _ _ rfl (World.ownsRow.alloc o5 _) ⟨w5.heap.size, 0, none⟩ 1 1 [.int .i64 x] rfl rfl (one_cell _ _ _) (one_plain _ _) (by unfold maxLen; omega) (by omega) (by simp; omega) ?_; intro v' w6 ho' hg' _
        have KA:=(kp_grown hg')))
    go_roundw
    case rel =>
     have K6 : Kp w w6 (fun k => k = g):=((KG.trans K5).trans (Below.kpOf (conf_below _ _) _)).over KA (fun j e => .inl (by have:=hlt j e; omega))
     have L6:=(L5.alloc (.cells #[.int .i64 x] 3)).kp KA (fun e => by have:=hlt g e; omega)
     have hl6 : (ys ++ [x]).length ≤ 7:=by rw [List.length_append]; simp only [List.length_cons, List.length_nil]; omega
     exact ⟨ys ++ [x], q2, ok5, OI.more ho', hl6, ST, S1.trans S5, L6, K6⟩
    case measure =>
     have hln:=(OI.more ho').form
     obtain ⟨a, b, rfl⟩:=hln
     simp [lenV]
     omega
   ·have hd : decide ((ys.length : Int) < m) = false:=by simpa using hlm
    have HF:=hide (who_end IV.out (.inr hlm))
    go_wp2
    go_ret
    exact ⟨_, ys, q, true, rfl, HF.out, hl7, S1, LG, ho, KG⟩

def QcEnd (g : Nat) (ao : Option Addr) (ca : Nat) (xs : List Int) (fr p : Int) (ok : Bool) (w : World) (e : Ending) (w' : World) : Prop :=
 ∃ (v : Int) (s : ByteArray) (ua : Option Addr) (uc : Nat) (ys : List Int) (q : Int) (ok' : Bool), e = .returned (qv v s (.slice ua ys.length uc)) ∧ Got ok (getQc 7 xs p) ok' (v, s, ys) q ∧ s.size ≤ xs.length ∧ ys.length ≤ 7 ∧ Stays xs p q ∧ Loc w' g #[.slice ao xs.length ca,.int .i64 fr,.int .i64 q, errV ok' fr] ∧ OI w' w.heap.size (.slice ua ys.length uc) ys ∧ Kp w w' (fun k => k = g)
def SafEnd (g : Nat) (ao : Option Addr) (ca : Nat) (xs : List Int) (fr p : Int) (ok : Bool) (w : World) (e : Ending) (w' : World) : Prop :=
 ∃ (vo lo v : Int) (s : ByteArray) (ua : Option Addr) (uc : Nat) (ys : List Int) (d : ByteArray) (q : Int) (ok' : Bool), e = .returned (sv vo lo v s (.slice ua ys.length uc) d) ∧ Got ok (getSafe 7 xs p) ok' (vo, lo, (v, s, ys), d) q ∧ (s.size ≤ xs.length ∧ d.size ≤ xs.length) ∧ ys.length ≤ 7 ∧ Stays xs p q ∧ Loc w' g #[.slice ao xs.length ca,.int .i64 fr,.int .i64 q, errV ok' fr] ∧ OI w' w.heap.size (.slice ua ys.length uc) ys ∧ Kp w w' (fun k => k = g)

theorem rqc_any (W0 : World) (g : Nat) (ao : Option Addr) (ca : Nat) (xs : List Int) (fr p : Int) (ok : Bool) (w : World) (hr : RB W0 (.slice ao xs.length ca) xs) (hb : Bytes xs) (hE : Env W0) (h0 : W0.heap.size ≤ g) (hB : Below W0.heap.size W0 w) (hl : Loc w g #[.slice ao xs.length ca,.int .i64 fr,.int .i64 p, errV ok fr]) :
 Calls Tryz.prog 248 #[.pointer (some ⟨g, 0, none⟩)] w (QcEnd g ao ca xs fr p ok w) := by
 have hgw:=hl.lt
 obtain ⟨w0, hw0⟩ : ∃ y, w.alloc (.cells #[.int .i64 0,.string ⟨#[]⟩,.slice none 0 0] 41) = y:=⟨_, rfl⟩
 have B0 : Below w.heap.size w w0:=hw0 ▸ conf_below _ _
 have LZ : Loc w0 w.heap.size #[.int .i64 0,.string ⟨#[]⟩,.slice none 0 0]:=hw0 ▸ loc_at w _ _ rfl
 have K0 : Kp w w0 (fun k => k = g):=Below.kpOf B0 _
 have z0 : w.heap.size + 1 ≤ w0.heap.size:=by rw [← hw0]; simp
 have NU:=hide fun (p : Int) (ok : Bool) (w' : World) (k : Kp w w' (fun k => k = g)) hl => rnum_any W0 g ao ca xs fr p ok w' hr hb hE (Below.kp hB k hB.size (fun j e => by omega)) hl
 have TE:=hide fun (p : Int) (ok : Bool) (w' : World) (k : Kp w w' (fun k => k = g)) hl => rtext_any W0 g ao ca xs fr p ok w' hr hb hE (Below.kp hB k hB.size (fun j e => by omega)) hl
 have WH:=hide fun (p : Int) (ok : Bool) (w' : World) (k : Kp w w' (fun k => k = g)) hl => rwho_any W0 g ao ca xs fr p ok w' hr hb hE h0 (Below.kp hB k hB.size (fun j e => by omega)) hl
 have N0:=hide (NU.out p ok w0 K0 (hl.below B0 hgw))
 clear hl hr hb hE h0 hB B0 NU
 go_enter Tryz.func248, Tryz.ntmps248
 go_wp2_with fail
 clear hw0
 refine N0.out.mono ?_
 rintro e w1 ⟨v, q1, ok1, rfl, G1, hv, S1, L1, K1⟩
 have T1:=hide (TE.out q1 ok1 w1 (K0.trans K1) L1)
 replace LZ:=LZ.kp K1 (by omega)
 replace K1:=K0.trans K1
 clear N0 K0 TE L1
 go_wp2_with fail
 refine T1.out.mono ?_
 rintro e w2 ⟨s, q2, ok2, rfl, G2, hs, S2, L2, K2⟩
 have W2:=hide (WH.out q2 ok2 w2 (K1.trans K2) L2)
 replace LZ:=LZ.kp K2 (by omega)
 have z2:=LZ.lt
 replace K2:=K1.trans K2
 clear T1 K1 WH L2
 go_wp2_with fail
 refine W2.out.mono ?_
 rintro e w3 ⟨u, ys, q3, ok3, rfl, G3, h7, S3, L3, o3, K3⟩
 replace LZ:=LZ.kp K3 (by omega)
 have z3:=K3.size
 replace K3:=K2.trans K3
 have lt3:=World.ownsRow.lt o3
 obtain ⟨ua, uc, rfl⟩:=o3.form
 have HG:=hide (got_qc G1 G2 G3)
 have O3:=hide o3
 have HL:=hide L3
 have HZ:=hide LZ
 have y0:=LZ.cell 0 rfl
 have y1:=LZ.cell 1 rfl
 have y2:=LZ.cell 2 rfl
 have fy:=LZ.frozen
 have SS:=hide ((S1.trans S2).trans S3)
 clear G1 G2 G3 o3 L3 LZ W2 K2 S1 S2 S3 hv
 go_wp2
 have K5 : Kp w3 (((w3.setCell ⟨w.heap.size, 0, none⟩ (.int .i64 v)).setCell ⟨w.heap.size, 1, none⟩ (.string s)).setCell ⟨w.heap.size, 2, none⟩ (.slice ua ys.length uc)) (fun k => k = w.heap.size):=((set_kp _ _ _ _).trans (set_kp _ _ _ _)).trans (set_kp _ _ _ _)
 refine bodyPost_ret (v := qv v s (.slice ua ys.length uc)) (by simp [results, Tryz.results248, go_sem, y0, y1, y2]) rfl ?_
 exact ⟨v, s, ua, uc, ys, q3, ok3, rfl, HG.out, hs, h7, SS.out, HL.out.kp K5 (by omega), (O3.out.kp K5 (fun k hk e => by have := lt3 k hk; omega)).mono (by omega), K3.over K5 (fun j e => .inl (by omega))⟩

theorem rsafe_any (W0 : World) (g : Nat) (ao : Option Addr) (ca : Nat) (xs : List Int) (fr p : Int) (ok : Bool) (w : World) (hr : RB W0 (.slice ao xs.length ca) xs) (hb : Bytes xs) (hE : Env W0) (h0 : W0.heap.size ≤ g) (hB : Below W0.heap.size W0 w) (hl : Loc w g #[.slice ao xs.length ca,.int .i64 fr,.int .i64 p, errV ok fr]) :
 Calls Tryz.prog 222 #[.pointer (some ⟨g, 0, none⟩)] w (SafEnd g ao ca xs fr p ok w) := by
 have hgw:=hl.lt
 obtain ⟨w0, hw0⟩ : ∃ y, w.alloc (.cells #[.int .i64 0,.int .i64 0,.int .i64 0,.string ⟨#[]⟩,.slice none 0 0,.string ⟨#[]⟩] 43) = y:=⟨_, rfl⟩
 have B0 : Below w.heap.size w w0:=hw0 ▸ conf_below _ _
 have LZ : Loc w0 w.heap.size #[.int .i64 0,.int .i64 0,.int .i64 0,.string ⟨#[]⟩,.slice none 0 0,.string ⟨#[]⟩]:=hw0 ▸ loc_at w _ _ rfl
 have K0 : Kp w w0 (fun k => k = g):=Below.kpOf B0 _
 have z0 : w.heap.size + 1 ≤ w0.heap.size:=by rw [← hw0]; simp
 have NU:=hide fun (p : Int) (ok : Bool) (w' : World) (k : Kp w w' (fun k => k = g)) hl => rnum_any W0 g ao ca xs fr p ok w' hr hb hE (Below.kp hB k hB.size (fun j e => by omega)) hl
 have TE:=hide fun (p : Int) (ok : Bool) (w' : World) (k : Kp w w' (fun k => k = g)) hl => rtext_any W0 g ao ca xs fr p ok w' hr hb hE (Below.kp hB k hB.size (fun j e => by omega)) hl
 have QC:=hide fun (p : Int) (ok : Bool) (w' : World) (k : Kp w w' (fun k => k = g)) hl => rqc_any W0 g ao ca xs fr p ok w' hr hb hE h0 (Below.kp hB k hB.size (fun j e => by omega)) hl
 have N0:=hide (NU.out p ok w0 K0 (hl.below B0 hgw))
 clear hl hr hb hE h0 hB B0
 go_enter Tryz.func222, Tryz.ntmps222
 go_wp2_with fail
 clear hw0
 refine N0.out.mono ?_
 rintro e w1 ⟨vo, q1, ok1, rfl, G1, hv, S1, L1, K1⟩
 have N1:=hide (NU.out q1 ok1 w1 (K0.trans K1) L1)
 replace LZ:=LZ.kp K1 (by omega)
 replace K1:=K0.trans K1
 clear N0 K0 L1 hv NU
 go_wp2_with fail
 refine N1.out.mono ?_
 rintro e w2 ⟨lo, q2, ok2, rfl, G2, hv, S2, L2, K2⟩
 have Q2:=hide (QC.out q2 ok2 w2 (K1.trans K2) L2)
 replace LZ:=LZ.kp K2 (by omega)
 replace K2:=K1.trans K2
 have z2:=LZ.lt
 clear N1 K1 L2 hv QC
 go_wp2_with fail
 refine Q2.out.mono ?_
 rintro e w3 ⟨v, s, ua, uc, ys, q3, ok3, rfl, G3, hs, h7, S3, L3, o3, K3⟩
 have T3:=hide (TE.out q3 ok3 w3 (K2.trans K3) L3)
 replace LZ:=LZ.kp K3 (by omega)
 replace K3:=K2.trans K3
 have lt3:=World.ownsRow.lt o3
 have z3:=K3.size
 have O3:=hide o3
 clear Q2 K2 L3 TE o3
 go_wp2_with fail
 refine T3.out.mono ?_
 rintro e w4 ⟨d, q4, ok4, rfl, G4, hd, S4, L4, K4⟩
 replace LZ:=LZ.kp K4 (by omega)
 replace O3:=hide (O3.out.kp K4 (fun k hk e => by have:=lt3 k hk; omega))
 have z4:=K4.size
 replace K4:=K3.trans K4
 have HG:=hide (got_safe G1 G2 G3 G4)
 have HL:=hide L4
 have y0:=LZ.cell 0 rfl
 have y1:=LZ.cell 1 rfl
 have y2:=LZ.cell 2 rfl
 have y3:=LZ.cell 3 rfl
 have y4:=LZ.cell 4 rfl
 have y5:=LZ.cell 5 rfl
 have fy:=LZ.frozen
 have SS:=hide (((S1.trans S2).trans S3).trans S4)
 have K6:=kp6 w4 w.heap.size (.int .i64 vo) (.int .i64 lo) (.int .i64 v) (.string s) (.slice ua ys.length uc) (.string d)
 clear G1 G2 G3 G4 L4 LZ T3 K3 S1 S2 S3 S4
 go_wp2
 refine bodyPost_ret (v := sv vo lo v s (.slice ua ys.length uc) d) (by simp [results, Tryz.results222, go_sem, y0, y1, y2, y3, y4, y5]) rfl ?_
 exact ⟨vo, lo, v, s, ua, uc, ys, d, q4, ok4, rfl, HG.out, ⟨hs, hd⟩, h7, SS.out, HL.out.kp K6 (by omega), (O3.out.kp K6 (fun k hk e => by have := lt3 k hk; omega)).mono (by omega), K4.over K6 (fun j e => .inl (by omega))⟩
end Go.Proofs.YtndpjhiidmdlhaaGreatDoor
namespace Go.Proofs.YtndpjhiidmdlhaaGreatDoor
set_option linter.unusedSectionVars false
variable [∀ (a b c d : Int), Decidable (Ok4 a b c d)]
variable [∀ (a b c d : Nat), Decidable (okN a b c d)]
variable [∀ (last : Int) (s : St), Decidable (GoodSt last s)]
variable [∀ (x : T4), Decidable (OkT x)]
variable [∀ (n : Int) (s : List Int), Decidable (OkL n s)]
variable [∀ (n f : Int), Decidable (COk n f)]

def noteT (t : SafT) : List Int := putAns (rawT t).length ++ rawT t ++ [10]
def noteP (n f : Int) (xs : List Int) (p : Int) : Option (SafT × Int) := match getNum xs p with
 | none => none
 | some x => match getSafe 7 xs x.2 with
  | none => none
  | some y => if (sokT n f y.1 && (y.2 - x.2 == x.1)) = true then (match getNum xs y.2 with
   | none => none
   | some z => if z.1 = 10 then some (y.1, z.2) else none) else none
def noteS (n f : Int) (xs : List Int) (p : Int) : Option (SafT × Int) := match getNum xs p with
 | none => none
 | some x => if x.1 < (xs.length : Int) - x.2 ∧ xs.getD (x.2 + x.1).toNat 0 = 10 then (match safOfA 7 n f ((xs.drop x.2.toNat).take x.1.toNat) with
  | none => none
  | some t => some (t, x.2 + x.1 + 1)) else none
theorem put_ten : putAns 10 = [10] := by decide
theorem noteP_iff {xs : List Int} (hb : BytesL xs) (n f p : Int) (t : SafT) (q : Int) : noteP n f xs p = some (t, q) ↔ sokT n f t = true ∧ StandsAt xs p (noteT t) q := by
 unfold noteT
 rw [stands_app]
 constructor
 ·intro h
  unfold noteP at h
  cases hg : getNum xs p with
  | none => rw [hg] at h; cases h
  | some x =>
   rw [hg] at h
   obtain ⟨m, r⟩:=x
   simp only at h
   obtain ⟨hm, hs⟩:=(getNum_iff hb p m r).1 hg
   cases hg1 : getSafe 7 xs r with
   | none => rw [hg1] at h; cases h
   | some y =>
    rw [hg1] at h
    obtain ⟨u, r1⟩:=y
    simp only at h
    by_cases hq : (sokT n f u && (r1 - r == m)) = true
    ·rw [if_pos hq] at h
     simp only [Bool.and_eq_true, beq_iff_eq] at hq
     have hs1:=(getSafe_sok hb 7 (by omega) (by omega) n f r u r1 hq.1).1 hg1
     have hle:=stands_le hs1
     cases hg2 : getNum xs r1 with
     | none => rw [hg2] at h; cases h
     | some z =>
      rw [hg2] at h
      obtain ⟨c, r2⟩:=z
      simp only at h
      by_cases hc : c = 10
      ·rw [if_pos hc] at h
       simp only [Option.some.injEq, Prod.mk.injEq] at h
       obtain ⟨rfl, rfl⟩:=h
       subst hc
       have hs2:=((getNum_iff hb r1 10 r2).1 hg2).2
       rw [put_ten] at hs2
       refine ⟨hq.1, r1, stands_app.2 ⟨r, ?_, hs1⟩, hs2⟩
       rw [show ((rawT u).length : Int) = m from by omega]; exact hs
      ·rw [if_neg hc] at h; cases h
    ·rw [if_neg hq] at h; cases h
 ·rintro ⟨ht, r1, h01, hs2⟩
  obtain ⟨r, hs, hs1⟩:=stands_app.1 h01
  have hl:=rawT_len ht
  have hle:=stands_le hs1
  unfold noteP
  rw [(getNum_iff hb p _ r).2 ⟨⟨by omega, by omega⟩, hs⟩]
  simp only
  rw [(getSafe_sok hb 7 (by omega) (by omega) n f r t r1 ht).2 hs1]
  simp only
  rw [if_pos (by simp [ht]; omega), (getNum_iff hb r1 10 q).2 ⟨⟨by omega, by omega⟩, by rw [put_ten]; exact hs2⟩]
  simp
theorem BytesL.piece {xs : List Int} (hb : BytesL xs) (k m : Nat) : BytesL ((xs.drop k).take m) := fun y hy => hb y (List.mem_of_mem_drop (List.mem_of_mem_take hy))
theorem noteS_iff {xs : List Int} (hb : BytesL xs) (n f p : Int) (t : SafT) (q : Int) : noteS n f xs p = some (t, q) ↔ sokT n f t = true ∧ StandsAt xs p (noteT t) q := by
 unfold noteT
 rw [stands_app]
 constructor
 ·intro h
  unfold noteS at h
  cases hg : getNum xs p with
  | none => rw [hg] at h; cases h
  | some x =>
   rw [hg] at h
   obtain ⟨m, r⟩:=x
   simp only at h
   obtain ⟨hm, hs⟩:=(getNum_iff hb p m r).1 hg
   have hle:=stands_le hs
   by_cases hc : m < (xs.length : Int) - r ∧ xs.getD (r + m).toNat 0 = 10
   ·rw [if_pos hc] at h
    obtain ⟨m, rfl⟩:=Int.eq_ofNat_of_zero_le hm.1
    obtain ⟨r, rfl⟩:=Int.eq_ofNat_of_zero_le (show 0 ≤ r by omega)
    rw [Int.toNat_natCast, Int.toNat_natCast] at h
    cases hg2 : safOfA 7 n f ((xs.drop r).take m) with
    | none => rw [hg2] at h; cases h
    | some u =>
     rw [hg2] at h
     simp only [Option.some.injEq, Prod.mk.injEq] at h
     obtain ⟨rfl, rfl⟩:=h
     obtain ⟨h1, h2⟩:=(safOf_iff (hb.piece r m) 7 (by omega) (by omega) n f u).1 hg2
     have hl : (rawT u).length = m:=by rw [← h2]; exact win_len xs r m (by omega)
     refine ⟨h1, (r : Int) + m, stands_app.2 ⟨r, ?_, stands_mk (by omega) h2⟩, ?_⟩
     ·rw [hl]; exact hs
     ·have hk : r + m < xs.length:=by omega
      have:=stands_one (c:=10) hk (by rw [← hc.2]; congr 1)
      rwa [Int.natCast_add] at this
   ·rw [if_neg hc] at h; cases h
 ·rintro ⟨ht, r1, h01, hs2⟩
  obtain ⟨r, hs, hs1⟩:=stands_app.1 h01
  have hl:=rawT_len ht
  have hle:=stands_le hs1
  have hle2:=stands_le hs2
  simp only [List.length_cons, List.length_nil] at hle2
  obtain ⟨k, rfl, hk1, hk2, hk3⟩:=stands_cut hs1
  obtain ⟨j, rfl, hj1, hj2, hj3⟩:=stands_cut hs2
  have hj : j = k + (rawT t).length:=by omega
  have hg : xs.getD j 0 = 10:=by
   have hlt : j < xs.length:=by simp at hj2; omega
   rw [List.length_singleton, List.drop_eq_getElem_cons hlt, List.take_succ_cons, List.take_zero] at hj3
   rw [List.getD_eq_getElem?_getD, List.getElem?_eq_getElem hlt]
   simpa using hj3
  unfold noteS
  rw [(getNum_iff hb p _ k).2 ⟨⟨by omega, by omega⟩, hs⟩]
  simp only
  rw [if_pos ⟨by simp at hj2; omega, by rw [← hg]; congr 1; omega⟩, Int.toNat_natCast, Int.toNat_natCast, hk3, (safOf_iff (by rw [← hk3]; exact hb.piece _ _) 7 (by omega) (by omega) n f t).2 ⟨ht, rfl⟩]
  simp only [Option.some.injEq, Prod.mk.injEq, true_and]
  simp at hj1
  omega
theorem note_eq {xs : List Int} (hb : BytesL xs) (n f p : Int) : noteS n f xs p = noteP n f xs p := by
 apply Option.ext
 rintro ⟨t, q⟩
 rw [noteS_iff hb, noteP_iff hb]
theorem noteT_pos {n f : Int} {t : SafT} (h : sokT n f t = true) : 2 ≤ (noteT t).length := by
 unfold noteT
 have:=rawT_pos h
 simp only [List.length_append, List.length_cons, List.length_nil]; omega
theorem noteP_step {xs : List Int} (hb : BytesL xs) {n f p : Int} {t : SafT} {q : Int} (h : noteP n f xs p = some (t, q)) : sokT n f t = true ∧ 0 ≤ p ∧ p < q ∧ q ≤ xs.length := by
 obtain ⟨h1, h2⟩:=(noteP_iff hb n f p t q).1 h
 have:=stands_le h2
 have:=noteT_pos h1
 exact ⟨h1, by omega, by omega, by omega⟩

def lastN (n f : Int) (xs : List Int) : Nat → Int → SafT → SafT × Int
 | 0, p, t => (t, p)
 | k + 1, p, t => match noteP n f xs p with
  | none => (t, p)
  | some x => lastN n f xs k x.2 x.1
def newT : SafT := (0, 0, (0, ⟨#[]⟩, []), ⟨#[]⟩)
def lastA (n f : Int) (xs : List Int) : SafT × Int := lastN n f xs (xs.length + 1) 0 newT
theorem lastN_none {n f : Int} {xs : List Int} {p : Int} (h : noteP n f xs p = none) (k : Nat) (t : SafT) : lastN n f xs k p t = (t, p) := by
 cases k with
 | zero => rfl
 | succ k => rw [lastN, h]
theorem lastN_some {n f : Int} {xs : List Int} {p : Int} {u : SafT} {q : Int} (h : noteP n f xs p = some (u, q)) (k : Nat) (t : SafT) : lastN n f xs (k + 1) p t = lastN n f xs k q u := by
 rw [lastN, h]
theorem lastN_end {xs : List Int} (hb : BytesL xs) (n f : Int) (k : Nat) (p : Int) (t : SafT) (h0 : 0 ≤ p) (h1 : p ≤ xs.length) (h : (xs.length : Int) < p + k) :
 0 ≤ (lastN n f xs k p t).2 ∧ p ≤ (lastN n f xs k p t).2 ∧ (lastN n f xs k p t).2 ≤ xs.length ∧ noteP n f xs (lastN n f xs k p t).2 = none ∧ ((lastN n f xs k p t).1 = t ∨ sokT n f (lastN n f xs k p t).1 = true) := by
 induction k generalizing p t with
 | zero => omega
 | succ k ih =>
  cases hg : noteP n f xs p with
  | none => rw [lastN_none hg]; exact ⟨h0, by simp, h1, hg, .inl rfl⟩
  | some x =>
   obtain ⟨u, q⟩:=x
   have st:=noteP_step hb hg
   rw [lastN_some hg]
   obtain ⟨a, b, c, d, e⟩:=ih q u (by omega) (by omega) (by omega)
   refine ⟨a, by omega, c, d, ?_⟩
   rcases e with e | e
   ·right; rw [e]; exact st.1
   ·exact .inr e
end Go.Proofs.YtndpjhiidmdlhaaGreatDoor
