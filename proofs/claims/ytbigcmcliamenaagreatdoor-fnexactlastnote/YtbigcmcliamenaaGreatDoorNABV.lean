/- NoteSpecR: the specification's reading: l12Num, l12Text, l12Who, l12Qc. -/
import Derived.Test.YtbigcmcliamenaaGreatDoorNABC
import Derived.Test.YtbigcmcliamenaaGreatDoorNABU
import Derived.Test.YtbigcmcliamenaaGreatDoorNAAF
import Derived.Deep.DeepCutAuto
import Derived.Laws.EntriesVeiled
namespace Go.Proofs.YtbigcmcliamenaaGreatDoor
open Go.RowKit
set_option linter.unusedSectionVars false
variable [∀ (a b c d : Int), Decidable (Ok4 a b c d)]
variable [∀ (a b c d : Nat), Decidable (okN a b c d)]
variable [∀ (last : Int) (s : St), Decidable (GoodSt last s)]
variable [∀ (x : T4), Decidable (OkT x)]
variable [∀ (n : Int) (s : List Int), Decidable (OkL n s)]
variable [∀ (n f : Int), Decidable (COk n f)]

theorem getNum_lt {xs : List Int} (hb : BytesL xs) {p m q : Int} (h : getNum xs p = some (m, q)) : p < q ∧ q ≤ xs.length := by
 obtain ⟨hm, hs⟩ := (getNum_iff hb p m q).1 h
 have := stands_le hs
 have := putAns_pos m hm.1 hm.2
 omega
theorem specGetB (v : Value) (xs : List Int) (p : Int) (w : World) (h : RB w v xs) (hb : Bytes xs) {n q : Int} {c : Bool} (hr : ans1 (getNum xs p) = n ∧ ans2 (getNum xs p) = q ∧ (getNum xs p).isSome = c) :
 Calls Tryz.prog 65 #[v, .int .i64 p] w fun e w' => e = .returned (.tuple #[.int .i64 n, .int .i64 q, .bool c]) ∧ Below w.heap.size w w' := by
 obtain ⟨rfl, rfl, rfl⟩ := hr
 refine (specGet_ans v xs p w h hb).mono ?_
 rintro e w' ⟨rfl, rfl⟩
 exact ⟨rfl, Below.refl _ _⟩
theorem specTextB (v : Value) (xs : List Int) (p : Int) (w : World) (h : RB w v xs) (hb : Bytes xs) {n : ByteArray} {q : Int} {c : Bool} (hr : tans1 (getText xs p) = n ∧ tans2 (getText xs p) = q ∧ (getText xs p).isSome = c) :
 Calls Tryz.prog 98 #[v, .int .i64 p] w fun e w' => e = .returned (.tuple #[.string n, .int .i64 q, .bool c]) ∧ Below w.heap.size w w' := by
 obtain ⟨rfl, rfl, rfl⟩ := hr
 refine (specText_any v xs p w h hb).mono ?_
 rintro e w' ⟨rfl, rfl⟩
 exact ⟨rfl, Below.refl _ _⟩

def SNumEnd (g : Nat) (ao : Option Addr) (ca : Nat) (xs : List Int) (p : Int) (ok : Bool) (w : World) (e : Ending) (w' : World) : Prop :=
 ∃ (x : Int) (q : Int) (ok' : Bool), e = .returned (.int .i64 x) ∧ Got ok (getNum xs p) ok' x q ∧ (0 ≤ x ∧ x ≤ 2147483647) ∧ Stays xs p q ∧ Hid (ok' = true → p < q ∧ q ≤ xs.length) ∧ Loc w' g #[.slice ao xs.length ca, .int .i64 q, .bool ok'] ∧ Kp w w' (fun k => k = g)
set_option maxHeartbeats 16000000 in
set_option maxRecDepth 100000 in
theorem sNum_any (W0 : World) (g : Nat) (ao : Option Addr) (ca : Nat) (xs : List Int) (p : Int) (ok : Bool) (w : World) (hr : RB W0 (.slice ao xs.length ca) xs) (hbl : BytesL xs) (hB : Below W0.heap.size W0 w) (hl : Loc w g #[.slice ao xs.length ca, .int .i64 p, .bool ok]) :
 Calls Tryz.prog 58 #[.pointer (some ⟨g, 0, none⟩)] w (SNumEnd g ao ca xs p ok w) := by
 have hb := hbl.get
 cases hgn : getNum xs p with
 | none =>
  have GN := hide fun w' (b : Below w.heap.size w w') => specGetB (.slice ao xs.length ca) xs p w' (hr.below (hB.trans (b.mono hB.size)) (Nat.le_refl _)) hb (n := 0) (q := 0) (c := false) (by rw [hgn]; exact ⟨rfl, rfl, rfl⟩)
  have LG := hl
  clear hr hB hl
  have Bw : Below w.heap.size w w := Below.refl _ _
  go_enter Tryz.func58, Tryz.ntmps58
  have K : Hid (∀ w', Below w.heap.size w w' → (fun w' => Below w.heap.size w w' ∧ (w'.cell? ⟨g, 0, none⟩ = some (.slice ao xs.length ca) ∧ w'.cell? ⟨g, 1, none⟩ = some (.int .i64 p) ∧ w'.cell? ⟨g, 2, none⟩ = some (.bool ok))) w') := hide fun w' hb' => ⟨hb', ⟨(LG.below hb' LG.lt).cell 0 rfl, (LG.below hb' LG.lt).cell 1 rfl, (LG.below hb' LG.lt).cell 2 rfl⟩⟩
  go_upto_region 1 with fail
  have bA : Below w.heap.size w w.drew := Below.drew (Below.refl _ _)
  refine wp_region_noPanic ?_
  refine wp_region_held_drew (S := fun w' => Below w.heap.size w w' ∧ (w'.cell? ⟨g, 0, none⟩ = some (.slice ao xs.length ca) ∧ w'.cell? ⟨g, 1, none⟩ = some (.int .i64 p) ∧ w'.cell? ⟨g, 2, none⟩ = some (.bool ok))) (by kernel_rfl) (unhide K _ bA) (fun hHeld => ?_)
  refine tk 0 7 (v := ?_) rfl (hy := .inl ⟨by rfl, ?_⟩) (h := ?_); rotate_left
  ·intro w hSw; (try dsimp only at hSw); go_simp; (try with_reducible rfl)
  simp only [pU]
  refine tk 4 11 (v := ?_) rfl (hy := .inl ⟨by rfl, ?_⟩) (h := ?_); rotate_left
  ·intro w hSw; (try dsimp only at hSw); go_simp; (try with_reducible rfl)
  simp only [pU]
  refine tk 1 8 (v := ?_) rfl (hy := .inl ⟨by rfl, ?_⟩) (h := ?_); rotate_left
  ·intro w hSw; (try dsimp only at hSw); go_simp; (try with_reducible rfl)
  simp only [pU]
  refine tk 5 12 (v := ?_) rfl (hy := .inl ⟨by rfl, ?_⟩) (h := ?_); rotate_left
  ·intro w hSw; (try dsimp only at hSw); go_simp; (try with_reducible rfl)
  simp only [pU]
  refine tk 2 9 (v := ?_) rfl (hy := .inl ⟨by rfl, ?_⟩) (h := ?_); rotate_left
  ·intro w hSw; (try dsimp only at hSw); go_simp; (try with_reducible rfl)
  simp only [pU]
  refine tk 6 13 (v := ?_) rfl (hy := .inl ⟨by rfl, ?_⟩) (h := ?_); rotate_left
  ·intro w hSw; (try dsimp only at hSw); go_simp; (try with_reducible rfl)
  simp only [pU]
  refine tk 3 10 (v := ?_) rfl (hy := .inl ⟨by rfl, ?_⟩) (h := ?_); rotate_left
  ·intro w hSw; (try dsimp only at hSw); go_simp; (try with_reducible rfl)
  simp only [pU]
  refine tk 7 14 (v := ?_) rfl (hy := .inl ⟨by rfl, ?_⟩) (h := ?_); rotate_left
  ·intro w hSw; (try dsimp only at hSw); go_simp; (try with_reducible rfl)
  simp only [pU]
  refine ready_at (i := 8) rfl (by kernel_rfl) (fun KK hKK => ?_)
  go_simp
  have hgo := bA
  refine (unhide GN _ hgo).mono ?_
  rintro e wz1_1 ⟨rfl, bb⟩
  have bz1 : Below w.heap.size w wz1_1 := bA.trans (bb.mono bA.size)
  clear bA hgo bb
  clear hHeld
  refine hKK.out _ _ (unhide K _ bz1) (fun hHeld => ?_)
  clear hKK KK
  refine tk 9 6 (v := ?_) rfl (hy := .inl ⟨by rfl, ?_⟩) (h := ?_); rotate_left
  ·intro w hSw; (try dsimp only at hSw); go_simp; (try with_reducible rfl)
  simp only [pU]
  refine tk 10 16 (v := ?_) rfl (hy := .inl ⟨by rfl, ?_⟩) (h := ?_); rotate_left
  ·intro w hSw; (try dsimp only at hSw); go_simp; (try with_reducible rfl)
  simp only [pU]
  refine tk 11 17 (v := ?_) rfl (hy := .inl ⟨by rfl, ?_⟩) (h := ?_); rotate_left
  ·intro w hSw; (try dsimp only at hSw); go_simp; (try with_reducible rfl)
  simp only [pU]
  refine tk 12 18 (v := ?_) rfl (hy := .inl ⟨by rfl, ?_⟩) (h := ?_); rotate_left
  ·intro w hSw; (try dsimp only at hSw); go_simp; (try with_reducible rfl)
  simp only [pU]
  refine tk 13 3 (v := ?_) rfl (hy := .inl ⟨by rfl, ?_⟩) (h := ?_); rotate_left
  ·intro w hSw; (try dsimp only at hSw); go_simp; (try with_reducible rfl)
  simp only [pU]
  refine tk 14 4 (v := ?_) rfl (hy := .inl ⟨by rfl, ?_⟩) (h := ?_); rotate_left
  ·intro w hSw; (try dsimp only at hSw); go_simp; (try with_reducible rfl)
  simp only [pU]
  refine tk 15 5 (v := ?_) rfl (hy := .inl ⟨by rfl, ?_⟩) (h := ?_); rotate_left
  ·intro w hSw; (try dsimp only at hSw); go_simp; (try with_reducible rfl)
  simp only [pU]
  clear hHeld
  refine wpAnyH_done (by kernel_rfl) ?_ _
  refine NoPanic.normal ?_
  have bb := bz1
  have Bwz1_1 := Bw.trans (bb.mono Bw.size)
  have swz1_1 := bb.size
  replace LG := LG.below bb LG.lt
  clear Bw
  clear bb bz1 K
  clear GN
  have KB := Below.kpOf Bwz1_1 (fun k => k = g)
  have c1 := LG.cell 1 rfl
  have c2 := LG.cell 2 rfl
  have f2 := LG.frozen
  have HL := hide LG
  clear LG
  go_wp2
  go_ret
  exact ⟨0, p, false, rfl, ⟨by simp [hgn], by simp⟩, by simp, .inl rfl, hide (by simp), (unhide HL).set 2 _ rfl, KB.trans (set_kp _ _ _ _)⟩
 | some z =>
  obtain ⟨n, q⟩ := z
  have GN := hide fun w' (b : Below w.heap.size w w') => specGetB (.slice ao xs.length ca) xs p w' (hr.below (hB.trans (b.mono hB.size)) (Nat.le_refl _)) hb (n := n) (q := q) (c := true) (by rw [hgn]; exact ⟨rfl, rfl, rfl⟩)
  have bd := getNum_bd xs hb p n q hgn
  have HQ := hide (getNum_lt hbl hgn)
  have LG := hl
  clear hr hB hl
  have Bw : Below w.heap.size w w := Below.refl _ _
  go_enter Tryz.func58, Tryz.ntmps58
  have K : Hid (∀ w', Below w.heap.size w w' → (fun w' => Below w.heap.size w w' ∧ (w'.cell? ⟨g, 0, none⟩ = some (.slice ao xs.length ca) ∧ w'.cell? ⟨g, 1, none⟩ = some (.int .i64 p) ∧ w'.cell? ⟨g, 2, none⟩ = some (.bool ok))) w') := hide fun w' hb' => ⟨hb', ⟨(LG.below hb' LG.lt).cell 0 rfl, (LG.below hb' LG.lt).cell 1 rfl, (LG.below hb' LG.lt).cell 2 rfl⟩⟩
  go_upto_region 1 with fail
  have bA : Below w.heap.size w w.drew := Below.drew (Below.refl _ _)
  refine wp_region_noPanic ?_
  refine wp_region_held_drew (S := fun w' => Below w.heap.size w w' ∧ (w'.cell? ⟨g, 0, none⟩ = some (.slice ao xs.length ca) ∧ w'.cell? ⟨g, 1, none⟩ = some (.int .i64 p) ∧ w'.cell? ⟨g, 2, none⟩ = some (.bool ok))) (by kernel_rfl) (unhide K _ bA) (fun hHeld => ?_)
  refine tk 0 7 (v := ?_) rfl (hy := .inl ⟨by rfl, ?_⟩) (h := ?_); rotate_left
  ·intro w hSw; (try dsimp only at hSw); go_simp; (try with_reducible rfl)
  simp only [pU]
  refine tk 4 11 (v := ?_) rfl (hy := .inl ⟨by rfl, ?_⟩) (h := ?_); rotate_left
  ·intro w hSw; (try dsimp only at hSw); go_simp; (try with_reducible rfl)
  simp only [pU]
  refine tk 1 8 (v := ?_) rfl (hy := .inl ⟨by rfl, ?_⟩) (h := ?_); rotate_left
  ·intro w hSw; (try dsimp only at hSw); go_simp; (try with_reducible rfl)
  simp only [pU]
  refine tk 5 12 (v := ?_) rfl (hy := .inl ⟨by rfl, ?_⟩) (h := ?_); rotate_left
  ·intro w hSw; (try dsimp only at hSw); go_simp; (try with_reducible rfl)
  simp only [pU]
  refine tk 2 9 (v := ?_) rfl (hy := .inl ⟨by rfl, ?_⟩) (h := ?_); rotate_left
  ·intro w hSw; (try dsimp only at hSw); go_simp; (try with_reducible rfl)
  simp only [pU]
  refine tk 6 13 (v := ?_) rfl (hy := .inl ⟨by rfl, ?_⟩) (h := ?_); rotate_left
  ·intro w hSw; (try dsimp only at hSw); go_simp; (try with_reducible rfl)
  simp only [pU]
  refine tk 3 10 (v := ?_) rfl (hy := .inl ⟨by rfl, ?_⟩) (h := ?_); rotate_left
  ·intro w hSw; (try dsimp only at hSw); go_simp; (try with_reducible rfl)
  simp only [pU]
  refine tk 7 14 (v := ?_) rfl (hy := .inl ⟨by rfl, ?_⟩) (h := ?_); rotate_left
  ·intro w hSw; (try dsimp only at hSw); go_simp; (try with_reducible rfl)
  simp only [pU]
  refine ready_at (i := 8) rfl (by kernel_rfl) (fun KK hKK => ?_)
  go_simp
  have hgo := bA
  refine (unhide GN _ hgo).mono ?_
  rintro e wz1_1 ⟨rfl, bb⟩
  have bz1 : Below w.heap.size w wz1_1 := bA.trans (bb.mono bA.size)
  clear bA hgo bb
  clear hHeld
  refine hKK.out _ _ (unhide K _ bz1) (fun hHeld => ?_)
  clear hKK KK
  refine tk 9 6 (v := ?_) rfl (hy := .inl ⟨by rfl, ?_⟩) (h := ?_); rotate_left
  ·intro w hSw; (try dsimp only at hSw); go_simp; (try with_reducible rfl)
  simp only [pU]
  refine tk 10 16 (v := ?_) rfl (hy := .inl ⟨by rfl, ?_⟩) (h := ?_); rotate_left
  ·intro w hSw; (try dsimp only at hSw); go_simp; (try with_reducible rfl)
  simp only [pU]
  refine tk 11 17 (v := ?_) rfl (hy := .inl ⟨by rfl, ?_⟩) (h := ?_); rotate_left
  ·intro w hSw; (try dsimp only at hSw); go_simp; (try with_reducible rfl)
  simp only [pU]
  refine tk 12 18 (v := ?_) rfl (hy := .inl ⟨by rfl, ?_⟩) (h := ?_); rotate_left
  ·intro w hSw; (try dsimp only at hSw); go_simp; (try with_reducible rfl)
  simp only [pU]
  refine tk 13 3 (v := ?_) rfl (hy := .inl ⟨by rfl, ?_⟩) (h := ?_); rotate_left
  ·intro w hSw; (try dsimp only at hSw); go_simp; (try with_reducible rfl)
  simp only [pU]
  refine tk 14 4 (v := ?_) rfl (hy := .inl ⟨by rfl, ?_⟩) (h := ?_); rotate_left
  ·intro w hSw; (try dsimp only at hSw); go_simp; (try with_reducible rfl)
  simp only [pU]
  refine tk 15 5 (v := ?_) rfl (hy := .inl ⟨by rfl, ?_⟩) (h := ?_); rotate_left
  ·intro w hSw; (try dsimp only at hSw); go_simp; (try with_reducible rfl)
  simp only [pU]
  clear hHeld
  refine wpAnyH_done (by kernel_rfl) ?_ _
  refine NoPanic.normal ?_
  have bb := bz1
  have Bwz1_1 := Bw.trans (bb.mono Bw.size)
  have swz1_1 := bb.size
  replace LG := LG.below bb LG.lt
  clear Bw
  clear bb bz1 K
  clear GN
  have KB := Below.kpOf Bwz1_1 (fun k => k = g)
  have c1 := LG.cell 1 rfl
  have c2 := LG.cell 2 rfl
  have f2 := LG.frozen
  have HL := hide LG
  clear LG
  cases ok with
  | false =>
   go_wp2
   go_ret
   exact ⟨0, p, false, rfl, ⟨by simp [hgn], by simp⟩, by simp, .inl rfl, hide (by simp), (unhide HL).set 2 _ rfl, KB.trans (set_kp _ _ _ _)⟩
  | true =>
   go_wp2
   go_ret
   exact ⟨n, q, true, rfl, ⟨by simp [hgn], fun _ => hgn⟩, by omega, .inr (by omega), hide fun _ => unhide HQ, (unhide HL).set 1 _ rfl, KB.trans (set_kp _ _ _ _)⟩

theorem getText_lt {xs : List Int} (hb : BytesL xs) {p : Int} {s : ByteArray} {q : Int} (h : getText xs p = some (s, q)) : p < q ∧ q ≤ xs.length := by
 obtain ⟨hm, hs⟩ := (getText_iff hb p s q).1 h
 have := stands_le hs
 rw [textAns_len] at this
 have := (put_len 4 s.size).2
 omega

def STextEnd (g : Nat) (ao : Option Addr) (ca : Nat) (xs : List Int) (p : Int) (ok : Bool) (w : World) (e : Ending) (w' : World) : Prop :=
 ∃ (x : ByteArray) (q : Int) (ok' : Bool), e = .returned (.string x) ∧ Got ok (getText xs p) ok' x q ∧ x.size ≤ xs.length ∧ Stays xs p q ∧ Hid (ok' = true → p < q ∧ q ≤ xs.length) ∧ Loc w' g #[.slice ao xs.length ca, .int .i64 q, .bool ok'] ∧ Kp w w' (fun k => k = g)
set_option maxHeartbeats 16000000 in
set_option maxRecDepth 100000 in
theorem sText_any (W0 : World) (g : Nat) (ao : Option Addr) (ca : Nat) (xs : List Int) (p : Int) (ok : Bool) (w : World) (hr : RB W0 (.slice ao xs.length ca) xs) (hbl : BytesL xs) (hB : Below W0.heap.size W0 w) (hl : Loc w g #[.slice ao xs.length ca, .int .i64 p, .bool ok]) :
 Calls Tryz.prog 60 #[.pointer (some ⟨g, 0, none⟩)] w (STextEnd g ao ca xs p ok w) := by
 have hb := hbl.get
 cases hgn : getText xs p with
 | none =>
  have GN := hide fun w' (b : Below w.heap.size w w') => specTextB (.slice ao xs.length ca) xs p w' (hr.below (hB.trans (b.mono hB.size)) (Nat.le_refl _)) hb (n := ⟨#[]⟩) (q := 0) (c := false) (by rw [hgn]; exact ⟨rfl, rfl, rfl⟩)
  have LG := hl
  clear hr hB hl
  have Bw : Below w.heap.size w w := Below.refl _ _
  go_enter Tryz.func60, Tryz.ntmps60
  have K : Hid (∀ w', Below w.heap.size w w' → (fun w' => Below w.heap.size w w' ∧ (w'.cell? ⟨g, 0, none⟩ = some (.slice ao xs.length ca) ∧ w'.cell? ⟨g, 1, none⟩ = some (.int .i64 p) ∧ w'.cell? ⟨g, 2, none⟩ = some (.bool ok))) w') := hide fun w' hb' => ⟨hb', ⟨(LG.below hb' LG.lt).cell 0 rfl, (LG.below hb' LG.lt).cell 1 rfl, (LG.below hb' LG.lt).cell 2 rfl⟩⟩
  go_upto_region 1 with fail
  have bA : Below w.heap.size w w.drew := Below.drew (Below.refl _ _)
  refine wp_region_noPanic ?_
  refine wp_region_held_drew (S := fun w' => Below w.heap.size w w' ∧ (w'.cell? ⟨g, 0, none⟩ = some (.slice ao xs.length ca) ∧ w'.cell? ⟨g, 1, none⟩ = some (.int .i64 p) ∧ w'.cell? ⟨g, 2, none⟩ = some (.bool ok))) (by kernel_rfl) (unhide K _ bA) (fun hHeld => ?_)
  refine tk 0 7 (v := ?_) rfl (hy := .inl ⟨by rfl, ?_⟩) (h := ?_); rotate_left
  ·intro w hSw; (try dsimp only at hSw); go_simp; (try with_reducible rfl)
  simp only [pU]
  refine tk 4 11 (v := ?_) rfl (hy := .inl ⟨by rfl, ?_⟩) (h := ?_); rotate_left
  ·intro w hSw; (try dsimp only at hSw); go_simp; (try with_reducible rfl)
  simp only [pU]
  refine tk 1 8 (v := ?_) rfl (hy := .inl ⟨by rfl, ?_⟩) (h := ?_); rotate_left
  ·intro w hSw; (try dsimp only at hSw); go_simp; (try with_reducible rfl)
  simp only [pU]
  refine tk 5 12 (v := ?_) rfl (hy := .inl ⟨by rfl, ?_⟩) (h := ?_); rotate_left
  ·intro w hSw; (try dsimp only at hSw); go_simp; (try with_reducible rfl)
  simp only [pU]
  refine tk 2 9 (v := ?_) rfl (hy := .inl ⟨by rfl, ?_⟩) (h := ?_); rotate_left
  ·intro w hSw; (try dsimp only at hSw); go_simp; (try with_reducible rfl)
  simp only [pU]
  refine tk 6 13 (v := ?_) rfl (hy := .inl ⟨by rfl, ?_⟩) (h := ?_); rotate_left
  ·intro w hSw; (try dsimp only at hSw); go_simp; (try with_reducible rfl)
  simp only [pU]
  refine tk 3 10 (v := ?_) rfl (hy := .inl ⟨by rfl, ?_⟩) (h := ?_); rotate_left
  ·intro w hSw; (try dsimp only at hSw); go_simp; (try with_reducible rfl)
  simp only [pU]
  refine tk 7 14 (v := ?_) rfl (hy := .inl ⟨by rfl, ?_⟩) (h := ?_); rotate_left
  ·intro w hSw; (try dsimp only at hSw); go_simp; (try with_reducible rfl)
  simp only [pU]
  refine ready_at (i := 8) rfl (by kernel_rfl) (fun KK hKK => ?_)
  go_simp
  have hgo := bA
  refine (unhide GN _ hgo).mono ?_
  rintro e wz1_1 ⟨rfl, bb⟩
  have bz1 : Below w.heap.size w wz1_1 := bA.trans (bb.mono bA.size)
  clear bA hgo bb
  clear hHeld
  refine hKK.out _ _ (unhide K _ bz1) (fun hHeld => ?_)
  clear hKK KK
  refine tk 9 6 (v := ?_) rfl (hy := .inl ⟨by rfl, ?_⟩) (h := ?_); rotate_left
  ·intro w hSw; (try dsimp only at hSw); go_simp; (try with_reducible rfl)
  simp only [pU]
  refine tk 10 16 (v := ?_) rfl (hy := .inl ⟨by rfl, ?_⟩) (h := ?_); rotate_left
  ·intro w hSw; (try dsimp only at hSw); go_simp; (try with_reducible rfl)
  simp only [pU]
  refine tk 11 17 (v := ?_) rfl (hy := .inl ⟨by rfl, ?_⟩) (h := ?_); rotate_left
  ·intro w hSw; (try dsimp only at hSw); go_simp; (try with_reducible rfl)
  simp only [pU]
  refine tk 12 18 (v := ?_) rfl (hy := .inl ⟨by rfl, ?_⟩) (h := ?_); rotate_left
  ·intro w hSw; (try dsimp only at hSw); go_simp; (try with_reducible rfl)
  simp only [pU]
  refine tk 13 3 (v := ?_) rfl (hy := .inl ⟨by rfl, ?_⟩) (h := ?_); rotate_left
  ·intro w hSw; (try dsimp only at hSw); go_simp; (try with_reducible rfl)
  simp only [pU]
  refine tk 14 4 (v := ?_) rfl (hy := .inl ⟨by rfl, ?_⟩) (h := ?_); rotate_left
  ·intro w hSw; (try dsimp only at hSw); go_simp; (try with_reducible rfl)
  simp only [pU]
  refine tk 15 5 (v := ?_) rfl (hy := .inl ⟨by rfl, ?_⟩) (h := ?_); rotate_left
  ·intro w hSw; (try dsimp only at hSw); go_simp; (try with_reducible rfl)
  simp only [pU]
  clear hHeld
  refine wpAnyH_done (by kernel_rfl) ?_ _
  refine NoPanic.normal ?_
  have bb := bz1
  have Bwz1_1 := Bw.trans (bb.mono Bw.size)
  have swz1_1 := bb.size
  replace LG := LG.below bb LG.lt
  clear Bw
  clear bb bz1 K
  clear GN
  have KB := Below.kpOf Bwz1_1 (fun k => k = g)
  have c1 := LG.cell 1 rfl
  have c2 := LG.cell 2 rfl
  have f2 := LG.frozen
  have HL := hide LG
  clear LG
  go_wp2
  go_ret
  exact ⟨⟨#[]⟩, p, false, rfl, ⟨by simp [hgn], by simp⟩, Nat.zero_le _, .inl rfl, hide (by simp), (unhide HL).set 2 _ rfl, KB.trans (set_kp _ _ _ _)⟩
 | some z =>
  obtain ⟨n, q⟩ := z
  have GN := hide fun w' (b : Below w.heap.size w w') => specTextB (.slice ao xs.length ca) xs p w' (hr.below (hB.trans (b.mono hB.size)) (Nat.le_refl _)) hb (n := n) (q := q) (c := true) (by rw [hgn]; exact ⟨rfl, rfl, rfl⟩)
  have bd := getText_bd xs hb p n q hgn
  have HQ := hide (getText_lt hbl hgn)
  have LG := hl
  clear hr hB hl
  have Bw : Below w.heap.size w w := Below.refl _ _
  go_enter Tryz.func60, Tryz.ntmps60
  have K : Hid (∀ w', Below w.heap.size w w' → (fun w' => Below w.heap.size w w' ∧ (w'.cell? ⟨g, 0, none⟩ = some (.slice ao xs.length ca) ∧ w'.cell? ⟨g, 1, none⟩ = some (.int .i64 p) ∧ w'.cell? ⟨g, 2, none⟩ = some (.bool ok))) w') := hide fun w' hb' => ⟨hb', ⟨(LG.below hb' LG.lt).cell 0 rfl, (LG.below hb' LG.lt).cell 1 rfl, (LG.below hb' LG.lt).cell 2 rfl⟩⟩
  go_upto_region 1 with fail
  have bA : Below w.heap.size w w.drew := Below.drew (Below.refl _ _)
  refine wp_region_noPanic ?_
  refine wp_region_held_drew (S := fun w' => Below w.heap.size w w' ∧ (w'.cell? ⟨g, 0, none⟩ = some (.slice ao xs.length ca) ∧ w'.cell? ⟨g, 1, none⟩ = some (.int .i64 p) ∧ w'.cell? ⟨g, 2, none⟩ = some (.bool ok))) (by kernel_rfl) (unhide K _ bA) (fun hHeld => ?_)
  refine tk 0 7 (v := ?_) rfl (hy := .inl ⟨by rfl, ?_⟩) (h := ?_); rotate_left
  ·intro w hSw; (try dsimp only at hSw); go_simp; (try with_reducible rfl)
  simp only [pU]
  refine tk 4 11 (v := ?_) rfl (hy := .inl ⟨by rfl, ?_⟩) (h := ?_); rotate_left
  ·intro w hSw; (try dsimp only at hSw); go_simp; (try with_reducible rfl)
  simp only [pU]
  refine tk 1 8 (v := ?_) rfl (hy := .inl ⟨by rfl, ?_⟩) (h := ?_); rotate_left
  ·intro w hSw; (try dsimp only at hSw); go_simp; (try with_reducible rfl)
  simp only [pU]
  refine tk 5 12 (v := ?_) rfl (hy := .inl ⟨by rfl, ?_⟩) (h := ?_); rotate_left
  ·intro w hSw; (try dsimp only at hSw); go_simp; (try with_reducible rfl)
  simp only [pU]
  refine tk 2 9 (v := ?_) rfl (hy := .inl ⟨by rfl, ?_⟩) (h := ?_); rotate_left
  ·intro w hSw; (try dsimp only at hSw); go_simp; (try with_reducible rfl)
  simp only [pU]
  refine tk 6 13 (v := ?_) rfl (hy := .inl ⟨by rfl, ?_⟩) (h := ?_); rotate_left
  ·intro w hSw; (try dsimp only at hSw); go_simp; (try with_reducible rfl)
  simp only [pU]
  refine tk 3 10 (v := ?_) rfl (hy := .inl ⟨by rfl, ?_⟩) (h := ?_); rotate_left
  ·intro w hSw; (try dsimp only at hSw); go_simp; (try with_reducible rfl)
  simp only [pU]
  refine tk 7 14 (v := ?_) rfl (hy := .inl ⟨by rfl, ?_⟩) (h := ?_); rotate_left
  ·intro w hSw; (try dsimp only at hSw); go_simp; (try with_reducible rfl)
  simp only [pU]
  refine ready_at (i := 8) rfl (by kernel_rfl) (fun KK hKK => ?_)
  go_simp
  have hgo := bA
  refine (unhide GN _ hgo).mono ?_
  rintro e wz1_1 ⟨rfl, bb⟩
  have bz1 : Below w.heap.size w wz1_1 := bA.trans (bb.mono bA.size)
  clear bA hgo bb
  clear hHeld
  refine hKK.out _ _ (unhide K _ bz1) (fun hHeld => ?_)
  clear hKK KK
  refine tk 9 6 (v := ?_) rfl (hy := .inl ⟨by rfl, ?_⟩) (h := ?_); rotate_left
  ·intro w hSw; (try dsimp only at hSw); go_simp; (try with_reducible rfl)
  simp only [pU]
  refine tk 10 16 (v := ?_) rfl (hy := .inl ⟨by rfl, ?_⟩) (h := ?_); rotate_left
  ·intro w hSw; (try dsimp only at hSw); go_simp; (try with_reducible rfl)
  simp only [pU]
  refine tk 11 17 (v := ?_) rfl (hy := .inl ⟨by rfl, ?_⟩) (h := ?_); rotate_left
  ·intro w hSw; (try dsimp only at hSw); go_simp; (try with_reducible rfl)
  simp only [pU]
  refine tk 12 18 (v := ?_) rfl (hy := .inl ⟨by rfl, ?_⟩) (h := ?_); rotate_left
  ·intro w hSw; (try dsimp only at hSw); go_simp; (try with_reducible rfl)
  simp only [pU]
  refine tk 13 3 (v := ?_) rfl (hy := .inl ⟨by rfl, ?_⟩) (h := ?_); rotate_left
  ·intro w hSw; (try dsimp only at hSw); go_simp; (try with_reducible rfl)
  simp only [pU]
  refine tk 14 4 (v := ?_) rfl (hy := .inl ⟨by rfl, ?_⟩) (h := ?_); rotate_left
  ·intro w hSw; (try dsimp only at hSw); go_simp; (try with_reducible rfl)
  simp only [pU]
  refine tk 15 5 (v := ?_) rfl (hy := .inl ⟨by rfl, ?_⟩) (h := ?_); rotate_left
  ·intro w hSw; (try dsimp only at hSw); go_simp; (try with_reducible rfl)
  simp only [pU]
  clear hHeld
  refine wpAnyH_done (by kernel_rfl) ?_ _
  refine NoPanic.normal ?_
  have bb := bz1
  have Bwz1_1 := Bw.trans (bb.mono Bw.size)
  have swz1_1 := bb.size
  replace LG := LG.below bb LG.lt
  clear Bw
  clear bb bz1 K
  clear GN
  have KB := Below.kpOf Bwz1_1 (fun k => k = g)
  have c1 := LG.cell 1 rfl
  have c2 := LG.cell 2 rfl
  have f2 := LG.frozen
  have HL := hide LG
  clear LG
  cases ok with
  | false =>
   go_wp2
   go_ret
   exact ⟨⟨#[]⟩, p, false, rfl, ⟨by simp [hgn], by simp⟩, Nat.zero_le _, .inl rfl, hide (by simp), (unhide HL).set 2 _ rfl, KB.trans (set_kp _ _ _ _)⟩
  | true =>
   go_wp2
   go_ret
   exact ⟨n, q, true, rfl, ⟨by simp [hgn], fun _ => hgn⟩, by omega, .inr (by omega), hide fun _ => unhide HQ, (unhide HL).set 1 _ rfl, KB.trans (set_kp _ _ _ _)⟩

def SWhoEnd (g : Nat) (ao : Option Addr) (ca : Nat) (xs : List Int) (p : Int) (ok : Bool) (w : World) (e : Ending) (w' : World) : Prop :=
 ∃ (u : Value) (ys : List Int) (q : Int) (ok' : Bool), e = .returned u ∧ Got ok (getWho 2147483647 xs p) ok' ys q ∧ ys.length ≤ xs.length ∧ Stays xs p q ∧ Loc w' g #[.slice ao xs.length ca, .int .i64 q, .bool ok'] ∧ OI w' w.heap.size u ys ∧ Kp w w' (fun k => k = g)

set_option maxHeartbeats 8000000 in
set_option maxRecDepth 100000 in
theorem sWho_any (W0 : World) (g : Nat) (ao : Option Addr) (ca : Nat) (xs : List Int) (p : Int) (ok : Bool) (w : World) (hx : xs.length ≤ 1048576) (hr : RB W0 (.slice ao xs.length ca) xs) (hb : BytesL xs) (h0 : W0.heap.size ≤ g) (hB : Below W0.heap.size W0 w) (hl : Loc w g #[.slice ao xs.length ca, .int .i64 p, .bool ok]) :
 Calls Tryz.prog 97 #[.pointer (some ⟨g, 0, none⟩)] w (SWhoEnd g ao ca xs p ok w) := by
 obtain ⟨i0, hi, hz0, hz1, hz2⟩ := info_parts Tryz.info3
 have hgw := hl.lt
 obtain ⟨w0, hw0⟩ : ∃ y, w.alloc (.cells #[] 3) = y := ⟨_, rfl⟩
 have b0 : Below w.heap.size w w0 := hw0 ▸ conf_below _ _
 have K0 : Kp w w0 (fun k => k = g) := Below.kpOf b0 _
 have o0 : OI w0 w.heap.size (.slice (some ⟨w.heap.size, 0, none⟩) 0 0) [] := hw0 ▸ World.ownsRow_lit w #[] 0 (Nat.le_refl _) (by unfold maxLen; omega) rfl
 have NU := hide fun (p : Int) (ok : Bool) (w' : World) (k : Kp w w' (fun k => k = g)) hl => sNum_any W0 g ao ca xs p ok w' hr hb (Below.kp hB k hB.size (fun j e => by omega)) hl
 have N0 := hide (unhide NU p ok w0 K0 (hl.below b0 hgw))
 have z0 := K0.size
 clear hl hr hb h0 hB b0
 go_enter Tryz.func97, Tryz.ntmps97
 go_wp2_with fail
 clear hw0
 refine (unhide N0).mono ?_
 rintro e w1 ⟨m, q1, ok1, rfl, G1, hm, S1, Q1, L1, K1⟩
 have IV : Hid (WhoInv 2147483647 ok xs p m [] q1 ok1) := by
  have := who_start (L := 2147483647) G1 hm.1
  rw [decide_eq_true hm.2, Bool.and_true] at this
  exact hide this
 have BV : Hid (ok1 = true → ((0 : Nat) : Int) < q1 ∧ q1 ≤ xs.length) := hide fun h => by
  have h1 := (G1.2 h)
  have h2 := unhide Q1 h
  have h3 : ¬ p < 0 := fun hn => by rw [getNum_neg xs p hn] at h1; cases h1
  omega
 have o1 := o0.kp K1 (fun k hk e => by have := World.ownsRow.lt o0 k hk; omega)
 have K2 := K0.trans K1
 clear N0 G1 o0 K0 K1 Q1
 go_wp2
 go_loopw [3, 5] (fun v i wr => ∃ (ys : List Int) (q : Int) (okc : Bool), i = .int .i64 (ys.length : Int) ∧ OI wr w.heap.size v ys ∧ ys.length ≤ xs.length ∧ Hid (okc = true → (ys.length : Int) < q ∧ q ≤ xs.length) ∧ Hid (WhoInv 2147483647 ok xs p m ys q okc) ∧ Stays xs p q ∧ Loc wr g #[.slice ao xs.length ca, .int .i64 q, .bool okc] ∧ Kp w wr (fun k => k = g)) (fun _ i _ => 2147483648 - (intOf i).toNat)
 case atStart => exact ⟨[], q1, ok1, rfl, o1, by simp, BV, IV, S1, L1, K2⟩
 case round =>
  clear IV L1 K2 S1 BV o1
  obtain ⟨ys, q, okc, rfl, ho, hlx, BV, IV, S1, LG, KG⟩ := hrel
  have c2 := LG.cell 2 rfl
  obtain ⟨va, vc, rfl⟩ := ho.form
  have hlt := World.ownsRow.lt ho
  have hsz := KG.size
  have OH := hide ho
  obtain ⟨k, hk⟩ : ∃ k, ys.length = k := ⟨_, rfl⟩
  have Hk := hide hk
  rw [hk] at hlx BV OH hlt ⊢
  clear ho
  by_cases hlm : (k : Int) < m
  ·have hd : decide ((k : Int) < m) = true := by simpa using hlm
   cases okc with
   | false =>
    have HF := hide (who_end (unhide IV) (.inl rfl))
    have LGh := hide LG
    clear hk LG
    go_wp2
    go_ret
    exact ⟨_, ys, q, false, rfl, unhide HF, by rw [unhide Hk]; exact hlx, S1, unhide LGh, unhide OH, KG⟩
   | true =>
    have NX := hide (unhide NU q true wr KG LG)
    have bv := unhide BV rfl
    have ML := hide (show (ys.length : Int) < m by omega)
    clear LG hk
    go_wp2_with fail
    clear c2
    refine (unhide NX).mono ?_
    rintro e w5 ⟨x, q2, ok5, rfl, G5, hx5, S5, Q5, L5, K5⟩
    have o5 := (unhide OH).kp K5 (fun j hj e => by have := hlt j hj; subst e; omega)
    have ST := hide (who_step (unhide IV) (unhide ML) G5)
    have z5 := K5.size
    have BW : Hid (ok5 = true → ((k + 1 : Nat) : Int) < q2 ∧ q2 ≤ xs.length) := hide fun h => by have := unhide Q5 h; omega
    have o5' : w5.ownsRow w.heap.size 3 1 (.slice va k vc) ys.length (ys.map (Value.int .i64)) := o5
    rw [unhide Hk] at o5'
    have O5 := hide o5'
    clear NX G5 Q5 BV IV o5 o5' OH
    go_wp2_with (first
     | (at_builtin; refine wpList_append_own _ rfl _ _ 26 rfl w.heap.size 3 i0 (.int .i64 0) 1 8 Tryz.underlying26 hi hz0 hz1 hz2 rfl (by decide) (.slice va k vc) _ _ rfl (World.ownsRow.alloc (unhide O5) _) ⟨w5.heap.size, 0, none⟩ 1 1 [.int .i64 x] rfl rfl (one_cell _ _ _) (one_plain _ _) (by unfold maxLen; omega) (by omega) (by simp; omega) ?_; intro v' w6 ho' hg' _
        have KA := (kp_grown hg')
        have HO' := hide ho'
        clear ho' hg'))
    go_roundw
    case rel =>
     have K6 : Kp w w6 (fun k => k = g) := ((KG.trans K5).trans (Below.kpOf (conf_below _ _) _)).over KA (fun j e => .inl (by have := hlt j e; omega))
     have L6 := (L5.alloc (.cells #[.int .i64 x] 3)).kp KA (fun e => by have := hlt g e; omega)
     have O6 : OI w6 w.heap.size v' (ys ++ [x]) := OI.more (by rw [unhide Hk]; exact unhide HO')
     have hl6 : (ys ++ [x]).length = k + 1 := by rw [List.length_append, unhide Hk]; rfl
     refine ⟨ys ++ [x], q2, ok5, ?_, O6, by omega, by rw [hl6]; exact BW, ST, S1.trans S5, L6, K6⟩
     rw [hl6]; go_num
    case measure => simp [intOf]; omega
  ·have hd : decide ((k : Int) < m) = false := by simpa using hlm
   have HF := hide (who_end (unhide IV) (.inr (by omega)))
   have LGh := hide LG
   clear hk LG
   go_wp2
   go_ret
   exact ⟨_, ys, q, okc, rfl, unhide HF, by rw [unhide Hk]; exact hlx, S1, unhide LGh, unhide OH, KG⟩
end Go.Proofs.YtbigcmcliamenaaGreatDoor
