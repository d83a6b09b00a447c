/- The walk of laws.FnNotes. -/
import Derived.Test.YtcclbejpgiogaaaGreatDoorNBAE
import Derived.Test.YtcclbejpgiogaaaGreatDoorNBBD
import Derived.Test.YtcclbejpgiogaaaGreatDoorNBBJ
import Derived.Test.YtcclbejpgiogaaaGreatDoorNBBK
import Derived.Test.YtcclbejpgiogaaaGreatDoorNBBN
import Derived.Test.YtcclbejpgiogaaaGreatDoorNBBM
import Derived.Test.YtcclbejpgiogaaaGreatDoorNBBO
import Derived.Test.YtcclbejpgiogaaaGreatDoorNBAS
import Derived.Test.YtcclbejpgiogaaaGreatDoorNBAV
import Derived.Test.YtcclbejpgiogaaaGreatDoorNBAU
import Derived.Test.YtcclbejpgiogaaaGreatDoorNBAQ
import Derived.Test.YtcclbejpgiogaaaGreatDoorNBBP
import Derived.Lib.BufferRead
import Derived.Deep.RegionHeld3
import Derived.Deep.DeepCutAuto
set_option maxRecDepth 100000
set_option maxHeartbeats 64000000
namespace Go.Proofs.YtcclbejpgiogaaaGreatDoor
open Go.RowKit
set_option linter.unusedSectionVars false
variable [∀ (a b c d : Int), Decidable (Ok4 a b c d)]
variable [∀ (a b c d : Nat), Decidable (okN a b c d)]
variable [∀ (x : T4), Decidable (OkT x)]
variable [∀ (last : Int) (s : St), Decidable (GoodSt last s)]
variable [∀ (n : Int) (s : List Int), Decidable (OkL n s)]
variable [∀ (n f : Int), Decidable (COk n f)]
variable [∀ (ts : List T4), Decidable (AllOk ts)]

theorem conv_rb {w : World} {v : Value} {xs : List Int} (h : RB w v xs) (hl : xs.length ≤ 1048600) : (convert 22 9 v).run Tryz.prog w = .ok (.string (strOfNums xs)) w := by
 obtain ⟨_, ao, ca, rfl, _, hc⟩ := h
 rcases hc with rfl | ⟨b, off, rfl, hc⟩
 ·cases ao with
  | none => exact Lib.run_convert_nil_bytes w 22 9 5 ca Tryz.underlying22 Tryz.underlying5 Tryz.underlying9
  | some ad =>
   have hl := run_loadCells_list (P := Tryz.prog) w ad ([] : List Value) (fun j v hj => by simp at hj)
   simp only [List.length_nil] at hl ⊢
   rw [run_convert_bytes_string w 22 9 5 (some ad) 0 ca Tryz.underlying22 Tryz.underlying5 Tryz.underlying9]
   simp [Conv.bytesToString, hl]
   rfl
 ·exact run_convert_bytes_arg (P := Tryz.prog) w 22 5 Tryz.underlying22 Tryz.underlying5 b off xs.length ca xs rfl hc 9 Tryz.underlying9
theorem opt_some {α : Type} {o : Option α} {d x : α} (h : o.getD d = x) (hs : o.isSome = true) : o = some x := by
 cases o with
 | none => cases hs
 | some y => exact congrArg some h
theorem safB_of {n f vo lo v : Int} {s : ByteArray} {xs : List Int} {d : ByteArray} {ys : List Int} (h : sokT n f (vo, lo, (v, s, xs), d) = true) (e : ys = rawT (vo, lo, (v, s, xs), d)) : safB n f vo lo v s xs d = ys := by
 rw [e]; unfold safB; exact if_pos h
theorem note_no {n f vo lo v : Int} {s : ByteArray} {xs : List Int} {d : ByteArray} {bA bN : List Int} (hA : safB n f vo lo v s xs d = bA) (hN : notB n f vo lo v s xs d = bN) (h : sokB n f vo lo v s xs d = false) : bA = [] ∧ bN = [] := by
 subst hA hN; unfold safB notB; simp [h]
theorem note_yes {n f vo lo v : Int} {s : ByteArray} {xs : List Int} {d : ByteArray} {bA bN : List Int} (hA : safB n f vo lo v s xs d = bA) (hN : notB n f vo lo v s xs d = bN) (h : sokB n f vo lo v s xs d = true) : sokT n f (vo, lo, (v, s, xs), d) = true ∧ bA = rawT (vo, lo, (v, s, xs), d) ∧ bN = noteT (vo, lo, (v, s, xs), d) := by
 subst hA hN; exact ⟨h, if_pos h, if_pos h⟩
theorem qcRaw_pos (v : Int) (s : ByteArray) (ys : List Int) : 0 < (qcRaw v s ys).length := by
 unfold qcRaw
 rw [List.length_append, List.length_append, textAns_len]
 have := (put_len 4 s.size).2
 omega
theorem part_at {w : World} {ao : Option Addr} {n ca : Nat} {xs a : List Int} {p q : Int} (h : RB w (.slice ao n ca) xs) (hs : StandsAt xs p a q) (ha : 0 < a.length) :
 ∃ ao' ca', (∀ w, (Instr.slice 22 (.slice ao n ca) (some (.int .i64 p)) (some (.int .i64 q)) none).run Tryz.prog w = .ok (.slice ao' a.length ca') w) ∧ RB w (.slice ao' a.length ca') a := by
 obtain ⟨pre, post, rfl, rfl, rfl⟩ := hs
 have hl : pre.length + a.length ≤ (pre ++ a ++ post).length := by simp only [List.length_append]; omega
 obtain ⟨⟨hn, hc⟩, b, off, rfl, _⟩ := h.at (by omega)
 have h2 := h.sub pre.length a.length hl
 have e : ((pre ++ a ++ post).drop pre.length).take a.length = a := by rw [List.append_assoc, List.drop_left, List.take_left]
 rw [e] at h2
 exact ⟨_, _, fun w => bcut b off n ca pre.length a.length w (by omega) (by omega), h2⟩
theorem lastA_at {n f : Int} {xs : List Int} {t : SafT} {p : Int} (hb : BytesL xs) (h : lastA n f xs = (t, p)) : 0 ≤ p ∧ p ≤ (xs.length : Int) := by
 have en := lastN_end hb n f (xs.length + 1) 0 newT (by omega) (by omega) (by omega)
 unfold lastA at h
 rw [h] at en
 exact ⟨en.1, en.2.2.1⟩
theorem lastA_took {n f : Int} {xs : List Int} {t : SafT} {p : Int} (hb : BytesL xs) (h : lastA n f xs = (t, p)) (m : Nat) (hm : (m : Int) = p) : lastA n f (xs.take m) = (t, p) := by
 rw [lastA_take hb n f m (by rw [h]; exact hm), h]
theorem rb_cap {w : World} {ao : Option Addr} {n ca : Nat} {xs : List Int} (h : RB w (.slice ao n ca) xs) : n ≤ ca ∧ n = xs.length := by
 obtain ⟨_, _, _, e, hc, _⟩ := h
 cases e
 exact ⟨hc.1, rfl⟩
theorem alike_me (n : Int) (s : ByteArray) (xs : List Int) : alikeB n n s s xs xs = true := by simp [alikeB]
theorem bytes_k {xs : List Int} (h : BytesL xs) : Bytes xs := fun k hk => by
 rw [List.getD_eq_getElem?_getD, List.getElem?_eq_getElem hk]
 exact h _ (List.getElem_mem hk)

theorem fnNotes_short (ao : Option Addr) (ca : Nat) (zs : List Int) (w : World) (h : DCode w ao zs) (hE : Env w) (hT : EnvT w) :
 Calls Tryz.prog 3 #[.slice ao zs.length ca] w fun e w' => e = .returned (.bool true) ∧ Below w.heap.size w w' := by
 have hz := h.len
 have BG := hide fun w => big_any ao zs.length ca w (by omega)
 rw [decide_eq_false (show ¬ 1048576 < zs.length by omega)] at BG
 have D1 := hide fun w' (hb : Below w.heap.size w w') => drawSafeBytes ao ca zs w' (h.below hb)
 have D2 := hide fun w' (hb : Below w.heap.size w w') => drawSafeOf ao ca zs w' (h.below hb)
 have D3 := hide fun w' (hb : Below w.heap.size w w') => drawLastNote ao ca zs w' (h.below hb)
 have D4 := hide fun w' (hb : Below w.heap.size w w') => drawQcBytes ao ca zs w' (h.below hb)
 have D5 := hide fun w' (hb : Below w.heap.size w w') => drawQcOf ao ca zs w' (h.below hb)
 have HE := hide fun w' (hb : Below w.heap.size w w') => hE.below hb
 have HT := hide fun w' (hb : Below w.heap.size w w') => hT.below hb
 clear h hE hT
 generalize zs.length = zl at *
 go_enter Tryz.func3, Tryz.ntmps3
 have Bw : Below w.heap.size w w := Below.refl _ _
 go_wp2_with fail
 refine (BG.out _).mono ?_
 rintro _ w1 ⟨rfl, bb⟩
 have Bw1 := bu Bw bb
 have sw1 := bb.size
 clear Bw
 clear bb
 clear BG
 go_wp2_with fail
 refine (D1.out _ Bw1).mono ?_
 rintro _ w2 ⟨n, f, vo, lo, v, s, uO, d, xs, rfl, hs, hd, hl, O, bb⟩
 have Bw2 := bu Bw1 bb
 have sw2 := bb.size
 clear Bw1
 clear bb
 clear D1
 replace O := OI.ri O (by omega)
 obtain ⟨aO, cO, rfl⟩ := O.form
 replace O := hide O
 have IB := hide fun w' (h : RI w' (.slice aO xs.length cO) xs) (e : Env w') => implSafeBytes n f vo lo v s aO cO xs d w' (by omega) (by omega) e h
 have IN := hide fun w' (h : RI w' (.slice aO xs.length cO) xs) (e : Env w') => implNoteBytes n f vo lo v s aO cO xs d w' (by omega) (by omega) e h
 have SB := hide fun w' (h : RI w' (.slice aO xs.length cO) xs) => specSafeBytes n f vo lo v s aO cO xs d w' (by omega) (by omega) h
 have SN := hide fun w' (h : RI w' (.slice aO xs.length cO) xs) => specNoteBytes n f vo lo v s aO cO xs d w' (by omega) (by omega) h
 have IK := hide fun w' (h : RI w' (.slice aO xs.length cO) xs) (e : Env w') => implSafeOk n f vo lo v s aO cO xs d w' (by omega) (by omega) e h
 have lb1 := safB_len n f vo lo v s xs d
 have lb2 := notB_len n f vo lo v s xs d
 have hb1 := hide (safB_bytes n f vo lo v s xs d)
 have hb2 := hide (notB_bytes n f vo lo v s xs d)
 obtain ⟨bA, hbA⟩ : ∃ y_, safB n f vo lo v s xs d = y_ := ⟨_, rfl⟩
 obtain ⟨bN, hbN⟩ : ∃ y_, notB n f vo lo v s xs d = y_ := ⟨_, rfl⟩
 rw [hbA] at IB SB lb1 hb1
 rw [hbN] at IN SN lb2 hb2
 replace hbA := hide hbA
 replace hbN := hide hbN
 go_upto_region 4 with fail
 obtain ⟨w3, hw3⟩ : ∃ w9_, ((w2.alloc (.cells #[.int .i64 n, .int .i64 f] 25)).alloc (.cells #[.int .i64 vo, .int .i64 lo, .int .i64 v, .string s, .slice aO xs.length cO, .string d] 30)) = w9_ := ⟨_, rfl⟩
 have bb : Below w2.heap.size w2 w3 := hw3 ▸ ((Below.refl _ _).alloc (Nat.le_refl _) _).alloc (by simp) _
 have LC : Loc w3 (w2.heap.size) #[.int .i64 n, .int .i64 f] := hw3 ▸ (loc_at (w2) _ _ rfl).alloc _
 have LS : Loc w3 (w2.heap.size + 1) #[.int .i64 vo, .int .i64 lo, .int .i64 v, .string s, .slice aO xs.length cO, .string d] := hw3 ▸ loc_at (w2.alloc _) _ _ (by simp)
 have zw3 : w2.heap.size + 1 + 1 ≤ w3.heap.size := by rw [← hw3]; simp
 rw [hw3]
 clear hw3
 have Bw3 := bu Bw2 bb
 have sw3 := bb.size
 clear Bw2
 replace O := hide (O.out.below bb)
 clear bb
 have cLC0 := LC.cell 0 rfl
 have cLC1 := LC.cell 1 rfl
 have cLS0 := LS.cell 0 rfl
 have cLS1 := LS.cell 1 rfl
 have cLS2 := LS.cell 2 rfl
 have cLS3 := LS.cell 3 rfl
 have cLS4 := LS.cell 4 rfl
 have cLS5 := LS.cell 5 rfl
 go_wp2_with fail
 refine (IB.out _ O.out (HE.out _ Bw3)).mono ?_
 rintro _ w4 ⟨uA, rfl, OA, bb⟩
 clear cLC0 cLC1 cLS0 cLS1 cLS2 cLS3 cLS4 cLS5
 have Bw4 := bu Bw3 bb
 have sw4 := bb.size
 replace LC := LC.up bb
 replace LS := LS.up bb
 clear Bw3
 replace O := hide (O.out.below bb)
 clear bb
 clear IB
 replace OA := OB.rb OA (by omega)
 have eOA : ∃ a c, uA = Value.slice a bA.length c := by obtain ⟨_, a, c, e, _⟩ := OA; exact ⟨a, c, e⟩
 obtain ⟨aA, cA, rfl⟩ := eOA
 replace OA := hide OA
 have cLC0 := LC.cell 0 rfl
 have cLC1 := LC.cell 1 rfl
 have cLS0 := LS.cell 0 rfl
 have cLS1 := LS.cell 1 rfl
 have cLS2 := LS.cell 2 rfl
 have cLS3 := LS.cell 3 rfl
 have cLS4 := LS.cell 4 rfl
 have cLS5 := LS.cell 5 rfl
 go_wp2_with fail
 refine (IN.out _ O.out (HE.out _ Bw4)).mono ?_
 rintro _ w5 ⟨uN, rfl, ON, bb⟩
 clear cLC0 cLC1 cLS0 cLS1 cLS2 cLS3 cLS4 cLS5
 have Bw5 := bu Bw4 bb
 have sw5 := bb.size
 replace LC := LC.up bb
 replace LS := LS.up bb
 clear Bw4
 replace O := hide (O.out.below bb)
 replace OA := hide (OA.out.below bb)
 clear bb
 clear IN
 replace ON := OB.rb ON (by omega)
 have eON : ∃ a c, uN = Value.slice a bN.length c := by obtain ⟨_, a, c, e, _⟩ := ON; exact ⟨a, c, e⟩
 obtain ⟨aN, cN, rfl⟩ := eON
 replace ON := hide ON
 go_wp2_with fail
 refine (D2.out _ Bw5).mono ?_
 rintro _ w6 ⟨n2, f2, uX, ys, rfl, hn2, hby, hly, RX, bb⟩
 have Bw6 := bu Bw5 bb
 have sw6 := bb.size
 replace LC := LC.up bb
 replace LS := LS.up bb
 clear Bw5
 replace O := hide (O.out.below bb)
 replace OA := hide (OA.out.below bb)
 replace ON := hide (ON.out.below bb)
 clear bb
 clear D2 hn2
 replace hby := hide hby
 have eRX : ∃ a c, uX = Value.slice a ys.length c := by obtain ⟨_, a, c, e, _⟩ := RX; exact ⟨a, c, e⟩
 obtain ⟨aX, cX, rfl⟩ := eRX
 replace RX := hide RX
 obtain ⟨⟨vo2, lo2, ⟨v2, s2, z2⟩, d2⟩, hx2⟩ : ∃ x : SafT, (safOfA 7 n2 f2 ys).getD noSaf = x := ⟨_, rfl⟩
 obtain ⟨b2, hb3⟩ : ∃ b, (safOfA 7 n2 f2 ys).isSome = b := ⟨_, rfl⟩
 have IO := hide fun w' (h : RB w' (.slice aX ys.length cX) ys) (e : Env w') (t : EnvT w') => implSafeOf_any n2 f2 aX cX ys w' (by omega) h (bytes_k hby.out) e t _ _ (hide ⟨hx2, hb3⟩)
 have SO := hide fun w' (h : RB w' (.slice aX ys.length cX) ys) => specSafeOf_any n2 f2 aX cX ys w' (by omega) h hby.out _ _ (hide ⟨hx2, hb3⟩)
 have lz2 := safOf_small hby.out n2 f2
 rw [hx2] at lz2
 dsimp only at IO SO lz2
 replace hx2 := hide hx2
 replace hb3 := hide hb3
 go_upto_region 7 with fail
 obtain ⟨w7, hw7⟩ : ∃ w9_, (w6.alloc (.cells #[.int .i64 n2, .int .i64 f2] 25)) = w9_ := ⟨_, rfl⟩
 have bb : Below w6.heap.size w6 w7 := hw7 ▸ (Below.refl _ _).alloc (Nat.le_refl _) _
 have LD : Loc w7 (w6.heap.size) #[.int .i64 n2, .int .i64 f2] := hw7 ▸ loc_at (w6) _ _ rfl
 have zw7 : w6.heap.size + 1 ≤ w7.heap.size := by rw [← hw7]; simp
 rw [hw7]
 clear hw7
 have Bw7 := bu Bw6 bb
 have sw7 := bb.size
 replace LC := LC.up bb
 replace LS := LS.up bb
 clear Bw6
 replace O := hide (O.out.below bb)
 replace OA := hide (OA.out.below bb)
 replace ON := hide (ON.out.below bb)
 replace RX := hide (RX.out.below bb)
 clear bb
 have cLD0 := LD.cell 0 rfl
 have cLD1 := LD.cell 1 rfl
 go_wp2_with fail
 refine (IO.out _ RX.out (HE.out _ Bw7) (HT.out _ Bw7)).mono ?_
 rintro _ w8 ⟨uY, rfl, OY, bb⟩
 clear cLD0 cLD1
 have Bw8 := bu Bw7 bb
 have sw8 := bb.size
 replace LC := LC.up bb
 replace LS := LS.up bb
 replace LD := LD.up bb
 clear Bw7
 replace O := hide (O.out.below bb)
 replace OA := hide (OA.out.below bb)
 replace ON := hide (ON.out.below bb)
 replace RX := hide (RX.out.below bb)
 clear bb
 clear IO
 replace OY := OI.ri OY (by omega)
 obtain ⟨aY, cY, rfl⟩ := OY.form
 replace OY := hide OY
 go_upto_region 8 with fail
 obtain ⟨w9, hw9⟩ : ∃ w9_, (w8.alloc (.cells #[.int .i64 vo2, .int .i64 lo2, .int .i64 v2, .string s2, .slice aY z2.length cY, .string d2] 30)) = w9_ := ⟨_, rfl⟩
 have bb : Below w8.heap.size w8 w9 := hw9 ▸ (Below.refl _ _).alloc (Nat.le_refl _) _
 have LY : Loc w9 (w8.heap.size) #[.int .i64 vo2, .int .i64 lo2, .int .i64 v2, .string s2, .slice aY z2.length cY, .string d2] := hw9 ▸ loc_at (w8) _ _ rfl
 have zw9 : w8.heap.size + 1 ≤ w9.heap.size := by rw [← hw9]; simp
 rw [hw9]
 clear hw9
 have Bw9 := bu Bw8 bb
 have sw9 := bb.size
 replace LC := LC.up bb
 replace LS := LS.up bb
 replace LD := LD.up bb
 clear Bw8
 replace O := hide (O.out.below bb)
 replace OA := hide (OA.out.below bb)
 replace ON := hide (ON.out.below bb)
 replace RX := hide (RX.out.below bb)
 replace OY := hide (OY.out.below bb)
 clear bb
 have cLD0 := LD.cell 0 rfl
 have cLD1 := LD.cell 1 rfl
 go_wp2_with fail
 refine (SO.out _ RX.out).mono ?_
 rintro _ w10 ⟨uZ, rfl, OZ, bb⟩
 clear cLD0 cLD1
 have Bw10 := bu Bw9 bb
 have sw10 := bb.size
 replace LC := LC.up bb
 replace LS := LS.up bb
 replace LD := LD.up bb
 replace LY := LY.up bb
 clear Bw9
 replace O := hide (O.out.below bb)
 replace OA := hide (OA.out.below bb)
 replace ON := hide (ON.out.below bb)
 replace RX := hide (RX.out.below bb)
 replace OY := hide (OY.out.below bb)
 clear bb
 clear SO
 replace OZ := OI.ri OZ (by omega)
 obtain ⟨aZ, cZ, rfl⟩ := OZ.form
 replace OZ := hide OZ
 go_upto_region 9 with fail
 obtain ⟨w11, hw11⟩ : ∃ w9_, (w10.alloc (.cells #[.int .i64 vo2, .int .i64 lo2, .int .i64 v2, .string s2, .slice aZ z2.length cZ, .string d2] 30)) = w9_ := ⟨_, rfl⟩
 have bb : Below w10.heap.size w10 w11 := hw11 ▸ (Below.refl _ _).alloc (Nat.le_refl _) _
 have LZ : Loc w11 (w10.heap.size) #[.int .i64 vo2, .int .i64 lo2, .int .i64 v2, .string s2, .slice aZ z2.length cZ, .string d2] := hw11 ▸ loc_at (w10) _ _ rfl
 have zw11 : w10.heap.size + 1 ≤ w11.heap.size := by rw [← hw11]; simp
 rw [hw11]
 clear hw11
 have Bw11 := bu Bw10 bb
 have sw11 := bb.size
 replace LC := LC.up bb
 replace LS := LS.up bb
 replace LD := LD.up bb
 replace LY := LY.up bb
 clear Bw10
 replace O := hide (O.out.below bb)
 replace OA := hide (OA.out.below bb)
 replace ON := hide (ON.out.below bb)
 replace RX := hide (RX.out.below bb)
 replace OY := hide (OY.out.below bb)
 replace OZ := hide (OZ.out.below bb)
 clear bb
 as_aux_lemma =>
 go_wp2_with fail
 refine (D3.out _ Bw11).mono ?_
 rintro _ w12 ⟨n3, f3, uR, rs, rfl, hn3, hbr, hlr, RR, bb⟩
 have Bw12 := bu Bw11 bb
 have sw12 := bb.size
 replace LC := LC.up bb
 replace LS := LS.up bb
 replace LD := LD.up bb
 replace LY := LY.up bb
 replace LZ := LZ.up bb
 clear Bw11
 replace O := hide (O.out.below bb)
 replace OA := hide (OA.out.below bb)
 replace ON := hide (ON.out.below bb)
 replace RX := hide (RX.out.below bb)
 replace OY := hide (OY.out.below bb)
 replace OZ := hide (OZ.out.below bb)
 clear bb
 clear D3 hn3
 replace hbr := hide hbr
 have eRR : ∃ a c, uR = Value.slice a rs.length c := by obtain ⟨_, a, c, e, _⟩ := RR; exact ⟨a, c, e⟩
 obtain ⟨aR, cR, rfl⟩ := eRR
 replace RR := hide RR
 obtain ⟨⟨⟨vo3, lo3, ⟨v3, s3, z3⟩, d3⟩, p3⟩, hx3⟩ : ∃ x : SafT × Int, lastA n3 f3 rs = x := ⟨_, rfl⟩
 have IL := hide fun w' (h : RB w' (.slice aR rs.length cR) rs) (e : Env w') (t : EnvT w') => implLastNote_any n3 f3 aR cR rs w' (by omega) h hbr.out e t _ (hide hx3)
 have SL := hide fun w' (h : RB w' (.slice aR rs.length cR) rs) => specLastNote_any n3 f3 aR cR rs w' (by omega) h hbr.out _ (hide hx3)
 have lz3 := lastA_small hbr.out n3 f3
 rw [hx3] at lz3
 dsimp only at IL SL lz3
 replace hx3 := hide hx3
 go_upto_region 10 with fail
 obtain ⟨w13, hw13⟩ : ∃ w9_, (w12.alloc (.cells #[.int .i64 n3, .int .i64 f3] 25)) = w9_ := ⟨_, rfl⟩
 have bb : Below w12.heap.size w12 w13 := hw13 ▸ (Below.refl _ _).alloc (Nat.le_refl _) _
 have LE : Loc w13 (w12.heap.size) #[.int .i64 n3, .int .i64 f3] := hw13 ▸ loc_at (w12) _ _ rfl
 have zw13 : w12.heap.size + 1 ≤ w13.heap.size := by rw [← hw13]; simp
 rw [hw13]
 clear hw13
 have Bw13 := bu Bw12 bb
 have sw13 := bb.size
 replace LC := LC.up bb
 replace LS := LS.up bb
 replace LD := LD.up bb
 replace LY := LY.up bb
 replace LZ := LZ.up bb
 clear Bw12
 replace O := hide (O.out.below bb)
 replace OA := hide (OA.out.below bb)
 replace ON := hide (ON.out.below bb)
 replace RX := hide (RX.out.below bb)
 replace OY := hide (OY.out.below bb)
 replace OZ := hide (OZ.out.below bb)
 replace RR := hide (RR.out.below bb)
 clear bb
 have cLE0 := LE.cell 0 rfl
 have cLE1 := LE.cell 1 rfl
 go_wp2_with fail
 refine (IL.out _ RR.out (HE.out _ Bw13) (HT.out _ Bw13)).mono ?_
 rintro _ w14 ⟨uL, rfl, OL, bb⟩
 clear cLE0 cLE1
 have Bw14 := bu Bw13 bb
 have sw14 := bb.size
 replace LC := LC.up bb
 replace LS := LS.up bb
 replace LD := LD.up bb
 replace LY := LY.up bb
 replace LZ := LZ.up bb
 replace LE := LE.up bb
 clear Bw13
 replace O := hide (O.out.below bb)
 replace OA := hide (OA.out.below bb)
 replace ON := hide (ON.out.below bb)
 replace RX := hide (RX.out.below bb)
 replace OY := hide (OY.out.below bb)
 replace OZ := hide (OZ.out.below bb)
 replace RR := hide (RR.out.below bb)
 clear bb
 clear IL
 replace OL := OI.ri OL (by omega)
 obtain ⟨aL, cL, rfl⟩ := OL.form
 replace OL := hide OL
 go_upto_region 11 with fail
 obtain ⟨w15, hw15⟩ : ∃ w9_, (w14.alloc (.cells #[.int .i64 vo3, .int .i64 lo3, .int .i64 v3, .string s3, .slice aL z3.length cL, .string d3] 30)) = w9_ := ⟨_, rfl⟩
 have bb : Below w14.heap.size w14 w15 := hw15 ▸ (Below.refl _ _).alloc (Nat.le_refl _) _
 have LL : Loc w15 (w14.heap.size) #[.int .i64 vo3, .int .i64 lo3, .int .i64 v3, .string s3, .slice aL z3.length cL, .string d3] := hw15 ▸ loc_at (w14) _ _ rfl
 have zw15 : w14.heap.size + 1 ≤ w15.heap.size := by rw [← hw15]; simp
 rw [hw15]
 clear hw15
 have Bw15 := bu Bw14 bb
 have sw15 := bb.size
 replace LC := LC.up bb
 replace LS := LS.up bb
 replace LD := LD.up bb
 replace LY := LY.up bb
 replace LZ := LZ.up bb
 replace LE := LE.up bb
 clear Bw14
 replace O := hide (O.out.below bb)
 replace OA := hide (OA.out.below bb)
 replace ON := hide (ON.out.below bb)
 replace RX := hide (RX.out.below bb)
 replace OY := hide (OY.out.below bb)
 replace OZ := hide (OZ.out.below bb)
 replace RR := hide (RR.out.below bb)
 replace OL := hide (OL.out.below bb)
 clear bb
 have cLE0 := LE.cell 0 rfl
 have cLE1 := LE.cell 1 rfl
 go_wp2_with fail
 refine (SL.out _ RR.out).mono ?_
 rintro _ w16 ⟨uM, rfl, OM, bb⟩
 clear cLE0 cLE1
 have Bw16 := bu Bw15 bb
 have sw16 := bb.size
 replace LC := LC.up bb
 replace LS := LS.up bb
 replace LD := LD.up bb
 replace LY := LY.up bb
 replace LZ := LZ.up bb
 replace LE := LE.up bb
 replace LL := LL.up bb
 clear Bw15
 replace O := hide (O.out.below bb)
 replace OA := hide (OA.out.below bb)
 replace ON := hide (ON.out.below bb)
 replace RX := hide (RX.out.below bb)
 replace OY := hide (OY.out.below bb)
 replace OZ := hide (OZ.out.below bb)
 replace RR := hide (RR.out.below bb)
 replace OL := hide (OL.out.below bb)
 clear bb
 clear SL
 replace OM := OI.ri OM (by omega)
 obtain ⟨aM, cM, rfl⟩ := OM.form
 replace OM := hide OM
 go_upto_region 12 with fail
 obtain ⟨w17, hw17⟩ : ∃ w9_, (w16.alloc (.cells #[.int .i64 vo3, .int .i64 lo3, .int .i64 v3, .string s3, .slice aM z3.length cM, .string d3] 30)) = w9_ := ⟨_, rfl⟩
 have bb : Below w16.heap.size w16 w17 := hw17 ▸ (Below.refl _ _).alloc (Nat.le_refl _) _
 have LM : Loc w17 (w16.heap.size) #[.int .i64 vo3, .int .i64 lo3, .int .i64 v3, .string s3, .slice aM z3.length cM, .string d3] := hw17 ▸ loc_at (w16) _ _ rfl
 have zw17 : w16.heap.size + 1 ≤ w17.heap.size := by rw [← hw17]; simp
 rw [hw17]
 clear hw17
 have Bw17 := bu Bw16 bb
 have sw17 := bb.size
 replace LC := LC.up bb
 replace LS := LS.up bb
 replace LD := LD.up bb
 replace LY := LY.up bb
 replace LZ := LZ.up bb
 replace LE := LE.up bb
 replace LL := LL.up bb
 clear Bw16
 replace O := hide (O.out.below bb)
 replace OA := hide (OA.out.below bb)
 replace ON := hide (ON.out.below bb)
 replace RX := hide (RX.out.below bb)
 replace OY := hide (OY.out.below bb)
 replace OZ := hide (OZ.out.below bb)
 replace RR := hide (RR.out.below bb)
 replace OL := hide (OL.out.below bb)
 replace OM := hide (OM.out.below bb)
 clear bb
 as_aux_lemma =>
 go_wp2_with fail
 refine (D4.out _ Bw17).mono ?_
 rintro _ w18 ⟨n4, f4, v4, s4, uQ, z4, rfl, hs4, hl4, OQ, bb⟩
 have Bw18 := bu Bw17 bb
 have sw18 := bb.size
 replace LC := LC.up bb
 replace LS := LS.up bb
 replace LD := LD.up bb
 replace LY := LY.up bb
 replace LZ := LZ.up bb
 replace LE := LE.up bb
 replace LL := LL.up bb
 replace LM := LM.up bb
 clear Bw17
 replace O := hide (O.out.below bb)
 replace OA := hide (OA.out.below bb)
 replace ON := hide (ON.out.below bb)
 replace RX := hide (RX.out.below bb)
 replace OY := hide (OY.out.below bb)
 replace OZ := hide (OZ.out.below bb)
 replace RR := hide (RR.out.below bb)
 replace OL := hide (OL.out.below bb)
 replace OM := hide (OM.out.below bb)
 clear bb
 clear D4
 replace OQ := OI.ri OQ (by omega)
 obtain ⟨aQ, cQ, rfl⟩ := OQ.form
 replace OQ := hide OQ
 go_upto_region 13 with fail
 obtain ⟨w19, hw19⟩ : ∃ w9_, ((w18.alloc (.cells #[.int .i64 n4, .int .i64 f4] 25)).alloc (.cells #[.int .i64 v4, .string s4, .slice aQ z4.length cQ] 28)) = w9_ := ⟨_, rfl⟩
 have bb : Below w18.heap.size w18 w19 := hw19 ▸ ((Below.refl _ _).alloc (Nat.le_refl _) _).alloc (by simp) _
 have LF : Loc w19 (w18.heap.size) #[.int .i64 n4, .int .i64 f4] := hw19 ▸ (loc_at (w18) _ _ rfl).alloc _
 have LQ : Loc w19 (w18.heap.size + 1) #[.int .i64 v4, .string s4, .slice aQ z4.length cQ] := hw19 ▸ loc_at (w18.alloc _) _ _ (by simp)
 have zw19 : w18.heap.size + 1 + 1 ≤ w19.heap.size := by rw [← hw19]; simp
 rw [hw19]
 clear hw19
 have Bw19 := bu Bw18 bb
 have sw19 := bb.size
 replace LC := LC.up bb
 replace LS := LS.up bb
 replace LD := LD.up bb
 replace LY := LY.up bb
 replace LZ := LZ.up bb
 replace LE := LE.up bb
 replace LL := LL.up bb
 replace LM := LM.up bb
 clear Bw18
 replace O := hide (O.out.below bb)
 replace OA := hide (OA.out.below bb)
 replace ON := hide (ON.out.below bb)
 replace RX := hide (RX.out.below bb)
 replace OY := hide (OY.out.below bb)
 replace OZ := hide (OZ.out.below bb)
 replace RR := hide (RR.out.below bb)
 replace OL := hide (OL.out.below bb)
 replace OM := hide (OM.out.below bb)
 replace OQ := hide (OQ.out.below bb)
 clear bb
 go_wp2_with fail
 refine (D5.out _ Bw19).mono ?_
 rintro _ w20 ⟨n5, f5, k5, aT, kT, cT, qs, rfl, hn5, hk5, hbq, hlq, hlk, RQ, bb⟩
 have Bw20 := bu Bw19 bb
 have sw20 := bb.size
 replace LC := LC.up bb
 replace LS := LS.up bb
 replace LD := LD.up bb
 replace LY := LY.up bb
 replace LZ := LZ.up bb
 replace LE := LE.up bb
 replace LL := LL.up bb
 replace LM := LM.up bb
 replace LF := LF.up bb
 replace LQ := LQ.up bb
 clear Bw19
 replace O := hide (O.out.below bb)
 replace OA := hide (OA.out.below bb)
 replace ON := hide (ON.out.below bb)
 replace RX := hide (RX.out.below bb)
 replace OY := hide (OY.out.below bb)
 replace OZ := hide (OZ.out.below bb)
 replace RR := hide (RR.out.below bb)
 replace OL := hide (OL.out.below bb)
 replace OM := hide (OM.out.below bb)
 replace OQ := hide (OQ.out.below bb)
 clear bb
 clear D5 hn5
 subst hlq
 replace hbq := hide hbq
 replace RQ := hide RQ
 obtain ⟨⟨⟨v5, s5, z5⟩, e5⟩, hx5⟩ : ∃ x : QcT × Int, (qcOfA 7 n5 f5 qs k5).getD noQc = x := ⟨_, rfl⟩
 obtain ⟨b5, hb5⟩ : ∃ b, (qcOfA 7 n5 f5 qs k5).isSome = b := ⟨_, rfl⟩
 have IQ := hide fun w' (h : RB w' (.slice aT qs.length cT) qs) (e : Env w') (t : EnvT w') => implQcOf_any n5 f5 aT cT qs k5 w' (by omega) h (bytes_k hbq.out) e t _ _ (hide ⟨hx5, hb5⟩)
 have SQ := hide fun w' (h : RB w' (.slice aT qs.length cT) qs) => specQcOf_any n5 f5 aT cT qs k5 w' (by omega) h hbq.out _ _ (hide ⟨hx5, hb5⟩)
 have lz5 := qcOf_small hbq.out n5 f5 k5
 rw [hx5] at lz5
 dsimp only at IQ SQ lz5
 replace hx5 := hide hx5
 replace hb5 := hide hb5
 go_upto_region 14 with fail
 obtain ⟨w21, hw21⟩ : ∃ w9_, (w20.alloc (.cells #[.int .i64 n5, .int .i64 f5] 25)) = w9_ := ⟨_, rfl⟩
 have bb : Below w20.heap.size w20 w21 := hw21 ▸ (Below.refl _ _).alloc (Nat.le_refl _) _
 have LG : Loc w21 (w20.heap.size) #[.int .i64 n5, .int .i64 f5] := hw21 ▸ loc_at (w20) _ _ rfl
 have zw21 : w20.heap.size + 1 ≤ w21.heap.size := by rw [← hw21]; simp
 rw [hw21]
 clear hw21
 have Bw21 := bu Bw20 bb
 have sw21 := bb.size
 replace LC := LC.up bb
 replace LS := LS.up bb
 replace LD := LD.up bb
 replace LY := LY.up bb
 replace LZ := LZ.up bb
 replace LE := LE.up bb
 replace LL := LL.up bb
 replace LM := LM.up bb
 replace LF := LF.up bb
 replace LQ := LQ.up bb
 clear Bw20
 replace O := hide (O.out.below bb)
 replace OA := hide (OA.out.below bb)
 replace ON := hide (ON.out.below bb)
 replace RX := hide (RX.out.below bb)
 replace OY := hide (OY.out.below bb)
 replace OZ := hide (OZ.out.below bb)
 replace RR := hide (RR.out.below bb)
 replace OL := hide (OL.out.below bb)
 replace OM := hide (OM.out.below bb)
 replace OQ := hide (OQ.out.below bb)
 replace RQ := hide (RQ.out.below bb)
 clear bb
 have cLG0 := LG.cell 0 rfl
 have cLG1 := LG.cell 1 rfl
 go_wp2_with fail
 refine (IQ.out _ RQ.out (HE.out _ Bw21) (HT.out _ Bw21)).mono ?_
 rintro _ w22 ⟨uU, rfl, OU, bb⟩
 clear cLG0 cLG1
 have Bw22 := bu Bw21 bb
 have sw22 := bb.size
 replace LC := LC.up bb
 replace LS := LS.up bb
 replace LD := LD.up bb
 replace LY := LY.up bb
 replace LZ := LZ.up bb
 replace LE := LE.up bb
 replace LL := LL.up bb
 replace LM := LM.up bb
 replace LF := LF.up bb
 replace LQ := LQ.up bb
 replace LG := LG.up bb
 clear Bw21
 replace O := hide (O.out.below bb)
 replace OA := hide (OA.out.below bb)
 replace ON := hide (ON.out.below bb)
 replace RX := hide (RX.out.below bb)
 replace OY := hide (OY.out.below bb)
 replace OZ := hide (OZ.out.below bb)
 replace RR := hide (RR.out.below bb)
 replace OL := hide (OL.out.below bb)
 replace OM := hide (OM.out.below bb)
 replace OQ := hide (OQ.out.below bb)
 replace RQ := hide (RQ.out.below bb)
 clear bb
 clear IQ
 replace OU := OI.ri OU (by omega)
 obtain ⟨aU, cU, rfl⟩ := OU.form
 replace OU := hide OU
 go_upto_region 15 with fail
 obtain ⟨w23, hw23⟩ : ∃ w9_, (w22.alloc (.cells #[.int .i64 v5, .string s5, .slice aU z5.length cU] 28)) = w9_ := ⟨_, rfl⟩
 have bb : Below w22.heap.size w22 w23 := hw23 ▸ (Below.refl _ _).alloc (Nat.le_refl _) _
 have LU : Loc w23 (w22.heap.size) #[.int .i64 v5, .string s5, .slice aU z5.length cU] := hw23 ▸ loc_at (w22) _ _ rfl
 have zw23 : w22.heap.size + 1 ≤ w23.heap.size := by rw [← hw23]; simp
 rw [hw23]
 clear hw23
 have Bw23 := bu Bw22 bb
 have sw23 := bb.size
 replace LC := LC.up bb
 replace LS := LS.up bb
 replace LD := LD.up bb
 replace LY := LY.up bb
 replace LZ := LZ.up bb
 replace LE := LE.up bb
 replace LL := LL.up bb
 replace LM := LM.up bb
 replace LF := LF.up bb
 replace LQ := LQ.up bb
 replace LG := LG.up bb
 clear Bw22
 replace O := hide (O.out.below bb)
 replace OA := hide (OA.out.below bb)
 replace ON := hide (ON.out.below bb)
 replace RX := hide (RX.out.below bb)
 replace OY := hide (OY.out.below bb)
 replace OZ := hide (OZ.out.below bb)
 replace RR := hide (RR.out.below bb)
 replace OL := hide (OL.out.below bb)
 replace OM := hide (OM.out.below bb)
 replace OQ := hide (OQ.out.below bb)
 replace RQ := hide (RQ.out.below bb)
 replace OU := hide (OU.out.below bb)
 clear bb
 have cLG0 := LG.cell 0 rfl
 have cLG1 := LG.cell 1 rfl
 go_wp2_with fail
 refine (SQ.out _ RQ.out).mono ?_
 rintro _ w24 ⟨uV, rfl, OV, bb⟩
 clear cLG0 cLG1
 have Bw24 := bu Bw23 bb
 have sw24 := bb.size
 replace LC := LC.up bb
 replace LS := LS.up bb
 replace LD := LD.up bb
 replace LY := LY.up bb
 replace LZ := LZ.up bb
 replace LE := LE.up bb
 replace LL := LL.up bb
 replace LM := LM.up bb
 replace LF := LF.up bb
 replace LQ := LQ.up bb
 replace LG := LG.up bb
 replace LU := LU.up bb
 clear Bw23
 replace O := hide (O.out.below bb)
 replace OA := hide (OA.out.below bb)
 replace ON := hide (ON.out.below bb)
 replace RX := hide (RX.out.below bb)
 replace OY := hide (OY.out.below bb)
 replace OZ := hide (OZ.out.below bb)
 replace RR := hide (RR.out.below bb)
 replace OL := hide (OL.out.below bb)
 replace OM := hide (OM.out.below bb)
 replace OQ := hide (OQ.out.below bb)
 replace RQ := hide (RQ.out.below bb)
 replace OU := hide (OU.out.below bb)
 clear bb
 clear SQ
 replace OV := OI.ri OV (by omega)
 obtain ⟨aV, cV, rfl⟩ := OV.form
 replace OV := hide OV
 go_upto_region 16 with fail
 obtain ⟨w25, hw25⟩ : ∃ w9_, (w24.alloc (.cells #[.int .i64 v5, .string s5, .slice aV z5.length cV] 28)) = w9_ := ⟨_, rfl⟩
 have bb : Below w24.heap.size w24 w25 := hw25 ▸ (Below.refl _ _).alloc (Nat.le_refl _) _
 have LV : Loc w25 (w24.heap.size) #[.int .i64 v5, .string s5, .slice aV z5.length cV] := hw25 ▸ loc_at (w24) _ _ rfl
 have zw25 : w24.heap.size + 1 ≤ w25.heap.size := by rw [← hw25]; simp
 rw [hw25]
 clear hw25
 have Bw25 := bu Bw24 bb
 have sw25 := bb.size
 replace LC := LC.up bb
 replace LS := LS.up bb
 replace LD := LD.up bb
 replace LY := LY.up bb
 replace LZ := LZ.up bb
 replace LE := LE.up bb
 replace LL := LL.up bb
 replace LM := LM.up bb
 replace LF := LF.up bb
 replace LQ := LQ.up bb
 replace LG := LG.up bb
 replace LU := LU.up bb
 clear Bw24
 replace O := hide (O.out.below bb)
 replace OA := hide (OA.out.below bb)
 replace ON := hide (ON.out.below bb)
 replace RX := hide (RX.out.below bb)
 replace OY := hide (OY.out.below bb)
 replace OZ := hide (OZ.out.below bb)
 replace RR := hide (RR.out.below bb)
 replace OL := hide (OL.out.below bb)
 replace OM := hide (OM.out.below bb)
 replace OQ := hide (OQ.out.below bb)
 replace RQ := hide (RQ.out.below bb)
 replace OU := hide (OU.out.below bb)
 replace OV := hide (OV.out.below bb)
 clear bb
 as_aux_lemma =>
 have SY := hide fun a k a' k' w' (h : RI w' (.slice a z2.length k) z2) (h' : RI w' (.slice a' z2.length k') z2) => implSafeSame vo2 lo2 v2 s2 a k z2 d2 vo2 lo2 v2 s2 a' k' z2 d2 w' h h'
 have SM := hide fun a k a' k' w' (h : RI w' (.slice a z3.length k) z3) (h' : RI w' (.slice a' z3.length k') z3) => implSafeSame vo3 lo3 v3 s3 a k z3 d3 vo3 lo3 v3 s3 a' k' z3 d3 w' h h'
 simp only [ssam_me] at SY SM
 have SU := hide fun a b w' (h : RI w' a z5) (h' : RI w' b z5) => implQcSame v5 v5 s5 s5 a b z5 z5 w' h h'
 simp only [alike_me] at SU
 have IC := hide fun w' (h : RI w' (.slice aQ z4.length cQ) z4) (e : Env w') => implQcBytes n4 f4 v4 s4 aQ cQ z4 w' (by omega) e h
 have SC := hide fun w' (h : RI w' (.slice aQ z4.length cQ) z4) => specQcBytes n4 f4 v4 s4 aQ cQ z4 w' (by omega) h
 have lbQ := qcB_len n4 f4 v4 s4 z4
 generalize qcB n4 f4 v4 s4 z4 = bQ at *
 obtain ⟨tA, htA⟩ : ∃ y_, strOfNums bA = y_ := ⟨_, rfl⟩
 obtain ⟨tN, htN⟩ : ∃ y_, strOfNums bN = y_ := ⟨_, rfl⟩
 obtain ⟨tQ, htQ⟩ : ∃ y_, strOfNums bQ = y_ := ⟨_, rfl⟩
 have CA := hide fun u w' (h : RB w' u bA) => conv_rb h (by omega)
 rw [htA] at CA
 have CN := hide fun u w' (h : RB w' u bN) => conv_rb h (by omega)
 rw [htN] at CN
 have CQ := hide fun u w' (h : RB w' u bQ) => conv_rb h (by omega)
 rw [htQ] at CQ
 clear htA htN htQ
 have CVA := hide fun w' (hb : Below w25.heap.size w25 w') => CA.out _ w' (OA.out.below hb)
 have CVN := hide fun w' (hb : Below w25.heap.size w25 w') => CN.out _ w' (ON.out.below hb)
 have eb2 : (b2 != b2) = false := by simp
 have eb5 : (b5 != b5) = false := by simp
 have ep3 : (p3 != p3) = false := by simp
 have ee5 : (e5 != e5) = false := by simp
 have etA : (tA.toList != tA.toList) = false := by simp
 have etN : (tN.toList != tN.toList) = false := by simp
 have etQ : (tQ.toList != tQ.toList) = false := by simp
 have K : Hid (∀ w', Below w25.heap.size w25 w' → (fun w' => Below w25.heap.size w25 w' ∧ (w'.cell? ⟨w2.heap.size, 0, none⟩ = some (.int .i64 n) ∧ w'.cell? ⟨w2.heap.size, 1, none⟩ = some (.int .i64 f)) ∧ (w'.cell? ⟨w2.heap.size + 1, 0, none⟩ = some (.int .i64 vo) ∧ w'.cell? ⟨w2.heap.size + 1, 1, none⟩ = some (.int .i64 lo) ∧ w'.cell? ⟨w2.heap.size + 1, 2, none⟩ = some (.int .i64 v) ∧ w'.cell? ⟨w2.heap.size + 1, 3, none⟩ = some (.string s) ∧ w'.cell? ⟨w2.heap.size + 1, 4, none⟩ = some (.slice aO xs.length cO) ∧ w'.cell? ⟨w2.heap.size + 1, 5, none⟩ = some (.string d)) ∧ (w'.cell? ⟨w6.heap.size, 0, none⟩ = some (.int .i64 n2) ∧ w'.cell? ⟨w6.heap.size, 1, none⟩ = some (.int .i64 f2)) ∧ (w'.cell? ⟨w8.heap.size, 0, none⟩ = some (.int .i64 vo2) ∧ w'.cell? ⟨w8.heap.size, 1, none⟩ = some (.int .i64 lo2) ∧ w'.cell? ⟨w8.heap.size, 2, none⟩ = some (.int .i64 v2) ∧ w'.cell? ⟨w8.heap.size, 3, none⟩ = some (.string s2) ∧ w'.cell? ⟨w8.heap.size, 4, none⟩ = some (.slice aY z2.length cY) ∧ w'.cell? ⟨w8.heap.size, 5, none⟩ = some (.string d2)) ∧ (w'.cell? ⟨w10.heap.size, 0, none⟩ = some (.int .i64 vo2) ∧ w'.cell? ⟨w10.heap.size, 1, none⟩ = some (.int .i64 lo2) ∧ w'.cell? ⟨w10.heap.size, 2, none⟩ = some (.int .i64 v2) ∧ w'.cell? ⟨w10.heap.size, 3, none⟩ = some (.string s2) ∧ w'.cell? ⟨w10.heap.size, 4, none⟩ = some (.slice aZ z2.length cZ) ∧ w'.cell? ⟨w10.heap.size, 5, none⟩ = some (.string d2)) ∧ (w'.cell? ⟨w12.heap.size, 0, none⟩ = some (.int .i64 n3) ∧ w'.cell? ⟨w12.heap.size, 1, none⟩ = some (.int .i64 f3)) ∧ (w'.cell? ⟨w14.heap.size, 0, none⟩ = some (.int .i64 vo3) ∧ w'.cell? ⟨w14.heap.size, 1, none⟩ = some (.int .i64 lo3) ∧ w'.cell? ⟨w14.heap.size, 2, none⟩ = some (.int .i64 v3) ∧ w'.cell? ⟨w14.heap.size, 3, none⟩ = some (.string s3) ∧ w'.cell? ⟨w14.heap.size, 4, none⟩ = some (.slice aL z3.length cL) ∧ w'.cell? ⟨w14.heap.size, 5, none⟩ = some (.string d3)) ∧ (w'.cell? ⟨w16.heap.size, 0, none⟩ = some (.int .i64 vo3) ∧ w'.cell? ⟨w16.heap.size, 1, none⟩ = some (.int .i64 lo3) ∧ w'.cell? ⟨w16.heap.size, 2, none⟩ = some (.int .i64 v3) ∧ w'.cell? ⟨w16.heap.size, 3, none⟩ = some (.string s3) ∧ w'.cell? ⟨w16.heap.size, 4, none⟩ = some (.slice aM z3.length cM) ∧ w'.cell? ⟨w16.heap.size, 5, none⟩ = some (.string d3)) ∧ (w'.cell? ⟨w18.heap.size, 0, none⟩ = some (.int .i64 n4) ∧ w'.cell? ⟨w18.heap.size, 1, none⟩ = some (.int .i64 f4)) ∧ (w'.cell? ⟨w18.heap.size + 1, 0, none⟩ = some (.int .i64 v4) ∧ w'.cell? ⟨w18.heap.size + 1, 1, none⟩ = some (.string s4) ∧ w'.cell? ⟨w18.heap.size + 1, 2, none⟩ = some (.slice aQ z4.length cQ)) ∧ (w'.cell? ⟨w20.heap.size, 0, none⟩ = some (.int .i64 n5) ∧ w'.cell? ⟨w20.heap.size, 1, none⟩ = some (.int .i64 f5)) ∧ (w'.cell? ⟨w22.heap.size, 0, none⟩ = some (.int .i64 v5) ∧ w'.cell? ⟨w22.heap.size, 1, none⟩ = some (.string s5) ∧ w'.cell? ⟨w22.heap.size, 2, none⟩ = some (.slice aU z5.length cU)) ∧ (w'.cell? ⟨w24.heap.size, 0, none⟩ = some (.int .i64 v5) ∧ w'.cell? ⟨w24.heap.size, 1, none⟩ = some (.string s5) ∧ w'.cell? ⟨w24.heap.size, 2, none⟩ = some (.slice aV z5.length cV)) ∧ (convert 22 9 (.slice aA bA.length cA)).run Tryz.prog w' = .ok (.string tA) w' ∧ (convert 22 9 (.slice aN bN.length cN)).run Tryz.prog w' = .ok (.string tN) w') w') := hide fun w' hb' => ⟨hb', ⟨(LC.up hb').cell 0 rfl, (LC.up hb').cell 1 rfl⟩, ⟨(LS.up hb').cell 0 rfl, (LS.up hb').cell 1 rfl, (LS.up hb').cell 2 rfl, (LS.up hb').cell 3 rfl, (LS.up hb').cell 4 rfl, (LS.up hb').cell 5 rfl⟩, ⟨(LD.up hb').cell 0 rfl, (LD.up hb').cell 1 rfl⟩, ⟨(LY.up hb').cell 0 rfl, (LY.up hb').cell 1 rfl, (LY.up hb').cell 2 rfl, (LY.up hb').cell 3 rfl, (LY.up hb').cell 4 rfl, (LY.up hb').cell 5 rfl⟩, ⟨(LZ.up hb').cell 0 rfl, (LZ.up hb').cell 1 rfl, (LZ.up hb').cell 2 rfl, (LZ.up hb').cell 3 rfl, (LZ.up hb').cell 4 rfl, (LZ.up hb').cell 5 rfl⟩, ⟨(LE.up hb').cell 0 rfl, (LE.up hb').cell 1 rfl⟩, ⟨(LL.up hb').cell 0 rfl, (LL.up hb').cell 1 rfl, (LL.up hb').cell 2 rfl, (LL.up hb').cell 3 rfl, (LL.up hb').cell 4 rfl, (LL.up hb').cell 5 rfl⟩, ⟨(LM.up hb').cell 0 rfl, (LM.up hb').cell 1 rfl, (LM.up hb').cell 2 rfl, (LM.up hb').cell 3 rfl, (LM.up hb').cell 4 rfl, (LM.up hb').cell 5 rfl⟩, ⟨(LF.up hb').cell 0 rfl, (LF.up hb').cell 1 rfl⟩, ⟨(LQ.up hb').cell 0 rfl, (LQ.up hb').cell 1 rfl, (LQ.up hb').cell 2 rfl⟩, ⟨(LG.up hb').cell 0 rfl, (LG.up hb').cell 1 rfl⟩, ⟨(LU.up hb').cell 0 rfl, (LU.up hb').cell 1 rfl, (LU.up hb').cell 2 rfl⟩, ⟨(LV.up hb').cell 0 rfl, (LV.up hb').cell 1 rfl, (LV.up hb').cell 2 rfl⟩, CVA.out w' hb', CVN.out w' hb'⟩
 go_cut [176] (fun c wx => c = .bool false ∧ Below w25.heap.size w25 wx)
 case first =>
  as_aux_lemma =>
  have bS : Below w25.heap.size w25 w25.drew := Below.drew (Below.refl _ _)
  refine wrn K bS (fun hHeld => ?_)
  refine' tj 0 112 rfl ?_ ?_;rotate_left
  ·intro w h; (try dsimp only at h); go_simp; try with_reducible rfl
  simp only [pU]
  refine' tj 2 114 rfl ?_ ?_;rotate_left
  ·intro w h; (try dsimp only at h); go_simp; try with_reducible rfl
  simp only [pU]
  refine' tj 3 115 rfl ?_ ?_;rotate_left
  ·intro w h; (try dsimp only at h); go_simp; try with_reducible rfl
  simp only [pU]
  refine' tj 1 113 rfl ?_ ?_;rotate_left
  ·intro w h; (try dsimp only at h); go_simp; try with_reducible rfl
  simp only [pU]
  refine rd 4 rfl (fun KK hKK => ?_)
  go_simp
  have hgo := bS
  refine (SB.out _ (O.out.below hgo)).mono ?_
  rintro e wz16_1 ⟨uB, rfl, OB1, bb⟩
  have bz1 : Below w25.heap.size w25 wz16_1 := bu bS bb
  replace OB1 := hide (OB.rb OB1 (by omega))
  clear hgo
  clear hHeld
  refine hKK.out _ _ (K.out _ bz1) (fun hHeld => ?_)
  clear hKK KK bb
  have cv := CA.out _ _ OB1.out
  refine rd 5 rfl (fun KK hKK => ?_)
  go_simp
  clear cv
  clear hHeld
  refine hKK.out _ _ (K.out _ bz1) (fun hHeld => ?_)
  clear hKK KK
  refine' tj 6 118 rfl ?_ ?_;rotate_left
  ·intro w h; (try dsimp only at h); go_simp; try with_reducible rfl
  simp only [pU]
  refine' tj 7 119 rfl ?_ ?_;rotate_left
  ·intro w h; (try dsimp only at h); go_simp; try with_reducible rfl
  simp only [pU]
  refine' tj 8 120 rfl ?_ ?_;rotate_left
  ·intro w h; (try dsimp only at h); go_simp; try with_reducible rfl
  simp only [pU]
  refine' tj 10 122 rfl ?_ ?_;rotate_left
  ·intro w h; (try dsimp only at h); go_simp; try with_reducible rfl
  simp only [pU]
  refine' tj 11 123 rfl ?_ ?_;rotate_left
  ·intro w h; (try dsimp only at h); go_simp; try with_reducible rfl
  simp only [pU]
  refine' tj 9 121 rfl ?_ ?_;rotate_left
  ·intro w h; (try dsimp only at h); go_simp; try with_reducible rfl
  simp only [pU]
  refine rd 12 rfl (fun KK hKK => ?_)
  go_simp
  have hgo := bz1
  refine (SN.out _ (O.out.below hgo)).mono ?_
  rintro e wz16_2 ⟨uB2, rfl, OB2, bb⟩
  have bz2 : Below w25.heap.size w25 wz16_2 := bu bz1 bb
  replace OB2 := hide (OB.rb OB2 (by omega))
  clear OB1
  clear hgo
  clear hHeld
  refine hKK.out _ _ (K.out _ bz2) (fun hHeld => ?_)
  clear hKK KK bb
  have cv := CN.out _ _ OB2.out
  refine rd 13 rfl (fun KK hKK => ?_)
  go_simp
  clear cv
  clear hHeld
  refine hKK.out _ _ (K.out _ bz2) (fun hHeld => ?_)
  clear hKK KK
  refine' tj 14 126 rfl ?_ ?_;rotate_left
  ·intro w h; (try dsimp only at h); go_simp; try with_reducible rfl
  simp only [pU]
  refine' tj 15 127 rfl ?_ ?_;rotate_left
  ·intro w h; (try dsimp only at h); go_simp; try with_reducible rfl
  simp only [pU]
  refine' tj 16 128 rfl ?_ ?_;rotate_left
  ·intro w h; (try dsimp only at h); go_simp; try with_reducible rfl
  simp only [pU]
  refine' tj 17 129 rfl ?_ ?_;rotate_left
  ·intro w h; (try dsimp only at h); go_simp; try with_reducible rfl
  simp only [pU]
  refine' tj 18 130 rfl ?_ ?_;rotate_left
  ·intro w h; (try dsimp only at h); go_simp; try with_reducible rfl
  simp only [pU]
  refine' tj 19 131 rfl ?_ ?_;rotate_left
  ·intro w h; (try dsimp only at h); go_simp; try with_reducible rfl
  simp only [pU]
  refine' tj 20 132 rfl ?_ ?_;rotate_left
  ·intro w h; (try dsimp only at h); go_simp; try with_reducible rfl
  simp only [pU]
  refine' tj 21 133 rfl ?_ ?_;rotate_left
  ·intro w h; (try dsimp only at h); go_simp; try with_reducible rfl
  simp only [pU]
  refine' tj 22 134 rfl ?_ ?_;rotate_left
  ·intro w h; (try dsimp only at h); go_simp; try with_reducible rfl
  simp only [pU]
  refine' tj 23 135 rfl ?_ ?_;rotate_left
  ·intro w h; (try dsimp only at h); go_simp; try with_reducible rfl
  simp only [pU]
  refine rd 24 rfl (fun KK hKK => ?_)
  go_simp
  have hgo := bz2
  refine (SY.out _ _ _ _ _ (OY.out.below hgo) (OZ.out.below hgo)).mono ?_
  rintro e wz16_3 ⟨rfl, bb⟩
  have bz3 : Below w25.heap.size w25 wz16_3 := bu bz2 bb
  clear OB2
  clear hgo
  clear hHeld
  refine hKK.out _ _ (K.out _ bz3) (fun hHeld => ?_)
  clear hKK KK bb
  refine' tj 25 137 rfl ?_ ?_;rotate_left
  ·intro w h; (try dsimp only at h); go_simp; try with_reducible rfl
  simp only [pU]
  refine' tj 26 138 rfl ?_ ?_;rotate_left
  ·intro w h; (try dsimp only at h); go_simp; try with_reducible rfl
  simp only [pU]
  refine' tj 27 139 rfl ?_ ?_;rotate_left
  ·intro w h; (try dsimp only at h); go_simp; try with_reducible rfl
  simp only [pU]
  refine' tj 28 140 rfl ?_ ?_;rotate_left
  ·intro w h; (try dsimp only at h); go_simp; try with_reducible rfl
  simp only [pU]
  refine' tj 29 141 rfl ?_ ?_;rotate_left
  ·intro w h; (try dsimp only at h); go_simp; try with_reducible rfl
  simp only [pU]
  refine' tj 30 142 rfl ?_ ?_;rotate_left
  ·intro w h; (try dsimp only at h); go_simp; try with_reducible rfl
  simp only [pU]
  refine' tj 31 143 rfl ?_ ?_;rotate_left
  ·intro w h; (try dsimp only at h); go_simp; try with_reducible rfl
  simp only [pU]
  refine' tj 32 144 rfl ?_ ?_;rotate_left
  ·intro w h; (try dsimp only at h); go_simp; try with_reducible rfl
  simp only [pU]
  refine' tj 33 145 rfl ?_ ?_;rotate_left
  ·intro w h; (try dsimp only at h); go_simp; try with_reducible rfl
  simp only [pU]
  refine' tj 34 146 rfl ?_ ?_;rotate_left
  ·intro w h; (try dsimp only at h); go_simp; try with_reducible rfl
  simp only [pU]
  refine rd 35 rfl (fun KK hKK => ?_)
  go_simp
  have hgo := bz3
  refine (SM.out _ _ _ _ _ (OL.out.below hgo) (OM.out.below hgo)).mono ?_
  rintro e wz16_4 ⟨rfl, bb⟩
  have bz4 : Below w25.heap.size w25 wz16_4 := bu bz3 bb
  clear hgo
  clear hHeld
  refine hKK.out _ _ (K.out _ bz4) (fun hHeld => ?_)
  clear hKK KK bb
  refine' tj 36 148 rfl ?_ ?_;rotate_left
  ·intro w h; (try dsimp only at h); go_simp; try with_reducible rfl
  simp only [pU]
  refine' tj 37 149 rfl ?_ ?_;rotate_left
  ·intro w h; (try dsimp only at h); go_simp; try with_reducible rfl
  simp only [pU]
  refine' tj 38 150 rfl ?_ ?_;rotate_left
  ·intro w h; (try dsimp only at h); go_simp; try with_reducible rfl
  simp only [pU]
  refine' tj 39 151 rfl ?_ ?_;rotate_left
  ·intro w h; (try dsimp only at h); go_simp; try with_reducible rfl
  simp only [pU]
  refine' tj 40 152 rfl ?_ ?_;rotate_left
  ·intro w h; (try dsimp only at h); go_simp; try with_reducible rfl
  simp only [pU]
  refine' tj 43 155 rfl ?_ ?_;rotate_left
  ·intro w h; (try dsimp only at h); go_simp; try with_reducible rfl
  simp only [pU]
  refine' tj 44 156 rfl ?_ ?_;rotate_left
  ·intro w h; (try dsimp only at h); go_simp; try with_reducible rfl
  simp only [pU]
  refine rd 41 rfl (fun KK hKK => ?_)
  go_simp
  have hgo := bz4
  refine (IC.out _ (OQ.out.below hgo) (HE.out _ (bu Bw25 hgo))).mono ?_
  rintro e wz16_5 ⟨uB3, rfl, OB3, bb⟩
  have bz5 : Below w25.heap.size w25 wz16_5 := bu bz4 bb
  replace OB3 := hide (OB.rb OB3 (by omega))
  clear hgo
  clear hHeld
  refine hKK.out _ _ (K.out _ bz5) (fun hHeld => ?_)
  clear hKK KK bb
  refine wpAnyH_ready (rs := [42, 45]) (by kernel_rfl) (by simp) (AllReadyH.cons rfl (fun KK hKK => ?_) (AllReadyH.cons rfl (fun KK hKK => ?_) AllReadyH.nil))
  ·have cv := CQ.out _ _ OB3.out
   go_simp
   clear cv
   clear hHeld
   refine hKK.out _ _ (K.out _ bz5) (fun hHeld => ?_)
   clear hKK KK
   refine rd 45 rfl (fun KK hKK => ?_)
   go_simp
   have hgo := bz5
   refine (SC.out _ (OQ.out.below hgo)).mono ?_
   rintro e wz16_6 ⟨uB4, rfl, OB4, bb⟩
   have bz6 : Below w25.heap.size w25 wz16_6 := bu bz5 bb
   replace OB4 := hide (OB.rb OB4 (by omega))
   replace OB3 := hide (OB3.out.below bb)
   clear hgo
   clear hHeld
   refine hKK.out _ _ (K.out _ bz6) (fun hHeld => ?_)
   clear hKK KK bb
   have cv := CQ.out _ _ OB4.out
   refine rd 46 rfl (fun KK hKK => ?_)
   go_simp
   clear cv
   clear hHeld
   refine hKK.out _ _ (K.out _ bz6) (fun hHeld => ?_)
   clear hKK KK
   refine' tj 47 159 rfl ?_ ?_;rotate_left
   ·intro w h; (try dsimp only at h); go_simp; try with_reducible rfl
   simp only [pU]
   refine' tj 48 160 rfl ?_ ?_;rotate_left
   ·intro w h; (try dsimp only at h); go_simp; try with_reducible rfl
   simp only [pU]
   refine' tj 49 161 rfl ?_ ?_;rotate_left
   ·intro w h; (try dsimp only at h); go_simp; try with_reducible rfl
   simp only [pU]
   refine' tj 50 162 rfl ?_ ?_;rotate_left
   ·intro w h; (try dsimp only at h); go_simp; try with_reducible rfl
   simp only [pU]
   refine' tj 51 163 rfl ?_ ?_;rotate_left
   ·intro w h; (try dsimp only at h); go_simp; try with_reducible rfl
   simp only [pU]
   refine' tj 52 164 rfl ?_ ?_;rotate_left
   ·intro w h; (try dsimp only at h); go_simp; try with_reducible rfl
   simp only [pU]
   refine' tj 53 165 rfl ?_ ?_;rotate_left
   ·intro w h; (try dsimp only at h); go_simp; try with_reducible rfl
   simp only [pU]
   refine' tj 54 166 rfl ?_ ?_;rotate_left
   ·intro w h; (try dsimp only at h); go_simp; try with_reducible rfl
   simp only [pU]
   refine' tj 55 167 rfl ?_ ?_;rotate_left
   ·intro w h; (try dsimp only at h); go_simp; try with_reducible rfl
   simp only [pU]
   refine' tj 56 168 rfl ?_ ?_;rotate_left
   ·intro w h; (try dsimp only at h); go_simp; try with_reducible rfl
   simp only [pU]
   refine' tj 57 169 rfl ?_ ?_;rotate_left
   ·intro w h; (try dsimp only at h); go_simp; try with_reducible rfl
   simp only [pU]
   refine' tj 58 170 rfl ?_ ?_;rotate_left
   ·intro w h; (try dsimp only at h); go_simp; try with_reducible rfl
   simp only [pU]
   refine' tj 59 171 rfl ?_ ?_;rotate_left
   ·intro w h; (try dsimp only at h); go_simp; try with_reducible rfl
   simp only [pU]
   refine' tj 60 172 rfl ?_ ?_;rotate_left
   ·intro w h; (try dsimp only at h); go_simp; try with_reducible rfl
   simp only [pU]
   refine' tj 61 173 rfl ?_ ?_;rotate_left
   ·intro w h; (try dsimp only at h); go_simp; try with_reducible rfl
   simp only [pU]
   refine rd 62 rfl (fun KK hKK => ?_)
   go_simp
   have hgo := bz6
   refine (SU.out _ _ _ (OU.out.below hgo) (OV.out.below hgo)).mono ?_
   rintro e wz16_7 ⟨rfl, bb⟩
   have bz7 : Below w25.heap.size w25 wz16_7 := bu bz6 bb
   clear OB3 OB4
   clear hgo
   clear hHeld
   refine hKK.out _ _ (K.out _ bz7) (fun hHeld => ?_)
   clear hKK KK bb
   refine' tj 63 175 rfl ?_ ?_;rotate_left
   ·intro w h; (try dsimp only at h); go_simp; try with_reducible rfl
   simp only [pU]
   refine' tj 64 176 rfl ?_ ?_;rotate_left
   ·intro w h; (try dsimp only at h); go_simp; try with_reducible rfl
   simp only [pU]
   clear hHeld
   refine wdn ?_
   go_wp2_with fail
   go_meet
   exact ⟨rfl, bz7⟩
  ·go_simp
   have hgo := bz5
   refine (SC.out _ (OQ.out.below hgo)).mono ?_
   rintro e wz16_8 ⟨uB4, rfl, OB4, bb⟩
   have bz8 : Below w25.heap.size w25 wz16_8 := bu bz5 bb
   replace OB4 := hide (OB.rb OB4 (by omega))
   replace OB3 := hide (OB3.out.below bb)
   clear hgo
   clear hHeld
   refine hKK.out _ _ (K.out _ bz8) (fun hHeld => ?_)
   clear hKK KK bb
   refine wpAnyH_ready (rs := [42, 46]) (by kernel_rfl) (by simp) (AllReadyH.cons rfl (fun KK hKK => ?_) (AllReadyH.cons rfl (fun KK hKK => ?_) AllReadyH.nil))
   ·have cv := CQ.out _ _ OB3.out
    go_simp
    clear cv
    clear hHeld
    refine hKK.out _ _ (K.out _ bz8) (fun hHeld => ?_)
    clear hKK KK
    have cv := CQ.out _ _ OB4.out
    refine rd 46 rfl (fun KK hKK => ?_)
    go_simp
    clear cv
    clear hHeld
    refine hKK.out _ _ (K.out _ bz8) (fun hHeld => ?_)
    clear hKK KK
    refine' tj 47 159 rfl ?_ ?_;rotate_left
    ·intro w h; (try dsimp only at h); go_simp; try with_reducible rfl
    simp only [pU]
    refine' tj 48 160 rfl ?_ ?_;rotate_left
    ·intro w h; (try dsimp only at h); go_simp; try with_reducible rfl
    simp only [pU]
    refine' tj 49 161 rfl ?_ ?_;rotate_left
    ·intro w h; (try dsimp only at h); go_simp; try with_reducible rfl
    simp only [pU]
    refine' tj 50 162 rfl ?_ ?_;rotate_left
    ·intro w h; (try dsimp only at h); go_simp; try with_reducible rfl
    simp only [pU]
    refine' tj 51 163 rfl ?_ ?_;rotate_left
    ·intro w h; (try dsimp only at h); go_simp; try with_reducible rfl
    simp only [pU]
    refine' tj 52 164 rfl ?_ ?_;rotate_left
    ·intro w h; (try dsimp only at h); go_simp; try with_reducible rfl
    simp only [pU]
    refine' tj 53 165 rfl ?_ ?_;rotate_left
    ·intro w h; (try dsimp only at h); go_simp; try with_reducible rfl
    simp only [pU]
    refine' tj 54 166 rfl ?_ ?_;rotate_left
    ·intro w h; (try dsimp only at h); go_simp; try with_reducible rfl
    simp only [pU]
    refine' tj 55 167 rfl ?_ ?_;rotate_left
    ·intro w h; (try dsimp only at h); go_simp; try with_reducible rfl
    simp only [pU]
    refine' tj 56 168 rfl ?_ ?_;rotate_left
    ·intro w h; (try dsimp only at h); go_simp; try with_reducible rfl
    simp only [pU]
    refine' tj 57 169 rfl ?_ ?_;rotate_left
    ·intro w h; (try dsimp only at h); go_simp; try with_reducible rfl
    simp only [pU]
    refine' tj 58 170 rfl ?_ ?_;rotate_left
    ·intro w h; (try dsimp only at h); go_simp; try with_reducible rfl
    simp only [pU]
    refine' tj 59 171 rfl ?_ ?_;rotate_left
    ·intro w h; (try dsimp only at h); go_simp; try with_reducible rfl
    simp only [pU]
    refine' tj 60 172 rfl ?_ ?_;rotate_left
    ·intro w h; (try dsimp only at h); go_simp; try with_reducible rfl
    simp only [pU]
    refine' tj 61 173 rfl ?_ ?_;rotate_left
    ·intro w h; (try dsimp only at h); go_simp; try with_reducible rfl
    simp only [pU]
    refine rd 62 rfl (fun KK hKK => ?_)
    go_simp
    have hgo := bz8
    refine (SU.out _ _ _ (OU.out.below hgo) (OV.out.below hgo)).mono ?_
    rintro e wz16_9 ⟨rfl, bb⟩
    have bz9 : Below w25.heap.size w25 wz16_9 := bu bz8 bb
    clear OB3 OB4
    clear hgo
    clear hHeld
    refine hKK.out _ _ (K.out _ bz9) (fun hHeld => ?_)
    clear hKK KK bb
    refine' tj 63 175 rfl ?_ ?_;rotate_left
    ·intro w h; (try dsimp only at h); go_simp; try with_reducible rfl
    simp only [pU]
    refine' tj 64 176 rfl ?_ ?_;rotate_left
    ·intro w h; (try dsimp only at h); go_simp; try with_reducible rfl
    simp only [pU]
    clear hHeld
    refine wdn ?_
    go_wp2_with fail
    go_meet
    exact ⟨rfl, bz9⟩
   ·have cv := CQ.out _ _ OB4.out
    go_simp
    clear cv
    clear hHeld
    refine hKK.out _ _ (K.out _ bz8) (fun hHeld => ?_)
    clear hKK KK
    have cv := CQ.out _ _ OB3.out
    refine rd 42 rfl (fun KK hKK => ?_)
    go_simp
    clear cv
    clear hHeld
    refine hKK.out _ _ (K.out _ bz8) (fun hHeld => ?_)
    clear hKK KK
    refine' tj 47 159 rfl ?_ ?_;rotate_left
    ·intro w h; (try dsimp only at h); go_simp; try with_reducible rfl
    simp only [pU]
    refine' tj 48 160 rfl ?_ ?_;rotate_left
    ·intro w h; (try dsimp only at h); go_simp; try with_reducible rfl
    simp only [pU]
    refine' tj 49 161 rfl ?_ ?_;rotate_left
    ·intro w h; (try dsimp only at h); go_simp; try with_reducible rfl
    simp only [pU]
    refine' tj 50 162 rfl ?_ ?_;rotate_left
    ·intro w h; (try dsimp only at h); go_simp; try with_reducible rfl
    simp only [pU]
    refine' tj 51 163 rfl ?_ ?_;rotate_left
    ·intro w h; (try dsimp only at h); go_simp; try with_reducible rfl
    simp only [pU]
    refine' tj 52 164 rfl ?_ ?_;rotate_left
    ·intro w h; (try dsimp only at h); go_simp; try with_reducible rfl
    simp only [pU]
    refine' tj 53 165 rfl ?_ ?_;rotate_left
    ·intro w h; (try dsimp only at h); go_simp; try with_reducible rfl
    simp only [pU]
    refine' tj 54 166 rfl ?_ ?_;rotate_left
    ·intro w h; (try dsimp only at h); go_simp; try with_reducible rfl
    simp only [pU]
    refine' tj 55 167 rfl ?_ ?_;rotate_left
    ·intro w h; (try dsimp only at h); go_simp; try with_reducible rfl
    simp only [pU]
    refine' tj 56 168 rfl ?_ ?_;rotate_left
    ·intro w h; (try dsimp only at h); go_simp; try with_reducible rfl
    simp only [pU]
    refine' tj 57 169 rfl ?_ ?_;rotate_left
    ·intro w h; (try dsimp only at h); go_simp; try with_reducible rfl
    simp only [pU]
    refine' tj 58 170 rfl ?_ ?_;rotate_left
    ·intro w h; (try dsimp only at h); go_simp; try with_reducible rfl
    simp only [pU]
    refine' tj 59 171 rfl ?_ ?_;rotate_left
    ·intro w h; (try dsimp only at h); go_simp; try with_reducible rfl
    simp only [pU]
    refine' tj 60 172 rfl ?_ ?_;rotate_left
    ·intro w h; (try dsimp only at h); go_simp; try with_reducible rfl
    simp only [pU]
    refine' tj 61 173 rfl ?_ ?_;rotate_left
    ·intro w h; (try dsimp only at h); go_simp; try with_reducible rfl
    simp only [pU]
    refine rd 62 rfl (fun KK hKK => ?_)
    go_simp
    have hgo := bz8
    refine (SU.out _ _ _ (OU.out.below hgo) (OV.out.below hgo)).mono ?_
    rintro e wz16_10 ⟨rfl, bb⟩
    have bz10 : Below w25.heap.size w25 wz16_10 := bu bz8 bb
    clear OB3 OB4
    clear hgo
    clear hHeld
    refine hKK.out _ _ (K.out _ bz10) (fun hHeld => ?_)
    clear hKK KK bb
    refine' tj 63 175 rfl ?_ ?_;rotate_left
    ·intro w h; (try dsimp only at h); go_simp; try with_reducible rfl
    simp only [pU]
    refine' tj 64 176 rfl ?_ ?_;rotate_left
    ·intro w h; (try dsimp only at h); go_simp; try with_reducible rfl
    simp only [pU]
    clear hHeld
    refine wdn ?_
    go_wp2_with fail
    go_meet
    exact ⟨rfl, bz10⟩
 case rest =>
 clear K
 obtain ⟨w26, hwq⟩ : ∃ x, x = wc := ⟨_, rfl⟩
 subst hwq
 obtain ⟨rfl, bb⟩ := hcut
 have Bw26 := bu Bw25 bb
 have sw26 := bb.size
 replace LC := LC.up bb
 replace LS := LS.up bb
 replace LD := LD.up bb
 replace LY := LY.up bb
 replace LZ := LZ.up bb
 replace LE := LE.up bb
 replace LL := LL.up bb
 replace LM := LM.up bb
 replace LF := LF.up bb
 replace LQ := LQ.up bb
 replace LG := LG.up bb
 replace LU := LU.up bb
 replace LV := LV.up bb
 clear Bw25
 replace O := hide (O.out.below bb)
 replace OA := hide (OA.out.below bb)
 replace ON := hide (ON.out.below bb)
 replace RX := hide (RX.out.below bb)
 replace OY := hide (OY.out.below bb)
 replace OZ := hide (OZ.out.below bb)
 replace RR := hide (RR.out.below bb)
 replace OL := hide (OL.out.below bb)
 replace OM := hide (OM.out.below bb)
 replace OQ := hide (OQ.out.below bb)
 replace RQ := hide (RQ.out.below bb)
 replace OU := hide (OU.out.below bb)
 replace OV := hide (OV.out.below bb)
 clear bb
 as_aux_lemma =>
 clear SB SN CVA CVN CA CN CQ IC SC SY SU etA etN etQ eb2 eb5 ep3 ee5
 clear OZ OM OQ OV
 clear LZ LM LF LQ LV
 have F2 : Hid (b2 = true → sokT n2 f2 (vo2, lo2, (v2, s2, z2), d2) = true ∧ ys = rawT (vo2, lo2, (v2, s2, z2), d2)) := hide fun h => (safOf_iff hby.out 7 (by omega) (by omega) n2 f2 _).1 (opt_some hx2.out (hb3.out.trans h))
 have F5 : Hid (b5 = true → qokB n5 f5 v5 s5 z5 = true ∧ StandsAt qs k5 (qcRaw v5 s5 z5) e5) := hide fun h => (qcOf_iff hbq.out 7 (by omega) (by omega) n5 f5 k5 v5 s5 z5 e5).1 (opt_some hx5.out (hb5.out.trans h))
 have CX := hide fun u w' (h : RB w' u ys) => conv_rb h (by omega)
 obtain ⟨tX, htX⟩ : ∃ y_, strOfNums ys = y_ := ⟨_, rfl⟩
 rw [htX] at CX
 clear htX
 have eX : (tX.toList != tX.toList) = false := by simp
 have CVX := hide fun w' (hb : Below w26.heap.size w26 w') => CX.out _ w' (RX.out.below hb)
 go_upto_region 18 with fail
 go_cut [201] (fun c wx => c = .bool false ∧ Below w26.heap.size w26 wx)
 case first =>
  as_aux_lemma =>
  cases b2
  ·cases b5
   ·have K : Hid (∀ w', Below w26.heap.size w26 w' → (fun w' => Below w26.heap.size w26 w' ∧ (w'.cell? ⟨w6.heap.size, 0, none⟩ = some (.int .i64 n2) ∧ w'.cell? ⟨w6.heap.size, 1, none⟩ = some (.int .i64 f2)) ∧ (w'.cell? ⟨w8.heap.size, 0, none⟩ = some (.int .i64 vo2) ∧ w'.cell? ⟨w8.heap.size, 1, none⟩ = some (.int .i64 lo2) ∧ w'.cell? ⟨w8.heap.size, 2, none⟩ = some (.int .i64 v2) ∧ w'.cell? ⟨w8.heap.size, 3, none⟩ = some (.string s2) ∧ w'.cell? ⟨w8.heap.size, 4, none⟩ = some (.slice aY z2.length cY) ∧ w'.cell? ⟨w8.heap.size, 5, none⟩ = some (.string d2)) ∧ (w'.cell? ⟨w20.heap.size, 0, none⟩ = some (.int .i64 n5) ∧ w'.cell? ⟨w20.heap.size, 1, none⟩ = some (.int .i64 f5)) ∧ (w'.cell? ⟨w22.heap.size, 0, none⟩ = some (.int .i64 v5) ∧ w'.cell? ⟨w22.heap.size, 1, none⟩ = some (.string s5) ∧ w'.cell? ⟨w22.heap.size, 2, none⟩ = some (.slice aU z5.length cU))) w') := hide fun w' hb' => ⟨hb', ⟨(LD.up hb').cell 0 rfl, (LD.up hb').cell 1 rfl⟩, ⟨(LY.up hb').cell 0 rfl, (LY.up hb').cell 1 rfl, (LY.up hb').cell 2 rfl, (LY.up hb').cell 3 rfl, (LY.up hb').cell 4 rfl, (LY.up hb').cell 5 rfl⟩, ⟨(LG.up hb').cell 0 rfl, (LG.up hb').cell 1 rfl⟩, ⟨(LU.up hb').cell 0 rfl, (LU.up hb').cell 1 rfl, (LU.up hb').cell 2 rfl⟩⟩
    have bS : Below w26.heap.size w26 w26.drew := Below.drew (Below.refl _ _)
    refine wrn K bS (fun hHeld => ?_)
    refine' tj 0 177 rfl ?_ ?_;rotate_left
    ·intro w h; (try dsimp only at h); go_simp; try with_reducible rfl
    simp only [pU]
    refine' tj 1 178 rfl ?_ ?_;rotate_left
    ·intro w h; (try dsimp only at h); go_simp; try with_reducible rfl
    simp only [pU]
    refine sk 2 179 rfl (h := ?_)
    simp only [pU]
    refine sk 3 180 rfl (h := ?_)
    simp only [pU]
    refine sk 6 183 rfl (h := ?_)
    simp only [pU]
    refine sk 4 181 rfl (h := ?_)
    simp only [pU]
    refine sk 7 184 rfl (h := ?_)
    simp only [pU]
    refine sk 5 182 rfl (h := ?_)
    simp only [pU]
    refine sk 8 185 rfl (h := ?_)
    simp only [pU]
    refine' tj 9 186 rfl ?_ ?_;rotate_left
    ·intro w h; (try dsimp only at h); go_simp; try with_reducible rfl
    simp only [pU]
    refine' tj 10 187 rfl ?_ ?_;rotate_left
    ·intro w h; (try dsimp only at h); go_simp; try with_reducible rfl
    simp only [pU]
    refine' tj 11 188 rfl ?_ ?_;rotate_left
    ·intro w h; (try dsimp only at h); go_simp; try with_reducible rfl
    simp only [pU]
    refine' tj 12 189 rfl ?_ ?_;rotate_left
    ·intro w h; (try dsimp only at h); go_simp; try with_reducible rfl
    simp only [pU]
    refine sk 13 190 rfl (h := ?_)
    simp only [pU]
    refine sk 14 191 rfl (h := ?_)
    simp only [pU]
    refine sk 17 194 rfl (h := ?_)
    simp only [pU]
    refine sk 18 195 rfl (h := ?_)
    simp only [pU]
    refine sk 19 196 rfl (h := ?_)
    simp only [pU]
    refine sk 15 192 rfl (h := ?_)
    simp only [pU]
    refine sk 20 197 rfl (h := ?_)
    simp only [pU]
    refine sk 16 193 rfl (h := ?_)
    simp only [pU]
    refine sk 21 198 rfl (h := ?_)
    simp only [pU]
    refine sk 22 199 rfl (h := ?_)
    simp only [pU]
    refine' tj 23 200 rfl ?_ ?_;rotate_left
    ·intro w h; (try dsimp only at h); go_simp; try with_reducible rfl
    simp only [pU]
    refine' tj 24 201 rfl ?_ ?_;rotate_left
    ·intro w h; (try dsimp only at h); go_simp; try with_reducible rfl
    simp only [pU]
    clear hHeld
    refine wdn ?_
    go_wp2_with fail
    go_meet
    exact ⟨rfl, bS⟩
   ·obtain ⟨q1, q2⟩ := F5.out rfl
    obtain ⟨_, qs1, _, _⟩ := qok_small q1
    have IU := hide fun w' (h : RI w' (.slice aU z5.length cU) z5) (e : Env w') => implQcBytes n5 f5 v5 s5 aU cU z5 w' (by omega) e h
    rw [show qcB n5 f5 v5 s5 z5 = qcRaw v5 s5 z5 from if_pos q1] at IU
    obtain ⟨aP, cP, hs1, RP⟩ := part_at RQ.out q2 (qcRaw_pos v5 s5 z5)
    have lq := qcRaw_len v5 s5 z5
    clear q1 q2 F5
    generalize qcRaw v5 s5 z5 = bU at *
    have lq2 : bU.length ≤ 5000 := by omega
    clear lq
    have CU := hide fun u w' (h : RB w' u bU) => conv_rb h (by omega)
    obtain ⟨tU, htU⟩ : ∃ y_, strOfNums bU = y_ := ⟨_, rfl⟩
    rw [htU] at CU
    clear htU
    have eU : (tU.toList != tU.toList) = false := by simp
    have CVP := hide fun w' (hb : Below w26.heap.size w26 w') => CU.out _ w' (RP.below hb)
    clear RP
    have K : Hid (∀ w', Below w26.heap.size w26 w' → (fun w' => Below w26.heap.size w26 w' ∧ (w'.cell? ⟨w6.heap.size, 0, none⟩ = some (.int .i64 n2) ∧ w'.cell? ⟨w6.heap.size, 1, none⟩ = some (.int .i64 f2)) ∧ (w'.cell? ⟨w8.heap.size, 0, none⟩ = some (.int .i64 vo2) ∧ w'.cell? ⟨w8.heap.size, 1, none⟩ = some (.int .i64 lo2) ∧ w'.cell? ⟨w8.heap.size, 2, none⟩ = some (.int .i64 v2) ∧ w'.cell? ⟨w8.heap.size, 3, none⟩ = some (.string s2) ∧ w'.cell? ⟨w8.heap.size, 4, none⟩ = some (.slice aY z2.length cY) ∧ w'.cell? ⟨w8.heap.size, 5, none⟩ = some (.string d2)) ∧ (w'.cell? ⟨w20.heap.size, 0, none⟩ = some (.int .i64 n5) ∧ w'.cell? ⟨w20.heap.size, 1, none⟩ = some (.int .i64 f5)) ∧ (w'.cell? ⟨w22.heap.size, 0, none⟩ = some (.int .i64 v5) ∧ w'.cell? ⟨w22.heap.size, 1, none⟩ = some (.string s5) ∧ w'.cell? ⟨w22.heap.size, 2, none⟩ = some (.slice aU z5.length cU)) ∧ (convert 22 9 (.slice aP bU.length cP)).run Tryz.prog w' = .ok (.string tU) w') w') := hide fun w' hb' => ⟨hb', ⟨(LD.up hb').cell 0 rfl, (LD.up hb').cell 1 rfl⟩, ⟨(LY.up hb').cell 0 rfl, (LY.up hb').cell 1 rfl, (LY.up hb').cell 2 rfl, (LY.up hb').cell 3 rfl, (LY.up hb').cell 4 rfl, (LY.up hb').cell 5 rfl⟩, ⟨(LG.up hb').cell 0 rfl, (LG.up hb').cell 1 rfl⟩, ⟨(LU.up hb').cell 0 rfl, (LU.up hb').cell 1 rfl, (LU.up hb').cell 2 rfl⟩, CVP.out w' hb'⟩
    have bS : Below w26.heap.size w26 w26.drew := Below.drew (Below.refl _ _)
    refine wrn K bS (fun hHeld => ?_)
    refine' tj 0 177 rfl ?_ ?_;rotate_left
    ·intro w h; (try dsimp only at h); go_simp; try with_reducible rfl
    simp only [pU]
    refine' tj 1 178 rfl ?_ ?_;rotate_left
    ·intro w h; (try dsimp only at h); go_simp; try with_reducible rfl
    simp only [pU]
    refine sk 2 179 rfl (h := ?_)
    simp only [pU]
    refine sk 3 180 rfl (h := ?_)
    simp only [pU]
    refine sk 6 183 rfl (h := ?_)
    simp only [pU]
    refine sk 4 181 rfl (h := ?_)
    simp only [pU]
    refine sk 7 184 rfl (h := ?_)
    simp only [pU]
    refine sk 5 182 rfl (h := ?_)
    simp only [pU]
    refine sk 8 185 rfl (h := ?_)
    simp only [pU]
    refine' tj 9 186 rfl ?_ ?_;rotate_left
    ·intro w h; (try dsimp only at h); go_simp; try with_reducible rfl
    simp only [pU]
    refine' tj 10 187 rfl ?_ ?_;rotate_left
    ·intro w h; (try dsimp only at h); go_simp; try with_reducible rfl
    simp only [pU]
    refine' tj 11 188 rfl ?_ ?_;rotate_left
    ·intro w h; (try dsimp only at h); go_simp; try with_reducible rfl
    simp only [pU]
    refine' tj 12 189 rfl ?_ ?_;rotate_left
    ·intro w h; (try dsimp only at h); go_simp; try with_reducible rfl
    simp only [pU]
    refine' tj 13 190 rfl ?_ ?_;rotate_left
    ·intro w h; (try dsimp only at h); go_simp; try with_reducible rfl
    simp only [pU]
    refine' tj 14 191 rfl ?_ ?_;rotate_left
    ·intro w h; (try dsimp only at h); go_simp; try with_reducible rfl
    simp only [pU]
    refine' tj 17 194 rfl ?_ ?_;rotate_left
    ·intro w h; (try dsimp only at h); go_simp; try with_reducible rfl
    simp only [pU]
    refine' tj 18 195 rfl ?_ ?_;rotate_left
    ·intro w h; (try dsimp only at h); go_simp; try with_reducible rfl
    simp only [pU]
    refine' tj 19 196 rfl ?_ ?_;rotate_left
    ·intro w h; (try dsimp only at h); go_simp; try with_reducible rfl
    simp only [pU]
    refine' tj 20 197 rfl ?_ ?_;rotate_left
    ·intro w h; (try dsimp only at h); go_simp; try with_reducible rfl
    simp only [pU]
    refine' tj 21 198 rfl ?_ ?_;rotate_left
    ·intro w h; (try dsimp only at h); go_simp; try with_reducible rfl
    simp only [pU]
    refine rd 15 rfl (fun KK hKK => ?_)
    go_simp
    have hgo := bS
    refine (IU.out _ (OU.out.below hgo) (HE.out _ (bu Bw26 hgo))).mono ?_
    rintro e wz18_1 ⟨uB6, rfl, OB6, bb⟩
    have bz1 : Below w26.heap.size w26 wz18_1 := bu bS bb
    replace OB6 := hide (OB.rb OB6 (by omega))
    clear hgo
    clear hHeld
    refine hKK.out _ _ (K.out _ bz1) (fun hHeld => ?_)
    clear hKK KK bb
    have cv := CU.out _ _ OB6.out
    refine rd 16 rfl (fun KK hKK => ?_)
    go_simp
    clear cv
    clear hHeld
    refine hKK.out _ _ (K.out _ bz1) (fun hHeld => ?_)
    clear hKK KK
    refine' tj 22 199 rfl ?_ ?_;rotate_left
    ·intro w h; (try dsimp only at h); go_simp; try with_reducible rfl
    simp only [pU]
    refine' tj 23 200 rfl ?_ ?_;rotate_left
    ·intro w h; (try dsimp only at h); go_simp; try with_reducible rfl
    simp only [pU]
    refine' tj 24 201 rfl ?_ ?_;rotate_left
    ·intro w h; (try dsimp only at h); go_simp; try with_reducible rfl
    simp only [pU]
    clear hHeld
    refine wdn ?_
    go_wp2_with fail
    go_meet
    exact ⟨rfl, bz1⟩
  ·cases b5
   ·obtain ⟨g1, g2⟩ := F2.out rfl
    obtain ⟨_, _, ⟨_, gs, _, _⟩, gd⟩ := sok_small g1
    dsimp only at gs gd
    have IY := hide fun w' (h : RI w' (.slice aY z2.length cY) z2) (e : Env w') => implSafeBytes n2 f2 vo2 lo2 v2 s2 aY cY z2 d2 w' (by omega) (by omega) e h
    rw [safB_of g1 g2] at IY
    clear g1 g2 gs gd F2
    have K : Hid (∀ w', Below w26.heap.size w26 w' → (fun w' => Below w26.heap.size w26 w' ∧ (w'.cell? ⟨w6.heap.size, 0, none⟩ = some (.int .i64 n2) ∧ w'.cell? ⟨w6.heap.size, 1, none⟩ = some (.int .i64 f2)) ∧ (w'.cell? ⟨w8.heap.size, 0, none⟩ = some (.int .i64 vo2) ∧ w'.cell? ⟨w8.heap.size, 1, none⟩ = some (.int .i64 lo2) ∧ w'.cell? ⟨w8.heap.size, 2, none⟩ = some (.int .i64 v2) ∧ w'.cell? ⟨w8.heap.size, 3, none⟩ = some (.string s2) ∧ w'.cell? ⟨w8.heap.size, 4, none⟩ = some (.slice aY z2.length cY) ∧ w'.cell? ⟨w8.heap.size, 5, none⟩ = some (.string d2)) ∧ (w'.cell? ⟨w20.heap.size, 0, none⟩ = some (.int .i64 n5) ∧ w'.cell? ⟨w20.heap.size, 1, none⟩ = some (.int .i64 f5)) ∧ (w'.cell? ⟨w22.heap.size, 0, none⟩ = some (.int .i64 v5) ∧ w'.cell? ⟨w22.heap.size, 1, none⟩ = some (.string s5) ∧ w'.cell? ⟨w22.heap.size, 2, none⟩ = some (.slice aU z5.length cU)) ∧ (convert 22 9 (.slice aX ys.length cX)).run Tryz.prog w' = .ok (.string tX) w') w') := hide fun w' hb' => ⟨hb', ⟨(LD.up hb').cell 0 rfl, (LD.up hb').cell 1 rfl⟩, ⟨(LY.up hb').cell 0 rfl, (LY.up hb').cell 1 rfl, (LY.up hb').cell 2 rfl, (LY.up hb').cell 3 rfl, (LY.up hb').cell 4 rfl, (LY.up hb').cell 5 rfl⟩, ⟨(LG.up hb').cell 0 rfl, (LG.up hb').cell 1 rfl⟩, ⟨(LU.up hb').cell 0 rfl, (LU.up hb').cell 1 rfl, (LU.up hb').cell 2 rfl⟩, CVX.out w' hb'⟩
    have bS : Below w26.heap.size w26 w26.drew := Below.drew (Below.refl _ _)
    refine wrn K bS (fun hHeld => ?_)
    refine' tj 0 177 rfl ?_ ?_;rotate_left
    ·intro w h; (try dsimp only at h); go_simp; try with_reducible rfl
    simp only [pU]
    refine' tj 1 178 rfl ?_ ?_;rotate_left
    ·intro w h; (try dsimp only at h); go_simp; try with_reducible rfl
    simp only [pU]
    refine' tj 2 179 rfl ?_ ?_;rotate_left
    ·intro w h; (try dsimp only at h); go_simp; try with_reducible rfl
    simp only [pU]
    refine' tj 3 180 rfl ?_ ?_;rotate_left
    ·intro w h; (try dsimp only at h); go_simp; try with_reducible rfl
    simp only [pU]
    refine' tj 6 183 rfl ?_ ?_;rotate_left
    ·intro w h; (try dsimp only at h); go_simp; try with_reducible rfl
    simp only [pU]
    refine' tj 7 184 rfl ?_ ?_;rotate_left
    ·intro w h; (try dsimp only at h); go_simp; try with_reducible rfl
    simp only [pU]
    refine rd 4 rfl (fun KK hKK => ?_)
    go_simp
    have hgo := bS
    refine (IY.out _ (OY.out.below hgo) (HE.out _ (bu Bw26 hgo))).mono ?_
    rintro e wz18_2 ⟨uB5, rfl, OB5, bb⟩
    have bz2 : Below w26.heap.size w26 wz18_2 := bu bS bb
    replace OB5 := hide (OB.rb OB5 (by omega))
    clear hgo
    clear hHeld
    refine hKK.out _ _ (K.out _ bz2) (fun hHeld => ?_)
    clear hKK KK bb
    have cv := CX.out _ _ OB5.out
    refine rd 5 rfl (fun KK hKK => ?_)
    go_simp
    clear cv
    clear hHeld
    refine hKK.out _ _ (K.out _ bz2) (fun hHeld => ?_)
    clear hKK KK
    refine' tj 8 185 rfl ?_ ?_;rotate_left
    ·intro w h; (try dsimp only at h); go_simp; try with_reducible rfl
    simp only [pU]
    refine' tj 9 186 rfl ?_ ?_;rotate_left
    ·intro w h; (try dsimp only at h); go_simp; try with_reducible rfl
    simp only [pU]
    refine' tj 10 187 rfl ?_ ?_;rotate_left
    ·intro w h; (try dsimp only at h); go_simp; try with_reducible rfl
    simp only [pU]
    refine' tj 11 188 rfl ?_ ?_;rotate_left
    ·intro w h; (try dsimp only at h); go_simp; try with_reducible rfl
    simp only [pU]
    refine' tj 12 189 rfl ?_ ?_;rotate_left
    ·intro w h; (try dsimp only at h); go_simp; try with_reducible rfl
    simp only [pU]
    refine sk 13 190 rfl (h := ?_)
    simp only [pU]
    refine sk 14 191 rfl (h := ?_)
    simp only [pU]
    refine sk 17 194 rfl (h := ?_)
    simp only [pU]
    refine sk 18 195 rfl (h := ?_)
    simp only [pU]
    refine sk 19 196 rfl (h := ?_)
    simp only [pU]
    refine sk 15 192 rfl (h := ?_)
    simp only [pU]
    refine sk 20 197 rfl (h := ?_)
    simp only [pU]
    refine sk 16 193 rfl (h := ?_)
    simp only [pU]
    refine sk 21 198 rfl (h := ?_)
    simp only [pU]
    refine sk 22 199 rfl (h := ?_)
    simp only [pU]
    refine' tj 23 200 rfl ?_ ?_;rotate_left
    ·intro w h; (try dsimp only at h); go_simp; try with_reducible rfl
    simp only [pU]
    refine' tj 24 201 rfl ?_ ?_;rotate_left
    ·intro w h; (try dsimp only at h); go_simp; try with_reducible rfl
    simp only [pU]
    clear hHeld
    refine wdn ?_
    go_wp2_with fail
    go_meet
    exact ⟨rfl, bz2⟩
   ·obtain ⟨g1, g2⟩ := F2.out rfl
    obtain ⟨_, _, ⟨_, gs, _, _⟩, gd⟩ := sok_small g1
    dsimp only at gs gd
    have IY := hide fun w' (h : RI w' (.slice aY z2.length cY) z2) (e : Env w') => implSafeBytes n2 f2 vo2 lo2 v2 s2 aY cY z2 d2 w' (by omega) (by omega) e h
    rw [safB_of g1 g2] at IY
    clear g1 g2 gs gd F2
    obtain ⟨q1, q2⟩ := F5.out rfl
    obtain ⟨_, qs1, _, _⟩ := qok_small q1
    have IU := hide fun w' (h : RI w' (.slice aU z5.length cU) z5) (e : Env w') => implQcBytes n5 f5 v5 s5 aU cU z5 w' (by omega) e h
    rw [show qcB n5 f5 v5 s5 z5 = qcRaw v5 s5 z5 from if_pos q1] at IU
    obtain ⟨aP, cP, hs1, RP⟩ := part_at RQ.out q2 (qcRaw_pos v5 s5 z5)
    have lq := qcRaw_len v5 s5 z5
    clear q1 q2 F5
    generalize qcRaw v5 s5 z5 = bU at *
    have lq2 : bU.length ≤ 5000 := by omega
    clear lq
    have CU := hide fun u w' (h : RB w' u bU) => conv_rb h (by omega)
    obtain ⟨tU, htU⟩ : ∃ y_, strOfNums bU = y_ := ⟨_, rfl⟩
    rw [htU] at CU
    clear htU
    have eU : (tU.toList != tU.toList) = false := by simp
    have CVP := hide fun w' (hb : Below w26.heap.size w26 w') => CU.out _ w' (RP.below hb)
    clear RP
    have K : Hid (∀ w', Below w26.heap.size w26 w' → (fun w' => Below w26.heap.size w26 w' ∧ (w'.cell? ⟨w6.heap.size, 0, none⟩ = some (.int .i64 n2) ∧ w'.cell? ⟨w6.heap.size, 1, none⟩ = some (.int .i64 f2)) ∧ (w'.cell? ⟨w8.heap.size, 0, none⟩ = some (.int .i64 vo2) ∧ w'.cell? ⟨w8.heap.size, 1, none⟩ = some (.int .i64 lo2) ∧ w'.cell? ⟨w8.heap.size, 2, none⟩ = some (.int .i64 v2) ∧ w'.cell? ⟨w8.heap.size, 3, none⟩ = some (.string s2) ∧ w'.cell? ⟨w8.heap.size, 4, none⟩ = some (.slice aY z2.length cY) ∧ w'.cell? ⟨w8.heap.size, 5, none⟩ = some (.string d2)) ∧ (w'.cell? ⟨w20.heap.size, 0, none⟩ = some (.int .i64 n5) ∧ w'.cell? ⟨w20.heap.size, 1, none⟩ = some (.int .i64 f5)) ∧ (w'.cell? ⟨w22.heap.size, 0, none⟩ = some (.int .i64 v5) ∧ w'.cell? ⟨w22.heap.size, 1, none⟩ = some (.string s5) ∧ w'.cell? ⟨w22.heap.size, 2, none⟩ = some (.slice aU z5.length cU)) ∧ (convert 22 9 (.slice aX ys.length cX)).run Tryz.prog w' = .ok (.string tX) w' ∧ (convert 22 9 (.slice aP bU.length cP)).run Tryz.prog w' = .ok (.string tU) w') w') := hide fun w' hb' => ⟨hb', ⟨(LD.up hb').cell 0 rfl, (LD.up hb').cell 1 rfl⟩, ⟨(LY.up hb').cell 0 rfl, (LY.up hb').cell 1 rfl, (LY.up hb').cell 2 rfl, (LY.up hb').cell 3 rfl, (LY.up hb').cell 4 rfl, (LY.up hb').cell 5 rfl⟩, ⟨(LG.up hb').cell 0 rfl, (LG.up hb').cell 1 rfl⟩, ⟨(LU.up hb').cell 0 rfl, (LU.up hb').cell 1 rfl, (LU.up hb').cell 2 rfl⟩, CVX.out w' hb', CVP.out w' hb'⟩
    have bS : Below w26.heap.size w26 w26.drew := Below.drew (Below.refl _ _)
    refine wrn K bS (fun hHeld => ?_)
    refine' tj 0 177 rfl ?_ ?_;rotate_left
    ·intro w h; (try dsimp only at h); go_simp; try with_reducible rfl
    simp only [pU]
    refine' tj 1 178 rfl ?_ ?_;rotate_left
    ·intro w h; (try dsimp only at h); go_simp; try with_reducible rfl
    simp only [pU]
    refine' tj 2 179 rfl ?_ ?_;rotate_left
    ·intro w h; (try dsimp only at h); go_simp; try with_reducible rfl
    simp only [pU]
    refine' tj 3 180 rfl ?_ ?_;rotate_left
    ·intro w h; (try dsimp only at h); go_simp; try with_reducible rfl
    simp only [pU]
    refine' tj 6 183 rfl ?_ ?_;rotate_left
    ·intro w h; (try dsimp only at h); go_simp; try with_reducible rfl
    simp only [pU]
    refine' tj 7 184 rfl ?_ ?_;rotate_left
    ·intro w h; (try dsimp only at h); go_simp; try with_reducible rfl
    simp only [pU]
    refine rd 4 rfl (fun KK hKK => ?_)
    go_simp
    have hgo := bS
    refine (IY.out _ (OY.out.below hgo) (HE.out _ (bu Bw26 hgo))).mono ?_
    rintro e wz18_3 ⟨uB5, rfl, OB5, bb⟩
    have bz3 : Below w26.heap.size w26 wz18_3 := bu bS bb
    replace OB5 := hide (OB.rb OB5 (by omega))
    clear hgo
    clear hHeld
    refine hKK.out _ _ (K.out _ bz3) (fun hHeld => ?_)
    clear hKK KK bb
    have cv := CX.out _ _ OB5.out
    refine rd 5 rfl (fun KK hKK => ?_)
    go_simp
    clear cv
    clear hHeld
    refine hKK.out _ _ (K.out _ bz3) (fun hHeld => ?_)
    clear hKK KK
    refine' tj 8 185 rfl ?_ ?_;rotate_left
    ·intro w h; (try dsimp only at h); go_simp; try with_reducible rfl
    simp only [pU]
    refine' tj 9 186 rfl ?_ ?_;rotate_left
    ·intro w h; (try dsimp only at h); go_simp; try with_reducible rfl
    simp only [pU]
    refine' tj 10 187 rfl ?_ ?_;rotate_left
    ·intro w h; (try dsimp only at h); go_simp; try with_reducible rfl
    simp only [pU]
    refine' tj 11 188 rfl ?_ ?_;rotate_left
    ·intro w h; (try dsimp only at h); go_simp; try with_reducible rfl
    simp only [pU]
    refine' tj 12 189 rfl ?_ ?_;rotate_left
    ·intro w h; (try dsimp only at h); go_simp; try with_reducible rfl
    simp only [pU]
    refine' tj 13 190 rfl ?_ ?_;rotate_left
    ·intro w h; (try dsimp only at h); go_simp; try with_reducible rfl
    simp only [pU]
    refine' tj 14 191 rfl ?_ ?_;rotate_left
    ·intro w h; (try dsimp only at h); go_simp; try with_reducible rfl
    simp only [pU]
    refine' tj 17 194 rfl ?_ ?_;rotate_left
    ·intro w h; (try dsimp only at h); go_simp; try with_reducible rfl
    simp only [pU]
    refine' tj 18 195 rfl ?_ ?_;rotate_left
    ·intro w h; (try dsimp only at h); go_simp; try with_reducible rfl
    simp only [pU]
    refine' tj 19 196 rfl ?_ ?_;rotate_left
    ·intro w h; (try dsimp only at h); go_simp; try with_reducible rfl
    simp only [pU]
    refine' tj 20 197 rfl ?_ ?_;rotate_left
    ·intro w h; (try dsimp only at h); go_simp; try with_reducible rfl
    simp only [pU]
    refine' tj 21 198 rfl ?_ ?_;rotate_left
    ·intro w h; (try dsimp only at h); go_simp; try with_reducible rfl
    simp only [pU]
    refine rd 15 rfl (fun KK hKK => ?_)
    go_simp
    have hgo := bz3
    refine (IU.out _ (OU.out.below hgo) (HE.out _ (bu Bw26 hgo))).mono ?_
    rintro e wz18_4 ⟨uB6, rfl, OB6, bb⟩
    have bz4 : Below w26.heap.size w26 wz18_4 := bu bz3 bb
    replace OB6 := hide (OB.rb OB6 (by omega))
    clear hgo
    clear hHeld
    refine hKK.out _ _ (K.out _ bz4) (fun hHeld => ?_)
    clear hKK KK bb
    have cv := CU.out _ _ OB6.out
    refine rd 16 rfl (fun KK hKK => ?_)
    go_simp
    clear cv
    clear hHeld
    refine hKK.out _ _ (K.out _ bz4) (fun hHeld => ?_)
    clear hKK KK
    refine' tj 22 199 rfl ?_ ?_;rotate_left
    ·intro w h; (try dsimp only at h); go_simp; try with_reducible rfl
    simp only [pU]
    refine' tj 23 200 rfl ?_ ?_;rotate_left
    ·intro w h; (try dsimp only at h); go_simp; try with_reducible rfl
    simp only [pU]
    refine' tj 24 201 rfl ?_ ?_;rotate_left
    ·intro w h; (try dsimp only at h); go_simp; try with_reducible rfl
    simp only [pU]
    clear hHeld
    refine wdn ?_
    go_wp2_with fail
    go_meet
    exact ⟨rfl, bz4⟩
 case rest =>
 obtain ⟨w27, hwq⟩ : ∃ x, x = wc := ⟨_, rfl⟩
 subst hwq
 obtain ⟨rfl, bb⟩ := hcut
 have Bw27 := bu Bw26 bb
 have sw27 := bb.size
 replace LC := LC.up bb
 replace LS := LS.up bb
 replace LD := LD.up bb
 replace LY := LY.up bb
 replace LE := LE.up bb
 replace LL := LL.up bb
 replace LG := LG.up bb
 replace LU := LU.up bb
 clear Bw26
 replace O := hide (O.out.below bb)
 replace OA := hide (OA.out.below bb)
 replace ON := hide (ON.out.below bb)
 replace RX := hide (RX.out.below bb)
 replace OY := hide (OY.out.below bb)
 replace RR := hide (RR.out.below bb)
 replace OL := hide (OL.out.below bb)
 replace RQ := hide (RQ.out.below bb)
 replace OU := hide (OU.out.below bb)
 clear bb
 clear F2 F5 CX CVX eX hx2 hb3 hx5 hb5 lz2 lz5
 clear RX OY RQ OU
 clear LD LY LG LU
 as_aux_lemma =>
 obtain ⟨p0, p1⟩ := lastA_at hbr.out hx3.out
 obtain ⟨m3, hm3⟩ : ∃ m : Nat, (m : Int) = p3 := ⟨p3.toNat, by omega⟩
 have hxt := lastA_took hbr.out hx3.out m3 hm3
 have hbt := hide (hbr.out.take m3)
 have RT := hide (RR.out.front m3 (by omega))
 have hca := rb_cap RR.out
 have hlt : (rs.take m3).length = m3 := by rw [List.length_take]; omega
 have hs3 : ∀ w, (Instr.slice 22 (.slice aR rs.length cR) none (some (.int .i64 p3)) none).run Tryz.prog w = .ok (.slice aR m3 cR) w := fun w => by rw [← hm3]; exact bcut_to aR rs.length cR m3 w (by omega)
 obtain ⟨ts, hts⟩ : ∃ y_, rs.take m3 = y_ := ⟨_, rfl⟩
 rw [hts] at hxt hbt RT hlt
 have hlt2 : ts.length ≤ 100000 := by omega
 rw [← hlt] at hs3 RT
 clear hts hlt hm3 p0 p1 hca
 have IT := hide fun w' (h : RB w' (.slice aR ts.length cR) ts) (e : Env w') (t : EnvT w') => implLastNote_any n3 f3 aR cR ts w' (by omega) h hbt.out e t _ (hide hxt)
 dsimp only at IT
 clear hxt hbt
 have K : Hid (∀ w', Below w27.heap.size w27 w' → (fun w' => Below w27.heap.size w27 w' ∧ (w'.cell? ⟨w12.heap.size, 0, none⟩ = some (.int .i64 n3) ∧ w'.cell? ⟨w12.heap.size, 1, none⟩ = some (.int .i64 f3))) w') := hide fun w' hb' => ⟨hb', ⟨(LE.up hb').cell 0 rfl, (LE.up hb').cell 1 rfl⟩⟩
 go_upto_region 20 with fail
 go_cut [30, 31] (fun c d1 wx => ∃ h uu, c = .pointer (some ⟨h, 0, none⟩) ∧ d1 = .int .i64 p3 ∧ w27.heap.size ≤ h ∧ h < wx.heap.size ∧ Loc wx h #[.int .i64 vo3, .int .i64 lo3, .int .i64 v3, .string s3, uu, .string d3] ∧ OI wx w27.heap.size uu z3 ∧ (∀ j, uu.ownBlock = some j → w27.heap.size ≤ j ∧ j < wx.heap.size ∧ j ≠ h) ∧ Below w27.heap.size w27 wx)
 case first =>
  refine wp_region_noPanic ?_
  refine wp_region_held_drew (S := fun w' => Below w27.heap.size w27 w' ∧ (w'.cell? ⟨w12.heap.size, 0, none⟩ = some (.int .i64 n3) ∧ w'.cell? ⟨w12.heap.size, 1, none⟩ = some (.int .i64 f3))) (by kernel_rfl) (K.out _ (Below.drew (Below.refl _ _))) (fun hHeld => ?_)
  obtain ⟨wd, hd⟩ : ∃ wd, w27.drew = wd := ⟨_, rfl⟩
  have bd : Below w27.heap.size w27 wd := hd ▸ Below.drew (Below.refl _ _)
  have szd := bd.size
  rw [hd] at hHeld ⊢
  clear hd
  refine' tj 0 203 rfl ?_ ?_;rotate_left
  ·intro w h; (try dsimp only at h); go_simp; try with_reducible rfl
  simp only [pU]
  refine' tj 1 204 rfl ?_ ?_;rotate_left
  ·intro w h; (try dsimp only at h); go_simp; try with_reducible rfl
  simp only [pU]
  refine' tj 2 205 rfl ?_ ?_;rotate_left
  ·intro w h; (try dsimp only at h); go_simp; try with_reducible rfl
  simp only [pU]
  refine' tj 3 206 rfl ?_ ?_;rotate_left
  ·intro w h; (try dsimp only at h); go_simp; try with_reducible rfl
  simp only [pU]
  refine wpAnyH_ready (rs := [4, 8]) (by kernel_rfl) (by simp) (AllReadyH.cons rfl (fun KK hKK => ?_) (AllReadyH.cons rfl (fun KK hKK => ?_) AllReadyH.nil))
  ·go_simp
   have hgo := bd
   refine (IT.out _ (RT.out.below hgo) (HE.out _ (bu Bw27 hgo)) (HT.out _ (bu Bw27 hgo))).mono ?_
   rintro e wc20_1 ⟨vv3, rfl, oq3, bnew⟩
   have bc20_2 : Below w27.heap.size w27 wc20_1 := bu bd bnew
   have zzwc20_1 := bnew.size
   have tl := World.ownsRow.lt oq3
   obtain ⟨aa, kk, rfl⟩ := oq3.form
   clear hHeld bnew hgo
   refine hKK.out _ _ (K.out _ bc20_2) (fun hHeld => ?_)
   clear hKK KK
   refine' tj 5 202 rfl ?_ ?_;rotate_left
   ·intro w h; (try dsimp only at h); go_simp; try with_reducible rfl
   simp only [pU]
   refine' tj 6 208 rfl ?_ ?_;rotate_left
   ·intro w h; (try dsimp only at h); go_simp; try with_reducible rfl
   simp only [pU]
   refine' tj 7 209 rfl ?_ ?_;rotate_left
   ·intro w h; (try dsimp only at h); go_simp; try with_reducible rfl
   simp only [pU]
   refine rd 8 rfl (fun KK hKK => ?_)
   go_simp
   obtain ⟨wl20_3, hwl20_3⟩ : ∃ x, wc20_1.alloc (.cells #[.int .i64 0, .int .i64 0, .int .i64 0, .string ⟨#[]⟩, .slice none 0 0, .string ⟨#[]⟩] 30) = x := ⟨_, rfl⟩
   have cbl20_4 : Below wc20_1.heap.size wc20_1 wl20_3 := hwl20_3 ▸ qalloc _ _
   have bl20_4 : Below w27.heap.size w27 wl20_3 := bu bc20_2 cbl20_4
   have zzwl20_3 : wl20_3.heap.size = wc20_1.heap.size + 1 := by rw [← hwl20_3]; simp
   have lg : Loc wl20_3 wc20_1.heap.size #[.int .i64 0, .int .i64 0, .int .i64 0, .string ⟨#[]⟩, .slice none 0 0, .string ⟨#[]⟩] := hwl20_3 ▸ loc_at wc20_1 _ _ rfl
   replace oq3 := oq3.below cbl20_4
   rw [hwl20_3]
   clear hHeld hwl20_3 cbl20_4
   refine hKK.out _ _ (K.out _ bl20_4) (fun hHeld => ?_)
   clear hKK KK
   have q0 := lg.cell 0 rfl
   have q1 := lg.cell 1 rfl
   have q2 := lg.cell 2 rfl
   have q3 := lg.cell 3 rfl
   have q4 := lg.cell 4 rfl
   have q5 := lg.cell 5 rfl
   have FG := lg.frozen
   refine rd 9 rfl (fun KK hKK => ?_)
   go_simp
   have bs : Below w27.heap.size w27 ((((((wl20_3.setCell ⟨wc20_1.heap.size, 0, none⟩ (.int .i64 vo3)).setCell ⟨wc20_1.heap.size, 1, none⟩ (.int .i64 lo3)).setCell ⟨wc20_1.heap.size, 2, none⟩ (.int .i64 v3)).setCell ⟨wc20_1.heap.size, 3, none⟩ (.string s3)).setCell ⟨wc20_1.heap.size, 4, none⟩ (.slice aa (z3).length kk)).setCell ⟨wc20_1.heap.size, 5, none⟩ (.string d3)) := (Below.set (Below.set (Below.set (Below.set (Below.set (Below.set bl20_4 _ _ (by omega)) _ _ (by omega)) _ _ (by omega)) _ _ (by omega)) _ _ (by omega)) _ _ (by omega))
   clear hHeld
   refine hKK.out _ _ (K.out _ bs) (fun hHeld => ?_)
   clear hKK KK
   refine' tj 10 31 rfl ?_ ?_;rotate_left
   ·intro w h; (try dsimp only at h); go_simp; try with_reducible rfl
   simp only [pU]
   clear hHeld
   refine wdn ?_
   go_wp2_with fail
   go_meet
   have k3 : Kp wl20_3 ((((((wl20_3.setCell ⟨wc20_1.heap.size, 0, none⟩ (.int .i64 vo3)).setCell ⟨wc20_1.heap.size, 1, none⟩ (.int .i64 lo3)).setCell ⟨wc20_1.heap.size, 2, none⟩ (.int .i64 v3)).setCell ⟨wc20_1.heap.size, 3, none⟩ (.string s3)).setCell ⟨wc20_1.heap.size, 4, none⟩ (.slice aa (z3).length kk)).setCell ⟨wc20_1.heap.size, 5, none⟩ (.string d3)) (fun k => k = wc20_1.heap.size) := (((((set_kp _ _ _ _).trans (set_kp _ _ _ _)).trans (set_kp _ _ _ _)).trans (set_kp _ _ _ _)).trans (set_kp _ _ _ _)).trans (set_kp _ _ _ _)
   have ll := lg.lt
   exact ⟨_, _, rfl, rfl, by omega, by simpa using ll, ((((((lg.set 0 _ rfl).set 1 _ rfl).set 2 _ rfl).set 3 _ rfl).set 4 _ rfl).set 5 _ rfl), (oq3.kp k3 (fun j hj e => by have := tl j hj; omega)).mono (by omega), fun j hj => by have := tl j hj; simp; omega, bs⟩
  ·go_simp
   obtain ⟨wl20_5, hwl20_5⟩ : ∃ x, wd.alloc (.cells #[.int .i64 0, .int .i64 0, .int .i64 0, .string ⟨#[]⟩, .slice none 0 0, .string ⟨#[]⟩] 30) = x := ⟨_, rfl⟩
   have cbl20_6 : Below wd.heap.size wd wl20_5 := hwl20_5 ▸ qalloc _ _
   have bl20_6 : Below w27.heap.size w27 wl20_5 := bu bd cbl20_6
   have zzwl20_5 : wl20_5.heap.size = wd.heap.size + 1 := by rw [← hwl20_5]; simp
   have lg : Loc wl20_5 wd.heap.size #[.int .i64 0, .int .i64 0, .int .i64 0, .string ⟨#[]⟩, .slice none 0 0, .string ⟨#[]⟩] := hwl20_5 ▸ loc_at wd _ _ rfl
   rw [hwl20_5]
   clear hHeld hwl20_5 cbl20_6
   refine hKK.out _ _ (K.out _ bl20_6) (fun hHeld => ?_)
   clear hKK KK
   refine rd 4 rfl (fun KK hKK => ?_)
   go_simp
   have hgo := bl20_6
   refine (IT.out _ (RT.out.below hgo) (HE.out _ (bu Bw27 hgo)) (HT.out _ (bu Bw27 hgo))).mono ?_
   rintro e wc20_7 ⟨vv3, rfl, oq3, bnew⟩
   have bc20_8 : Below w27.heap.size w27 wc20_7 := bu bl20_6 bnew
   have zzwc20_7 := bnew.size
   replace lg := lg.up bnew
   have tl := World.ownsRow.lt oq3
   obtain ⟨aa, kk, rfl⟩ := oq3.form
   clear hHeld bnew hgo
   refine hKK.out _ _ (K.out _ bc20_8) (fun hHeld => ?_)
   clear hKK KK
   refine' tj 5 202 rfl ?_ ?_;rotate_left
   ·intro w h; (try dsimp only at h); go_simp; try with_reducible rfl
   simp only [pU]
   refine' tj 6 208 rfl ?_ ?_;rotate_left
   ·intro w h; (try dsimp only at h); go_simp; try with_reducible rfl
   simp only [pU]
   refine' tj 7 209 rfl ?_ ?_;rotate_left
   ·intro w h; (try dsimp only at h); go_simp; try with_reducible rfl
   simp only [pU]
   have q0 := lg.cell 0 rfl
   have q1 := lg.cell 1 rfl
   have q2 := lg.cell 2 rfl
   have q3 := lg.cell 3 rfl
   have q4 := lg.cell 4 rfl
   have q5 := lg.cell 5 rfl
   have FG := lg.frozen
   refine rd 9 rfl (fun KK hKK => ?_)
   go_simp
   have bs : Below w27.heap.size w27 ((((((wc20_7.setCell ⟨wd.heap.size, 0, none⟩ (.int .i64 vo3)).setCell ⟨wd.heap.size, 1, none⟩ (.int .i64 lo3)).setCell ⟨wd.heap.size, 2, none⟩ (.int .i64 v3)).setCell ⟨wd.heap.size, 3, none⟩ (.string s3)).setCell ⟨wd.heap.size, 4, none⟩ (.slice aa (z3).length kk)).setCell ⟨wd.heap.size, 5, none⟩ (.string d3)) := (Below.set (Below.set (Below.set (Below.set (Below.set (Below.set bc20_8 _ _ (by omega)) _ _ (by omega)) _ _ (by omega)) _ _ (by omega)) _ _ (by omega)) _ _ (by omega))
   clear hHeld
   refine hKK.out _ _ (K.out _ bs) (fun hHeld => ?_)
   clear hKK KK
   refine' tj 10 31 rfl ?_ ?_;rotate_left
   ·intro w h; (try dsimp only at h); go_simp; try with_reducible rfl
   simp only [pU]
   clear hHeld
   refine wdn ?_
   go_wp2_with fail
   go_meet
   have k3 : Kp wc20_7 ((((((wc20_7.setCell ⟨wd.heap.size, 0, none⟩ (.int .i64 vo3)).setCell ⟨wd.heap.size, 1, none⟩ (.int .i64 lo3)).setCell ⟨wd.heap.size, 2, none⟩ (.int .i64 v3)).setCell ⟨wd.heap.size, 3, none⟩ (.string s3)).setCell ⟨wd.heap.size, 4, none⟩ (.slice aa (z3).length kk)).setCell ⟨wd.heap.size, 5, none⟩ (.string d3)) (fun k => k = wd.heap.size) := (((((set_kp _ _ _ _).trans (set_kp _ _ _ _)).trans (set_kp _ _ _ _)).trans (set_kp _ _ _ _)).trans (set_kp _ _ _ _)).trans (set_kp _ _ _ _)
   have ll := lg.lt
   exact ⟨_, _, rfl, rfl, by omega, by simpa using ll, ((((((lg.set 0 _ rfl).set 1 _ rfl).set 2 _ rfl).set 3 _ rfl).set 4 _ rfl).set 5 _ rfl), (oq3.kp k3 (fun j hj e => by have := tl j hj; omega)).mono (by omega), fun j hj => by have := tl j hj; simp; omega, bs⟩
 case rest =>
 clear K
 obtain ⟨wq20, hwq⟩ : ∃ x, x = wc := ⟨_, rfl⟩
 subst hwq
 obtain ⟨hLO, vLO, rfl, rfl, gLO, eLO, LO, oO, toO, bb⟩ := hcut
 obtain ⟨aoO, koO, rfl⟩ := oO.form
 have Bwq20 := bu Bw27 bb
 have swq20 := bb.size
 replace LC := LC.up bb
 replace LS := LS.up bb
 replace LE := LE.up bb
 replace LL := LL.up bb
 clear Bw27
 replace O := hide (O.out.below bb)
 replace OA := hide (OA.out.below bb)
 replace ON := hide (ON.out.below bb)
 replace RR := hide (RR.out.below bb)
 replace OL := hide (OL.out.below bb)
 replace RT := hide (RT.out.below bb)
 clear bb
 replace oO := hide (oO.ri (by omega))
 clear IT hs3
 clear RT RR
 clear LE
 have ep3 : (p3 != p3) = false := by simp
 have cLO0 := LO.cell 0 rfl
 have cLO1 := LO.cell 1 rfl
 have cLO2 := LO.cell 2 rfl
 have cLO3 := LO.cell 3 rfl
 have cLO4 := LO.cell 4 rfl
 have cLO5 := LO.cell 5 rfl
 have cLL0 := LL.cell 0 rfl
 have cLL1 := LL.cell 1 rfl
 have cLL2 := LL.cell 2 rfl
 have cLL3 := LL.cell 3 rfl
 have cLL4 := LL.cell 4 rfl
 have cLL5 := LL.cell 5 rfl
 go_wp2_with fail
 refine (SM.out _ _ _ _ _ oO.out OL.out).mono ?_
 rintro _ w28 ⟨rfl, bb⟩
 clear cLO0 cLO1 cLO2 cLO3 cLO4 cLO5 cLL0 cLL1 cLL2 cLL3 cLL4 cLL5
 have Bw28 := bu Bwq20 bb
 have sw28 := bb.size
 replace LC := LC.up bb
 replace LS := LS.up bb
 replace LL := LL.up bb
 replace LO := LO.up bb
 clear Bwq20
 replace O := hide (O.out.below bb)
 replace OA := hide (OA.out.below bb)
 replace ON := hide (ON.out.below bb)
 replace OL := hide (OL.out.below bb)
 replace oO := hide (oO.out.below bb)
 clear bb
 clear SM ep3
 clear oO OL
 clear LO LL
 as_aux_lemma =>
 have FN : Hid (sokB n f vo lo v s xs d = false → bA = [] ∧ bN = []) := hide fun h => note_no hbA.out hbN.out h
 have FY : Hid (sokB n f vo lo v s xs d = true → sokT n f (vo, lo, (v, s, xs), d) = true ∧ bA = rawT (vo, lo, (v, s, xs), d) ∧ bN = noteT (vo, lo, (v, s, xs), d)) := hide fun h => note_yes hbA.out hbN.out h
 clear hbA hbN
 generalize hsk : sokB n f vo lo v s xs d = bS at *
 have cLC0 := LC.cell 0 rfl
 have cLC1 := LC.cell 1 rfl
 have cLS0 := LS.cell 0 rfl
 have cLS1 := LS.cell 1 rfl
 have cLS2 := LS.cell 2 rfl
 have cLS3 := LS.cell 3 rfl
 have cLS4 := LS.cell 4 rfl
 have cLS5 := LS.cell 5 rfl
 go_wp2_with fail
 refine (IK.out _ O.out (HE.out _ Bw28)).mono ?_
 rintro _ w29 ⟨rfl, bb⟩
 clear cLC0 cLC1 cLS0 cLS1 cLS2 cLS3 cLS4 cLS5
 have Bw29 := bu Bw28 bb
 have sw29 := bb.size
 replace LC := LC.up bb
 replace LS := LS.up bb
 clear Bw28
 replace O := hide (O.out.below bb)
 replace OA := hide (OA.out.below bb)
 replace ON := hide (ON.out.below bb)
 clear bb
 clear IK
 cases bS
 ·obtain ⟨rfl, rfl⟩ := FN.out rfl
  clear FN FY hsk
  go_wp2
  go_ret
  exact ⟨rfl, Bw29⟩
 ·as_aux_lemma =>
   obtain ⟨y1, y2, y3⟩ := FY.out rfl
   clear FY FN hsk
   have hn0 := noteT_pos y1
   rw [← y3] at hn0
   have x1 : (safOfA 7 n f bA).getD noSaf = (vo, lo, (v, s, xs), d) ∧ (safOfA 7 n f bA).isSome = true := by rw [y2, safOf_raw y1]; exact ⟨rfl, rfl⟩
   have x2 : lastA n f bN = ((vo, lo, (v, s, xs), d), (bN.length : Int)) := by rw [y3]; exact lastA_note y1
   have x3 : lastA n f (bN.take (bN.length - 1)) = (newT, 0) := by rw [y3]; exact lastA_torn y1
   clear y1 y2 y3
   have IO := hide fun w' (h : RB w' (.slice aA bA.length cA) bA) (e : Env w') (t : EnvT w') => implSafeOf_any n f aA cA bA w' (by omega) h (bytes_k hb1.out) e t _ _ (hide x1)
   have IL := hide fun w' (h : RB w' (.slice aN bN.length cN) bN) (e : Env w') (t : EnvT w') => implLastNote_any n f aN cN bN w' (by omega) h hb2.out e t _ (hide x2)
   dsimp only at IO IL
   have SA := hide fun a k a' k' w' (h : RI w' (.slice a xs.length k) xs) (h' : RI w' (.slice a' xs.length k') xs) => implSafeSame vo lo v s a k xs d vo lo v s a' k' xs d w' h h'
   simp only [ssam_me] at SA
   have SZ := hide fun a k w' (h : RI w' (.slice a ([] : List Int).length k) []) (h' : RI w' (.slice none 0 0) []) => implSafeSame 0 0 0 ⟨#[]⟩ a k [] ⟨#[]⟩ 0 0 0 ⟨#[]⟩ none 0 [] ⟨#[]⟩ w' h h'
   simp only [ssam_me] at SZ
   have NR : Hid (∀ w, RI w (.slice none 0 0) []) := hide fun w => ⟨by simp, none, 0, rfl, .inl rfl⟩
   have RT := hide (ON.out.front (bN.length - 1) (by omega))
   have hca := rb_cap ON.out
   have hbt := hide (hb2.out.take (bN.length - 1))
   obtain ⟨nn, hnn⟩ : ∃ m, bN.length - 1 = m := ⟨_, rfl⟩
   rw [hnn] at RT x3 hbt
   have hlt : (bN.take nn).length = nn := by rw [List.length_take]; omega
   have hsw : IntKind.i64.wrap ((bN.length : Int) - 1) = (nn : Int) := by rw [IntKind.wrap_i64]; omega
   have hs3 : ∀ w, (Instr.slice 22 (.slice aN bN.length cN) none (some (.int .i64 (nn : Int))) none).run Tryz.prog w = .ok (.slice aN nn cN) w := fun w => bcut_to aN bN.length cN nn w (by omega)
   obtain ⟨ts, hts⟩ : ∃ y_, bN.take nn = y_ := ⟨_, rfl⟩
   rw [hts] at x3 hbt RT hlt
   have hlt2 : ts.length ≤ 100000 := by omega
   have hs4 : ∀ w, (Instr.slice 22 (.slice aN bN.length cN) none (some (.int .i64 (nn : Int))) none).run Tryz.prog w = .ok (.slice aN ts.length cN) w := by rw [hlt]; exact hs3
   rw [← hlt] at RT
   clear hts hlt hnn hca hs3 hn0 hb1 hb2
   have IT := hide fun w' (h : RB w' (.slice aN ts.length cN) ts) (e : Env w') (t : EnvT w') => implLastNote_any n f aN cN ts w' (by omega) h hbt.out e t _ (hide x3)
   dsimp only [newT] at IT
   clear x1 x2 x3 hbt
   have cLC0 := LC.cell 0 rfl
   have cLC1 := LC.cell 1 rfl
   go_wp2_with fail
   refine (IO.out _ OA.out (HE.out _ Bw29) (HT.out _ Bw29)).mono ?_
   rintro _ w30 ⟨uI, rfl, OI1, bb⟩
   clear cLC0 cLC1
   have Bw30 := bu Bw29 bb
   have sw30 := bb.size
   replace LC := LC.up bb
   replace LS := LS.up bb
   clear Bw29
   replace O := hide (O.out.below bb)
   replace OA := hide (OA.out.below bb)
   replace ON := hide (ON.out.below bb)
   replace RT := hide (RT.out.below bb)
   clear bb
   clear IO
   replace OI1 := OI.ri OI1 (by omega)
   obtain ⟨aI, cI, rfl⟩ := OI1.form
   replace OI1 := hide OI1
   go_upto_region 26 with fail
   obtain ⟨w31, hw31⟩ : ∃ w9_, (w30.alloc (.cells #[.int .i64 vo, .int .i64 lo, .int .i64 v, .string s, .slice aI xs.length cI, .string d] 30)) = w9_ := ⟨_, rfl⟩
   have bb : Below w30.heap.size w30 w31 := hw31 ▸ (Below.refl _ _).alloc (Nat.le_refl _) _
   have LI : Loc w31 (w30.heap.size) #[.int .i64 vo, .int .i64 lo, .int .i64 v, .string s, .slice aI xs.length cI, .string d] := hw31 ▸ loc_at (w30) _ _ rfl
   have zw31 : w30.heap.size + 1 ≤ w31.heap.size := by rw [← hw31]; simp
   rw [hw31]
   clear hw31
   have Bw31 := bu Bw30 bb
   have sw31 := bb.size
   replace LC := LC.up bb
   replace LS := LS.up bb
   clear Bw30
   replace O := hide (O.out.below bb)
   replace OA := hide (OA.out.below bb)
   replace ON := hide (ON.out.below bb)
   replace RT := hide (RT.out.below bb)
   replace OI1 := hide (OI1.out.below bb)
   clear bb
   clear OA
   have cLC0 := LC.cell 0 rfl
   have cLC1 := LC.cell 1 rfl
   go_wp2_with fail
   refine (IL.out _ ON.out (HE.out _ Bw31) (HT.out _ Bw31)).mono ?_
   rintro _ w32 ⟨uJ, rfl, OJ1, bb⟩
   clear cLC0 cLC1
   have Bw32 := bu Bw31 bb
   have sw32 := bb.size
   replace LC := LC.up bb
   replace LS := LS.up bb
   replace LI := LI.up bb
   clear Bw31
   replace O := hide (O.out.below bb)
   replace ON := hide (ON.out.below bb)
   replace RT := hide (RT.out.below bb)
   replace OI1 := hide (OI1.out.below bb)
   clear bb
   clear IL
   replace OJ1 := OI.ri OJ1 (by omega)
   obtain ⟨aJ, cJ, rfl⟩ := OJ1.form
   replace OJ1 := hide OJ1
   go_upto_region 27 with fail
   obtain ⟨w33, hw33⟩ : ∃ w9_, (w32.alloc (.cells #[.int .i64 vo, .int .i64 lo, .int .i64 v, .string s, .slice aJ xs.length cJ, .string d] 30)) = w9_ := ⟨_, rfl⟩
   have bb : Below w32.heap.size w32 w33 := hw33 ▸ (Below.refl _ _).alloc (Nat.le_refl _) _
   have LJ : Loc w33 (w32.heap.size) #[.int .i64 vo, .int .i64 lo, .int .i64 v, .string s, .slice aJ xs.length cJ, .string d] := hw33 ▸ loc_at (w32) _ _ rfl
   have zw33 : w32.heap.size + 1 ≤ w33.heap.size := by rw [← hw33]; simp
   rw [hw33]
   clear hw33
   have Bw33 := bu Bw32 bb
   have sw33 := bb.size
   replace LC := LC.up bb
   replace LS := LS.up bb
   replace LI := LI.up bb
   clear Bw32
   replace O := hide (O.out.below bb)
   replace ON := hide (ON.out.below bb)
   replace RT := hide (RT.out.below bb)
   replace OI1 := hide (OI1.out.below bb)
   replace OJ1 := hide (OJ1.out.below bb)
   clear bb
   clear ON
   as_aux_lemma =>
   have K : Hid (∀ w', Below w33.heap.size w33 w' → (fun w' => Below w33.heap.size w33 w' ∧ (w'.cell? ⟨w2.heap.size, 0, none⟩ = some (.int .i64 n) ∧ w'.cell? ⟨w2.heap.size, 1, none⟩ = some (.int .i64 f))) w') := hide fun w' hb' => ⟨hb', ⟨(LC.up hb').cell 0 rfl, (LC.up hb').cell 1 rfl⟩⟩
   go_upto_region 27 with fail
   go_cut [36, 37] (fun c d1 wx => ∃ h uu, c = .pointer (some ⟨h, 0, none⟩) ∧ d1 = .int .i64 0 ∧ w33.heap.size ≤ h ∧ h < wx.heap.size ∧ Loc wx h #[.int .i64 0, .int .i64 0, .int .i64 0, .string ⟨#[]⟩, uu, .string ⟨#[]⟩] ∧ OI wx w33.heap.size uu ([] : List Int) ∧ (∀ j, uu.ownBlock = some j → w33.heap.size ≤ j ∧ j < wx.heap.size ∧ j ≠ h) ∧ Below w33.heap.size w33 wx)
   case first =>
    refine wp_region_noPanic ?_
    refine wp_region_held_drew (S := fun w' => Below w33.heap.size w33 w' ∧ (w'.cell? ⟨w2.heap.size, 0, none⟩ = some (.int .i64 n) ∧ w'.cell? ⟨w2.heap.size, 1, none⟩ = some (.int .i64 f))) (by kernel_rfl) (K.out _ (Below.drew (Below.refl _ _))) (fun hHeld => ?_)
    obtain ⟨wd, hd⟩ : ∃ wd, w33.drew = wd := ⟨_, rfl⟩
    have bd : Below w33.heap.size w33 wd := hd ▸ Below.drew (Below.refl _ _)
    have szd := bd.size
    rw [hd] at hHeld ⊢
    clear hd
    refine' tj 0 244 rfl ?_ ?_;rotate_left
    ·intro w h; (try dsimp only at h); go_simp; try with_reducible rfl
    simp only [pU]
    refine' tj 1 245 rfl ?_ ?_;rotate_left
    ·intro w h; (try dsimp only at h); go_simp; try with_reducible rfl
    simp only [pU]
    refine' tj 2 246 rfl ?_ ?_;rotate_left
    ·intro w h; (try dsimp only at h); go_simp; try with_reducible rfl
    simp only [pU]
    refine' tj 3 247 rfl ?_ ?_;rotate_left
    ·intro w h; (try dsimp only at h); go_simp; try with_reducible rfl
    simp only [pU]
    refine' tj 4 248 rfl ?_ ?_;rotate_left
    ·intro w h; (try dsimp only at h); go_simp; try with_reducible rfl
    simp only [pU]
    refine' tj 5 249 rfl ?_ ?_;rotate_left
    ·intro w h; (try dsimp only at h); go_simp; try with_reducible rfl
    simp only [pU]
    refine wpAnyH_ready (rs := [6, 10]) (by kernel_rfl) (by simp) (AllReadyH.cons rfl (fun KK hKK => ?_) (AllReadyH.cons rfl (fun KK hKK => ?_) AllReadyH.nil))
    ·go_simp
     have hgo := bd
     refine (IT.out _ (RT.out.below hgo) (HE.out _ (bu Bw33 hgo)) (HT.out _ (bu Bw33 hgo))).mono ?_
     rintro e wc27_1 ⟨vv3, rfl, oq3, bnew⟩
     have bc27_2 : Below w33.heap.size w33 wc27_1 := bu bd bnew
     have zzwc27_1 := bnew.size
     have tl := World.ownsRow.lt oq3
     obtain ⟨aa, kk, rfl⟩ := oq3.form
     clear hHeld bnew hgo
     refine hKK.out _ _ (K.out _ bc27_2) (fun hHeld => ?_)
     clear hKK KK
     refine' tj 7 243 rfl ?_ ?_;rotate_left
     ·intro w h; (try dsimp only at h); go_simp; try with_reducible rfl
     simp only [pU]
     refine' tj 8 251 rfl ?_ ?_;rotate_left
     ·intro w h; (try dsimp only at h); go_simp; try with_reducible rfl
     simp only [pU]
     refine' tj 9 252 rfl ?_ ?_;rotate_left
     ·intro w h; (try dsimp only at h); go_simp; try with_reducible rfl
     simp only [pU]
     refine rd 10 rfl (fun KK hKK => ?_)
     go_simp
     obtain ⟨wl27_3, hwl27_3⟩ : ∃ x, wc27_1.alloc (.cells #[.int .i64 0, .int .i64 0, .int .i64 0, .string ⟨#[]⟩, .slice none 0 0, .string ⟨#[]⟩] 30) = x := ⟨_, rfl⟩
     have cbl27_4 : Below wc27_1.heap.size wc27_1 wl27_3 := hwl27_3 ▸ qalloc _ _
     have bl27_4 : Below w33.heap.size w33 wl27_3 := bu bc27_2 cbl27_4
     have zzwl27_3 : wl27_3.heap.size = wc27_1.heap.size + 1 := by rw [← hwl27_3]; simp
     have lg : Loc wl27_3 wc27_1.heap.size #[.int .i64 0, .int .i64 0, .int .i64 0, .string ⟨#[]⟩, .slice none 0 0, .string ⟨#[]⟩] := hwl27_3 ▸ loc_at wc27_1 _ _ rfl
     replace oq3 := oq3.below cbl27_4
     rw [hwl27_3]
     clear hHeld hwl27_3 cbl27_4
     refine hKK.out _ _ (K.out _ bl27_4) (fun hHeld => ?_)
     clear hKK KK
     have q0 := lg.cell 0 rfl
     have q1 := lg.cell 1 rfl
     have q2 := lg.cell 2 rfl
     have q3 := lg.cell 3 rfl
     have q4 := lg.cell 4 rfl
     have q5 := lg.cell 5 rfl
     have FG := lg.frozen
     refine rd 11 rfl (fun KK hKK => ?_)
     go_simp
     have bs : Below w33.heap.size w33 ((((((wl27_3.setCell ⟨wc27_1.heap.size, 0, none⟩ (.int .i64 0)).setCell ⟨wc27_1.heap.size, 1, none⟩ (.int .i64 0)).setCell ⟨wc27_1.heap.size, 2, none⟩ (.int .i64 0)).setCell ⟨wc27_1.heap.size, 3, none⟩ (.string ⟨#[]⟩)).setCell ⟨wc27_1.heap.size, 4, none⟩ (.slice aa (([] : List Int)).length kk)).setCell ⟨wc27_1.heap.size, 5, none⟩ (.string ⟨#[]⟩)) := (Below.set (Below.set (Below.set (Below.set (Below.set (Below.set bl27_4 _ _ (by omega)) _ _ (by omega)) _ _ (by omega)) _ _ (by omega)) _ _ (by omega)) _ _ (by omega))
     clear hHeld
     refine hKK.out _ _ (K.out _ bs) (fun hHeld => ?_)
     clear hKK KK
     refine' tj 12 37 rfl ?_ ?_;rotate_left
     ·intro w h; (try dsimp only at h); go_simp; try with_reducible rfl
     simp only [pU]
     clear hHeld
     refine wdn ?_
     go_wp2_with fail
     go_meet
     have k3 : Kp wl27_3 ((((((wl27_3.setCell ⟨wc27_1.heap.size, 0, none⟩ (.int .i64 0)).setCell ⟨wc27_1.heap.size, 1, none⟩ (.int .i64 0)).setCell ⟨wc27_1.heap.size, 2, none⟩ (.int .i64 0)).setCell ⟨wc27_1.heap.size, 3, none⟩ (.string ⟨#[]⟩)).setCell ⟨wc27_1.heap.size, 4, none⟩ (.slice aa (([] : List Int)).length kk)).setCell ⟨wc27_1.heap.size, 5, none⟩ (.string ⟨#[]⟩)) (fun k => k = wc27_1.heap.size) := (((((set_kp _ _ _ _).trans (set_kp _ _ _ _)).trans (set_kp _ _ _ _)).trans (set_kp _ _ _ _)).trans (set_kp _ _ _ _)).trans (set_kp _ _ _ _)
     have ll := lg.lt
     exact ⟨_, _, rfl, rfl, by omega, by simpa using ll, ((((((lg.set 0 _ rfl).set 1 _ rfl).set 2 _ rfl).set 3 _ rfl).set 4 _ rfl).set 5 _ rfl), (oq3.kp k3 (fun j hj e => by have := tl j hj; omega)).mono (by omega), fun j hj => by have := tl j hj; simp; omega, bs⟩
    ·go_simp
     obtain ⟨wl27_5, hwl27_5⟩ : ∃ x, wd.alloc (.cells #[.int .i64 0, .int .i64 0, .int .i64 0, .string ⟨#[]⟩, .slice none 0 0, .string ⟨#[]⟩] 30) = x := ⟨_, rfl⟩
     have cbl27_6 : Below wd.heap.size wd wl27_5 := hwl27_5 ▸ qalloc _ _
     have bl27_6 : Below w33.heap.size w33 wl27_5 := bu bd cbl27_6
     have zzwl27_5 : wl27_5.heap.size = wd.heap.size + 1 := by rw [← hwl27_5]; simp
     have lg : Loc wl27_5 wd.heap.size #[.int .i64 0, .int .i64 0, .int .i64 0, .string ⟨#[]⟩, .slice none 0 0, .string ⟨#[]⟩] := hwl27_5 ▸ loc_at wd _ _ rfl
     rw [hwl27_5]
     clear hHeld hwl27_5 cbl27_6
     refine hKK.out _ _ (K.out _ bl27_6) (fun hHeld => ?_)
     clear hKK KK
     refine rd 6 rfl (fun KK hKK => ?_)
     go_simp
     have hgo := bl27_6
     refine (IT.out _ (RT.out.below hgo) (HE.out _ (bu Bw33 hgo)) (HT.out _ (bu Bw33 hgo))).mono ?_
     rintro e wc27_7 ⟨vv3, rfl, oq3, bnew⟩
     have bc27_8 : Below w33.heap.size w33 wc27_7 := bu bl27_6 bnew
     have zzwc27_7 := bnew.size
     replace lg := lg.up bnew
     have tl := World.ownsRow.lt oq3
     obtain ⟨aa, kk, rfl⟩ := oq3.form
     clear hHeld bnew hgo
     refine hKK.out _ _ (K.out _ bc27_8) (fun hHeld => ?_)
     clear hKK KK
     refine' tj 7 243 rfl ?_ ?_;rotate_left
     ·intro w h; (try dsimp only at h); go_simp; try with_reducible rfl
     simp only [pU]
     refine' tj 8 251 rfl ?_ ?_;rotate_left
     ·intro w h; (try dsimp only at h); go_simp; try with_reducible rfl
     simp only [pU]
     refine' tj 9 252 rfl ?_ ?_;rotate_left
     ·intro w h; (try dsimp only at h); go_simp; try with_reducible rfl
     simp only [pU]
     have q0 := lg.cell 0 rfl
     have q1 := lg.cell 1 rfl
     have q2 := lg.cell 2 rfl
     have q3 := lg.cell 3 rfl
     have q4 := lg.cell 4 rfl
     have q5 := lg.cell 5 rfl
     have FG := lg.frozen
     refine rd 11 rfl (fun KK hKK => ?_)
     go_simp
     have bs : Below w33.heap.size w33 ((((((wc27_7.setCell ⟨wd.heap.size, 0, none⟩ (.int .i64 0)).setCell ⟨wd.heap.size, 1, none⟩ (.int .i64 0)).setCell ⟨wd.heap.size, 2, none⟩ (.int .i64 0)).setCell ⟨wd.heap.size, 3, none⟩ (.string ⟨#[]⟩)).setCell ⟨wd.heap.size, 4, none⟩ (.slice aa (([] : List Int)).length kk)).setCell ⟨wd.heap.size, 5, none⟩ (.string ⟨#[]⟩)) := (Below.set (Below.set (Below.set (Below.set (Below.set (Below.set bc27_8 _ _ (by omega)) _ _ (by omega)) _ _ (by omega)) _ _ (by omega)) _ _ (by omega)) _ _ (by omega))
     clear hHeld
     refine hKK.out _ _ (K.out _ bs) (fun hHeld => ?_)
     clear hKK KK
     refine' tj 12 37 rfl ?_ ?_;rotate_left
     ·intro w h; (try dsimp only at h); go_simp; try with_reducible rfl
     simp only [pU]
     clear hHeld
     refine wdn ?_
     go_wp2_with fail
     go_meet
     have k3 : Kp wc27_7 ((((((wc27_7.setCell ⟨wd.heap.size, 0, none⟩ (.int .i64 0)).setCell ⟨wd.heap.size, 1, none⟩ (.int .i64 0)).setCell ⟨wd.heap.size, 2, none⟩ (.int .i64 0)).setCell ⟨wd.heap.size, 3, none⟩ (.string ⟨#[]⟩)).setCell ⟨wd.heap.size, 4, none⟩ (.slice aa (([] : List Int)).length kk)).setCell ⟨wd.heap.size, 5, none⟩ (.string ⟨#[]⟩)) (fun k => k = wd.heap.size) := (((((set_kp _ _ _ _).trans (set_kp _ _ _ _)).trans (set_kp _ _ _ _)).trans (set_kp _ _ _ _)).trans (set_kp _ _ _ _)).trans (set_kp _ _ _ _)
     have ll := lg.lt
     exact ⟨_, _, rfl, rfl, by omega, by simpa using ll, ((((((lg.set 0 _ rfl).set 1 _ rfl).set 2 _ rfl).set 3 _ rfl).set 4 _ rfl).set 5 _ rfl), (oq3.kp k3 (fun j hj e => by have := tl j hj; omega)).mono (by omega), fun j hj => by have := tl j hj; simp; omega, bs⟩
   case rest =>
   clear K
   obtain ⟨wq27, hwq⟩ : ∃ x, x = wc := ⟨_, rfl⟩
   subst hwq
   obtain ⟨hLK, vLK, rfl, rfl, gLK, eLK, LK, oK, toK, bb⟩ := hcut
   obtain ⟨aoK, koK, rfl⟩ := oK.form
   have Bwq27 := bu Bw33 bb
   have swq27 := bb.size
   replace LC := LC.up bb
   replace LS := LS.up bb
   replace LI := LI.up bb
   replace LJ := LJ.up bb
   clear Bw33
   replace O := hide (O.out.below bb)
   replace RT := hide (RT.out.below bb)
   replace OI1 := hide (OI1.out.below bb)
   replace OJ1 := hide (OJ1.out.below bb)
   clear bb
   replace oK := hide (oK.ri (by simp))
   clear IT hs4 hsw
   clear RT
   clear LC
   as_aux_lemma =>
   have K : Hid (∀ w', Below wq27.heap.size wq27 w' → (fun w' => Below wq27.heap.size wq27 w' ∧ (w'.cell? ⟨w30.heap.size, 0, none⟩ = some (.int .i64 vo) ∧ w'.cell? ⟨w30.heap.size, 1, none⟩ = some (.int .i64 lo) ∧ w'.cell? ⟨w30.heap.size, 2, none⟩ = some (.int .i64 v) ∧ w'.cell? ⟨w30.heap.size, 3, none⟩ = some (.string s) ∧ w'.cell? ⟨w30.heap.size, 4, none⟩ = some (.slice aI xs.length cI) ∧ w'.cell? ⟨w30.heap.size, 5, none⟩ = some (.string d)) ∧ (w'.cell? ⟨w2.heap.size + 1, 0, none⟩ = some (.int .i64 vo) ∧ w'.cell? ⟨w2.heap.size + 1, 1, none⟩ = some (.int .i64 lo) ∧ w'.cell? ⟨w2.heap.size + 1, 2, none⟩ = some (.int .i64 v) ∧ w'.cell? ⟨w2.heap.size + 1, 3, none⟩ = some (.string s) ∧ w'.cell? ⟨w2.heap.size + 1, 4, none⟩ = some (.slice aO xs.length cO) ∧ w'.cell? ⟨w2.heap.size + 1, 5, none⟩ = some (.string d)) ∧ (w'.cell? ⟨w32.heap.size, 0, none⟩ = some (.int .i64 vo) ∧ w'.cell? ⟨w32.heap.size, 1, none⟩ = some (.int .i64 lo) ∧ w'.cell? ⟨w32.heap.size, 2, none⟩ = some (.int .i64 v) ∧ w'.cell? ⟨w32.heap.size, 3, none⟩ = some (.string s) ∧ w'.cell? ⟨w32.heap.size, 4, none⟩ = some (.slice aJ xs.length cJ) ∧ w'.cell? ⟨w32.heap.size, 5, none⟩ = some (.string d)) ∧ (w'.cell? ⟨hLK, 0, none⟩ = some (.int .i64 0) ∧ w'.cell? ⟨hLK, 1, none⟩ = some (.int .i64 0) ∧ w'.cell? ⟨hLK, 2, none⟩ = some (.int .i64 0) ∧ w'.cell? ⟨hLK, 3, none⟩ = some (.string ⟨#[]⟩) ∧ w'.cell? ⟨hLK, 4, none⟩ = some (.slice aoK (([] : List Int)).length koK) ∧ w'.cell? ⟨hLK, 5, none⟩ = some (.string ⟨#[]⟩))) w') := hide fun w' hb' => ⟨hb', ⟨(LI.up hb').cell 0 rfl, (LI.up hb').cell 1 rfl, (LI.up hb').cell 2 rfl, (LI.up hb').cell 3 rfl, (LI.up hb').cell 4 rfl, (LI.up hb').cell 5 rfl⟩, ⟨(LS.up hb').cell 0 rfl, (LS.up hb').cell 1 rfl, (LS.up hb').cell 2 rfl, (LS.up hb').cell 3 rfl, (LS.up hb').cell 4 rfl, (LS.up hb').cell 5 rfl⟩, ⟨(LJ.up hb').cell 0 rfl, (LJ.up hb').cell 1 rfl, (LJ.up hb').cell 2 rfl, (LJ.up hb').cell 3 rfl, (LJ.up hb').cell 4 rfl, (LJ.up hb').cell 5 rfl⟩, ⟨(LK.up hb').cell 0 rfl, (LK.up hb').cell 1 rfl, (LK.up hb').cell 2 rfl, (LK.up hb').cell 3 rfl, (LK.up hb').cell 4 rfl, (LK.up hb').cell 5 rfl⟩⟩
   go_upto_region 28 with fail
   have bA : Below wq27.heap.size wq27 wq27.drew := Below.drew (Below.refl _ _)
   refine wrn K bA (fun hHeld => ?_)
   refine' tj 0 253 rfl ?_ ?_;rotate_left
   ·intro w h; (try dsimp only at h); go_simp; try with_reducible rfl
   simp only [pU]
   refine' tj 1 254 rfl ?_ ?_;rotate_left
   ·intro w h; (try dsimp only at h); go_simp; try with_reducible rfl
   simp only [pU]
   refine' tj 2 255 rfl ?_ ?_;rotate_left
   ·intro w h; (try dsimp only at h); go_simp; try with_reducible rfl
   simp only [pU]
   refine' tj 3 256 rfl ?_ ?_;rotate_left
   ·intro w h; (try dsimp only at h); go_simp; try with_reducible rfl
   simp only [pU]
   refine rd 4 rfl (fun KK hKK => ?_)
   go_simp
   have hgo := bA
   refine (SA.out _ _ _ _ _ (OI1.out.below hgo) (O.out.below hgo)).mono ?_
   rintro e wz28_1 ⟨rfl, bb⟩
   have bz1 : Below wq27.heap.size wq27 wz28_1 := bu bA bb
   clear bA hgo bb
   clear hHeld
   refine hKK.out _ _ (K.out _ bz1) (fun hHeld => ?_)
   clear hKK KK
   refine' tj 5 258 rfl ?_ ?_;rotate_left
   ·intro w h; (try dsimp only at h); go_simp; try with_reducible rfl
   simp only [pU]
   refine' tj 6 259 rfl ?_ ?_;rotate_left
   ·intro w h; (try dsimp only at h); go_simp; try with_reducible rfl
   simp only [pU]
   refine' tj 7 260 rfl ?_ ?_;rotate_left
   ·intro w h; (try dsimp only at h); go_simp; try with_reducible rfl
   simp only [pU]
   refine' tj 8 261 rfl ?_ ?_;rotate_left
   ·intro w h; (try dsimp only at h); go_simp; try with_reducible rfl
   simp only [pU]
   refine rd 9 rfl (fun KK hKK => ?_)
   go_simp
   have hgo := bz1
   refine (SA.out _ _ _ _ _ (OJ1.out.below hgo) (O.out.below hgo)).mono ?_
   rintro e wz28_2 ⟨rfl, bb⟩
   have bz2 : Below wq27.heap.size wq27 wz28_2 := bu bz1 bb
   clear bz1 hgo bb
   clear hHeld
   refine hKK.out _ _ (K.out _ bz2) (fun hHeld => ?_)
   clear hKK KK
   refine' tj 10 263 rfl ?_ ?_;rotate_left
   ·intro w h; (try dsimp only at h); go_simp; try with_reducible rfl
   simp only [pU]
   refine' tj 11 264 rfl ?_ ?_;rotate_left
   ·intro w h; (try dsimp only at h); go_simp; try with_reducible rfl
   simp only [pU]
   refine' tj 12 265 rfl ?_ ?_;rotate_left
   ·intro w h; (try dsimp only at h); go_simp; try with_reducible rfl
   simp only [pU]
   refine' tj 13 266 rfl ?_ ?_;rotate_left
   ·intro w h; (try dsimp only at h); go_simp; try with_reducible rfl
   simp only [pU]
   refine' tj 14 267 rfl ?_ ?_;rotate_left
   ·intro w h; (try dsimp only at h); go_simp; try with_reducible rfl
   simp only [pU]
   refine' tj 15 268 rfl ?_ ?_;rotate_left
   ·intro w h; (try dsimp only at h); go_simp; try with_reducible rfl
   simp only [pU]
   refine' tj 16 269 rfl ?_ ?_;rotate_left
   ·intro w h; (try dsimp only at h); go_simp; try with_reducible rfl
   simp only [pU]
   refine' tj 17 270 rfl ?_ ?_;rotate_left
   ·intro w h; (try dsimp only at h); go_simp; try with_reducible rfl
   simp only [pU]
   refine' tj 18 271 rfl ?_ ?_;rotate_left
   ·intro w h; (try dsimp only at h); go_simp; try with_reducible rfl
   simp only [pU]
   refine' tj 19 272 rfl ?_ ?_;rotate_left
   ·intro w h; (try dsimp only at h); go_simp; try with_reducible rfl
   simp only [pU]
   refine' tj 20 273 rfl ?_ ?_;rotate_left
   ·intro w h; (try dsimp only at h); go_simp; try with_reducible rfl
   simp only [pU]
   refine' tj 21 274 rfl ?_ ?_;rotate_left
   ·intro w h; (try dsimp only at h); go_simp; try with_reducible rfl
   simp only [pU]
   refine' tj 22 275 rfl ?_ ?_;rotate_left
   ·intro w h; (try dsimp only at h); go_simp; try with_reducible rfl
   simp only [pU]
   refine rd 23 rfl (fun KK hKK => ?_)
   go_simp
   have hgo := bz2
   refine (implSafeNew _).mono ?_
   rintro e wz28_3 ⟨rfl, bb⟩
   have bz3 : Below wq27.heap.size wq27 wz28_3 := bu bz2 bb
   clear bz2 hgo bb
   clear hHeld
   refine hKK.out _ _ (K.out _ bz3) (fun hHeld => ?_)
   clear hKK KK
   refine rd 24 rfl (fun KK hKK => ?_)
   go_simp
   have hgo := bz3
   refine (SZ.out _ _ _ (oK.out.below hgo) (NR.out _)).mono ?_
   rintro e wz28_4 ⟨rfl, bb⟩
   have bz4 : Below wq27.heap.size wq27 wz28_4 := bu bz3 bb
   clear bz3 hgo bb
   clear hHeld
   refine hKK.out _ _ (K.out _ bz4) (fun hHeld => ?_)
   clear hKK KK
   refine' tj 25 278 rfl ?_ ?_;rotate_left
   ·intro w h; (try dsimp only at h); go_simp; try with_reducible rfl
   simp only [pU]
   refine' tj 26 2 rfl ?_ ?_;rotate_left
   ·intro w h; (try dsimp only at h); go_simp; try with_reducible rfl
   simp only [pU]
   clear hHeld
   refine wdn ?_
   have bb := bz4
   have Bwz28_4 := bu Bwq27 bb
   have swz28_4 := bb.size
   replace LS := LS.up bb
   replace LI := LI.up bb
   replace LJ := LJ.up bb
   replace LK := LK.up bb
   clear Bwq27
   replace O := hide (O.out.below bb)
   replace OI1 := hide (OI1.out.below bb)
   replace OJ1 := hide (OJ1.out.below bb)
   replace oK := hide (oK.out.below bb)
   clear bb bz4 K
   go_wp2
   go_ret
   exact ⟨rfl, Bwz28_4⟩

theorem fnNotes_long (ao : Option Addr) (n ca : Nat) (w : World) (h : 1048576 < n) (hm : n ≤ maxLen) :
 Calls Tryz.prog 3 #[.slice ao n ca] w fun e w' => e = .returned (.bool true) ∧ Below w.heap.size w w' := by
 have BG := hide fun w => big_any ao n ca w (by unfold maxLen at hm; omega)
 rw [decide_eq_true h] at BG
 go_enter Tryz.func3, Tryz.ntmps3
 go_wp2_with fail
 refine (BG.out _).mono ?_
 rintro _ w1 ⟨rfl, b1⟩
 go_wp2
 go_ret
 exact ⟨rfl, b1⟩
theorem fnNotes_walk (ao : Option Addr) (ca : Nat) (zs : List Int) (w : World) (hm : zs.length ≤ maxLen) (hx : zs = [] ∨ ∃ b off, ao = some ⟨b, off, none⟩ ∧ ∀ k, k < zs.length → w.cell? ⟨b, off + k, none⟩ = some (.int .u8 (zs.getD k 0))) (hb : ∀ k, k < zs.length → 0 ≤ zs.getD k 0 ∧ zs.getD k 0 ≤ 255) (hE : Env w) (hT : EnvT w) :
 Calls Tryz.prog 3 #[.slice ao zs.length ca] w fun e w' => e = .returned (.bool true) ∧ Below w.heap.size w w' := by
 by_cases h : zs.length ≤ 1048576
 ·exact fnNotes_short ao ca zs w ⟨h, hx, hb⟩ hE hT
 ·exact fnNotes_long ao zs.length ca w (by omega) hm
end Go.Proofs.YtcclbejpgiogaaaGreatDoor
