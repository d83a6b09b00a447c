/- Texts that belong together: NotePut, ByteLaw, NoteSpecPut. -/
import Derived.Test.YtbigcmcliamenaaGreatDoorNAAF
import Derived.Test.YtbigcmcliamenaaGreatDoorNABE
import Derived.Test.YtbigcmcliamenaaGreatDoorNABD
import Derived.Deep.DeepCutAuto
import Derived.Laws.EntriesVeiled
import Derived.Test.YtbigcmcliamenaaGreatDoorNAAE
namespace Go.Proofs.YtbigcmcliamenaaGreatDoor
open Go.RowKit
set_option linter.unusedSectionVars false
variable [∀ (a b c d : Int), Decidable (Ok4 a b c d)]
variable [∀ (a b c d : Nat), Decidable (okN a b c d)]
variable [∀ (last : Int) (s : St), Decidable (GoodSt last s)]
variable [∀ (x : T4), Decidable (OkT x)]
variable [∀ (n : Int) (s : List Int), Decidable (OkL n s)]
variable [∀ (n f : Int), Decidable (COk n f)]

def qcB (n f v : Int) (s : ByteArray) (ys : List Int) : List Int := if qokB n f v s ys = true then qcRaw v s ys else []
def safB (n f vo lo v : Int) (s : ByteArray) (ys : List Int) (d : ByteArray) : List Int := if sokB n f vo lo v s ys d = true then safRaw vo lo v s ys d else []
def notB (n f vo lo v : Int) (s : ByteArray) (ys : List Int) (d : ByteArray) : List Int := if sokB n f vo lo v s ys d = true then noteT (vo, lo, (v, s, ys), d) else []
theorem OB.nil (w : World) (base : Nat) : OB w base (.slice none 0 0) [] := World.ownsRow_nil _ _ _ _

set_option maxHeartbeats 8000000 in
set_option maxRecDepth 100000 in
theorem implPutWho (ao : Option Addr) (ca : Nat) (ys : List Int) (w : World) (hl : ys.length ≤ 1000) (ha : RI w (.slice ao ys.length ca) ys) :
 Calls Tryz.prog 76 #[.slice ao ys.length ca] w fun e w' => ∃ u, e = .returned u ∧ OB w' w.heap.size u (whoRaw ys) ∧ Below w.heap.size w w' := by
 have HA := hide ha
 obtain ⟨n, hn⟩ : ∃ n, ys.length = n := ⟨_, rfl⟩
 have PN := hide fun w => implPut (n : Int) w
 have hp5 := putAns_len (n : Int)
 have HW : Hid (whoRaw ys = putAns n ++ flatP ys) := by rw [← hn]; exact hide rfl
 have HF : Hid (∀ k, k < n → flatP (ys.take (k + 1)) = flatP (ys.take k) ++ putAns (ys.getD k 0)) := hide fun k hk => by
  rw [List.take_succ_eq_append_getElem (by omega), flatP_snoc, List.getD_eq_getElem?_getD, List.getElem?_eq_getElem (by omega)]; rfl
 have HL : Hid (∀ k, (flatP (ys.take k)).length ≤ 5000) := hide fun k => by have := flatP_len (ys.take k); simp at this; omega
 have HZ : Hid (flatP (ys.take 0) = []) := hide rfl
 have HT : Hid (ys.take n = ys) := hide (by rw [← hn]; simp)
 have HG : Hid (∀ k, k < n → ∃ b off, ao = some ⟨b, off, none⟩ ∧ w.cell? ⟨b, off + k, none⟩ = some (.int .i64 (ys.getD k 0))) := hide fun k hk => RI.at ha k (by omega)
 have hn1 : n ≤ 1000 := by omega
 rw [hn]
 clear ha hn HA hl
 generalize putAns (n : Int) = l0 at *
 go_enter Tryz.func76, Tryz.ntmps76
 go_wp2_with fail
 refine (unhide PN _).mono ?_
 rintro e w1 ⟨u0, rfl, o0, b0⟩
 clear PN
 have O0 : OB w1 w.heap.size u0 (l0 ++ flatP (ys.take 0)) := by rw [unhide HZ, List.append_nil]; exact o0
 clear o0
 go_wp2
 go_loopw [3, 11] (fun o i wr => ∃ k : Nat, k ≤ n ∧ i = .int .i64 (k : Int) ∧ OB wr w.heap.size o (l0 ++ flatP (ys.take k)) ∧ Below w.heap.size w wr) (fun _ i _ => n - (intOf i).toNat)
 case atStart => exact ⟨0, Nat.zero_le _, rfl, O0, b0⟩
 case round =>
  clear O0 b0
  obtain ⟨k, hk, rfl, ob, br⟩ := hrel
  obtain ⟨va, vc, rfl⟩ := ob.form
  have ltb := ob.lt
  have zr := br.size
  by_cases hlt : k < n
  ·obtain ⟨b, off, hao, hc⟩ := unhide HG k hlt
   subst hao
   have hc' := (br.cell (cell_lt hc)).trans hc
   have hd : decide ((k : Int) < (n : Int)) = true := by simpa using hlt
   have FK := hide (unhide HF k hlt)
   have lK := unhide HL k
   have x5 := putAns_len (ys.getD k 0)
   have PX := hide (implPut (ys.getD k 0) wr)
   have OBh := hide ob
   obtain ⟨ln, hln⟩ : ∃ m, (l0 ++ flatP (ys.take k)).length = m := ⟨_, rfl⟩
   have l5 : ln ≤ 5005 := by rw [← hln, List.length_append]; omega
   rw [hln] at OBh ltb ⊢
   have HLN := hide hln
   clear hc ob hln lK
   generalize ys.getD k 0 = x at *
   go_wp2_with fail
   clear hc'
   refine (unhide PX).mono ?_
   rintro e w2 ⟨u1, rfl, o1, b1⟩
   clear PX
   have o1' : OB w2 wr.heap.size u1 (putAns x) := o1
   obtain ⟨ua, uc, rfl⟩ := o1'.form
   have P1 := hide (o1'.pb (by omega))
   have OA := hide ((unhide OBh).below b1)
   have B2 := br.trans (b1.mono br.size)
   obtain ⟨l1, hl1⟩ : ∃ l, putAns x = l := ⟨_, rfl⟩
   rw [hl1] at P1 x5 FK ⊢
   clear o1 o1' b1 br hl1 OBh
   go_wp2_with (first | (at_builtin; refine append_bytes rfl _ _ rfl w.heap.size (.slice va ln vc) (.slice ua l1.length uc) (l0 ++ flatP (ys.take k)) l1 rfl rfl (unhide OA) (unhide P1) (by have := unhide HLN; omega) B2.size ?_; intro v' w3 ho' hg' _; have HO := hide ho'; have B3 := hide (B2.grown hg' B2.size (fun j hj => (ltb j hj).1)); clear ho' hg'))
   go_roundw
   case rel => exact ⟨k + 1, by omega, by go_num, by rw [unhide FK, ← List.append_assoc]; exact unhide HO, unhide B3⟩
   case measure => simp [intOf]; omega
  ·obtain rfl : k = n := by omega
   have hd : decide ((k : Int) < (k : Int)) = false := by simp
   have OF : OB wr w.heap.size (.slice va (l0 ++ flatP (ys.take k)).length vc) (whoRaw ys) := by rw [unhide HW]; have := ob; rwa [unhide HT] at this ⊢
   clear ob
   generalize (l0 ++ flatP (ys.take k)).length = ln at *
   go_wp2
   go_ret
   exact ⟨_, rfl, OF, br⟩

set_option maxHeartbeats 16000000 in
set_option maxRecDepth 100000 in
theorem implQcBytes (n f v : Int) (s : ByteArray) (ao : Option Addr) (ca : Nat) (ys : List Int) (w : World) (hs : s.size ≤ 33554432) (hE : Env w) (ha : RI w (.slice ao ys.length ca) ys) :
 Calls Tryz.prog 27 #[cv n f, qv v s (.slice ao ys.length ca)] w fun e w' => ∃ u, e = .returned u ∧ OB w' w.heap.size u (qcB n f v s ys) ∧ Below w.heap.size w w' := by
 have QO := hide fun w' (b : Below w.heap.size w w') => implQcOk n f v s ao ca ys w' hs (hE.below b) (ha.below b (Nat.le_refl _))
 have RW := hide fun w' (b : Below w.heap.size w w') => ha.below b (Nat.le_refl _)
 have HQ := hide fun h => qok_small (n := n) (f := f) (v := v) (s := s) (ys := ys) h
 obtain ⟨res, hres⟩ : ∃ r, qcB n f v s ys = r := ⟨_, rfl⟩
 rw [hres]
 have HF : Hid (qokB n f v s ys = false → res = []) := hide fun h => by rw [← hres]; unfold qcB; rw [h]; rfl
 have HT : Hid (qokB n f v s ys = true → res = putAns v ++ textAns s ++ whoRaw ys) := hide fun h => by rw [← hres]; unfold qcB; rw [h]; rfl
 generalize qokB n f v s ys = bq at *
 clear hE ha hs hres
 obtain ⟨w0, hw0⟩ : ∃ w0, ((w.alloc (.cells #[.int .i64 n, .int .i64 f] 25)).alloc (.cells #[.int .i64 v, .string s, .slice ao ys.length ca] 28)) = w0 := ⟨_, rfl⟩
 have Bw0 : Below w.heap.size w w0 := hw0 ▸ ((Below.refl _ _).alloc (Nat.le_refl _) _).alloc (by simp) _
 have LC : Loc w0 (w.heap.size) #[.int .i64 n, .int .i64 f] := hw0 ▸ (loc_at (w) _ _ rfl).alloc _
 have LQ : Loc w0 (w.heap.size + 1) #[.int .i64 v, .string s, .slice ao ys.length ca] := hw0 ▸ loc_at (w.alloc _) _ _ (by simp)
 have zw0 : w.heap.size + 1 + 1 ≤ w0.heap.size := by rw [← hw0]; simp
 go_enter Tryz.func27, Tryz.ntmps27
 have cLC0 := LC.cell 0 rfl
 have cLC1 := LC.cell 1 rfl
 have cLQ0 := LQ.cell 0 rfl
 have cLQ1 := LQ.cell 1 rfl
 have cLQ2 := LQ.cell 2 rfl
 go_wp2_with fail
 clear hw0
 refine (unhide QO _ Bw0).mono ?_
 rintro _ w1 ⟨rfl, bb⟩
 clear cLC0 cLC1 cLQ0 cLQ1 cLQ2
 have Bw1 := Bw0.trans (bb.mono Bw0.size)
 have sw1 := bb.size
 replace LC := LC.below bb LC.lt
 replace LQ := LQ.below bb LQ.lt
 clear Bw0
 clear bb
 clear QO
 cases bq with
 | false =>
  clear LC LQ
  go_wp2
  go_ret
  exact ⟨_, rfl, by rw [unhide HF (by trivial)]; exact OB.nil _ _, Bw1⟩
 | true =>
  obtain ⟨hv, hs, h7, hN⟩ := unhide HQ (by trivial)
  have T1 := hide fun w => implPut v w
  have T2 := hide fun w => implText s w (by omega)
  have T3 := hide fun w' (b : Below w1.heap.size w1 w') => implPutWho ao ca ys w' (by omega) (unhide RW _ (Bw1.trans (b.mono Bw1.size)))
  have l1 := putAns_len v
  have l2 := textAns_le s
  have l3 := whoRaw_len ys
  have p1 := putAns_pos v (by omega) (by omega)
  generalize putAns v = x1 at *
  generalize textAns s = x2 at *
  generalize whoRaw ys = x3 at *
  clear HQ RW hN hv
  have K : Hid (∀ w', Below w1.heap.size w1 w' → (fun w' => Below w1.heap.size w1 w' ∧ (w'.cell? ⟨w.heap.size, 0, none⟩ = some (.int .i64 n) ∧ w'.cell? ⟨w.heap.size, 1, none⟩ = some (.int .i64 f)) ∧ (w'.cell? ⟨w.heap.size + 1, 0, none⟩ = some (.int .i64 v) ∧ w'.cell? ⟨w.heap.size + 1, 1, none⟩ = some (.string s) ∧ w'.cell? ⟨w.heap.size + 1, 2, none⟩ = some (.slice ao ys.length ca))) w') := hide fun w' hb' => ⟨hb', ⟨(LC.below hb' LC.lt).cell 0 rfl, (LC.below hb' LC.lt).cell 1 rfl⟩, ⟨(LQ.below hb' LQ.lt).cell 0 rfl, (LQ.below hb' LQ.lt).cell 1 rfl, (LQ.below hb' LQ.lt).cell 2 rfl⟩⟩
  go_upto_region 3 with fail
  have bA : Below w1.heap.size w1 w1.drew := Below.drew (Below.refl _ _)
  refine wp_region_noPanic ?_
  refine wp_region_held_drew (S := fun w' => Below w1.heap.size w1 w' ∧ (w'.cell? ⟨w.heap.size, 0, none⟩ = some (.int .i64 n) ∧ w'.cell? ⟨w.heap.size, 1, none⟩ = some (.int .i64 f)) ∧ (w'.cell? ⟨w.heap.size + 1, 0, none⟩ = some (.int .i64 v) ∧ w'.cell? ⟨w.heap.size + 1, 1, none⟩ = some (.string s) ∧ w'.cell? ⟨w.heap.size + 1, 2, none⟩ = some (.slice ao ys.length ca))) (by kernel_rfl) (unhide K _ bA) (fun hHeld => ?_)
  refine tk 0 9 (v := ?_) rfl (hy := .inl ⟨by rfl, ?_⟩) (h := ?_); rotate_left
  ·intro w hSw; (try dsimp only at hSw); go_simp; (try with_reducible rfl)
  simp only [pU]
  refine tk 3 12 (v := ?_) rfl (hy := .inl ⟨by rfl, ?_⟩) (h := ?_); rotate_left
  ·intro w hSw; (try dsimp only at hSw); go_simp; (try with_reducible rfl)
  simp only [pU]
  refine tk 6 15 (v := ?_) rfl (hy := .inl ⟨by rfl, ?_⟩) (h := ?_); rotate_left
  ·intro w hSw; (try dsimp only at hSw); go_simp; (try with_reducible rfl)
  simp only [pU]
  refine tk 1 10 (v := ?_) rfl (hy := .inl ⟨by rfl, ?_⟩) (h := ?_); rotate_left
  ·intro w hSw; (try dsimp only at hSw); go_simp; (try with_reducible rfl)
  simp only [pU]
  refine tk 4 13 (v := ?_) rfl (hy := .inl ⟨by rfl, ?_⟩) (h := ?_); rotate_left
  ·intro w hSw; (try dsimp only at hSw); go_simp; (try with_reducible rfl)
  simp only [pU]
  refine tk 7 16 (v := ?_) rfl (hy := .inl ⟨by rfl, ?_⟩) (h := ?_); rotate_left
  ·intro w hSw; (try dsimp only at hSw); go_simp; (try with_reducible rfl)
  simp only [pU]
  refine ready_at (i := 2) rfl (by kernel_rfl) (fun KK hKK => ?_)
  go_simp
  have hgo := bA
  refine (unhide T1 _).mono ?_
  rintro e wz3_1 ⟨u1, rfl, (o1 : OB _ _ u1 x1), bb⟩
  have bz1 : Below w1.heap.size w1 wz3_1 := bA.trans (bb.mono bA.size)
  replace o1 := o1.mono hgo.size
  obtain ⟨ao1, ko1, rfl⟩ := o1.form
  clear bA hgo bb
  clear hHeld
  refine hKK.out _ _ (unhide K _ bz1) (fun hHeld => ?_)
  clear hKK KK
  refine ready_at (i := 5) rfl (by kernel_rfl) (fun KK hKK => ?_)
  go_simp
  have hgo := bz1
  refine (unhide T2 _).mono ?_
  rintro e wz3_2 ⟨u2, rfl, o2, bb⟩
  have bz2 : Below w1.heap.size w1 wz3_2 := bz1.trans (bb.mono bz1.size)
  replace o1 := o1.below bb
  replace o2 := o2.mono hgo.size
  obtain ⟨ao2, ko2, rfl⟩ := o2.form
  clear bz1 hgo bb
  clear hHeld
  refine hKK.out _ _ (unhide K _ bz2) (fun hHeld => ?_)
  clear hKK KK
  refine ready_at (i := 8) rfl (by kernel_rfl) (fun KK hKK => ?_)
  go_simp
  have hgo := bz2
  refine (unhide T3 _ hgo).mono ?_
  rintro e wz3_3 ⟨u3, rfl, o3, bb⟩
  have bz3 : Below w1.heap.size w1 wz3_3 := bz2.trans (bb.mono bz2.size)
  replace o1 := o1.below bb
  replace o2 := o2.below bb
  replace o3 := o3.mono hgo.size
  obtain ⟨ao3, ko3, rfl⟩ := o3.form
  clear bz2 hgo bb
  clear hHeld
  refine hKK.out _ _ (unhide K _ bz3) (fun hHeld => ?_)
  clear hKK KK
  refine ready_at (i := 9) rfl (by kernel_rfl) (fun KK hKK => ?_)
  go_simp
  obtain ⟨wz3_4, hwz3_4⟩ : ∃ x, (wz3_3).alloc (.cells #[.slice ao1 x1.length ko1, .slice ao2 x2.length ko2, .slice ao3 x3.length ko3] 22) = x := ⟨_, rfl⟩
  have bb : Below (wz3_3).heap.size (wz3_3) wz3_4 := hwz3_4 ▸ qalloc _ _
  have bz4 : Below w1.heap.size w1 wz3_4 := bz3.trans (bb.mono bz3.size)
  have LV : Loc wz3_4 (wz3_3).heap.size #[.slice ao1 x1.length ko1, .slice ao2 x2.length ko2, .slice ao3 x3.length ko3] := hwz3_4 ▸ loc_at (wz3_3) _ _ rfl
  replace o1 := o1.below bb
  replace o2 := o2.below bb
  replace o3 := o3.below bb
  rw [hwz3_4]
  clear bz3 hwz3_4 bb
  clear hHeld
  refine hKK.out _ _ (unhide K _ bz4) (fun hHeld => ?_)
  clear hKK KK
  refine ready_at (i := 10) rfl (by kernel_rfl) (fun KK hKK => ?_)
  go_simp
  have hgo := bz4
  refine (concatB3 _ _ _ _ x1 x2 x3 _ (LV.cell 0 rfl) (LV.cell 1 rfl) (LV.cell 2 rfl) (o1.pb (by omega)) (o2.pb (by omega)) (o3.pb (by omega)) (by omega) (by omega)).mono ?_
  rintro e wz3_5 ⟨u4, rfl, o4, bb⟩
  have bz5 : Below w1.heap.size w1 wz3_5 := bz4.trans (bb.mono bz4.size)
  replace LV := LV.below bb LV.lt
  replace o1 := o1.below bb
  replace o2 := o2.below bb
  replace o3 := o3.below bb
  replace o4 := OB.mono o4 (Nat.le_trans Bw1.size hgo.size)
  clear bz4 hgo bb
  clear hHeld
  refine hKK.out _ _ (unhide K _ bz5) (fun hHeld => ?_)
  clear hKK KK
  refine tk 11 4 (v := ?_) rfl (hy := .inl ⟨by rfl, ?_⟩) (h := ?_); rotate_left
  ·intro w hSw; (try dsimp only at hSw); go_simp; (try with_reducible rfl)
  simp only [pU]
  clear hHeld
  refine wpAnyH_done (by kernel_rfl) ?_ _
  refine NoPanic.normal ?_
  have bb := bz5
  have Bwz3_5 := Bw1.trans (bb.mono Bw1.size)
  have swz3_5 := bb.size
  replace LC := LC.below bb LC.lt
  replace LQ := LQ.below bb LQ.lt
  clear Bw1
  clear bb bz5 K
  go_wp2
  go_ret
  exact ⟨_, rfl, by rw [unhide HT (by trivial)]; exact o4, Bwz3_5⟩

theorem eqB_yes (va vb : Value) (xs : List Int) (w : World) (ha : RB w va xs) (hb : RB w vb xs) :
 Calls Tryz.prog 35 #[va, vb] w fun e w' => e = .returned (.bool true) ∧ Below w.heap.size w w' := by
 refine (eq_yes va vb xs w ha hb).mono ?_
 rintro e w' ⟨rfl, n, rfl⟩
 exact ⟨rfl, below_drewN (Below.refl _ _) n⟩
theorem markB (base : Nat) (v : Value) (xs : List Int) (w : World) (hl : xs.length ≤ 140737488355328) (h : OB w base v xs) :
 Calls Tryz.prog 38 #[v, .int .i64 1] w fun e w' => e = .returned (.int .i64 (1 + (xs.length : Int))) ∧ OB w' base v (marks 1 xs.length) ∧ Kp w w' (fun k => v.ownBlock = some k) := by
 refine (mark1 base v xs w hl h).mono ?_
 rintro e w' ⟨rfl, o, g⟩
 exact ⟨rfl, o, kp_grown g⟩
theorem heldB (v : Value) (n : Nat) (w : World) (h : RB w v (marks 1 n)) :
 Calls Tryz.prog 39 #[v, .int .i64 1] w fun e w' => e = .returned (.int .i64 (1 + (n : Int))) ∧ Below w.heap.size w w' := by
 refine (held1 v n w h).mono ?_
 rintro e w' ⟨rfl, rfl⟩
 exact ⟨rfl, Below.refl _ _⟩
theorem qcB_len (n f v : Int) (s : ByteArray) (ys : List Int) : (qcB n f v s ys).length ≤ 5000 := by
 unfold qcB
 split
 ·rename_i h
  obtain ⟨_, a, b, _⟩ := qok_small h
  have := qcRaw_len v s ys
  omega
 ·simp
theorem safB_len (n f vo lo v : Int) (s : ByteArray) (ys : List Int) (d : ByteArray) : (safB n f vo lo v s ys d).length ≤ 5000 := by
 unfold safB
 split
 ·rename_i h
  have := rawT_len (n := n) (f := f) (t := (vo, lo, (v, s, ys), d)) h
  exact Nat.le_trans this (by omega)
 ·simp
theorem notB_len (n f vo lo v : Int) (s : ByteArray) (ys : List Int) (d : ByteArray) : (notB n f vo lo v s ys d).length ≤ 5000 := by
 unfold notB
 split
 ·rename_i h
  have := rawT_len (n := n) (f := f) (t := (vo, lo, (v, s, ys), d)) h
  unfold noteT
  rw [List.length_append, List.length_append]
  have := putAns_len ((rawT (vo, lo, (v, s, ys), d)).length : Int)
  simp only [List.length_cons, List.length_nil]
  omega
 ·simp
theorem qcOf_small {xs : List Int} (hb : BytesL xs) (n f p : Int) : ((qcOfA 7 n f xs p).getD noQc).1.2.2.length ≤ 7 := by
 cases h : qcOfA 7 n f xs p with
 | none => exact Nat.zero_le _
 | some x =>
  obtain ⟨⟨v, s, ys⟩, q⟩ := x
  exact (qok_small ((qcOf_iff hb 7 (by omega) (by omega) n f p v s ys q).1 h).1).2.2.1
theorem safOf_small {xs : List Int} (hb : BytesL xs) (n f : Int) : ((safOfA 7 n f xs).getD noSaf).2.2.1.2.2.length ≤ 7 := by
 cases h : safOfA 7 n f xs with
 | none => exact Nat.zero_le _
 | some t => exact (sok_small ((safOf_iff hb 7 (by omega) (by omega) n f t).1 h).1).2.2.1.2.2.1
theorem lastA_small {xs : List Int} (hb : BytesL xs) (n f : Int) : (lastA n f xs).1.2.2.1.2.2.length ≤ 7 := by
 have h := (lastN_end hb n f (xs.length + 1) 0 newT (by omega) (by omega) (by omega)).2.2.2.2
 rcases h with h | h
 ·unfold lastA; rw [h]; exact Nat.zero_le _
 ·exact (sok_small h).2.2.1.2.2.1

theorem OB.lit (w : World) (t : TypeId) (h : t = 5) : OB (w.alloc (.cells #[] t)) w.heap.size (.slice (some ⟨w.heap.size, 0, none⟩) 0 0) [] := by subst h; exact World.ownsRow_lit w #[] 0 (Nat.le_refl _) (by unfold maxLen; omega) rfl

set_option maxHeartbeats 16000000 in
set_option maxRecDepth 100000 in
theorem specQcBytes (n f v : Int) (s : ByteArray) (ao : Option Addr) (ca : Nat) (ys : List Int) (w : World) (hs : s.size ≤ 1048576) (ha : RI w (.slice ao ys.length ca) ys) :
 Calls Tryz.prog 28 #[cv n f, qv v s (.slice ao ys.length ca)] w fun e w' => ∃ u, e = .returned u ∧ OB w' w.heap.size u (qcB n f v s ys) ∧ Below w.heap.size w w' := by
 have QO := hide fun w' (b : Below w.heap.size w w') => specQcOk n f v s ao ca ys w' hs (ha.below b (Nat.le_refl _))
 have HG : Hid (∀ w', Below w.heap.size w w' → ∀ k, k < ys.length → ∃ b off, ao = some ⟨b, off, none⟩ ∧ w'.cell? ⟨b, off + k, none⟩ = some (.int .i64 (ys.getD k 0))) := hide fun w' b k hk => RI.at (ha.below b (Nat.le_refl _)) k hk
 have HQ := hide fun h => qok_small (n := n) (f := f) (v := v) (s := s) (ys := ys) h
 obtain ⟨res, hres⟩ : ∃ r, qcB n f v s ys = r := ⟨_, rfl⟩
 rw [hres]
 have HF : Hid (qokB n f v s ys = false → res = []) := hide fun h => by rw [← hres]; unfold qcB; rw [h]; rfl
 have HT : Hid (qokB n f v s ys = true → res = putAns v ++ textAns s ++ putAns (ys.length : Int) ++ flatP ys) := hide fun h => by rw [← hres]; unfold qcB qcRaw whoRaw; rw [h, if_pos rfl]; simp only [List.append_assoc]
 generalize qokB n f v s ys = bq at *
 clear ha hs hres
 obtain ⟨w0, hw0⟩ : ∃ w0, ((w.alloc (.cells #[.int .i64 n, .int .i64 f] 25)).alloc (.cells #[.int .i64 v, .string s, .slice ao ys.length ca] 28)) = w0 := ⟨_, rfl⟩
 have Bw0 : Below w.heap.size w w0 := hw0 ▸ ((Below.refl _ _).alloc (Nat.le_refl _) _).alloc (by simp) _
 have LC : Loc w0 (w.heap.size) #[.int .i64 n, .int .i64 f] := hw0 ▸ (loc_at (w) _ _ rfl).alloc _
 have LQ : Loc w0 (w.heap.size + 1) #[.int .i64 v, .string s, .slice ao ys.length ca] := hw0 ▸ loc_at (w.alloc _) _ _ (by simp)
 have zw0 : w.heap.size + 1 + 1 ≤ w0.heap.size := by rw [← hw0]; simp
 go_enter Tryz.func28, Tryz.ntmps28
 have cLC0 := LC.cell 0 rfl
 have cLC1 := LC.cell 1 rfl
 have cLQ0 := LQ.cell 0 rfl
 have cLQ1 := LQ.cell 1 rfl
 have cLQ2 := LQ.cell 2 rfl
 go_wp2_with fail
 clear hw0
 refine (unhide QO _ Bw0).mono ?_
 rintro _ w1 ⟨rfl, bb⟩
 clear cLC0 cLC1 cLQ0 cLQ1 cLQ2
 have Bw1 := Bw0.trans (bb.mono Bw0.size)
 have sw1 := bb.size
 replace LC := LC.below bb LC.lt
 replace LQ := LQ.below bb LQ.lt
 clear Bw0
 clear bb
 clear QO
 cases bq with
 | false =>
  clear LC LQ
  go_wp2
  go_ret
  exact ⟨_, rfl, by rw [unhide HF (by trivial)]; exact OB.mono (OB.lit _ _ rfl) Bw1.size, Bw1.alloc Bw1.size _⟩
 | true =>
  obtain ⟨hv, hs, h7, hN⟩ := unhide HQ (by trivial)
  have hres := hide (unhide HT (by trivial))
  have T1 := hide fun w => specPut v w
  have T2 := hide fun w => specText s w (by omega)
  have T3 := hide fun w => specPut (ys.length : Int) w
  have l1 := putAns_len v
  have l2 := textAns_le s
  have l3 := putAns_len (ys.length : Int)
  have FS : Hid (∀ k, k < ys.length → flatP (ys.take (k + 1)) = flatP (ys.take k) ++ putAns (ys.getD k 0)) := hide fun k hk => by rw [List.take_succ_eq_append_getElem hk, flatP_snoc, List.getD_eq_getElem?_getD, List.getElem?_eq_getElem hk]; rfl
  have FL : Hid (∀ k, (flatP (ys.take k)).length ≤ 35) := hide fun k => by have := flatP_len (ys.take k); simp at this; omega
  have FZ : Hid (flatP (ys.take 0) = []) := hide rfl
  have FT : Hid (ys.take ys.length = ys) := hide (by simp)
  generalize putAns v = x1 at *
  generalize textAns s = x2 at *
  clear HQ HF HT hN hv
  have LQ0 := LQ
  have HGW := hide (unhide HG w1 Bw1)
  have BW := hide Bw1
  have K : Hid (∀ w', Below w1.heap.size w1 w' → (fun w' => Below w1.heap.size w1 w' ∧ (w'.cell? ⟨w.heap.size, 0, none⟩ = some (.int .i64 n) ∧ w'.cell? ⟨w.heap.size, 1, none⟩ = some (.int .i64 f)) ∧ (w'.cell? ⟨w.heap.size + 1, 0, none⟩ = some (.int .i64 v) ∧ w'.cell? ⟨w.heap.size + 1, 1, none⟩ = some (.string s) ∧ w'.cell? ⟨w.heap.size + 1, 2, none⟩ = some (.slice ao ys.length ca))) w') := hide fun w' hb' => ⟨hb', ⟨(LC.below hb' LC.lt).cell 0 rfl, (LC.below hb' LC.lt).cell 1 rfl⟩, ⟨(LQ.below hb' LQ.lt).cell 0 rfl, (LQ.below hb' LQ.lt).cell 1 rfl, (LQ.below hb' LQ.lt).cell 2 rfl⟩⟩
  go_upto_region 3 with fail
  have bA : Below w1.heap.size w1 w1.drew := Below.drew (Below.refl _ _)
  refine wp_region_noPanic ?_
  refine wp_region_held_drew (S := fun w' => Below w1.heap.size w1 w' ∧ (w'.cell? ⟨w.heap.size, 0, none⟩ = some (.int .i64 n) ∧ w'.cell? ⟨w.heap.size, 1, none⟩ = some (.int .i64 f)) ∧ (w'.cell? ⟨w.heap.size + 1, 0, none⟩ = some (.int .i64 v) ∧ w'.cell? ⟨w.heap.size + 1, 1, none⟩ = some (.string s) ∧ w'.cell? ⟨w.heap.size + 1, 2, none⟩ = some (.slice ao ys.length ca))) (by kernel_rfl) (unhide K _ bA) (fun hHeld => ?_)
  refine tk 0 12 (v := ?_) rfl (hy := .inl ⟨by rfl, ?_⟩) (h := ?_); rotate_left
  ·intro w hSw; (try dsimp only at hSw); go_simp; (try with_reducible rfl)
  simp only [pU]
  refine tk 3 15 (v := ?_) rfl (hy := .inl ⟨by rfl, ?_⟩) (h := ?_); rotate_left
  ·intro w hSw; (try dsimp only at hSw); go_simp; (try with_reducible rfl)
  simp only [pU]
  refine tk 1 13 (v := ?_) rfl (hy := .inl ⟨by rfl, ?_⟩) (h := ?_); rotate_left
  ·intro w hSw; (try dsimp only at hSw); go_simp; (try with_reducible rfl)
  simp only [pU]
  refine tk 4 16 (v := ?_) rfl (hy := .inl ⟨by rfl, ?_⟩) (h := ?_); rotate_left
  ·intro w hSw; (try dsimp only at hSw); go_simp; (try with_reducible rfl)
  simp only [pU]
  refine ready_at (i := 2) rfl (by kernel_rfl) (fun KK hKK => ?_)
  go_simp
  have hgo := bA
  refine (unhide T1 _).mono ?_
  rintro e wz3_1 ⟨u1, rfl, (o1 : OB _ _ u1 x1), bb⟩
  have bz1 : Below w1.heap.size w1 wz3_1 := bA.trans (bb.mono bA.size)
  replace o1 := o1.mono hgo.size
  obtain ⟨ao1, ko1, rfl⟩ := o1.form
  clear bA hgo bb
  clear hHeld
  refine hKK.out _ _ (unhide K _ bz1) (fun hHeld => ?_)
  clear hKK KK
  refine ready_at (i := 5) rfl (by kernel_rfl) (fun KK hKK => ?_)
  go_simp
  have hgo := bz1
  refine (unhide T2 _).mono ?_
  rintro e wz3_2 ⟨u2, rfl, o2, bb⟩
  have bz2 : Below w1.heap.size w1 wz3_2 := bz1.trans (bb.mono bz1.size)
  replace o1 := o1.below bb
  replace o2 := o2.mono hgo.size
  obtain ⟨ao2, ko2, rfl⟩ := o2.form
  clear bz1 hgo bb
  clear hHeld
  refine hKK.out _ _ (unhide K _ bz2) (fun hHeld => ?_)
  clear hKK KK
  refine ready_at (i := 6) rfl (by kernel_rfl) (fun KK hKK => ?_)
  have to1 := World.ownsRow.lt o1
  refine step_append_bytes rfl (.tmp 14) (.tmp 17) rfl (w1.heap.size) (.slice ao1 x1.length ko1) (.slice ao2 x2.length ko2) (x1) (x2) rfl rfl o1 (o2.pb (by omega)) (by omega) bz2.size ?_
  intro u3 wz3_3 o3 hgA _
  have bz3 : Below w1.heap.size w1 wz3_3 := bz2.grown hgA bz2.size (fun j hj => (to1 j hj).1)
  clear bz2 hgA to1
  clear hHeld
  refine hKK.out _ _ (unhide K _ bz3) (fun hHeld => ?_)
  clear hKK KK
  refine tk 7 5 (v := ?_) rfl (hy := .inl ⟨by rfl, ?_⟩) (h := ?_); rotate_left
  ·intro w hSw; (try dsimp only at hSw); go_simp; (try with_reducible rfl)
  simp only [Act.put, List.setIfInBounds_toArray]
  clear hHeld
  refine wpAnyH_done (by kernel_rfl) ?_ _
  refine NoPanic.normal ?_
  have bb := bz3
  have BB := bb
  have Bwz3_3 := Bw1.trans (bb.mono Bw1.size)
  have swz3_3 := bb.size
  replace LC := LC.below bb LC.lt
  replace LQ := LQ.below bb LQ.lt
  clear Bw1
  clear bb bz3 K
  have l0 : (x1 ++ x2).length ≤ 1930 := by rw [List.length_append]; omega
  generalize putAns (ys.length : Int) = x3 at *
  generalize x1 ++ x2 = x12 at *
  clear LC Bwz3_3 o1 o2 T1 T2 l1 l2
  obtain ⟨a3, k3, rfl⟩ := o3.form
  have cQ := LQ.cell 2 rfl
  have O3 := hide o3
  have t3 := o3.lt
  clear o3 LQ
  go_wp2_with fail
  clear cQ
  refine (unhide T3 _).mono ?_
  rintro e w5 ⟨u4, rfl, (o4 : OB _ _ u4 x3), b4⟩
  clear T3
  replace O3 := hide ((unhide O3).below b4)
  have B5 := BB.trans (b4.mono BB.size)
  obtain ⟨a4, k4, rfl⟩ := o4.form
  have P4 := hide (o4.pb (by omega))
  clear o4 b4 BB
  go_wp2_with (first | (at_builtin; refine append_bytes rfl _ _ rfl w1.heap.size (.slice a3 x12.length k3) (.slice a4 x3.length k4) x12 x3 rfl rfl (unhide O3) (unhide P4) (by omega) B5.size ?_; intro v6 w6 ho6 hg6 _; have O6 := hide ho6; have B6 := B5.grown hg6 B5.size (fun j hj => (t3 j hj).1); clear ho6 hg6))
  have l5 : (x12 ++ x3).length ≤ 1940 := by rw [List.length_append]; omega
  generalize x12 ++ x3 = x0 at *
  have O7 : OB w6 w1.heap.size v6 (x0 ++ flatP (ys.take 0)) := by rw [unhide FZ, List.append_nil]; exact unhide O6
  clear O6 B5 O3 P4 t3 l0 l3 FZ
  obtain ⟨m, hn⟩ : ∃ m, ys.length = m := ⟨_, rfl⟩
  rw [hn] at HGW FS FT h7 LQ0 ⊢
  have Hm := hide hn
  clear hn
  go_loopw [5, 6] (fun o i wr => ∃ k : Nat, k ≤ m ∧ i = .int .i64 (k : Int) ∧ OB wr w1.heap.size o (x0 ++ flatP (ys.take k)) ∧ Below w1.heap.size w1 wr) (fun _ i _ => m - (intOf i).toNat)
  case atStart => exact ⟨0, Nat.zero_le _, rfl, O7, B6⟩
  case round =>
   clear O7 B6
   obtain ⟨k, hk, rfl, ob, bR⟩ := hrel
   obtain ⟨va, vc, rfl⟩ := ob.form
   have ltb := ob.lt
   have zr := bR.size
   have cQ := (LQ0.below bR LQ0.lt).cell 2 rfl
   by_cases hlt : k < m
   ·obtain ⟨b, off, hao, hc⟩ := unhide HGW k hlt
    subst hao
    have hc' := (bR.cell (cell_lt hc)).trans hc
    have hd : decide ((k : Int) < (m : Int)) = true := by simpa using hlt
    have FK := hide (unhide FS k hlt)
    have lK := unhide FL k
    have x5 := putAns_len (ys.getD k 0)
    have PX := hide (specPut (ys.getD k 0) wr)
    have OBh := hide ob
    obtain ⟨ln, hln⟩ : ∃ m, (x0 ++ flatP (ys.take k)).length = m := ⟨_, rfl⟩
    have l8 : ln ≤ 2000 := by rw [← hln, List.length_append]; omega
    rw [hln] at OBh ltb ⊢
    have HLN := hide hln
    clear hc ob hln lK
    generalize ys.getD k 0 = x at *
    go_wp2_with fail
    clear hc' cQ
    refine (unhide PX).mono ?_
    rintro e w8 ⟨u1, rfl, (o1 : OB _ _ u1 (putAns x)), b1⟩
    clear PX
    obtain ⟨ua, uc, rfl⟩ := o1.form
    have P1 := hide (o1.pb (by omega))
    have OA := hide ((unhide OBh).below b1)
    have B8 := bR.trans (b1.mono bR.size)
    obtain ⟨l1, hl1⟩ : ∃ l, putAns x = l := ⟨_, rfl⟩
    rw [hl1] at P1 x5 FK ⊢
    clear o1 b1 bR hl1 OBh
    go_wp2_with (first | (at_builtin; refine append_bytes rfl _ _ rfl w1.heap.size (.slice va ln vc) (.slice ua l1.length uc) (x0 ++ flatP (ys.take k)) l1 rfl rfl (unhide OA) (unhide P1) (by have := unhide HLN; omega) B8.size ?_; intro v' w9 ho' hg' _; have HO := hide ho'; have B9 := hide (B8.grown hg' B8.size (fun j hj => (ltb j hj).1)); clear ho' hg'))
    go_roundw
    case rel => exact ⟨k + 1, by omega, by go_num, by rw [unhide FK, ← List.append_assoc]; exact unhide HO, unhide B9⟩
    case measure => simp [intOf]; omega
   ·obtain rfl : k = m := by omega
    have hd : decide ((k : Int) < (k : Int)) = false := by simp
    have OF : OB wr w1.heap.size (.slice va (x0 ++ flatP (ys.take k)).length vc) res := by rw [unhide hres]; have := ob; rwa [unhide FT] at this ⊢
    clear ob
    generalize (x0 ++ flatP (ys.take k)).length = ln at *
    go_wp2
    go_ret
    exact ⟨_, rfl, OB.mono OF (unhide BW).size, (unhide BW).trans (bR.mono (unhide BW).size)⟩
end Go.Proofs.YtbigcmcliamenaaGreatDoor
