/- Lemmas, as stated. -/
import Derived.Test.YtjdchloechcclaaGreatDoorSNAE
import Derived.Lib.AppendZerosOnto
import Derived.Laws.EntriesVeiled
set_option maxRecDepth 100000
set_option maxHeartbeats 1600000
set_option linter.unusedSectionVars false
namespace Go.Proofs.YtjdchloechcclaaGreatDoor
section
open Go.RowKit
abbrev sv (vo lo n : Int) (s : ByteArray) (v : Value) (d : ByteArray) : Value := .agg #[.int .i64 vo,.int .i64 lo,.int .i64 n,.string s, v,.string d]

theorem eqSafe_yes (vo lo n : Int) (s : ByteArray) (a b : Value) (xs : List Int) (d : ByteArray) (w : World) (ha : RI w a xs) (hb : RI w b xs) :
 Calls Tryz.prog 46 #[sv vo lo n s a d, sv vo lo n s b d] w fun e w' => e = .returned (.bool true) ∧ Below w.heap.size w w' := by
 obtain ⟨w0, hw0⟩ : ∃ w0, (w.alloc (.cells #[.int .i64 vo,.int .i64 lo,.int .i64 n,.string s, a,.string d] 40)).alloc (.cells #[.int .i64 vo,.int .i64 lo,.int .i64 n,.string s, b,.string d] 40) = w0:=⟨_, rfl⟩
 have B0 : Below w.heap.size w w0:=hw0 ▸ qalloc2 _ _ _
 have LA : Loc w0 w.heap.size #[.int .i64 vo,.int .i64 lo,.int .i64 n,.string s, a,.string d]:=hw0 ▸ (loc_at w _ _ rfl).alloc _
 have LB : Loc w0 (w.heap.size + 1) #[.int .i64 vo,.int .i64 lo,.int .i64 n,.string s, b,.string d]:=hw0 ▸ loc_at (w.alloc _) _ _ (by simp)
 have EQ:=hide (eqQc_yes n s a b xs w0 (ha.below B0) (hb.below B0))
 have HA:=hide LA
 have HB:=hide LB
 have x0:=LA.cell 0 rfl
 have x1:=LA.cell 1 rfl
 have x2:=LA.cell 2 rfl
 have x3:=LA.cell 3 rfl
 have x4:=LA.cell 4 rfl
 have x5:=LA.cell 5 rfl
 have y0:=LB.cell 0 rfl
 have y1:=LB.cell 1 rfl
 have y2:=LB.cell 2 rfl
 have y3:=LB.cell 3 rfl
 have y4:=LB.cell 4 rfl
 have y5:=LB.cell 5 rfl
 clear ha hb LA LB
 go_enter Tryz.func46, Tryz.ntmps46
 go_wp2_with fail
 clear hw0
 refine EQ.out.mono ?_
 rintro e w1 ⟨rfl, b1⟩
 have A1:=(HA.out.below b1 HA.out.lt).cell 5 rfl
 have C1:=(HB.out.below b1 HB.out.lt).cell 5 rfl
 have B1:=bu B0 b1
 clear b1 x0 y0 x1 y1 x2 y2 x3 y3 x4 y4 x5 y5 EQ HA HB
 go_wp2
 go_ret
 exact ⟨rfl, B1⟩

theorem markSafe_any (vo lo n : Int) (s : ByteArray) (base : Nat) (v : Value) (d : ByteArray) (xs : List Int) (k0 : Nat) (w : World) (hl : xs.length ≤ 4194304) (hk : k0 ≤ 100000000) (h : OI w base v xs) :
 Calls Tryz.prog 51 #[sv vo lo n s v d,.int .i64 k0] w fun e w' => e = .returned (.int .i64 (k0 + xs.length)) ∧ OI w' base v (imarks k0 xs.length) ∧ Kp w w' (fun k => v.ownBlock = some k) := by
 have B:=hide (qalloc w (.cells #[.int .i64 vo,.int .i64 lo,.int .i64 n,.string s, v,.string d] 40))
 have H:=hide (h.below B.out)
 have MK:=hide fun w h => markQc_any n s base v xs k0 w hl hk h
 clear h
 go_enter Tryz.func51, Tryz.ntmps51
 go_wp2_with fail
 refine (MK.out _ H.out).mono ?_
 rintro e w1 ⟨rfl, o1, k1⟩
 have K:=(Below.kpOf B.out (fun k => v.ownBlock = some k)).trans k1
 go_wp2
 go_ret
 exact ⟨rfl, o1, K⟩

theorem szSafe_yes (vo lo n : Int) (s : ByteArray) (ao : Option Addr) (k ca : Nat) (d : ByteArray) (left : Int) (w : World) (h : (s.size : Int) + k + d.size ≤ left) (hl : left ≤ 1048576) :
 Calls Tryz.prog 28 #[sv vo lo n s (.slice ao k ca) d,.int .i64 left] w fun e w' => e = .returned (.int .i64 (left - s.size - k - d.size)) ∧ Below w.heap.size w w' := by
 have h2 : decide ((left : Int) - (s.size : Int) - (k : Int) < 0) = false:=by simp; omega
 have h1 : decide ((left : Int) - (s.size : Int) - (k : Int) - (d.size : Int) < 0) = false:=by simp; omega
 have ZQ:=hide fun w => szQc_yes n s ao k ca left w (by omega) (by omega)
 obtain ⟨w0, hw0⟩ : ∃ w0, w.alloc (.cells #[.int .i64 vo,.int .i64 lo,.int .i64 n,.string s,.slice ao k ca,.string d] 28) = w0:=⟨_, rfl⟩
 have B0 : Below w.heap.size w w0:=hw0 ▸ qalloc _ _
 have LA : Loc w0 w.heap.size #[.int .i64 vo,.int .i64 lo,.int .i64 n,.string s,.slice ao k ca,.string d]:=hw0 ▸ loc_at w _ _ rfl
 have HA:=hide LA
 have x0:=LA.cell 0 rfl
 have x1:=LA.cell 1 rfl
 have x2:=LA.cell 2 rfl
 have x3:=LA.cell 3 rfl
 have x4:=LA.cell 4 rfl
 have x5:=LA.cell 5 rfl
 clear LA
 go_enter Tryz.func28, Tryz.ntmps28
 go_wp2_with fail
 clear hw0
 refine (ZQ.out _).mono ?_
 rintro e w1 ⟨rfl, b1⟩
 have A1:=(HA.out.below b1 HA.out.lt).cell 5 rfl
 have B1:=bu B0 b1
 clear b1 x0 x1 x2 x3 x4 x5 HA
 go_wp2
 go_ret
 exact ⟨rfl, B1⟩
theorem szSafe_no1 (vo lo n : Int) (s : ByteArray) (ao : Option Addr) (k ca : Nat) (d : ByteArray) (left : Int) (w : World) (h0 : 0 ≤ left) (h : left < s.size + k) (hs : s.size ≤ 9223372036854775807) (hk : k ≤ 9223372036854775807) (hl : left ≤ 1048576) :
 Calls Tryz.prog 28 #[sv vo lo n s (.slice ao k ca) d,.int .i64 left] w fun e w' => e = .returned (.int .i64 (-1)) ∧ Below w.heap.size w w' := by
 have ZQ:=hide fun w => szQc_no n s ao k ca left w (by omega) (by omega) hs hk (by omega)
 obtain ⟨w0, hw0⟩ : ∃ w0, w.alloc (.cells #[.int .i64 vo,.int .i64 lo,.int .i64 n,.string s,.slice ao k ca,.string d] 28) = w0:=⟨_, rfl⟩
 have B0 : Below w.heap.size w w0:=hw0 ▸ qalloc _ _
 have LA : Loc w0 w.heap.size #[.int .i64 vo,.int .i64 lo,.int .i64 n,.string s,.slice ao k ca,.string d]:=hw0 ▸ loc_at w _ _ rfl
 have HA:=hide LA
 have x0:=LA.cell 0 rfl
 have x1:=LA.cell 1 rfl
 have x2:=LA.cell 2 rfl
 have x3:=LA.cell 3 rfl
 have x4:=LA.cell 4 rfl
 have x5:=LA.cell 5 rfl
 clear LA
 go_enter Tryz.func28, Tryz.ntmps28
 go_wp2_with fail
 clear hw0
 refine (ZQ.out _).mono ?_
 rintro e w1 ⟨rfl, b1⟩
 have A1:=(HA.out.below b1 HA.out.lt).cell 5 rfl
 have B1:=bu B0 b1
 clear b1 x0 x1 x2 x3 x4 x5 HA
 go_wp2
 go_ret
 exact ⟨rfl, B1⟩
theorem szSafe_no2 (vo lo n : Int) (s : ByteArray) (ao : Option Addr) (k ca : Nat) (d : ByteArray) (left : Int) (w : World) (h0 : (s.size : Int) + k ≤ left) (h : left < s.size + k + d.size) (hd : d.size ≤ 9223372036854775807) (hl : left ≤ 1048576) :
 Calls Tryz.prog 28 #[sv vo lo n s (.slice ao k ca) d,.int .i64 left] w fun e w' => e = .returned (.int .i64 (-1)) ∧ Below w.heap.size w w' := by
 have h2 : decide ((left : Int) - (s.size : Int) - (k : Int) < 0) = false:=by simp; omega
 have h1 : decide ((left : Int) - (s.size : Int) - (k : Int) - (d.size : Int) < 0) = true:=by simp; omega
 have ZQ:=hide fun w => szQc_yes n s ao k ca left w (by omega) (by omega)
 obtain ⟨w0, hw0⟩ : ∃ w0, w.alloc (.cells #[.int .i64 vo,.int .i64 lo,.int .i64 n,.string s,.slice ao k ca,.string d] 28) = w0:=⟨_, rfl⟩
 have B0 : Below w.heap.size w w0:=hw0 ▸ qalloc _ _
 have LA : Loc w0 w.heap.size #[.int .i64 vo,.int .i64 lo,.int .i64 n,.string s,.slice ao k ca,.string d]:=hw0 ▸ loc_at w _ _ rfl
 have HA:=hide LA
 have x0:=LA.cell 0 rfl
 have x1:=LA.cell 1 rfl
 have x2:=LA.cell 2 rfl
 have x3:=LA.cell 3 rfl
 have x4:=LA.cell 4 rfl
 have x5:=LA.cell 5 rfl
 clear LA
 go_enter Tryz.func28, Tryz.ntmps28
 go_wp2_with fail
 clear hw0
 refine (ZQ.out _).mono ?_
 rintro e w1 ⟨rfl, b1⟩
 have A1:=(HA.out.below b1 HA.out.lt).cell 5 rfl
 have B1:=bu B0 b1
 clear b1 x0 x1 x2 x3 x4 x5 HA
 go_wp2
 go_ret
 exact ⟨rfl, B1⟩
theorem szSafe_no (vo lo n : Int) (s : ByteArray) (ao : Option Addr) (k ca : Nat) (d : ByteArray) (left : Int) (w : World) (h0 : 0 ≤ left) (h : left < s.size + k + d.size) (hs : s.size ≤ 9223372036854775807) (hk : k ≤ 9223372036854775807) (hd : d.size ≤ 9223372036854775807) (hl : left ≤ 1048576) :
 Calls Tryz.prog 28 #[sv vo lo n s (.slice ao k ca) d,.int .i64 left] w fun e w' => e = .returned (.int .i64 (-1)) ∧ Below w.heap.size w w' := by
 by_cases h1 : left < (s.size : Int) + k
 ·exact szSafe_no1 vo lo n s ao k ca d left w h0 h1 hs hk hl
 exact szSafe_no2 vo lo n s ao k ca d left w (by omega) h hd hl

abbrev zs6 : Array Value := #[.int .i64 0,.int .i64 0,.int .i64 0,.string ⟨#[]⟩,.slice none 0 0,.string ⟨#[]⟩]
theorem kp6 (w : World) (g : Nat) (a b c d e f : Value) : Kp w ((((((w.setCell ⟨g, 0, none⟩ a).setCell ⟨g, 1, none⟩ b).setCell ⟨g, 2, none⟩ c).setCell ⟨g, 3, none⟩ d).setCell ⟨g, 4, none⟩ e).setCell ⟨g, 5, none⟩ f) (fun k => k = g) :=
 (((((set_kp _ _ _ _).trans (set_kp _ _ _ _)).trans (set_kp _ _ _ _)).trans (set_kp _ _ _ _)).trans (set_kp _ _ _ _)).trans (set_kp _ _ _ _)
theorem toSafe_any (vo lo n : Int) (s : ByteArray) (a : Value) (xs : List Int) (d : ByteArray) (w : World) (ha : RI w a xs) :
 Calls Tryz.prog 37 #[sv vo lo n s a d] w fun e w' => ∃ u, e = .returned (sv vo lo n s u d) ∧ OI w' w.heap.size u xs ∧ Below w.heap.size w w' := by
 obtain ⟨w0, hw0⟩ : ∃ w0, ((w.alloc (.cells #[.int .i64 vo,.int .i64 lo,.int .i64 n,.string s, a,.string d] 28)).alloc (.cells zs6 40)).alloc (.cells #[.int .i64 vo,.int .i64 lo,.int .i64 0,.string ⟨#[]⟩,.slice none 0 0,.string ⟨#[]⟩] 40) = w0:=⟨_, rfl⟩
 have B0 : Below w.heap.size w w0:=hw0 ▸ ((qalloc2 _ _ _).alloc (by simp; omega) _)
 have LZ : Loc w0 (w.heap.size + 1) zs6:=hw0 ▸ (loc_at (w.alloc _) _ _ (by simp)).alloc _
 have LO : Loc w0 (w.heap.size + 1 + 1) #[.int .i64 vo,.int .i64 lo,.int .i64 0,.string ⟨#[]⟩,.slice none 0 0,.string ⟨#[]⟩]:=hw0 ▸ loc_at ((w.alloc _).alloc _) _ _ (by simp)
 have s0 : w0.heap.size = w.heap.size + 1 + 1 + 1:=by rw [← hw0]; simp
 have LA : Loc w0 w.heap.size #[.int .i64 vo,.int .i64 lo,.int .i64 n,.string s, a,.string d]:=hw0 ▸ ((loc_at w _ _ rfl).alloc _).alloc _
 have p0:=LA.cell 0 rfl
 have p1:=LA.cell 1 rfl
 have p2:=LA.cell 2 rfl
 have p3:=LA.cell 3 rfl
 have p4:=LA.cell 4 rfl
 have p5:=LA.cell 5 rfl
 have TQ:=hide (toQc_any n s a xs w0 (ha.below B0))
 have HZ:=hide LZ
 have HO:=hide LO
 have HA:=hide LA
 clear ha LZ LO LA
 go_enter Tryz.func37, Tryz.ntmps37
 go_wp2_with fail
 clear hw0
 refine TQ.out.mono ?_
 rintro e w1 ⟨u, rfl, o1, b1⟩
 have B1 : Below w.heap.size w w1:=bu B0 b1
 have Z1:=HZ.out.below b1 HZ.out.lt
 have O1:=HO.out.below b1 HO.out.lt
 have A1:=HA.out.below b1 HA.out.lt
 have y0:=Z1.cell 0 rfl
 have y1:=Z1.cell 1 rfl
 have y2:=Z1.cell 2 rfl
 have y3:=Z1.cell 3 rfl
 have y4:=Z1.cell 4 rfl
 have y5:=Z1.cell 5 rfl
 have fy:=Z1.frozen
 have x0:=O1.cell 0 rfl
 have x1:=O1.cell 1 rfl
 have x2:=O1.cell 2 rfl
 have x3:=O1.cell 3 rfl
 have x4:=O1.cell 4 rfl
 have x5:=O1.cell 5 rfl
 have fx:=O1.frozen
 have a5:=A1.cell 5 rfl
 have lt1:=World.ownsRow.lt o1
 obtain ⟨ua, uc, rfl⟩:=o1.form
 have H1:=hide o1
 clear o1 b1 Z1 O1 A1 HZ HO HA TQ p0 p1 p2 p3 p4 p5
 go_wp2
 refine bodyPost_ret (v := sv vo lo n s (.slice ua xs.length uc) d) (by simp [results, Tryz.results37, go_sem, y0, y1, y2, y3, y4, y5]) rfl ?_
 have K : Kp w1 _ (fun k => k = w.heap.size + 1 ∨ k = w.heap.size + 1 + 1):=(((((((((((Kp.same w1 _).put (g:=w.heap.size + 1 + 1) (.inr rfl) 2 (.int .i64 n)).put (g:=w.heap.size + 1 + 1) (.inr rfl) 3 (.string s)).put (g:=w.heap.size + 1 + 1) (.inr rfl) 4 (.slice ua xs.length uc)).put (g:=w.heap.size + 1 + 1) (.inr rfl) 5 (.string d)).put (g:=w.heap.size + 1) (.inl rfl) 0 (.int .i64 vo)).put (g:=w.heap.size + 1) (.inl rfl) 1 (.int .i64 lo)).put (g:=w.heap.size + 1) (.inl rfl) 2 (.int .i64 n)).put (g:=w.heap.size + 1) (.inl rfl) 3 (.string s)).put (g:=w.heap.size + 1) (.inl rfl) 4 (.slice ua xs.length uc)).put (g:=w.heap.size + 1) (.inl rfl) 5 (.string d))
 exact ⟨_, rfl, (H1.out.kp K (fun k hk => by have := lt1 k hk; omega)).mono (by omega), Below.kp B1 K B1.size (fun k hk => by omega)⟩
theorem eq_yes (va vb : Value) (xs : List Int) (w : World) (ha : RB w va xs) (hb : RB w vb xs) :
 Calls Tryz.prog 112 #[va, vb] w fun e w' => e = .returned (.bool true) ∧ ∃ n, w' = w.drewN n := by
 obtain ⟨hl, ao, ca, rfl, _, ha⟩:=ha
 obtain ⟨_, bo, cb, rfl, _, hb⟩:=hb
 generalize hn : xs.length = n at *
 have Hn : Hid (xs.length = n):=hn
 clear hn
 go_enter Tryz.func112, Tryz.ntmps112
 go_wp2
 go_loopw [5] (fun i wr => ∃ k : Nat, k ≤ n ∧ i = .int .i64 k ∧ ∃ m, wr = w.drewN m) (fun i _ => n - (intOf i).toNat)
 case atStart => exact ⟨0, Nat.zero_le _, rfl, 0, rfl⟩
 case round =>
  obtain ⟨k, hk, rfl, m, rfl⟩:=hrel
  by_cases hlt : k < n
  ·rcases ha with ha | ⟨b, off, rfl, ha⟩
   ·subst ha; have := Hn.out; simp at this; omega
   rcases hb with hb | ⟨b', off', rfl, hb⟩
   ·subst hb; have := Hn.out; simp at this; omega
   have ha':=ha k hlt
   have hb':=hb k hlt
   clear ha hb
   go_wp2_with fail
   go_quiet (fail)
   go_wp2
   go_roundw
   case rel => exact ⟨k + 1, by omega, by go_num, _, rfl⟩
   case measure => simp [intOf]; omega
  clear ha hb
  go_wp2
  go_ret
  exact ⟨rfl, _, rfl⟩
def marks (k0 n : Nat) : List Int := (List.range n).map fun (i : Nat) => ((k0 : Int) + (i : Int)) % 256
theorem marks_len (k0 n : Nat) : (marks k0 n).length = n := by simp [marks]
theorem marks_get (k0 n i : Nat) (h : i < n) : (marks k0 n).getD i 0 = ((k0 : Int) + (i : Int)) % 256 := by simp [marks, h]
theorem marks_succ (k0 n : Nat) : marks k0 (n + 1) = marks k0 n ++ [((k0 : Int) + (n : Int)) % 256] := by simp [marks, List.range_succ]

def mixed (k0 k : Nat) (vs : List Value) : List Value := (marks k0 k).map (Value.int .u8) ++ vs.drop k
theorem mixed_zero (k0 : Nat) (vs : List Value) : mixed k0 0 vs = vs := by simp [mixed, marks]
theorem mixed_all (k0 : Nat) (vs : List Value) : mixed k0 vs.length vs = (marks k0 vs.length).map (Value.int .u8) := by simp [mixed]
theorem mixed_get (k0 k : Nat) (vs : List Value) (h : k < vs.length) : (mixed k0 k vs)[k]? = some (vs[k]) := by
 simp [mixed, List.getElem?_append, marks_len, h]
theorem mixed_set (k0 k : Nat) (vs : List Value) (h : k < vs.length) : (mixed k0 k vs).set k (.int .u8 (((k0 : Int) + (k : Int)) % 256)) = mixed k0 (k + 1) vs := by
 unfold mixed
 rw [marks_succ, List.set_append_right _ _ (by simp [marks_len]), List.length_map, marks_len, Nat.sub_self, List.drop_eq_getElem_cons h, List.set_cons_zero]
 simp

theorem mark_row (base g n cap k0 : Nat) (vs : List Value) (w : World) (hn : n ≤ 140737488355328) (hk0 : k0 ≤ 100000000) (h : w.ownsRow base 5 1 (.slice (some ⟨g, 0, none⟩) n cap) n vs) :
 Calls Tryz.prog 113 #[.slice (some ⟨g, 0, none⟩) n cap,.int .i64 k0] w fun e w' => e = .returned (.int .i64 (k0 + n)) ∧
  w'.ownsRow base 5 1 (.slice (some ⟨g, 0, none⟩) n cap) n ((marks k0 n).map (Value.int .u8)) ∧ w.grownBy w' (some g) := by
 have hv0 : vs.length = n:=by simpa using h.1
 have Hv : Hid (vs.length = n):=hv0
 clear hv0
 go_enter Tryz.func113, Tryz.ntmps113
 go_wp2
 go_loopw [1, 5] (fun c i wr => ∃ k : Nat, k ≤ n ∧ i = .int .i64 k ∧ c = .int .i64 (k0 + k) ∧ wr.ownsRow base 5 1 (.slice (some ⟨g, 0, none⟩) n cap) n (mixed k0 k vs) ∧ w.grownBy wr (some g)) (fun _ i _ => n - (intOf i).toNat)
 case atStart => exact ⟨0, Nat.zero_le _, rfl, by go_num, by rw [mixed_zero]; exact h, grown_refl _ _⟩
 case round =>
  obtain ⟨k, hk, rfl, rfl, ho, hg⟩:=hrel
  by_cases hlt : k < n
  ·have hkv : k < vs.length:=by rw [Hv.out]; exact hlt
   obtain ⟨u, hu⟩ : ∃ u, wr.cell? ⟨g, k, none⟩ = some u:=⟨_, (ho.cellAt k (by omega)).trans (mixed_get k0 k vs hkv)⟩
   have hfr:=ho.frozenAt k
   have hs:=ho.stored k (.int .u8 (((k0 : Int) + (k : Int)) % 256))
   have HS : Hid ((wr.setCell ⟨g, k, none⟩ (.int .u8 (((k0 : Int) + (k : Int)) % 256))).ownsRow base 5 1 (.slice (some ⟨g, 0, none⟩) n cap) n (mixed k0 (k + 1) vs)):=by
    rw [← mixed_set k0 k vs hkv]; exact hs.1
   have HG : Hid (w.grownBy (wr.setCell ⟨g, k, none⟩ (.int .u8 (((k0 : Int) + (k : Int)) % 256))) (some g)):=grown_trans hg hs.2
   clear hs ho hg
   go_wp2
   go_roundw
   case rel => exact ⟨k + 1, by omega, by go_num, by go_num, HS.out, HG.out⟩
   case measure => simp [intOf]; omega
  have hkn : k = n:=by omega
  have HO : Hid (wr.ownsRow base 5 1 (.slice (some ⟨g, 0, none⟩) n cap) n ((marks k0 n).map (Value.int .u8))):=by
   have:=mixed_all k0 vs; rw [Hv.out] at this; rw [← this, ← hkn]; rw [← hkn] at ho; exact ho
  clear ho
  subst hkn
  go_wp2
  go_ret
  exact ⟨rfl, HO.out, hg⟩

theorem held_row (v : Value) (n k0 : Nat) (w : World) (hk0 : k0 ≤ 100000000) (h : RB w v (marks k0 n)) :
 Calls Tryz.prog 115 #[v,.int .i64 k0] w fun e w' => e = .returned (.int .i64 (k0 + n)) ∧ w' = w := by
 obtain ⟨hl, ao, ca, rfl, _, ha⟩:=h
 rw [marks_len] at hl ha ⊢
 go_enter Tryz.func115, Tryz.ntmps115
 go_wp2
 go_loop [1, 5] (fun c i => ∃ k : Nat, k ≤ n ∧ i = .int .i64 k ∧ c = .int .i64 (k0 + k)) (fun _ i => n - (intOf i).toNat)
 case atStart => exact ⟨0, Nat.zero_le _, rfl, by go_num⟩
 case round =>
  obtain ⟨k, hk, rfl, rfl⟩:=hrel
  by_cases hlt : k < n
  ·rcases ha with ha | ⟨b, off, rfl, ha⟩
   ·have:=congrArg List.length ha; rw [marks_len] at this; simp at this; omega
   have ha':=ha k hlt
   rw [marks_get k0 n k hlt] at ha'
   clear ha
   go_wp2
   go_round
   case rel => exact ⟨k + 1, by omega, by go_num, by go_num⟩
   case measure => simp [intOf]; omega
  have hkn : k = n:=by omega
  subst hkn
  clear ha
  go_wp2
  go_ret
  exact ⟨rfl, rfl⟩

theorem mark_none (w : World) (k0 : Nat) : Calls Tryz.prog 113 #[.slice none 0 0,.int .i64 k0] w fun e w' => e = .returned (.int .i64 k0) ∧ w' = w := by
 go_enter Tryz.func113, Tryz.ntmps113
 go_wp2
 refine wp_loop_rounds 1 ?_
 rw [rounds_succ]
 go_wp2
 go_ret
 exact ⟨rfl, rfl⟩

theorem mark_any (base k0 : Nat) (v : Value) (xs : List Int) (w : World) (hl : xs.length ≤ 140737488355328) (hk0 : k0 ≤ 100000000) (h : OB w base v xs) :
 Calls Tryz.prog 113 #[v,.int .i64 k0] w fun e w' => e = .returned (.int .i64 (k0 + xs.length)) ∧ OB w' base v (marks k0 xs.length) ∧ w.grownBy w' v.ownBlock := by
 have h':=h
 rcases h.2 with ⟨rfl, h0⟩ | ⟨g, cap, cur, rfl, _⟩
 ·refine (mark_none w k0).mono ?_
  rintro e w' ⟨rfl, rfl⟩
  have hx : xs = []:=List.length_eq_zero_iff.1 h0
  subst hx
  exact ⟨by simp, World.ownsRow_nil _ _ _ _, grown_refl _ _⟩
 refine (mark_row base g xs.length cap k0 _ w hl hk0 h').mono ?_
 rintro e w' ⟨rfl, ho, hg⟩
 refine ⟨rfl, ?_, hg⟩
 unfold OB
 rw [marks_len]
 exact ho
def half (xs : List Int) (k : Nat) : List Value := ((xs.take k) ++ List.replicate (xs.length - k) 0).map (Value.int .u8)
theorem half_zero (xs : List Int) : half xs 0 = List.replicate xs.length (.int .u8 0) := by simp [half]
theorem half_all (xs : List Int) : half xs xs.length = xs.map (Value.int .u8) := by simp [half]
theorem half_len (xs : List Int) (k : Nat) (h : k ≤ xs.length) : (half xs k).length = xs.length := by simp [half]; omega
theorem half_set (xs : List Int) (k : Nat) (h : k < xs.length) : (half xs k).set k (.int .u8 (xs.getD k 0)) = half xs (k + 1) := by
 have e : xs.length - k = (xs.length - (k + 1)) + 1:=by omega
 have hk : (xs.take k).length = k:=by simp; omega
 unfold half
 rw [List.take_succ_eq_append_getElem h, e, List.replicate_succ, List.map_append, List.map_append, List.map_append, List.set_append_right _ _ (by simp; omega), List.length_map, hk, Nat.sub_self]
 simp [List.getElem?_eq_getElem h]

theorem toByte_any (v : Value) (xs : List Int) (w : World) (h : RB w v xs) :
 Calls Tryz.prog 99 #[v] w fun e w' => ∃ u, e = .returned u ∧ OB w' w.heap.size u xs ∧ Below w.heap.size w w' := by
 obtain ⟨i0, hi, hz0, hz1, hz2⟩:=info_parts Tryz.info5
 obtain ⟨hl, ao, ca, rfl, _, ha⟩:=h
 obtain ⟨n, hn⟩ : ∃ n, xs.length = n:=⟨_, rfl⟩
 have Hn : Hid (xs.length = n):=hn
 rw [hn] at hl ⊢
 rw [hn] at ha
 clear hn
 go_enter Tryz.func99, Tryz.ntmps99
 go_wp2_with (first | (at_make; refine wpList_make_full _ rfl _ _ 31 rfl w.heap.size 5 i0 (.int .u8 0) 1 Tryz.underlying31 hi hz0 hz1 .i64 .i64 n n n rfl rfl rfl rfl (by rw [hz2]; omega) (by unfold maxLen; omega) (Nat.le_refl _) ?_; intro w0 ho0 hg0))
 have hstart : w0.ownsRow w.heap.size 5 1 (.slice (some ⟨w.heap.size, 0, none⟩) n n) n (half xs 0):=by
  have e : (madeCells (Value.int IntKind.u8 0).cells (n * 1)).toList = half xs 0:=by
   rw [half_zero, Hn.out, Nat.mul_one]; exact toList_madeCells_one _ _
  rw [← e]; exact ho0
 have HB : Hid (Below w.heap.size w w0):=(Below.refl _ _).grown hg0 (Nat.le_refl _) (by simp)
 clear ho0 hg0
 go_loopw [4] (fun i wr => ∃ k : Nat, k ≤ n ∧ i = .int .i64 k ∧ wr.ownsRow w.heap.size 5 1 (.slice (some ⟨w.heap.size, 0, none⟩) n n) n (half xs k) ∧ Below w.heap.size w wr) (fun i _ => n - (intOf i).toNat)
 case atStart => exact ⟨0, Nat.zero_le _, rfl, hstart, HB.out⟩
 case round =>
  clear hstart
  obtain ⟨k, hk, rfl, ho, hbel⟩:=hrel
  by_cases hlt : k < n
  ·rcases ha with ha | ⟨b, off, rfl, ha⟩
   ·subst ha; have := Hn.out; simp at this; omega
   have hkx : k < xs.length:=by rw [Hn.out]; exact hlt
   have hc0:=ha k hlt
   have hc : wr.cell? ⟨b, off + k, none⟩ = some (.int .u8 (xs.getD k 0)):=(hbel.cell (cell_lt hc0)).trans hc0
   obtain ⟨u, hu⟩ : ∃ u, wr.cell? ⟨w.heap.size, k, none⟩ = some u:=by
    have h1:=ho.cellAt k (by omega)
    have h2 : k < (half xs k).length:=by rw [half_len xs k (by omega)]; exact hkx
    exact ⟨_, h1.trans (List.getElem?_eq_getElem h2)⟩
   have hfr:=ho.frozenAt k
   have HS : Hid ((wr.setCell ⟨w.heap.size, k, none⟩ (.int .u8 (xs.getD k 0))).ownsRow w.heap.size 5 1 (.slice (some ⟨w.heap.size, 0, none⟩) n n) n (half xs (k + 1))):=by
    rw [← half_set xs k hkx]; exact (ho.stored k _).1
   have HG : Hid (Below w.heap.size w (wr.setCell ⟨w.heap.size, k, none⟩ (.int .u8 (xs.getD k 0)))):=hbel.setCell (Nat.le_refl _) _
   clear ha ho hbel hc0
   generalize xs.getD k 0 = d at *
   go_wp2
   go_roundw
   case rel => exact ⟨k + 1, by omega, by go_num, HS.out, HG.out⟩
   case measure => simp [intOf]; omega
  have hkn : k = n:=by omega
  have HO : Hid (OB wr w.heap.size (.slice (some ⟨w.heap.size, 0, none⟩) n n) xs):=by
   have h1:=half_all xs
   rw [Hn.out] at h1
   unfold OB Hid
   rw [Hn.out, ← h1, ← hkn]; rw [← hkn] at ho; exact ho
  clear ha ho
  go_wp2
  go_ret
  exact ⟨_, rfl, HO.out, hbel⟩
structure DCode (w : World) (ao : Option Addr) (xs : List Int) : Prop where
 len : xs.length ≤ 1048576
 code : xs = [] ∨ ∃ b off, ao = some ⟨b, off, none⟩ ∧ ∀ k, k < xs.length → w.cell? ⟨b, off + k, none⟩ = some (.int .u8 (xs.getD k 0))
 fit : ∀ k, k < xs.length → 0 ≤ xs.getD k 0 ∧ xs.getD k 0 ≤ 255
theorem DCode.below {w w' : World} {B : Nat} {ao : Option Addr} {xs : List Int} (h : DCode w ao xs) (hb : Below B w w') (hB : w.heap.size ≤ B := by exact Nat.le_refl _) : DCode w' ao xs := by
 refine ⟨h.len, ?_, h.fit⟩
 rcases h.code with h' | ⟨b, off, ha, hx⟩
 ·exact .inl h'
 exact .inr ⟨b, off, ha, fun k hk => (hb.cell (Nat.lt_of_lt_of_le (cell_lt (hx k hk)) hB)).trans (hx k hk)⟩
def BytesL (ys : List Int) : Prop := ∀ y ∈ ys, 0 ≤ y ∧ y ≤ 255
theorem BytesL.append {a b : List Int} (ha : BytesL a) (hb : BytesL b) : BytesL (a ++ b) := fun y hy => by
 rcases List.mem_append.1 hy with h | h
 ·exact ha y h
 exact hb y h
theorem OB.grown {w w' : World} {base g : Nat} {v : Value} {xs : List Int} (h : OB w base v xs) (hg : w.grownBy w' (some g)) (hlt : g < base) : OB w' base v xs :=
 World.ownsRow.kept h hg (by
  cases hv : v.ownBlock with
  | none => exact .inl rfl
  | some k => exact .inr fun e => by have := (World.ownsRow.lt h k hv).1; simp at e; omega)
theorem OB.kp {w w' : World} {base : Nat} {X : Nat → Prop} {v : Value} {xs : List Int} (h : OB w base v xs) (k : Kp w w' X) (hv : ∀ k, v.ownBlock = some k → ¬ X k) : OB w' base v xs := by
 refine ⟨h.1, ?_⟩
 rcases h.2 with hn | ⟨g, cap, cur, rfl, hb, hgg, rest⟩
 ·exact .inl hn
 refine .inr ⟨g, cap, cur, rfl, hb, ?_, rest⟩
 rw [k.block g (Array.getElem?_eq_some_iff.1 hgg).1 (hv g rfl)]
 exact hgg

theorem OB.mono {w : World} {base base' : Nat} {v : Value} {xs : List Int} (h : OB w base v xs) (hb : base' ≤ base) : OB w base' v xs := by
 refine ⟨h.1, ?_⟩
 rcases h.2 with hn | ⟨g, cap, cur, rfl, hg, rest⟩
 ·exact .inl hn
 exact .inr ⟨g, cap, cur, rfl, Nat.le_trans hb hg, rest⟩

theorem OB.form {w : World} {base : Nat} {v : Value} {xs : List Int} (h : OB w base v xs) : ∃ ao ca, v = .slice ao xs.length ca := by
 rcases h.2 with ⟨rfl, h0⟩ | ⟨g, cap, cur, rfl, _⟩
 ·exact ⟨none, 0, by rw [h0]⟩
 exact ⟨_, _, rfl⟩

theorem bytes_plain (xs : List Int) (u : Value) (h : u ∈ xs.map (Value.int .u8)) : u.oneCell' = true := by
 obtain ⟨x, _, rfl⟩:=List.mem_map.1 h; rfl

theorem bnews_cells {w : World} {g off : Nat} {xs : List Int} (h : ∀ k, k < xs.length → w.cell? ⟨g, off + k, none⟩ = some (.int .u8 (xs.getD k 0))) :
 ∀ j u, (xs.map (Value.int .u8))[j]? = some u → w.cell? ((⟨g, off, none⟩ : Addr).add j) = some u := by
 intro j u hj
 rw [List.getElem?_map] at hj
 obtain ⟨x, hx, rfl⟩:=Option.map_eq_some_iff.1 hj
 have hlt:=(List.getElem?_eq_some_iff.1 hx).1
 have e : ((⟨g, off, none⟩ : Addr).add j) = ⟨g, off + j, none⟩:=by unfold Addr.add; split <;> simp_all
 rw [e, h j hlt]
 simp [List.getD_eq_getElem?_getD, hx]

def PB (w : World) (v : Value) (xs : List Int) : Prop :=
 ∃ ao cap, v = .slice ao xs.length cap ∧ (xs = [] ∨ ∃ ad : Addr, ao = some ad ∧ ∀ j u, (xs.map (Value.int .u8))[j]? = some u → w.cell? (ad.add j) = some u)
theorem PB.below {w w' : World} {v : Value} {xs : List Int} (h : PB w v xs) (hb : Below w.heap.size w w') : PB w' v xs := by
 obtain ⟨ao, cap, rfl, h⟩:=h
 refine ⟨ao, cap, rfl, ?_⟩
 rcases h with h | ⟨ad, rfl, h⟩
 ·exact .inl h
 exact .inr ⟨ad, rfl, fun j u hj => (hb.cell (cell_lt (h j u hj))).trans (h j u hj)⟩
theorem RB.pb {w : World} {v : Value} {xs : List Int} (h : RB w v xs) : PB w v xs := by
 obtain ⟨hl, ao, cap, rfl, _, h⟩:=h
 refine ⟨ao, cap, rfl, ?_⟩
 rcases h with h | ⟨b, off, rfl, h⟩
 ·exact .inl h
 exact .inr ⟨_, rfl, bnews_cells h⟩
theorem OB.pb {w : World} {base : Nat} {v : Value} {xs : List Int} (h : OB w base v xs) (hl : xs.length ≤ 140737488355328) : PB w v xs := (h.rb hl).pb
theorem OB.lt {w : World} {base : Nat} {v : Value} {xs : List Int} (h : OB w base v xs) : ∀ j, v.ownBlock = some j → base ≤ j ∧ j < w.heap.size := World.ownsRow.lt h
theorem run_append_noneB (ty : TypeId) (base cap : Nat) (v : Value) (n : Nat) (xs : List Value) (w : World) (hown : w.ownsRow base 5 1 v n xs) :
 (Builtin.append_ #[31, 31] ty #[v,.slice none 0 cap]).run Tryz.prog w = .ok v w := by
 obtain ⟨i0, hi, hz0, hz1, hz2⟩:=info_parts Tryz.info5
 rcases hown.2 with ⟨rfl, rfl⟩ | ⟨g, cp, cur, rfl, _, _, hnc, _⟩
 ·simp [Builtin.append_, run_underlying Tryz.underlying31, sizeOf, typeInfo, hi, Builtin.lenOf, Builtin.firstCells]
 simp [Builtin.append_, run_underlying Tryz.underlying31, sizeOf, typeInfo, hi, Builtin.lenOf, Builtin.firstCells, hnc, storeCells]
theorem step_append_bytes {ops : Array Oper} {o : Oper} {a : Act} {w : World} {K : Act → World → Prop} {Q : Exit → Act → World → Prop} {E : Prop} (hgd : o.guard = none) (s x : Operand)
 (ho : o.op = .call { callee := .builtin .append, args := #[s, x], argTypes := #[31, 31] }) (base : Nat) (v u : Value) (xs ys : List Int) (hs : a.eval s = v) (hx : a.eval x = u)
 (hown : OB w base v xs) (hp : PB w u ys) (hl : xs.length + ys.length ≤ 16777216) (hbase : base ≤ w.heap.size)
 (h : ∀ v' w', OB w' base v' (xs ++ ys) → w.grownBy w' v.ownBlock → (v'.ownBlock = v.ownBlock ∨ v'.ownBlock = some w.heap.size) → K (a.put o.dst v') w') :
 if Region.wanted o (yielded ops a.tmps) = true then Oper.wp Tryz.prog o a w K Q else E := by
 have hw : Region.wanted o (yielded ops a.tmps) = true:=by simp [Region.wanted, hgd]
 rw [if_pos hw]
 obtain ⟨i0, hi, hz0, hz1, hz2⟩:=info_parts Tryz.info5
 obtain ⟨ao, cap, rfl, hp⟩:=hp
 match ao, hx with
 | none, hx =>
  have hy : ys = []:=by rcases hp with h | ⟨ad, e, _⟩; exact h; cases e
  subst hy
  have hrun:=run_append_noneB o.type base cap v xs.length (xs.map (Value.int .u8)) w hown
  unfold Oper.wp
  simp only [List.length_nil] at hx
  simp [execOp, ho, resolve, invoke, builtin, hs, hx, hrun, Result.andThen]
  exact h v w (by simpa using hown) (grown_refl _ _) (.inl rfl)
 | some ad, hx =>
  have hn : ∀ j u, (ys.map (Value.int .u8))[j]? = some u → w.cell? (ad.add j) = some u:=by
   rcases hp with rfl | ⟨ad', e, h⟩
   ·intro j u hj; simp at hj
   cases e; exact h
  obtain ⟨v', w', hrun, r1, r2, _, r4⟩:=run_append_own_at (P:=Tryz.prog) w base 31 o.type 5 i0 (.int .u8 0) 1 1 Tryz.underlying31 hi hz0 hz1 hz2 rfl (by decide) v xs.length (xs.map (Value.int .u8)) hown ad ys.length cap (ys.map (Value.int .u8)) (by simp) hn (bytes_plain ys) (by unfold maxLen; omega) (by omega) hbase
  unfold Oper.wp
  simp [execOp, ho, resolve, invoke, builtin, hs, hx, hrun, Result.andThen]
  refine h v' w' ?_ r2 r4
  unfold OB
  rw [List.map_append, List.length_append]
  exact r1
abbrev dv (v : Value) (s : Int) : Value := .agg #[v,.int .i64 s]
theorem eqDisk_yes (a b : Value) (xs : List Int) (s : Int) (w : World) (ha : RB w a xs) (hb : RB w b xs) :
 Calls Tryz.prog 49 #[dv a s, dv b s] w fun e w' => e = .returned (.bool true) ∧ Below w.heap.size w w' := by
 have R1:=hide ha
 have R2:=hide hb
 have B:=hide (qalloc2 w (.cells #[a,.int .i64 s] 43) (.cells #[b,.int .i64 s] 43))
 clear ha hb
 go_enter Tryz.func49, Tryz.ntmps49
 go_wp2_with fail
 refine (eq_yes a b xs _ (R1.out.below B.out (Nat.le_refl _)) (R2.out.below B.out (Nat.le_refl _))).mono ?_
 rintro e w1 ⟨rfl, n, rfl⟩
 go_wp2
 go_ret
 exact ⟨rfl, below_drewN B.out _⟩

theorem markDisk_any (s : Int) (base : Nat) (v : Value) (xs : List Int) (k0 : Nat) (w : World) (hl : xs.length ≤ 4194304) (hk : k0 ≤ 100000000) (h : OB w base v xs) :
 Calls Tryz.prog 54 #[dv v s,.int .i64 k0] w fun e w' => e = .returned (.int .i64 (k0 + xs.length)) ∧ OB w' base v (marks k0 xs.length) ∧ Kp w w' (fun k => v.ownBlock = some k) := by
 have B:=hide (qalloc w (.cells #[v,.int .i64 s] 43))
 have H:=hide (h.below B.out)
 have MK:=hide fun w h => mark_any base k0 v xs w (by omega) hk h
 clear h
 go_enter Tryz.func54, Tryz.ntmps54
 go_wp2_with fail
 refine (MK.out _ H.out).mono ?_
 rintro e w1 ⟨rfl, o1, g1⟩
 have K:=(Below.kpOf B.out (fun k => v.ownBlock = some k)).trans (kp_grown g1)
 go_wp2
 go_ret
 exact ⟨rfl, o1, K⟩

theorem szByteS_yes (ao : Option Addr) (m ca : Nat) (left : Int) (w : World) (h : (m : Int) ≤ left) (hl : left ≤ 1048576) :
 Calls Tryz.prog 86 #[.slice ao m ca,.int .i64 left] w fun e w' => e = .returned (.int .i64 (left - m)) ∧ w' = w := by
 have h1 : decide ((left : Int) - (m : Int) < 0) = false:=by simp; omega
 go_enter Tryz.func86, Tryz.ntmps86
 go_wp2
 go_ret
 exact ⟨rfl, rfl⟩
theorem szByteS_no (ao : Option Addr) (m ca : Nat) (left : Int) (w : World) (h0 : 0 ≤ left) (h : left < m) (hl : left ≤ 1048576) (hm : m ≤ 9223372036854775807) :
 Calls Tryz.prog 86 #[.slice ao m ca,.int .i64 left] w fun e w' => e = .returned (.int .i64 (-1)) ∧ w' = w := by
 have h1 : decide ((left : Int) - (m : Int) < 0) = true:=by simp; omega
 go_enter Tryz.func86, Tryz.ntmps86
 go_wp2
 go_ret
 exact ⟨rfl, rfl⟩
theorem szDisk_yes (ao : Option Addr) (m ca : Nat) (s : Int) (left : Int) (w : World) (h : (m : Int) ≤ left) (hl : left ≤ 1048576) :
 Calls Tryz.prog 31 #[dv (.slice ao m ca) s,.int .i64 left] w fun e w' => e = .returned (.int .i64 (left - m)) ∧ Below w.heap.size w w' := by
 have h1 : decide ((left : Int) - (m : Int) < 0) = false:=by simp; omega
 go_enter Tryz.func31, Tryz.ntmps31
 go_wp2_with (first | (go_at_call 86; refine (szByteS_yes _ _ _ _ _ (by omega) (by omega)).mono ?_; rintro e w' ⟨rfl, rfl⟩))
 go_ret
 exact ⟨rfl, qalloc _ _⟩
theorem szDisk_no (ao : Option Addr) (m ca : Nat) (s : Int) (left : Int) (w : World) (h0 : 0 ≤ left) (h : left < m) (hl : left ≤ 1048576) (hm : m ≤ 9223372036854775807) :
 Calls Tryz.prog 31 #[dv (.slice ao m ca) s,.int .i64 left] w fun e w' => e = .returned (.int .i64 (-1)) ∧ Below w.heap.size w w' := by
 go_enter Tryz.func31, Tryz.ntmps31
 go_wp2_with (first | (go_at_call 86; refine (szByteS_no _ _ _ _ _ (by omega) (by omega) (by omega) hm).mono ?_; rintro e w' ⟨rfl, rfl⟩))
 go_ret
 exact ⟨rfl, qalloc _ _⟩

theorem toDisk_any (a : Value) (xs : List Int) (s : Int) (w : World) (ha : RB w a xs) :
 Calls Tryz.prog 40 #[dv a s] w fun e w' => ∃ u, e = .returned (dv u s) ∧ OB w' w.heap.size u xs ∧ Below w.heap.size w w' := by
 have R1:=hide ha
 clear ha
 go_enter Tryz.func40, Tryz.ntmps40
 go_wp2_with fail
 refine Calls.mono (toByte_any a xs _ (R1.out.below ((((Below.refl w.heap.size w).alloc (Nat.le_refl _) _).alloc (by simp) _).alloc (by simp; omega) _) (Nat.le_refl _))) ?_
 rintro e w1 ⟨u, rfl, o1, b1⟩
 have s1:=b1.size
 have L1 : Loc w1 (w.heap.size + 1) #[.slice none 0 0,.int .i64 0]:=Loc.below (Loc.alloc (loc_at (w.alloc _) #[.slice none 0 0,.int .i64 0] _ (by simp)) _) b1 (by simp)
 have L2 : Loc w1 (w.heap.size + 1 + 1) #[.slice none 0 0,.int .i64 0]:=Loc.below (loc_at ((w.alloc _).alloc _) #[.slice none 0 0,.int .i64 0] _ (by simp)) b1 (by simp)
 have B1 : Below w.heap.size w w1:=((((Below.refl w.heap.size w).alloc (Nat.le_refl _) _).alloc (by simp) _).alloc (by simp; omega) _).trans (b1.mono (by simp; omega))
 have lt1:=World.ownsRow.lt o1
 simp at lt1 s1
 have L0 : Loc w1 w.heap.size #[a,.int .i64 s]:=Loc.below (Loc.alloc (Loc.alloc (loc_at w #[a,.int .i64 s] _ rfl) _) _) b1 (by simp; omega)
 have x1:=L0.cell 1 rfl
 have y0:=L1.cell 0 rfl
 have y1:=L1.cell 1 rfl
 have fy0:=L1.frozen 0
 have fy1:=L1.frozen 1
 have z0:=L2.cell 0 rfl
 have z1:=L2.cell 1 rfl
 have fz0:=L2.frozen 0
 have fz1:=L2.frozen 1
 obtain ⟨ua, uc, hu⟩:=o1.form
 have O1:=hide o1
 clear o1 b1
 subst hu
 go_wp2
 refine bodyPost_ret (v := dv (.slice ua xs.length uc) s) (by simp [results, Tryz.results40, go_sem, y0, y1]) rfl ?_
 have K : Kp w1 ((((w1.setCell ⟨w.heap.size + 1 + 1, 0, none⟩ (.slice ua xs.length uc)).setCell ⟨w.heap.size + 1 + 1, 1, none⟩ (.int .i64 s)).setCell ⟨w.heap.size + 1, 0, none⟩ (.slice ua xs.length uc)).setCell ⟨w.heap.size + 1, 1, none⟩ (.int .i64 s)) (fun k => k = w.heap.size + 1 ∨ k = w.heap.size + 1 + 1) :=
  (((((set_kp _ _ _ _).mono (fun k h => .inr h))).trans ((set_kp _ _ _ _).mono (fun k h => .inr h))).trans ((set_kp _ _ _ _).mono (fun k h => .inl h))).trans ((set_kp _ _ _ _).mono (fun k h => .inl h))
 exact ⟨_, rfl, (O1.out.kp K (fun k hk => by have := lt1 k hk; omega)).mono (by simp; omega), Below.kp B1 K B1.size (fun k hk => by omega)⟩
end
section
open Go.RowKit
variable [∀ (a b c d : Int), Decidable (Ok4 a b c d)]
abbrev T4 := Int × Int × Int × Int
def tcell (x : T4) : List Value := [.int .i64 x.1, .int .i64 x.2.1, .int .i64 x.2.2.1, .int .i64 x.2.2.2]
def tcells (xs : List T4) : List Value := xs.flatMap tcell
theorem tcell_len (x : T4) : (tcell x).length = 4 := rfl
theorem tcells_len (xs : List T4) : (tcells xs).length = xs.length * 4 := by
 induction xs with
 | nil => rfl
 | cons x xs ih => simp [tcells, tcell] at *; omega
theorem tcells_append (xs ys : List T4) : tcells (xs ++ ys) = tcells xs ++ tcells ys := by simp [tcells]
theorem tcells_get (xs : List T4) (k j : Nat) (hk : k < xs.length) (hj : j < 4) : (tcells xs)[k * 4 + j]? = (tcell (xs.getD k (0, 0, 0, 0)))[j]? := by
 induction xs generalizing k with
 | nil => simp at hk
 | cons x xs ih =>
  have e : tcells (x :: xs) = tcell x ++ tcells xs:=by simp [tcells]
  rw [e]
  cases k with
  | zero => rw [Nat.zero_mul, Nat.zero_add, List.getElem?_append_left (by rw [tcell_len]; exact hj)]; rfl
  | succ k =>
   rw [List.getElem?_append_right (by rw [tcell_len]; omega), tcell_len, show (k + 1) * 4 + j - 4 = k * 4 + j from by omega, ih k (by simpa using hk)]
   rfl
def OT (w : World) (base : Nat) (v : Value) (xs : List T4) : Prop := w.ownsRow base 70 4 v xs.length (tcells xs)
def RT (w : World) (v : Value) (xs : List T4) : Prop :=
 xs.length ≤ 35184372088832 ∧ ∃ ao cap, v = .slice ao xs.length cap ∧ (xs = [] ∨ ∃ g, ao = some ⟨g, 0, none⟩ ∧ ∀ k, k < xs.length → w.cell? ⟨g, k * 4, none⟩ = some (.int .i64 (xs.getD k (0, 0, 0, 0)).1) ∧ w.cell? ⟨g, k * 4 + 1, none⟩ = some (.int .i64 (xs.getD k (0, 0, 0, 0)).2.1) ∧ w.cell? ⟨g, k * 4 + 2, none⟩ = some (.int .i64 (xs.getD k (0, 0, 0, 0)).2.2.1) ∧ w.cell? ⟨g, k * 4 + 3, none⟩ = some (.int .i64 (xs.getD k (0, 0, 0, 0)).2.2.2))
theorem OT.below {w w' : World} {base : Nat} {v : Value} {xs : List T4} (h : OT w base v xs) (hb : Below w.heap.size w w') : OT w' base v xs :=
 World.ownsRow.kept (row := none) h ⟨hb.os, hb.tape, hb.output, hb.size, fun k hk _ => hb.block k hk⟩ (by cases v.ownBlock <;> simp)
theorem OT.apart {w w' : World} {base N : Nat} {v u : Value} {xs : List T4} (h : OT w base v xs) (hg : w.grownBy w' u.ownBlock) (hv : ∀ k, v.ownBlock = some k → k < N) (hu : ∀ k, u.ownBlock = some k → N ≤ k) : OT w' base v xs := by
 refine World.ownsRow.kept h hg ?_
 cases hv' : v.ownBlock with
 | none => exact .inl rfl
 | some k => exact .inr fun e => by have := hv k hv'; have := hu k e.symm; omega
theorem OT.rt {w : World} {base : Nat} {v : Value} {xs : List T4} (h : OT w base v xs) (hl : xs.length ≤ 35184372088832) : RT w v xs := by
 refine ⟨hl, ?_⟩
 rcases h.2 with ⟨rfl, h0⟩ | ⟨g, cap, cur, rfl, _⟩
 ·exact ⟨none, 0, by rw [h0], .inl (List.length_eq_zero_iff.1 h0)⟩
 refine ⟨_, cap, rfl, .inr ⟨g, rfl, fun k hk => ?_⟩⟩
 have c0:=World.ownsRow.cellAt h (k * 4 + 0) (by omega)
 have c1:=World.ownsRow.cellAt h (k * 4 + 1) (by omega)
 have c2:=World.ownsRow.cellAt h (k * 4 + 2) (by omega)
 have c3:=World.ownsRow.cellAt h (k * 4 + 3) (by omega)
 rw [tcells_get xs k _ hk (by omega)] at c0 c1 c2 c3
 exact ⟨c0, c1, c2, c3⟩
theorem RT.below {w w' : World} {v : Value} {xs : List T4} (h : RT w v xs) (hb : Below w.heap.size w w') : RT w' v xs := by
 obtain ⟨hl, ao, cap, rfl, h⟩:=h
 refine ⟨hl, ao, cap, rfl, ?_⟩
 rcases h with h | ⟨g, rfl, h⟩
 ·exact .inl h
 refine .inr ⟨g, rfl, fun k hk => ?_⟩
 obtain ⟨c0, c1, c2, c3⟩:=h k hk
 have hg : g < w.heap.size:=cell_lt c0
 exact ⟨(hb.cell (p := ⟨g, k * 4, none⟩) hg).trans c0, (hb.cell (p := ⟨g, k * 4 + 1, none⟩) hg).trans c1, (hb.cell (p := ⟨g, k * 4 + 2, none⟩) hg).trans c2, (hb.cell (p := ⟨g, k * 4 + 3, none⟩) hg).trans c3⟩

theorem eqTxS_yes (v u : Value) (xs : List T4) (w : World) (hv : RT w v xs) (hu : RT w u xs) :
 Calls Tryz.prog 47 #[v, u] w fun e w' => e = .returned (.bool true) ∧ Below w.heap.size w w' := by
 obtain ⟨hl, ao, ca, rfl, ha⟩:=hv
 obtain ⟨_, bo, cb, rfl, hb⟩:=hu
 have hbnd : xs.length ≤ 9223372036854775807:=by omega
 go_enter Tryz.func47, Tryz.ntmps47
 go_wp2
 go_loopw [5] (fun i wr => ∃ k : Nat, k ≤ xs.length ∧ i = .int .i64 k ∧ Below w.heap.size w wr) (fun i _ => xs.length - (intOf i).toNat)
 case atStart => exact ⟨0, Nat.zero_le _, rfl, Below.refl _ _⟩
 case round =>
  obtain ⟨k, hk, rfl, br⟩:=hrel
  have hsr:=br.size
  by_cases hlt : k < xs.length
  ·rcases ha with ha | ⟨g, rfl, ha⟩
   ·subst ha; simp at hlt
   rcases hb with hb | ⟨g', rfl, hb⟩
   ·subst hb; simp at hlt
   obtain ⟨a0, a1, a2, a3⟩:=ha k hlt
   obtain ⟨b0, b1, b2, b3⟩:=hb k hlt
   have hg : g < w.heap.size:=cell_lt a0
   have hg' : g' < w.heap.size:=cell_lt b0
   generalize xs.getD k (0, 0, 0, 0) = x at *
   obtain ⟨xa, xb, xc, xd⟩:=x
   have K : Hid (∀ w', Below wr.heap.size wr w' → Below wr.heap.size wr w' ∧ (w'.cell? ⟨g, k * 4, none⟩ = some (.int .i64 xa) ∧ w'.cell? ⟨g, k * 4 + 1, none⟩ = some (.int .i64 xb) ∧ w'.cell? ⟨g, k * 4 + 2, none⟩ = some (.int .i64 xc) ∧ w'.cell? ⟨g, k * 4 + 3, none⟩ = some (.int .i64 xd)) ∧ (w'.cell? ⟨g', k * 4, none⟩ = some (.int .i64 xa) ∧ w'.cell? ⟨g', k * 4 + 1, none⟩ = some (.int .i64 xb) ∧ w'.cell? ⟨g', k * 4 + 2, none⟩ = some (.int .i64 xc) ∧ w'.cell? ⟨g', k * 4 + 3, none⟩ = some (.int .i64 xd))):=fun w' hb' => by
    have hw:=br.trans (hb'.mono hsr)
    exact ⟨hb', ⟨(hw.cell (p := ⟨g, k * 4, none⟩) hg).trans a0, (hw.cell (p := ⟨g, k * 4 + 1, none⟩) hg).trans a1, (hw.cell (p := ⟨g, k * 4 + 2, none⟩) hg).trans a2, (hw.cell (p := ⟨g, k * 4 + 3, none⟩) hg).trans a3⟩, ⟨(hw.cell (p := ⟨g', k * 4, none⟩) hg').trans b0, (hw.cell (p := ⟨g', k * 4 + 1, none⟩) hg').trans b1, (hw.cell (p := ⟨g', k * 4 + 2, none⟩) hg').trans b2, (hw.cell (p := ⟨g', k * 4 + 3, none⟩) hg').trans b3⟩⟩
   have bA : Below wr.heap.size wr wr.drew:=Below.drew (Below.refl _ _)
   have hKeep:=K.out _ bA
   have EQ:=hide fun w => eqTx_same xa xb xc xd w
   clear ha hb a0 a1 a2 a3 b0 b1 b2 b3
   go_wp2_with fail
   go_region_held3 (fun w' => Below wr.heap.size wr w' ∧ (w'.cell? ⟨g, k * 4, none⟩ = some (.int .i64 xa) ∧ w'.cell? ⟨g, k * 4 + 1, none⟩ = some (.int .i64 xb) ∧ w'.cell? ⟨g, k * 4 + 2, none⟩ = some (.int .i64 xc) ∧ w'.cell? ⟨g, k * 4 + 3, none⟩ = some (.int .i64 xd)) ∧ (w'.cell? ⟨g', k * 4, none⟩ = some (.int .i64 xa) ∧ w'.cell? ⟨g', k * 4 + 1, none⟩ = some (.int .i64 xb) ∧ w'.cell? ⟨g', k * 4 + 2, none⟩ = some (.int .i64 xc) ∧ w'.cell? ⟨g', k * 4 + 3, none⟩ = some (.int .i64 xd))) (exact hKeep) (first
    | (go_at_call 76; have hgo := bA; refine (EQ.out _).mono ?_; rintro e wa ⟨rfl, ba⟩
       have bB : Below wr.heap.size wr wa:=bA.trans ba
       have hKeep:=K.out _ bB; clear bA hgo))
   all_goals
    go_wp2
    go_roundw
    case rel => exact ⟨k + 1, by omega, by go_num, br.trans (bB.mono hsr)⟩
    case measure => simp [intOf]; omega
  have hkn : k = xs.length:=by omega
  subst hkn
  go_wp2
  go_ret
  exact ⟨rfl, br⟩
end
section

theorem decFrom_append (l r : List UInt8) (acc : Nat) : Lib.decFrom acc (l ++ r) = (Lib.decFrom acc l).bind fun a => Lib.decFrom a r := by
 induction l generalizing acc with
 | nil => rfl
 | cons b l ih =>
  rw [List.cons_append, Lib.decFrom, Lib.decFrom]
  cases Lib.digitVal b with
  | none => rfl
  | some d => exact ih _
theorem digit_ofNat (k : Nat) (h : k < 10) : Lib.digitVal (UInt8.ofNat (48 + k)) = some k := by
 have e : (UInt8.ofNat (48 + k)).toNat = 48 + k:=by simp; omega
 rw [Lib.digitVal, if_pos (by omega), e]; congr 1; omega
theorem decFrom_digits (n : Nat) : Lib.decFrom 0 (Lib.decDigits n) = some n := by
 induction n using Nat.strongRecOn with
 | ind n ih =>
  rw [Lib.decDigits]
  by_cases h : n < 10
  ·rw [dif_pos h]
   simp only [Lib.decFrom, digit_ofNat n h]; simp
  rw [dif_neg h, decFrom_append, ih (n / 10) (by omega)]
  simp only [Option.bind_some, Lib.decFrom, digit_ofNat (n % 10) (by omega)]
  congr 1; omega
theorem digits_ne (n : Nat) : Lib.decDigits n ≠ [] := by
 intro h
 have:=Lib.decDigits_length n
 rw [h] at this
 have:=Lib.nDigits_pos n
 simp at *; omega
theorem atoi_digits (n : Nat) : Lib.atoi (Lib.decDigits n) = some (n : Int) := by
 have hd:=decFrom_digits n
 have hne:=digits_ne n
 cases hl : Lib.decDigits n with
 | nil => exact absurd hl hne
 | cons b r =>
  rw [hl] at hd
  obtain ⟨d, hb⟩:=Lib.digit_of_decFrom (b :: r) 0 n hd 0 b rfl
  have hb':=Lib.digitVal_eq hb
  have h45 : (b == 45) = false:=by
   rw [beq_eq_false_iff_ne]; intro e; subst e; simp at hb'
  have h43 : (b == 43) = false:=by
   rw [beq_eq_false_iff_ne]; intro e; subst e; simp at hb'
  simp [Lib.atoi, h45, h43, Lib.decNat, hd]
theorem nDigits_six (n : Nat) (h : n ≤ 999999) : Lib.nDigits n ≤ 6 := by
 have step : ∀ m k, (m < 10 → 1 ≤ k) → (¬ m < 10 → Lib.nDigits (m / 10) + 1 ≤ k) → Lib.nDigits m ≤ k:=by
  intro m k h1 h2
  by_cases hm : m < 10
  ·rw [Lib.nDigits_small hm]; exact h1 hm
  rw [Lib.nDigits_big hm]; exact h2 hm
 refine step _ _ (fun _ => by omega) fun _ => Nat.succ_le_of_lt (Nat.lt_of_le_of_lt (step _ 5 (fun _ => by omega) fun _ => Nat.succ_le_of_lt (Nat.lt_of_le_of_lt (step _ 4 (fun _ => by omega) fun _ => Nat.succ_le_of_lt (Nat.lt_of_le_of_lt (step _ 3 (fun _ => by omega) fun _ => Nat.succ_le_of_lt (Nat.lt_of_le_of_lt (step _ 2 (fun _ => by omega) fun _ => Nat.succ_le_of_lt (Nat.lt_of_le_of_lt (step _ 1 (fun _ => by omega) fun _ => ?_) (by omega))) (by omega))) (by omega))) (by omega))) (by omega))
 omega

def numOf (l : List UInt8) : Option Nat :=
 match Lib.decFrom 0 l with
 | some n => if n ≤ 999999 ∧ Lib.decDigits n = l then some n else none
 | none => none
theorem numOf_some {l : List UInt8} {n : Nat} (h : numOf l = some n) : n ≤ 999999 ∧ Lib.decDigits n = l := by
 unfold numOf at h
 cases hd : Lib.decFrom 0 l with
 | none => rw [hd] at h; cases h
 | some m =>
  rw [hd] at h
  by_cases hc : m ≤ 999999 ∧ Lib.decDigits m = l
  ·simp only [if_pos hc, Option.some.injEq] at h; subst h; exact hc
  simp only [if_neg hc] at h; cases h
theorem numOf_of {n : Nat} (h : n ≤ 999999) : numOf (Lib.decDigits n) = some n := by
 unfold numOf; rw [decFrom_digits]; simp [h]
theorem numOf_len {l : List UInt8} {n : Nat} (h : numOf l = some n) : 1 ≤ l.length ∧ l.length ≤ 6 := by
 obtain ⟨h1, rfl⟩:=numOf_some h
 rw [Lib.decDigits_length]
 exact ⟨Lib.nDigits_pos n, nDigits_six n h1⟩
theorem numOf_none_len {l : List UInt8} (h : l.length < 1 ∨ 6 < l.length) : numOf l = none := by
 cases hn : numOf l with
 | none => rfl
 | some n => have := numOf_len hn; omega
theorem numOf_none_dec {l : List UInt8} (h : Lib.decFrom 0 l = none) : numOf l = none := by unfold numOf; rw [h]
theorem numOf_none_byte {l : List UInt8} {k : Nat} {b : UInt8} (hk : l[k]? = some b) (hb : b.toNat < 48 ∨ 57 < b.toNat) : numOf l = none := by
 refine numOf_none_dec ?_
 cases hd : Lib.decFrom 0 l with
 | none => rfl
 | some n =>
  obtain ⟨d, h⟩:=Lib.digit_of_decFrom l 0 n hd k b hk
  have:=Lib.digitVal_eq h
  omega
theorem numOf_yes {l : List UInt8} {n : Nat} (hd : Lib.decFrom 0 l = some n) (hn : n ≤ 999999) (h : Lib.decDigits n = l) : numOf l = some n := by unfold numOf; rw [hd]; simp [hn, h]
theorem numOf_no {l : List UInt8} {n : Nat} (hd : Lib.decFrom 0 l = some n) (h : Lib.decDigits n ≠ l) : numOf l = none := by unfold numOf; rw [hd]; simp [h]
theorem itoa_nat (n : Nat) : Lib.itoa (n : Int) = Lib.decDigits n := by rw [Lib.itoa, if_neg (by omega), Int.toNat_natCast]
def nans (r : Option Nat) : Int := match r with | some n => (n : Int) | none => 0
end
end Go.Proofs.YtjdchloechcclaaGreatDoor
