/- Texts that belong together: EqByte, Mark, ToByte, Plain, Put, Text, Draw, DrawNum. -/
import Derived.Test.YtbigcmcliamenaaGreatDoorNAAA
import Derived.WalkKit
import Derived.Lib.AppendStr
import Derived.Laws.IdiomStrings
import Derived.Laws.Bits128
namespace Go.Proofs.YtbigcmcliamenaaGreatDoor
open Go.RowKit

set_option maxHeartbeats 800000 in
set_option maxRecDepth 100000 in
theorem eq_yes (va vb : Value) (xs : List Int) (w : World) (ha : RB w va xs) (hb : RB w vb xs) :
 Calls Tryz.prog 35 #[va, vb] w fun e w' => e = .returned (.bool true) ∧ ∃ n, w' = w.drewN n := by
 obtain ⟨hl, ao, ca, rfl, _, ha⟩ := ha
 obtain ⟨_, bo, cb, rfl, _, hb⟩ := hb
 generalize hn : xs.length = n at *
 have Hn : Hid (xs.length = n) := hn
 clear hn
 go_enter Tryz.func35, Tryz.ntmps35
 go_wp2
 go_loopw [5] (fun i wr => ∃ k : Nat, k ≤ n ∧ i = .int .i64 k ∧ ∃ m, wr = w.drewN m) (fun i _ => n - (intOf i).toNat)
 case atStart => exact ⟨0, Nat.zero_le _, rfl, 0, rfl⟩
 case round =>
  obtain ⟨k, hk, rfl, m, rfl⟩ := hrel
  by_cases hlt : k < n
  ·rcases ha with ha | ⟨b, off, rfl, ha⟩
   ·subst ha; have := Hn.out; simp at this; omega
   rcases hb with hb | ⟨b', off', rfl, hb⟩
   ·subst hb; have := Hn.out; simp at this; omega
   have ha' := ha k hlt
   have hb' := hb k hlt
   clear ha hb
   go_wp2_with fail
   go_quiet (fail)
   go_wp2
   go_roundw
   case rel => exact ⟨k + 1, by omega, by go_num, _, rfl⟩
   case measure => simp [intOf]; omega
  ·clear ha hb
   go_wp2
   go_ret
   exact ⟨rfl, _, rfl⟩

def marks (k0 n : Nat) : List Int := (List.range n).map fun (i : Nat) => ((k0 : Int) + (i : Int)) % 256
theorem marks_len (k0 n : Nat) : (marks k0 n).length = n := by simp [marks]
theorem marks_get (k0 n i : Nat) (h : i < n) : (marks k0 n).getD i 0 = ((k0 : Int) + (i : Int)) % 256 := by simp [marks, h]
theorem marks_succ (k0 n : Nat) : marks k0 (n + 1) = marks k0 n ++ [((k0 : Int) + (n : Int)) % 256] := by simp [marks, List.range_succ]

def mixed (k0 k : Nat) (vs : List Value) : List Value := (marks k0 k).map (Value.int .u8) ++ vs.drop k
theorem mixed_zero (k0 : Nat) (vs : List Value) : mixed k0 0 vs = vs := by simp [mixed, marks]
theorem mixed_all (k0 : Nat) (vs : List Value) : mixed k0 vs.length vs = (marks k0 vs.length).map (Value.int .u8) := by simp [mixed]
theorem mixed_get (k0 k : Nat) (vs : List Value) (h : k < vs.length) : (mixed k0 k vs)[k]? = some (vs[k]) := by
 simp [mixed, List.getElem?_append, marks_len, h]
theorem mixed_set (k0 k : Nat) (vs : List Value) (h : k < vs.length) : (mixed k0 k vs).set k (.int .u8 (((k0 : Int) + (k : Int)) % 256)) = mixed k0 (k + 1) vs := by
 unfold mixed
 rw [marks_succ, List.set_append_right _ _ (by simp [marks_len]), List.length_map, marks_len, Nat.sub_self, List.drop_eq_getElem_cons h, List.set_cons_zero]
 simp

set_option maxHeartbeats 800000 in
set_option maxRecDepth 100000 in
theorem mark_row (base g n cap k0 : Nat) (vs : List Value) (w : World) (hn : n ≤ 140737488355328) (hk0 : k0 ≤ 1000000) (h : w.ownsRow base 5 1 (.slice (some ⟨g, 0, none⟩) n cap) n vs) :
 Calls Tryz.prog 38 #[.slice (some ⟨g, 0, none⟩) n cap, .int .i64 k0] w fun e w' => e = .returned (.int .i64 (k0 + n)) ∧
  w'.ownsRow base 5 1 (.slice (some ⟨g, 0, none⟩) n cap) n ((marks k0 n).map (Value.int .u8)) ∧ w.grownBy w' (some g) := by
 have hv0 : vs.length = n := by simpa using h.1
 have Hv : Hid (vs.length = n) := hv0
 clear hv0
 go_enter Tryz.func38, Tryz.ntmps38
 go_wp2
 go_loopw [1, 5] (fun c i wr => ∃ k : Nat, k ≤ n ∧ i = .int .i64 k ∧ c = .int .i64 (k0 + k) ∧ wr.ownsRow base 5 1 (.slice (some ⟨g, 0, none⟩) n cap) n (mixed k0 k vs) ∧ w.grownBy wr (some g)) (fun _ i _ => n - (intOf i).toNat)
 case atStart => exact ⟨0, Nat.zero_le _, rfl, by go_num, by rw [mixed_zero]; exact h, grown_refl _ _⟩
 case round =>
  obtain ⟨k, hk, rfl, rfl, ho, hg⟩ := hrel
  by_cases hlt : k < n
  ·have hkv : k < vs.length := by rw [Hv.out]; exact hlt
   obtain ⟨u, hu⟩ : ∃ u, wr.cell? ⟨g, k, none⟩ = some u := ⟨_, (ho.cellAt k (by omega)).trans (mixed_get k0 k vs hkv)⟩
   have hfr := ho.frozenAt k
   have hs := ho.stored k (.int .u8 (((k0 : Int) + (k : Int)) % 256))
   have HS : Hid ((wr.setCell ⟨g, k, none⟩ (.int .u8 (((k0 : Int) + (k : Int)) % 256))).ownsRow base 5 1 (.slice (some ⟨g, 0, none⟩) n cap) n (mixed k0 (k + 1) vs)) := by
    rw [← mixed_set k0 k vs hkv]; exact hs.1
   have HG : Hid (w.grownBy (wr.setCell ⟨g, k, none⟩ (.int .u8 (((k0 : Int) + (k : Int)) % 256))) (some g)) := grown_trans hg hs.2
   clear hs ho hg
   go_wp2
   go_roundw
   case rel => exact ⟨k + 1, by omega, by go_num, by go_num, HS.out, HG.out⟩
   case measure => simp [intOf]; omega
  ·have hkn : k = n := by omega
   have HO : Hid (wr.ownsRow base 5 1 (.slice (some ⟨g, 0, none⟩) n cap) n ((marks k0 n).map (Value.int .u8))) := by
    have := mixed_all k0 vs; rw [Hv.out] at this; rw [← this, ← hkn]; rw [← hkn] at ho; exact ho
   clear ho
   subst hkn
   go_wp2
   go_ret
   exact ⟨rfl, HO.out, hg⟩

set_option maxHeartbeats 800000 in
set_option maxRecDepth 100000 in
theorem held_row (v : Value) (n k0 : Nat) (w : World) (hk0 : k0 ≤ 1000000) (h : RB w v (marks k0 n)) :
 Calls Tryz.prog 39 #[v, .int .i64 k0] w fun e w' => e = .returned (.int .i64 (k0 + n)) ∧ w' = w := by
 obtain ⟨hl, ao, ca, rfl, _, ha⟩ := h
 rw [marks_len] at hl ha ⊢
 go_enter Tryz.func39, Tryz.ntmps39
 go_wp2
 go_loop [1, 5] (fun c i => ∃ k : Nat, k ≤ n ∧ i = .int .i64 k ∧ c = .int .i64 (k0 + k)) (fun _ i => n - (intOf i).toNat)
 case atStart => exact ⟨0, Nat.zero_le _, rfl, by go_num⟩
 case round =>
  obtain ⟨k, hk, rfl, rfl⟩ := hrel
  by_cases hlt : k < n
  ·rcases ha with ha | ⟨b, off, rfl, ha⟩
   ·have := congrArg List.length ha; rw [marks_len] at this; simp at this; omega
   have ha' := ha k hlt
   rw [marks_get k0 n k hlt] at ha'
   clear ha
   go_wp2
   go_round
   case rel => exact ⟨k + 1, by omega, by go_num, by go_num⟩
   case measure => simp [intOf]; omega
  ·have hkn : k = n := by omega
   subst hkn
   clear ha
   go_wp2
   go_ret
   exact ⟨rfl, rfl⟩

set_option maxHeartbeats 400000 in
set_option maxRecDepth 100000 in
theorem mark_none (w : World) (k0 : Nat) : Calls Tryz.prog 38 #[.slice none 0 0, .int .i64 k0] w fun e w' => e = .returned (.int .i64 k0) ∧ w' = w := by
 go_enter Tryz.func38, Tryz.ntmps38
 go_wp2
 refine wp_loop_rounds 1 ?_
 rw [rounds_succ]
 go_wp2
 go_ret
 exact ⟨rfl, rfl⟩

theorem mark_any (base k0 : Nat) (v : Value) (xs : List Int) (w : World) (hl : xs.length ≤ 140737488355328) (hk0 : k0 ≤ 1000000) (h : OB w base v xs) :
 Calls Tryz.prog 38 #[v, .int .i64 k0] w fun e w' => e = .returned (.int .i64 (k0 + xs.length)) ∧ OB w' base v (marks k0 xs.length) ∧ w.grownBy w' v.ownBlock := by
 have h' := h
 rcases h.2 with ⟨rfl, h0⟩ | ⟨g, cap, cur, rfl, _⟩
 ·refine (mark_none w k0).mono ?_
  rintro e w' ⟨rfl, rfl⟩
  have hx : xs = [] := List.length_eq_zero_iff.1 h0
  subst hx
  exact ⟨by simp, World.ownsRow_nil _ _ _ _, grown_refl _ _⟩
 ·refine (mark_row base g xs.length cap k0 _ w hl hk0 h').mono ?_
  rintro e w' ⟨rfl, ho, hg⟩
  refine ⟨rfl, ?_, hg⟩
  unfold OB
  rw [marks_len]
  exact ho

theorem mark1 (base : Nat) (v : Value) (xs : List Int) (w : World) (hl : xs.length ≤ 140737488355328) (h : OB w base v xs) :
 Calls Tryz.prog 38 #[v, .int .i64 1] w fun e w' => e = .returned (.int .i64 (1 + xs.length)) ∧ OB w' base v (marks 1 xs.length) ∧ w.grownBy w' v.ownBlock :=
 mark_any base 1 v xs w hl (by omega) h
theorem held1 (v : Value) (n : Nat) (w : World) (h : RB w v (marks 1 n)) :
 Calls Tryz.prog 39 #[v, .int .i64 1] w fun e w' => e = .returned (.int .i64 (1 + n)) ∧ w' = w :=
 held_row v n 1 w (by omega) h

def half (xs : List Int) (k : Nat) : List Value := ((xs.take k) ++ List.replicate (xs.length - k) 0).map (Value.int .u8)
theorem half_zero (xs : List Int) : half xs 0 = List.replicate xs.length (.int .u8 0) := by simp [half]
theorem half_all (xs : List Int) : half xs xs.length = xs.map (Value.int .u8) := by simp [half]
theorem half_len (xs : List Int) (k : Nat) (h : k ≤ xs.length) : (half xs k).length = xs.length := by simp [half]; omega
theorem half_set (xs : List Int) (k : Nat) (h : k < xs.length) : (half xs k).set k (.int .u8 (xs.getD k 0)) = half xs (k + 1) := by
 have e : xs.length - k = (xs.length - (k + 1)) + 1 := by omega
 have hk : (xs.take k).length = k := by simp; omega
 unfold half
 rw [List.take_succ_eq_append_getElem h, e, List.replicate_succ, List.map_append, List.map_append, List.map_append, List.set_append_right _ _ (by simp; omega), List.length_map, hk, Nat.sub_self]
 simp [List.getElem?_eq_getElem h]

set_option maxHeartbeats 1600000 in
set_option maxRecDepth 100000 in
theorem toByte_any (v : Value) (xs : List Int) (w : World) (h : RB w v xs) :
 Calls Tryz.prog 40 #[v] w fun e w' => ∃ u, e = .returned u ∧ OB w' w.heap.size u xs ∧ Below w.heap.size w w' := by
 obtain ⟨i0, hi, hz0, hz1, hz2⟩ := info_parts Tryz.info5
 obtain ⟨hl, ao, ca, rfl, _, ha⟩ := h
 obtain ⟨n, hn⟩ : ∃ n, xs.length = n := ⟨_, rfl⟩
 have Hn : Hid (xs.length = n) := hn
 rw [hn] at hl ⊢
 rw [hn] at ha
 clear hn
 go_enter Tryz.func40, Tryz.ntmps40
 go_wp2_with (first | (at_make; refine wpList_make_full _ rfl _ _ 22 rfl w.heap.size 5 i0 (.int .u8 0) 1 Tryz.underlying22 hi hz0 hz1 .i64 .i64 n n n rfl rfl rfl rfl (by rw [hz2]; omega) (by unfold maxLen; omega) (Nat.le_refl _) ?_; intro w0 ho0 hg0))
 have hstart : w0.ownsRow w.heap.size 5 1 (.slice (some ⟨w.heap.size, 0, none⟩) n n) n (half xs 0) := by
  have e : (madeCells (Value.int IntKind.u8 0).cells (n * 1)).toList = half xs 0 := by
   rw [half_zero, Hn.out, Nat.mul_one]; exact toList_madeCells_one _ _
  rw [← e]; exact ho0
 have HB : Hid (Below w.heap.size w w0) := (Below.refl _ _).grown hg0 (Nat.le_refl _) (by simp)
 clear ho0 hg0
 go_loopw [4] (fun i wr => ∃ k : Nat, k ≤ n ∧ i = .int .i64 k ∧ wr.ownsRow w.heap.size 5 1 (.slice (some ⟨w.heap.size, 0, none⟩) n n) n (half xs k) ∧ Below w.heap.size w wr) (fun i _ => n - (intOf i).toNat)
 case atStart => exact ⟨0, Nat.zero_le _, rfl, hstart, HB.out⟩
 case round =>
  clear hstart
  obtain ⟨k, hk, rfl, ho, hbel⟩ := hrel
  by_cases hlt : k < n
  ·rcases ha with ha | ⟨b, off, rfl, ha⟩
   ·subst ha; have := Hn.out; simp at this; omega
   have hkx : k < xs.length := by rw [Hn.out]; exact hlt
   have hc0 := ha k hlt
   have hc : wr.cell? ⟨b, off + k, none⟩ = some (.int .u8 (xs.getD k 0)) := (hbel.cell (cell_lt hc0)).trans hc0
   obtain ⟨u, hu⟩ : ∃ u, wr.cell? ⟨w.heap.size, k, none⟩ = some u := by
    have h1 := ho.cellAt k (by omega)
    have h2 : k < (half xs k).length := by rw [half_len xs k (by omega)]; exact hkx
    exact ⟨_, h1.trans (List.getElem?_eq_getElem h2)⟩
   have hfr := ho.frozenAt k
   have HS : Hid ((wr.setCell ⟨w.heap.size, k, none⟩ (.int .u8 (xs.getD k 0))).ownsRow w.heap.size 5 1 (.slice (some ⟨w.heap.size, 0, none⟩) n n) n (half xs (k + 1))) := by
    rw [← half_set xs k hkx]; exact (ho.stored k _).1
   have HG : Hid (Below w.heap.size w (wr.setCell ⟨w.heap.size, k, none⟩ (.int .u8 (xs.getD k 0)))) := hbel.setCell (Nat.le_refl _) _
   clear ha ho hbel hc0
   generalize xs.getD k 0 = d at *
   go_wp2
   go_roundw
   case rel => exact ⟨k + 1, by omega, by go_num, HS.out, HG.out⟩
   case measure => simp [intOf]; omega
  ·have hkn : k = n := by omega
   have HO : Hid (OB wr w.heap.size (.slice (some ⟨w.heap.size, 0, none⟩) n n) xs) := by
    have h1 := half_all xs
    rw [Hn.out] at h1
    unfold OB Hid
    rw [Hn.out, ← h1, ← hkn]; rw [← hkn] at ho; exact ho
   clear ha ho
   go_wp2
   go_ret
   exact ⟨_, rfl, HO.out, hbel⟩
end Go.Proofs.YtbigcmcliamenaaGreatDoor
namespace Go.Proofs.YtbigcmcliamenaaGreatDoor

def put : Nat → Nat → List Int
 | 0, n => [(n : Int)]
 | f + 1, n => if n ≤ 127 then [(n : Int)] else ((n : Int) % 128 + 128) :: put f (n / 128)
theorem put_small (f n : Nat) (h : n ≤ 127) : put f n = [(n : Int)] := by cases f <;> simp [put, h]
theorem put_great (f n : Nat) (h : 127 < n) : put (f + 1) n = ((n : Int) % 128 + 128) :: put f (n / 128) := by simp [put]; omega
theorem put_len (f n : Nat) : (put f n).length ≤ f + 1 ∧ 0 < (put f n).length := by
 induction f generalizing n with
 | zero => simp [put]
 | succ f ih => by_cases h : n ≤ 127
                ·simp [put, h]
                ·simp [put, h]; have := (ih (n / 128)).1; omega

def putAns (n : Int) : List Int := if 0 ≤ n ∧ n ≤ 2147483647 then put 4 n.toNat else []
theorem putAns_yes (n : Nat) (h : n ≤ 2147483647) : putAns n = put 4 n := by unfold putAns; rw [if_pos (by omega), Int.toNat_natCast]
theorem putAns_no (n : Int) (h : n < 0 ∨ 2147483647 < n) : putAns n = [] := by unfold putAns; rw [if_neg (by omega)]
theorem putAns_len (n : Int) : (putAns n).length ≤ 5 := by
 unfold putAns; split
 ·exact (put_len 4 _).1
 ·simp

def At (n : Nat) (f m : Nat) (done : List Int) : Prop := done ++ put f m = put 4 n ∧ m < 128 ^ (f + 1) ∧ done.length + f = 4
theorem at_start (n : Nat) (h : n ≤ 2147483647) : At n 4 n [] := ⟨by simp, by omega, rfl⟩
theorem at_step {n f m : Nat} {done : List Int} (h : At n f m done) (hm : 127 < m) : ∃ f', f = f' + 1 ∧ At n f' (m / 128) (done ++ [(m : Int) % 128 + 128]) := by
 obtain ⟨h1, h2, h3⟩ := h
 cases f with
 | zero => simp at h2; omega
 | succ f =>
  refine ⟨f, rfl, ?_, ?_, ?_⟩
  ·rw [put_great f m hm] at h1; simpa using h1
  ·rw [Nat.pow_succ] at h2; exact Nat.div_lt_of_lt_mul (by rw [Nat.mul_comm]; exact h2)
  ·simp; omega
theorem at_end {n f m : Nat} {done : List Int} (h : At n f m done) (hm : m ≤ 127) : done ++ [(m : Int)] = put 4 n := by
 have := h.1; rwa [put_small f m hm] at this
end Go.Proofs.YtbigcmcliamenaaGreatDoor
namespace Go.Proofs.YtbigcmcliamenaaGreatDoor
open Go.RowKit

theorem own_more {B : Nat} {w wr w1 : World} {v v' : Value} {o : Obj} {xs : List Int} {c : Int} (hB : B ≤ wr.heap.size) (ho : wr.ownsRow B 5 1 v xs.length (xs.map (Value.int .u8))) (hb : Below B w wr)
 (ho' : w1.ownsRow B 5 1 v' (xs.length + 1) (xs.map (Value.int .u8) ++ [.int .u8 c])) (hg : (wr.alloc o).grownBy w1 v.ownBlock) :
 w1.ownsRow B 5 1 v' (xs ++ [c]).length ((xs ++ [c]).map (Value.int .u8)) ∧ Below B w w1 :=
 ⟨by simpa using ho', (hb.alloc hB o).grown hg (by simp; omega) (fun j hj => (ho.lt j hj).1)⟩

set_option maxHeartbeats 1600000 in
set_option maxRecDepth 100000 in
theorem specPut_yes (n : Nat) (w : World) (hn : n ≤ 2147483647) :
 Calls Tryz.prog 73 #[.int .i64 n] w fun e w' => ∃ v, e = .returned v ∧ w'.ownsRow w.heap.size 5 1 v (put 4 n).length ((put 4 n).map (Value.int .u8)) ∧ Below w.heap.size w w' := by
 obtain ⟨i0, hi, hz0, hz1, hz2⟩ := info_parts Tryz.info5
 go_enter Tryz.func73, Tryz.ntmps73
 go_wp2_with (first | (go_at_call 99; refine (in_yes _ _ _ _ (by omega) (by omega)).mono ?_; rintro e w' ⟨rfl, rfl⟩))
 go_loopw [0, 3] (fun x v wr => ∃ (f m : Nat) (done : List Int), m ≤ 2147483647 ∧ x = .int .i64 m ∧ At n f m done ∧ wr.ownsRow w.heap.size 5 1 v done.length (done.map (Value.int .u8)) ∧ Below w.heap.size w wr) (fun x _ _ => (intOf x).toNat)
 case atStart => exact ⟨4, n, [], hn, rfl, at_start n hn, World.ownsRow_lit w #[] 0 (Nat.le_refl _) (by unfold maxLen; omega) rfl, (Below.refl _ _).alloc (Nat.le_refl _) _⟩
 case round =>
  obtain ⟨f, m, done, hm, rfl, hat, ho, hb⟩ := hrel
  have hsz := hb.size
  have hdl : done.length ≤ 4 := by have := hat.2.2; omega
  by_cases hlt : 127 < m
  ·obtain ⟨f', rfl, hat'⟩ := at_step hat hlt
   have HA : Hid (At n f' (m / 128) (done ++ [(m : Int) % 128 + 128])) := hat'
   clear hat hat'
   go_wp2_with (first
    | (at_builtin; refine wpList_append_own _ rfl _ _ 22 rfl w.heap.size 5 i0 (.int .u8 0) 1 1 Tryz.underlying22 hi hz0 hz1 hz2 rfl (by decide) _ _ _ rfl (ho.alloc _) ⟨wr.heap.size, 0, none⟩ 1 1 [.int .u8 ((m : Int) % 128 + 128)] rfl rfl (one_cell _ _ _) (one_plain _ _) (by unfold maxLen; omega) (by omega) (by simp; omega) ?_; intro v' w1 ho' hg' _; have R := own_more hsz ho hb ho' hg'; clear ho ho' hg' hb))
   go_roundw
   case rel => exact ⟨f', m / 128, _, by omega, by go_num, HA.out, R.1, R.2⟩
   case measure => simp [intOf]; omega
  ·have HE : Hid (done ++ [(m : Int)] = put 4 n) := at_end hat (by omega)
   clear hat
   go_wp2_with (first
    | (at_builtin; refine wpList_append_own _ rfl _ _ 22 rfl w.heap.size 5 i0 (.int .u8 0) 1 1 Tryz.underlying22 hi hz0 hz1 hz2 rfl (by decide) _ _ _ rfl (ho.alloc _) ⟨wr.heap.size, 0, none⟩ 1 1 [.int .u8 (m : Int)] rfl rfl (one_cell _ _ _) (one_plain _ _) (by unfold maxLen; omega) (by omega) (by simp; omega) ?_; intro v' w1 ho' hg' _; have R := own_more hsz ho hb ho' hg'; clear ho ho' hg' hb))
   go_ret
   rw [HE.out] at R
   exact ⟨_, rfl, R.1, R.2⟩

set_option maxHeartbeats 800000 in
set_option maxRecDepth 100000 in
theorem specPut_no (n : Int) (w : World) (hn : n < 0 ∨ 2147483647 < n) :
 Calls Tryz.prog 73 #[.int .i64 n] w fun e w' => ∃ v, e = .returned v ∧ w'.ownsRow w.heap.size 5 1 v 0 [] ∧ Below w.heap.size w w' := by
 go_enter Tryz.func73, Tryz.ntmps73
 go_wp2_with (first | (go_at_call 99; refine (in_no _ _ _ _ (by omega)).mono ?_; rintro e w' ⟨rfl, rfl⟩))
 go_ret
 exact ⟨_, rfl, World.ownsRow_lit w #[] 0 (Nat.le_refl _) (by unfold maxLen; omega) rfl, (Below.refl _ _).alloc (Nat.le_refl _) _⟩

set_option maxHeartbeats 800000 in
set_option maxRecDepth 100000 in
theorem implPut_no (n : Int) (w : World) (hn : n < 0 ∨ 2147483647 < n) :
 Calls Tryz.prog 49 #[.int .i64 n] w fun e w' => ∃ v, e = .returned v ∧ w'.ownsRow w.heap.size 5 1 v 0 [] ∧ Below w.heap.size w w' := by
 rcases hn with hn | hn
 ·go_enter Tryz.func49, Tryz.ntmps49
  go_wp2
  go_ret
  exact ⟨_, rfl, World.ownsRow_nil _ _ _ _, Below.refl _ _⟩
 ·have hd : decide (n < 0) = false := by simp; omega
  go_enter Tryz.func49, Tryz.ntmps49
  go_wp2
  go_ret
  exact ⟨_, rfl, World.ownsRow_nil _ _ _ _, Below.refl _ _⟩

set_option maxHeartbeats 1600000 in
set_option maxRecDepth 100000 in
theorem implPut_yes (n : Nat) (w : World) (hn : n ≤ 2147483647) :
 Calls Tryz.prog 49 #[.int .i64 n] w fun e w' => ∃ v, e = .returned v ∧ w'.ownsRow w.heap.size 5 1 v (put 4 n).length ((put 4 n).map (Value.int .u8)) ∧ Below w.heap.size w w' := by
 obtain ⟨i0, hi, hz0, hz1, hz2⟩ := info_parts Tryz.info5
 have hd : decide ((n : Int) < 0) = false := by simp
 go_enter Tryz.func49, Tryz.ntmps49
 go_wp2_with (first | (at_make; refine wpList_make_own _ rfl _ _ 22 rfl w.heap.size 5 i0 (.int .u8 0) 1 Tryz.underlying22 hi hz0 hz1 .i64 .i64 5 5 rfl rfl rfl (by omega) (by unfold maxLen; omega) (Nat.le_refl _) ?_; intro w0 ho0 hg0))
 go_loopw [0, 3] (fun x v wr => ∃ (f m : Nat) (done : List Int), m ≤ 2147483647 ∧ x = .int .i64 m ∧ At n f m done ∧ wr.ownsRow w.heap.size 5 1 v done.length (done.map (Value.int .u8)) ∧ Below w.heap.size w wr) (fun x _ _ => (intOf x).toNat)
 case atStart => exact ⟨4, n, [], hn, rfl, at_start n hn, ho0, (Below.refl _ _).grown hg0 (Nat.le_refl _) (by simp)⟩
 case round =>
  obtain ⟨f, m, done, hm, rfl, hat, ho, hb⟩ := hrel
  clear ho0 hg0 hd
  have hsz := hb.size
  have hdl : done.length ≤ 4 := by have := hat.2.2; omega
  by_cases hlt : 127 < m
  ·obtain ⟨f', rfl, hat'⟩ := at_step hat hlt
   have HA : Hid (At n f' (m / 128) (done ++ [(m : Int) % 128 + 128])) := hat'
   clear hat hat'
   go_wp2_with (first
    | (at_builtin; refine wpList_append_own _ rfl _ _ 22 rfl w.heap.size 5 i0 (.int .u8 0) 1 1 Tryz.underlying22 hi hz0 hz1 hz2 rfl (by decide) _ _ _ rfl (ho.alloc _) ⟨wr.heap.size, 0, none⟩ 1 1 [.int .u8 ((m : Int) % 128 + 128)] rfl rfl (one_cell _ _ _) (one_plain _ _) (by unfold maxLen; omega) (by omega) (by simp; omega) ?_; intro v' w1 ho' hg' _; have R := own_more hsz ho hb ho' hg'; clear ho ho' hg' hb))
   go_roundw
   case rel => exact ⟨f', m / 128, _, by omega, by go_num, HA.out, R.1, R.2⟩
   case measure => simp [intOf]; omega
  ·have HE : Hid (done ++ [(m : Int)] = put 4 n) := at_end hat (by omega)
   clear hat
   go_wp2_with (first
    | (at_builtin; refine wpList_append_own _ rfl _ _ 22 rfl w.heap.size 5 i0 (.int .u8 0) 1 1 Tryz.underlying22 hi hz0 hz1 hz2 rfl (by decide) _ _ _ rfl (ho.alloc _) ⟨wr.heap.size, 0, none⟩ 1 1 [.int .u8 (m : Int)] rfl rfl (one_cell _ _ _) (one_plain _ _) (by unfold maxLen; omega) (by omega) (by simp; omega) ?_; intro v' w1 ho' hg' _; have R := own_more hsz ho hb ho' hg'; clear ho ho' hg' hb))
   go_ret
   rw [HE.out] at R
   exact ⟨_, rfl, R.1, R.2⟩

theorem specPut (n : Int) (w : World) :
 Calls Tryz.prog 73 #[.int .i64 n] w fun e w' => ∃ v, e = .returned v ∧ w'.ownsRow w.heap.size 5 1 v (putAns n).length ((putAns n).map (Value.int .u8)) ∧ Below w.heap.size w w' := by
 by_cases h : 0 ≤ n ∧ n ≤ 2147483647
 ·obtain ⟨m, rfl⟩ := Int.eq_ofNat_of_zero_le h.1
  rw [putAns_yes m (by omega)]; exact specPut_yes m w (by omega)
 ·rw [putAns_no n (by omega)]; exact specPut_no n w (by omega)
theorem implPut (n : Int) (w : World) :
 Calls Tryz.prog 49 #[.int .i64 n] w fun e w' => ∃ v, e = .returned v ∧ w'.ownsRow w.heap.size 5 1 v (putAns n).length ((putAns n).map (Value.int .u8)) ∧ Below w.heap.size w w' := by
 by_cases h : 0 ≤ n ∧ n ≤ 2147483647
 ·obtain ⟨m, rfl⟩ := Int.eq_ofNat_of_zero_le h.1
  rw [putAns_yes m (by omega)]; exact implPut_yes m w (by omega)
 ·rw [putAns_no n (by omega)]; exact implPut_no n w (by omega)

def bs (s : ByteArray) : List Int := s.data.toList.map fun b => (b.toNat : Int)
theorem bs_len (s : ByteArray) : (bs s).length = s.size := by rw [bs, List.length_map, Array.length_toList]; rfl
theorem bs_cells (s : ByteArray) : (bs s).map (Value.int .u8) = Lib.strCells s := by simp [bs, Lib.strCells]
def textAns (s : ByteArray) : List Int := put 4 s.size ++ bs s
theorem textAns_len (s : ByteArray) : (textAns s).length = (put 4 s.size).length + s.size := by rw [textAns, List.length_append, bs_len]

theorem news_cells (w : World) (s : ByteArray) (cap : Nat) (e : TypeId) (fr : Nat × Nat) (j : Nat) (u : Value) (h : (Lib.strCells s)[j]? = some u) :
 (w.alloc (.cells (bytesRow s cap) e fr)).cell? ((⟨w.heap.size, 0, none⟩ : Addr).add j) = some u := by
 have hj : j < s.data.size := by
  have := (List.getElem?_eq_some_iff.1 h).1; simpa [Lib.strCells] using this
 have h1 := bytesRow_at s cap j hj
 have h2 : u = .int .u8 (s.data[j].toNat : Int) := by
  rw [Lib.strCells, List.getElem?_map, Array.getElem?_toList, Array.getElem?_eq_getElem hj] at h
  simpa using h.symm
 subst h2
 rw [show ((⟨w.heap.size, 0, none⟩ : Addr).add j) = ⟨w.heap.size, j, none⟩ from by unfold Addr.add; split <;> simp_all]
 rw [cell_of_row _ w.heap.size j _ e fr (heap_alloc_new w _)]
 exact h1
theorem news_plain (s : ByteArray) (u : Value) (h : u ∈ Lib.strCells s) : u.oneCell' = true := by
 simp [Lib.strCells] at h; obtain ⟨a, _, rfl⟩ := h; rfl

theorem own_text {B : Nat} {w wr w1 : World} {v v' : Value} {xs : List Int} {s : ByteArray} (hB : B ≤ wr.heap.size) (ho : wr.ownsRow B 5 1 v xs.length (xs.map (Value.int .u8))) (hb : Below B w wr)
 (ho' : w1.ownsRow B 5 1 v' (xs.length + s.size) (xs.map (Value.int .u8) ++ Lib.strCells s)) (hg : wr.grownBy w1 v.ownBlock) :
 OB w1 B v' (xs ++ bs s) ∧ Below B w w1 := by
 refine ⟨?_, hb.grown hg hB (fun j hj => (ho.lt j hj).1)⟩
 unfold OB
 rw [List.length_append, bs_len, List.map_append, bs_cells]
 exact ho'

set_option maxHeartbeats 800000 in
set_option maxRecDepth 100000 in
theorem specText (s : ByteArray) (w : World) (hs : s.size ≤ 1048576) :
 Calls Tryz.prog 74 #[.string s] w fun e w' => ∃ v, e = .returned v ∧ OB w' w.heap.size v (textAns s) ∧ Below w.heap.size w w' := by
 obtain ⟨i0, hi, hz0, hz1, hz2⟩ := info_parts Tryz.info5
 have hcv := fun w => run_bytes_of_string (P := Tryz.prog) w 9 22 5 s Tryz.underlying9 Tryz.underlying22 Tryz.underlying5
 have hpl := put_len 4 s.size
 go_enter Tryz.func74, Tryz.ntmps74
 go_wp2_with fail
 refine (specPut_yes s.size _ (by omega)).mono ?_
 rintro e w1 ⟨v0, rfl, o0, b0⟩
 have s0 := b0.size
 go_wp2_with (first
       | (at_builtin; refine wpList_append_own _ rfl (.tmp 5) (.tmp 7) 22 rfl w.heap.size 5 i0 (.int .u8 0) 1 1 Tryz.underlying22 hi hz0 hz1 hz2 rfl (by decide) _ _ _ rfl ((o0.alloc _).drew) ⟨w1.heap.size, 0, none⟩ s.size _ (Lib.strCells s) rfl (by rw [Lib.strCells_length]; omega) (news_cells _ _ _ _ _) (news_plain s) (by unfold maxLen; omega) (by omega) (by simp; omega) ?_; intro v' w2 ho' hg' _; have R := own_text (by simp; omega) ((o0.alloc _).drew) ((b0.alloc s0 _).drew) ho' hg'; clear ho' hg' hcv o0))
 go_ret
 exact ⟨_, rfl, R.1, R.2⟩

set_option maxHeartbeats 800000 in
set_option maxRecDepth 100000 in
theorem implText (s : ByteArray) (w : World) (hs : s.size ≤ 1048576) :
 Calls Tryz.prog 50 #[.string s] w fun e w' => ∃ v, e = .returned v ∧ OB w' w.heap.size v (textAns s) ∧ Below w.heap.size w w' := by
 obtain ⟨i0, hi, hz0, hz1, hz2⟩ := info_parts Tryz.info5
 have hpl := put_len 4 s.size
 go_enter Tryz.func50, Tryz.ntmps50
 go_wp2_with fail
 refine (implPut_yes s.size _ (by omega)).mono ?_
 rintro e w1 ⟨v0, rfl, o0, b0⟩
 have s0 := b0.size
 go_wp2_with (first
       | (at_builtin; refine Lib.wpList_append_own_string _ rfl _ _ 22 9 rfl w.heap.size 5 i0 Tryz.underlying22 Tryz.underlying9 hi hz0 hz1 hz2 _ _ _ rfl o0 s rfl (by unfold maxLen; omega) (by omega) s0 ?_; intro v' w2 ho' hg' _; have R := own_text s0 o0 b0 ho' hg'; clear ho' hg' o0))
 go_ret
 exact ⟨_, rfl, R.1, R.2⟩

structure Cur (w : World) (base g : Nat) (ao : Option Addr) (ca : Nat) (xs : List Int) : Prop where
 low : base ≤ g
 len : xs.length ≤ 140737488355328
 cells : ∃ i h : Int, w.heap[g]? = some (.cells #[.slice ao xs.length ca, .int .i64 i, .int .i64 h] 112 (0, 0)) ∧ 0 ≤ i ∧ i ≤ xs.length
 code : xs = [] ∨ ∃ b off, b < base ∧ ao = some ⟨b, off, none⟩ ∧ ∀ k, k < xs.length → w.cell? ⟨b, off + k, none⟩ = some (.int .u8 (xs.getD k 0)) ∧ 0 ≤ xs.getD k 0 ∧ xs.getD k 0 ≤ 255

theorem set_grown (w : World) (g j : Nat) (u : Value) : w.grownBy (w.setCell ⟨g, j, none⟩ u) (some g) :=
 ⟨rfl, rfl, rfl, by simp, fun k _ hk => heap_setCell_other w ⟨g, j, none⟩ k u (fun e => hk (by simp [e]))⟩

theorem Cur.grown {w w' : World} {base g ca : Nat} {ao : Option Addr} {xs : List Int} (h : Cur w base g ao ca xs) (hg : w.grownBy w' (some g)) (hB : base ≤ w.heap.size)
 (hc : ∃ i h : Int, w'.heap[g]? = some (.cells #[.slice ao xs.length ca, .int .i64 i, .int .i64 h] 112 (0, 0)) ∧ 0 ≤ i ∧ i ≤ xs.length) : Cur w' base g ao ca xs := by
 refine ⟨h.low, h.len, hc, ?_⟩
 rcases h.code with h' | ⟨b, off, hb, ha, hx⟩
 ·exact .inl h'
 ·refine .inr ⟨b, off, hb, ha, fun k hk => ⟨?_, (hx k hk).2⟩⟩
  have hlow := h.low
  rw [World.cell?_of_block (w := w) (hg.block b (by omega) (by simp; omega))]
  exact (hx k hk).1

theorem Cur.alloc {w : World} {base g ca : Nat} {ao : Option Addr} {xs : List Int} (h : Cur w base g ao ca xs) (hB : base ≤ w.heap.size) (o : Obj) : Cur (w.alloc o) base g ao ca xs := by
 have hg : g < w.heap.size := by
  obtain ⟨i, hh, hc, _⟩ := h.cells
  exact (Array.getElem?_eq_some_iff.1 hc).1
 have hb : Below w.heap.size w (w.alloc o) := (Below.refl _ _).alloc (Nat.le_refl _) o
 refine ⟨h.low, h.len, ?_, ?_⟩
 ·obtain ⟨i, hh, hc, h0, h1⟩ := h.cells
  exact ⟨i, hh, (hb.block g hg).trans hc, h0, h1⟩
 ·rcases h.code with h' | ⟨b, off, hbb, ha, hx⟩
  ·exact .inl h'
  ·exact .inr ⟨b, off, hbb, ha, fun k hk => ⟨(hb.cell (p := ⟨b, off + k, none⟩) (by show b < _; omega)).trans (hx k hk).1, (hx k hk).2⟩⟩

structure DCode (w : World) (ao : Option Addr) (xs : List Int) : Prop where
 len : xs.length ≤ 1048576
 code : xs = [] ∨ ∃ b off, ao = some ⟨b, off, none⟩ ∧ ∀ k, k < xs.length → w.cell? ⟨b, off + k, none⟩ = some (.int .u8 (xs.getD k 0))
 fit : ∀ k, k < xs.length → 0 ≤ xs.getD k 0 ∧ xs.getD k 0 ≤ 255
theorem DCode.below {w w' : World} {B : Nat} {ao : Option Addr} {xs : List Int} (h : DCode w ao xs) (hb : Below B w w') (hB : w.heap.size ≤ B) : DCode w' ao xs := by
 refine ⟨h.len, ?_, h.fit⟩
 rcases h.code with h' | ⟨b, off, ha, hx⟩
 ·exact .inl h'
 ·exact .inr ⟨b, off, ha, fun k hk => (hb.cell (Nat.lt_of_lt_of_le (cell_lt (hx k hk)) hB)).trans (hx k hk)⟩
end Go.Proofs.YtbigcmcliamenaaGreatDoor
