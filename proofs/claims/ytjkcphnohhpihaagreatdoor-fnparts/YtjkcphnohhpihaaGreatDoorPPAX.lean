/- Lemmas; their conditions stand in each statement. -/
import Derived.Test.YtjkcphnohhpihaaGreatDoorPPAW
import Derived.Laws.AppendOwnNone
import Derived.Lib.LastIndexByte
set_option maxRecDepth 100000
set_option maxHeartbeats 8000000
set_option linter.unusedSectionVars false
namespace Go.Proofs.YtjkcphnohhpihaaGreatDoor
section
open Go.RowKit Go.Shelf
variable [∀ (a b c d : Int), Decidable (Ok4 a b c d)]
variable [∀ (a b c d : Nat), Decidable (okN a b c d)]
variable [∀ (last : Int) (s : St), Decidable (GoodSt last s)]
variable [∀ (x : T4), Decidable (OkT x)]
attribute [local go_sem] Oper.semAt_some

def Hands (s : ByteArray) (k : Nat) (vs : Array Value) (U V : World) : Prop := ∃ v, vs = #[stepV (stepP (pc (rsN s.data.toList k))) v,.bool (stepP (pc (rsN s.data.toList k))).isSome] ∧ OT V U.heap.size v (stepT (stepP (pc (rsN s.data.toList k))))

theorem iter_feeds (s : ByteArray) (hs : s.size ≤ 33554432) (m Bs n : Nat) (hm : rsN s.data.toList m = [] ∧ ∀ k, k < m → rsN s.data.toList k ≠ []) (wb w : World) (hE : Env wb) (hb : Below wb.heap.size wb w) (hc : w.cell? ⟨Bs, 0, none⟩ = some (.string s)) :
 Feeds Fence.wide n Tryz.prog 137 #[.pointer (some ⟨Bs, 0, none⟩)] wb.heap.size m (Hands s) w := fun l J X W hW hJ hX hY h0 => by
 have hcW : W.cell? ⟨Bs, 0, none⟩ = some (.string s):=(hW.cell (p:=⟨Bs, 0, none⟩) (cell_lt hc)).trans hc
 have HB:=hide (bu hb hW)
 have HE:=hide hE
 have HY:=hide hY
 have HJ:=hide hJ
 have HM:=hide hm
 clear hc hW hE hY hJ hX hb hm
 refine callsIn_of_wp Tryz.func137 rfl trivial ?_ rfl
 simp only [Tryz.ntmps137, List.size_toArray, List.length_cons, List.length_nil, Nat.reduceAdd, Nat.reduceSub, Array.replicate_succ, Array.replicate_zero, List.push_toArray, List.append_toArray, List.nil_append, List.cons_append]
 gi_wp2
 gi_loopw [3] (fun r wr => ∃ k : Nat, k ≤ m ∧ r = .string (toB (rsN s.data.toList k)) ∧ Hid (J k wr) ∧ Hid (Below wb.heap.size wb wr)) (fun r _ => match r with | .string x => x.size | _ => 0)
 case atStart => exact ⟨0, Nat.zero_le _, by show _ = Value.string (toB s.data.toList); rw [toB_self], h0, HB⟩
 case round =>
  obtain ⟨k, hk, rfl, HJk, HBk⟩:=hrel
  by_cases hz : rsN s.data.toList k = []
  ·have ez : toB (rsN s.data.toList k) = ⟨#[]⟩:=by rw [hz]; rfl
   rw [ez]
   have hkm : k = m:=by
    by_cases e : k < m
    ·exact absurd hz (HM.out.2 k e)
    omega
   subst hkm
   have HJk':=HJk.out
   gi_wp2
   go_end0
   exact ⟨⟨_, rfl⟩, .inl HJk'⟩
  have hkm : k < m:=by
   by_cases e : k = m
   ·subst e; exact absurd HM.out.1 hz
   omega
  have hsz : (toB (rsN s.data.toList k)).size ≤ 33554432:=by
   have:=rsN_le s.data.toList k
   have hl : s.data.toList.length = s.size:=by simp
   rw [toB_size]; omega
  have hsp : (toB (pc (rsN s.data.toList k))).size ≤ 33554432:=by
   have:=congrArg List.length (pc_rs (rsN s.data.toList k))
   rw [List.length_append] at this
   rw [toB_size] at hsz ⊢; omega
  have CS:=hide fun w => cutStep_any (toB (rsN s.data.toList k)) w hsz (by rw [toB_list]; exact hz)
  have SO:=hide fun w hE => stepOf_any (toB (pc (rsN s.data.toList k))) w hsp hE
  rw [toB_list] at CS SO
  have HZ : Hid ((toB (rs (rsN s.data.toList k))).size < (toB (rsN s.data.toList k)).size):=hide (by rw [toB_size, toB_size]; exact rs_lt hz)
  have hne2 : ((toB (rsN s.data.toList k)).toList == []) = false:=by
   rw [beq_eq_false_iff_ne, ByteArray.toList_eq, toB_list]; exact hz
  have hne:=str_ne (toB_ne hz)
  have YV:=hide fun V v h hv => HY.out k #[stepV (stepP (pc (rsN s.data.toList k))) v,.bool (stepP (pc (rsN s.data.toList k))).isSome] wr V HJk.out h hkm ⟨v, rfl, hv⟩
  have e2 : rs (rsN s.data.toList k) = rsN s.data.toList (k + 1):=rfl
  rw [e2] at HZ CS
  obtain ⟨x, hx⟩ : ∃ x, toB (rsN s.data.toList k) = x:=⟨_, rfl⟩
  obtain ⟨x', hx'⟩ : ∃ x, toB (rsN s.data.toList (k + 1)) = x:=⟨_, rfl⟩
  obtain ⟨p, hp⟩ : ∃ x, toB (pc (rsN s.data.toList k)) = x:=⟨_, rfl⟩
  obtain ⟨o, ho⟩ : ∃ x, stepP (pc (rsN s.data.toList k)) = x:=⟨_, rfl⟩
  rw [hx] at CS HZ hne hne2 ⊢
  rw [hx'] at CS HZ
  rw [hp] at CS SO
  rw [ho] at SO YV
  clear hx hp ho hsz hsp e2 hz
  gi_wp2_with fail
  refine ⟨trivial, fun h => (by cases h), (callsIn_wide.2 (CS.out _)).mono ?_⟩
  rintro _ w1 ⟨rfl, b1⟩
  gi_wp2_with fail
  refine ⟨trivial, fun h => (by cases h), (callsIn_wide.2 (SO.out _ (HE.out.below (HBk.out.trans (b1.mono HBk.out.size))))).mono ?_⟩
  rintro _ w2 ⟨v, rfl, ot, b2⟩
  have b12:=bu b1 b2
  obtain ⟨fn, tmps, assign, body, hy, hR⟩:=YV.out w2 v b12 (row_lower2 ot b1.size)
  clear CS SO YV
  gi_wp2
  refine ⟨fun h => (by cases h), hR.mono ?_⟩
  rintro e w3 (⟨rfl, hJ3, hk3⟩ | ⟨rfl, hX3⟩)
  ·have HB3:=hide ((HBk.out.trans (b12.mono HBk.out.size)).trans hk3)
   have HJ3:=hide hJ3
   clear hR hy hJ3 ot b1 b2 b12 hk3
   gi_wp2
   go_roundw
   case rel => exact ⟨k + 1, hkm, by rw [hx'], HJ3, HB3⟩
   case measure => exact HZ.out
  clear hR hy ot b1 b2 b12
  gi_wp2
  refine bodyPost_ret (results_none rfl _ _ _) rfl ?_
  exact ⟨⟨_, rfl⟩, .inr ⟨k, hkm, hX3⟩⟩
theorem stepsOf_any (s : ByteArray) (w : World) :
 Calls Tryz.prog 133 #[.string s] w fun e w' => e = .returned (.func (.func 137) #[] #[.pointer (some ⟨w.heap.size, 0, none⟩)]) ∧ w' = w.alloc (.cells #[.string s] 9) := by
 have hmf : ∀ (fn : Fn) (first cap : Array Value) (w : World), (Instr.makeFunc fn first cap).run Tryz.prog w = .ok (.func fn first cap) w:=fun _ _ _ _ => rfl
 go_enter Tryz.func133, Tryz.ntmps133
 go_wp2
 go_ret
 exact ⟨rfl, rfl⟩
end
section
open Go.RowKit
variable [∀ (a b c d : Int), Decidable (Ok4 a b c d)]
variable [∀ (a b c d : Nat), Decidable (okN a b c d)]
variable [∀ (last : Int) (s : St), Decidable (GoodSt last s)]
variable [∀ (x : T4), Decidable (OkT x)]
theorem OStV.kept {w w' : World} {B : Nat} {v : Value} {ss : List St} {vs : List Value} {row : Option Nat} (h : OStV w B v ss vs) (hg : w.grownBy w' row) (hv : v.ownBlock = none ∨ v.ownBlock ≠ row) (hs : ∀ k, k < ss.length → (vs.getD k (.slice none 0 0)).ownBlock = none ∨ (vs.getD k (.slice none 0 0)).ownBlock ≠ row) : OStV w' B v ss vs :=
 ⟨h.len, World.ownsRow.kept h.row hg hv, fun k hk => World.ownsRow.kept (h.each k hk) hg (hs k hk), h.apart⟩
end
section
open Go.RowKit Go.Shelf
variable [∀ (a b c d : Int), Decidable (Ok4 a b c d)]
variable [∀ (a b c d : Nat), Decidable (okN a b c d)]
variable [∀ (last : Int) (s : St), Decidable (GoodSt last s)]
variable [∀ (x : T4), Decidable (OkT x)]
attribute [local go_sem] Oper.semAt_some

section keeps
variable {W W' : World} {row : Option Nat} {B : Nat}
theorem row_keep {base e size n : Nat} {v : Value} {xs : List Value} (h : W.ownsRow base e size v n xs) (hg : W.grownBy W' row) (hr : ∀ r, row = some r → B ≤ r ∧ ∃ o : Obj, W.heap[r]? = some o ∧ o.isCells = false) : W'.ownsRow base e size v n xs := by
 refine h.kept hg ?_
 rcases h.2 with ⟨rfl, _⟩ | ⟨g, cap, cur, rfl, _, hgb, _⟩
 ·exact .inl rfl
 refine .inr fun e' => ?_
 obtain ⟨_, o, ho, hc⟩:=hr g (by simpa [Value.ownBlock] using e'.symm)
 rw [hgb] at ho; cases ho; cases hc
theorem box_keep {b : Nat} {t : TypeId} {v : Value} (h : Boxed W b t v) (hg : W.grownBy W' row) (hr : ∀ r, row = some r → B ≤ r ∧ ∃ o : Obj, W.heap[r]? = some o ∧ o.isCells = false) : Boxed W' b t v := by
 refine h.kept hg fun e => ?_
 obtain ⟨_, o, ho, hc⟩:=hr b e.symm
 rw [show W.heap[b]? = _ from h] at ho; cases ho; cases hc
theorem ost_keep {base : Nat} {v : Value} {ss : List St} {vs : List Value} (h : OStV W base v ss vs) (hg : W.grownBy W' row) (hr : ∀ r, row = some r → B ≤ r ∧ ∃ o : Obj, W.heap[r]? = some o ∧ o.isCells = false) : OStV W' base v ss vs :=
 ⟨h.len, row_keep h.row hg hr, fun k hk => row_keep (h.each k hk) hg hr, h.apart⟩
end keeps
structure Mem (w W : World) (ss : List St) (vs : List Value) (v : Value) : Prop where
 r0 : Boxed W w.heap.size 137 (.slice none 0 0)
 r1 : Boxed W (w.heap.size + 1) 4 (.bool false)
 st : Boxed W (w.heap.size + 1 + 1) 137 v
 la : Boxed W (w.heap.size + 1 + 1 + 1) 3 (.int .i64 (lastV ss))
 own : OStV W (w.heap.size + 5) v ss vs
 below : Below w.heap.size w W
 size : w.heap.size + 5 ≤ W.heap.size
theorem Mem.keep {w W W' : World} {ss : List St} {vs : List Value} {v : Value} {row : Option Nat} {B : Nat} (h : Mem w W ss vs v) (hB : w.heap.size ≤ B) (hg : W.grownBy W' row) (hr : ∀ r, row = some r → B ≤ r ∧ ∃ o : Obj, W.heap[r]? = some o ∧ o.isCells = false) : Mem w W' ss vs v :=
 ⟨box_keep h.r0 hg hr, box_keep h.r1 hg hr, box_keep h.st hg hr, box_keep h.la hg hr, ost_keep h.own hg hr, h.below.grown hg h.below.size (fun k e => Nat.le_trans hB (hr k e).1), Nat.le_trans h.size hg.size⟩
theorem mem_boxes {w W w1 : World} {ss : List St} {vs : List Value} {v : Value} {tmp : Obj} (me : Mem w W ss vs v) (hg : (W.alloc tmp).grownBy w1 v.ownBlock) :
 Boxed w1 w.heap.size 137 (.slice none 0 0) ∧ Boxed w1 (w.heap.size + 1) 4 (.bool false) ∧ Boxed w1 (w.heap.size + 1 + 1) 137 v ∧ Boxed w1 (w.heap.size + 1 + 1 + 1) 3 (.int .i64 (lastV ss)) ∧ KeepsOthers W w1 ∧ Below w.heap.size W w1 ∧ W.heap.size ≤ w1.heap.size := by
 have hne : ∀ b, b < w.heap.size + 5 → some b ≠ v.ownBlock:=fun b hb e => by
  have:=(World.ownsRow.lt me.own.row b e.symm).1
  omega
 have hz:=hg.size
 simp only [World.size_alloc] at hz
 refine ⟨(me.r0.alloc tmp).kept hg (hne _ (by omega)), (me.r1.alloc tmp).kept hg (hne _ (by omega)), (me.st.alloc tmp).kept hg (hne _ (by omega)), (me.la.alloc tmp).kept hg (hne _ (by omega)), ?_, ?_, by omega⟩
 ·refine (KeepsOthers.alloc W tmp).trans (KeepsOthers.of_grownBy hg fun j o ej hj => ?_)
  rcases (me.own.row.alloc tmp).2 with ⟨rfl, _⟩ | ⟨g, cap, cur, rfl, _, hgb, _⟩
  ·simp [Value.ownBlock] at ej
  obtain rfl : g = j:=by simpa [Value.ownBlock] using ej
  rw [hgb] at hj; cases hj; rfl
 have hsz:=me.below.size
 refine ((Below.refl w.heap.size W).alloc hsz tmp).grown hg (by simp; omega) fun j ej => ?_
 have:=(World.ownsRow.lt me.own.row j ej).1
 omega
theorem ost_set {V : World} {B : Nat} {v : Value} {ss : List St} {vs : List Value} (h : OStV V B v ss vs) (b : Nat) (y : Value) (hb : b < B) : OStV (V.setCell ⟨b, 0, none⟩ y) B v ss vs := by
 refine h.kept (grown_put V ⟨b, 0, none⟩ y) ?_ fun k hk => ?_
 ·cases hv : v.ownBlock with
  | none => exact .inl rfl
  | some g =>
   refine .inr fun e => ?_
   have:=(World.ownsRow.lt h.row g hv).1
   have e2 : g = b:=by simpa using e
   omega
 cases hv : (vs.getD k (.slice none 0 0)).ownBlock with
 | none => exact .inl rfl
 | some g =>
  refine .inr fun e => ?_
  have:=(World.ownsRow.lt (h.each k hk) g hv).1
  have e2 : g = b:=by simpa using e
  omega
theorem mem_more {w W w1 : World} {ss : List St} {vs : List Value} {v v' u : Value} {x : St} {tmp : Obj} (me : Mem w W ss vs v) (hg : (W.alloc tmp).grownBy w1 v.ownBlock) (own1 : OStV w1 (w.heap.size + 5) v' (ss ++ [x]) (vs ++ [u])) :
 Mem w ((w1.setCell ⟨w.heap.size + 1 + 1, 0, none⟩ v').setCell ⟨w.heap.size + 1 + 1 + 1, 0, none⟩ (.int .i64 x.1)) (ss ++ [x]) (vs ++ [u]) v' ∧ KeepsOthers W ((w1.setCell ⟨w.heap.size + 1 + 1, 0, none⟩ v').setCell ⟨w.heap.size + 1 + 1 + 1, 0, none⟩ (.int .i64 x.1)) ∧ Below w.heap.size W ((w1.setCell ⟨w.heap.size + 1 + 1, 0, none⟩ v').setCell ⟨w.heap.size + 1 + 1 + 1, 0, none⟩ (.int .i64 x.1)) := by
 obtain ⟨b0, b1, b2, b3, k1, bl, z⟩:=mem_boxes me hg
 have hset : ∀ (V : World) (b : Nat) (y : Value), b < w.heap.size + 5 → OStV V (w.heap.size + 5) v' (ss ++ [x]) (vs ++ [u]) → OStV (V.setCell ⟨b, 0, none⟩ y) (w.heap.size + 5) v' (ss ++ [x]) (vs ++ [u]):=fun V b y hb h => ost_set h b y hb
 have bb : Below w.heap.size W ((w1.setCell ⟨w.heap.size + 1 + 1, 0, none⟩ v').setCell ⟨w.heap.size + 1 + 1 + 1, 0, none⟩ (.int .i64 x.1)):=(bl.setCell (p:=⟨w.heap.size + 1 + 1, 0, none⟩) (by show w.heap.size ≤ w.heap.size + 1 + 1; omega) _).setCell (p:=⟨w.heap.size + 1 + 1 + 1, 0, none⟩) (by show w.heap.size ≤ w.heap.size + 1 + 1 + 1; omega) _
 refine ⟨⟨(b0.other (by omega) _).other (by omega) _, (b1.other (by omega) _).other (by omega) _, (b2.set _).other (by omega) _, ?_, hset _ _ _ (by omega) (hset _ _ _ (by omega) own1), me.below.trans bb, ?_⟩, (k1.trans (KeepsOthers.setCell _ _ _)).trans (KeepsOthers.setCell _ _ _), bb⟩
 ·rw [lastV_snoc]; exact (b3.other (by omega) _).set _
 have:=bb.size
 have:=me.size
 omega
theorem step_in {w W w1 : World} {ss : List St} {vs : List Value} {va ta : Option Addr} {vc tc N Q : Nat} {n : Int} {ts : List T4} {v' : Value} (me : Mem w W ss vs (.slice va ss.length vc)) (hN : ∀ j, j < ss.length → ∀ b, (vs.getD j (.slice none 0 0)).ownBlock = some b → b < N) (hbN : w.heap.size + 5 ≤ N)
 (ot : OT (W.alloc (.cells #[.int .i64 n,.slice ta ts.length tc] 141)) N (.slice ta ts.length tc) ts) (q0 : W.cell? ⟨Q, 0, none⟩ = some (.int .i64 n)) (hvq : ∀ b, (Value.slice va ss.length vc).ownBlock = some b → b ≠ Q) (hQ : w.heap.size + 5 ≤ Q)
 (ho : w1.ownsRow (w.heap.size + 5) 141 2 v' (ss.length + 1) (scells ((ss.map (·.1)).zip vs) ++ scell (n,.slice ta ts.length tc))) (hg : (W.alloc (.cells #[.int .i64 n,.slice ta ts.length tc] 141)).grownBy w1 (Value.slice va ss.length vc).ownBlock) :
 ∃ g' cap', v' = .slice (some ⟨g', 0, none⟩) (ss.length + 1) cap' ∧ w1.cell? ⟨w.heap.size + 1 + 1, 0, none⟩ = some (.slice va ss.length vc) ∧ w1.frozen? ⟨w.heap.size + 1 + 1, 0, none⟩ = false ∧
  (w1.setCell ⟨w.heap.size + 1 + 1, 0, none⟩ v').cell? ⟨w.heap.size + 1 + 1 + 1, 0, none⟩ = some (.int .i64 (lastV ss)) ∧ (w1.setCell ⟨w.heap.size + 1 + 1, 0, none⟩ v').frozen? ⟨w.heap.size + 1 + 1 + 1, 0, none⟩ = false ∧ (w1.setCell ⟨w.heap.size + 1 + 1, 0, none⟩ v').cell? ⟨Q, 0, none⟩ = some (.int .i64 n) ∧
  Hid (Mem w ((w1.setCell ⟨w.heap.size + 1 + 1, 0, none⟩ v').setCell ⟨w.heap.size + 1 + 1 + 1, 0, none⟩ (.int .i64 n)) (ss ++ [(n, ts)]) (vs ++ [.slice ta ts.length tc]) v' ∧ KeepsOthers W ((w1.setCell ⟨w.heap.size + 1 + 1, 0, none⟩ v').setCell ⟨w.heap.size + 1 + 1 + 1, 0, none⟩ (.int .i64 n)) ∧ Below w.heap.size W ((w1.setCell ⟨w.heap.size + 1 + 1, 0, none⟩ v').setCell ⟨w.heap.size + 1 + 1 + 1, 0, none⟩ (.int .i64 n))) := by
 have bX : Below W.heap.size W (W.alloc (.cells #[.int .i64 n,.slice ta ts.length tc] 141)):=(Below.refl _ _).alloc (Nat.le_refl _) _
 have own1:=ost_more (me.own.below bX) ot hN hbN ho hg
 obtain ⟨g', cap', e⟩:=ownsRow_succ ho
 obtain ⟨_, _, b2, b3, _, _, _⟩:=mem_boxes me hg
 have b3':=b3.other (B':=w.heap.size + 1 + 1) (by omega) v'
 have hq1 : w1.heap[Q]? = W.heap[Q]?:=(hg.block Q (by have:=cell_lt q0; simp at *; omega) (fun e => hvq Q e.symm rfl)).trans (Below.heap_alloc _ _ _ (cell_lt q0))
 have p0 : w1.cell? ⟨Q, 0, none⟩ = some (.int .i64 n):=(World.cell?_of_block (w:=W) (w':=w1) hq1).trans q0
 exact ⟨g', cap', e, b2.cell, b2.frozen, b3'.cell, b3'.frozen, (World.cell?_setCell_other _ _ _ _ (fun e => by have := congrArg Addr.block e; simp only at this; omega)).trans p0, hide (mem_more (x := (n, ts)) me hg own1)⟩
def Sofar (s : ByteArray) (k : Nat) (ss : List St) : Prop := ss.length = k ∧ s.data.toList = nm ss ++ rsN s.data.toList k ∧ OkSts ss
def SI (s : ByteArray) (w : World) (k : Nat) (W : World) : Prop := ∃ ss vs v, Sofar s k ss ∧ Mem w W ss vs v
def SX (s : ByteArray) (w : World) (_ : Nat) (W : World) : Prop := stepsAns s = none ∧ Boxed W w.heap.size 137 (.slice none 0 0) ∧ Boxed W (w.heap.size + 1) 4 (.bool false) ∧ Below w.heap.size w W
abbrev fnIt (w : World) : Value := .func (.func 137) #[] #[.pointer (some ⟨w.heap.size + 1 + 1 + 1 + 1, 0, none⟩)]
def SA (s : ByteArray) (w : World) (k : Nat) (a' : Act) (W : World) : Prop := ∃ (ss : List St) (vs : List Value) (v u : Value) (N Q : Nat), Sofar s k ss ∧ Mem w W ss vs v ∧ (∀ j, j < ss.length → ∀ b, (vs.getD j (.slice none 0 0)).ownBlock = some b → b < N) ∧ w.heap.size + 5 ≤ N ∧ OT W N u (stepT (stepP (pc (rsN s.data.toList k)))) ∧
 w.heap.size + 5 ≤ Q ∧ Two W Q (((stepP (pc (rsN s.data.toList k))).map (·.1)).getD 0) u ∧ (∀ b, v.ownBlock = some b → b ≠ Q) ∧
 a' = { tmps := #[.string s, undef,.pointer (some ⟨w.heap.size, 0, none⟩),.pointer (some ⟨w.heap.size + 1, 0, none⟩),.pointer (some ⟨w.heap.size + 1 + 1, 0, none⟩),.pointer (some ⟨w.heap.size + 1 + 1 + 1, 0, none⟩),.pointer (some ⟨Q, 0, none⟩),.bool (stepP (pc (rsN s.data.toList k))).isSome,.string s, fnIt w, stepV (stepP (pc (rsN s.data.toList k))) u,.bool (stepP (pc (rsN s.data.toList k))).isSome, undef, undef, undef, undef, undef, undef, undef, undef, undef, undef, undef, undef, undef, undef, undef, undef, undef, undef, undef, undef, undef, undef, undef, undef, undef, undef, undef, undef], defers := [] }

theorem implSteps (s : ByteArray) (w : World) (hs : s.size ≤ 33554432) (hE : Env w) :
 Calls Tryz.prog 124 #[.string s] w fun e w' => ∃ v, e = .returned (.tuple #[v,.bool (stepsAns s).isSome]) ∧ OSt w' w.heap.size v ((stepsAns s).getD []) ∧ Below w.heap.size w w' := by
 obtain ⟨m, hm⟩:=rounds s.data.toList
 have SO:=hide fun w => stepsOf_any s w
 refine (callsIn_wide (n := 5)).1 ?_
 refine callsIn_of_wp_marks Tryz.func124 rfl trivial ?_ rfl
 simp only [Tryz.ntmps124, List.size_toArray, List.length_cons, List.length_nil, Nat.reduceAdd, Nat.reduceSub, Array.replicate_succ, Array.replicate_zero, List.push_toArray, List.append_toArray, List.nil_append, List.cons_append]
 gi_wp2_with fail
 refine ⟨trivial, (callsIn_wide.2 (SO.out _)).mono ?_⟩
 rintro _ w1 ⟨rfl, rfl⟩
 gi_wp2
 obtain ⟨wl, hwl⟩ : ∃ wl, ((((w.alloc (.cells #[.slice none 0 0] 137)).alloc (.cells #[.bool false] 4)).alloc (.cells #[.slice none 0 0] 137)).alloc (.cells #[.int .i64 0] 3)).alloc (.cells #[.string s] 9) = wl:=⟨_, rfl⟩
 have zl : wl.heap.size = w.heap.size + 5:=by rw [← hwl]; simp
 have bl : Below w.heap.size w wl:=hwl ▸ (((((Below.refl _ _).alloc (Nat.le_refl _) _).alloc (by simp) _).alloc (by simp; omega) _).alloc (by simp; omega) _).alloc (by simp; omega) _
 have m0 : Mem w wl [] [] (.slice none 0 0):=by
  refine ⟨?_, ?_, ?_, ?_, ⟨rfl, World.ownsRow_nil _ _ _ _, fun k hk => by simp at hk, fun i j _ hj => by simp at hj⟩, bl, by omega⟩
  ·rw [← hwl]; exact ((((Boxed.new w _ _).alloc _).alloc _).alloc _).alloc _
  ·rw [← hwl]; have := (((Boxed.new (w.alloc (.cells #[.slice none 0 0] 137)) 4 (.bool false)).alloc (.cells #[.slice none 0 0] 137)).alloc (.cells #[.int .i64 0] 3)).alloc (.cells #[.string s] 9); simpa using this
  ·rw [← hwl]; have := ((Boxed.new ((w.alloc (.cells #[.slice none 0 0] 137)).alloc (.cells #[.bool false] 4)) 137 (.slice none 0 0)).alloc (.cells #[.int .i64 0] 3)).alloc (.cells #[.string s] 9); simpa using this
  rw [← hwl]; have := (Boxed.new (((w.alloc (.cells #[.slice none 0 0] 137)).alloc (.cells #[.bool false] 4)).alloc (.cells #[.slice none 0 0] 137)) 3 (.int .i64 0)).alloc (.cells #[.string s] 9); simpa [lastV] using this
 have cl : wl.cell? ⟨w.heap.size + 4, 0, none⟩ = some (.string s):=by
  have:=(Boxed.new ((((w.alloc (.cells #[.slice none 0 0] 137)).alloc (.cells #[.bool false] 4)).alloc (.cells #[.slice none 0 0] 137)).alloc (.cells #[.int .i64 0] 3)) 9 (.string s)).cell
  rw [hwl] at this
  simpa using this
 have hzz : ((((w.alloc (.cells #[.slice none 0 0] 137)).alloc (.cells #[.bool false] 4)).alloc (.cells #[.slice none 0 0] 137)).alloc (.cells #[.int .i64 0] 3)).heap.size = w.heap.size + 4:=by simp
 have FE:=iter_feeds s hs m (w.heap.size + 4) 4 hm w wl hE bl cl
 rw [hwl]
 try simp only [hzz]
 clear hwl hzz
 refine range_fed rfl (by omega) (gf := 137) (lb := #[.pointer (some ⟨w.heap.size + 4, 0, none⟩)]) rfl trivial (enters_of Tryz.func137 (by kernel_rfl) rfl) (hn₀ := by omega) (fun k vs U W h => by obtain ⟨v, rfl, _⟩ := h; rfl) FE
  (SI s w) (SX s w) ?hI ?hX ?h0 (SA s w) ?hAx ?hassign ?hbody ?hdone ?hstop
 case hI =>
  rintro k W W' row ⟨ss, vs, v, so, me⟩ hg hr
  exact ⟨ss, vs, v, so, me.keep (by omega) hg hr⟩
 case hX =>
  rintro k W W' row ⟨h1, h2, h3, h4⟩ hg hr
  exact ⟨h1, box_keep h2 hg hr, box_keep h3 hg hr, h4.grown hg h4.size (fun k e => by have := (hr k e).1; omega)⟩
 case h0 => exact ⟨[], [], _, ⟨rfl, rfl, by simp [OkSts]⟩, m0⟩
 case hAx =>
  rintro a' k W W' row ⟨ss, vs, v, u, N, Q, so, me, h1, h2, h3, h4, h5, h7, h8⟩ hg hr
  exact ⟨ss, vs, v, u, N, Q, so, me.keep (by omega) hg hr, h1, h2, row_keep h3 hg hr, h4, ⟨cell_kept h5.1 hg (fun r e => (hr r e).2), cell_kept h5.2 hg (fun r e => (hr r e).2)⟩, h7, h8⟩
 case hassign =>
  intro l k vs U W K hk hi bU hh hK
  obtain ⟨ss, ws, v, so, me⟩:=hi
  obtain ⟨u, rfl, ot⟩:=hh
  have hN : ∀ j, j < ss.length → ∀ b, (ws.getD j (.slice none 0 0)).ownBlock = some b → b < U.heap.size:=fun j hj b hb => (World.ownsRow.lt (me.own.each j hj) b hb).2
  have hV : ∀ b, v.ownBlock = some b → b < U.heap.size:=fun b hb => (World.ownsRow.lt me.own.row b hb).2
  have hU:=me.size
  have hUW:=bU.size
  have meW:=me.keep (B:=w.heap.size) (Nat.le_refl _) (grown_of bU) (fun r e => by cases e)
  obtain ⟨ta, tl, tc, rfl⟩ : ∃ ta tl tc, u = .slice ta tl tc:=by
   rcases ot.2 with ⟨rfl, h0⟩ | ⟨g, cap, cur, rfl, _⟩
   ·exact ⟨none, 0, 0, rfl⟩
   exact ⟨_, _, _, rfl⟩
  have SAK : ∀ a', a' = _ → SA s w k a' (W.alloc (.cells #[.int .i64 (((stepP (pc (rsN s.data.toList k))).map (·.1)).getD 0),.slice ta tl tc] 141)):=fun a' ha => ⟨ss, ws, v,.slice ta tl tc, U.heap.size, W.heap.size, so, meW.keep (B:=w.heap.size) (Nat.le_refl _) (World.grownBy_alloc W _ none) (fun r e => by cases e), hN, hU, World.ownsRow.alloc ot _, by omega, two_new W _ _ _, fun b hb => by have:=hV b hb; omega, ha⟩
  have bA : Below w.heap.size W (W.alloc (.cells #[.int .i64 (((stepP (pc (rsN s.data.toList k))).map (·.1)).getD 0),.slice ta tl tc] 141)):=(Below.refl _ _).alloc (by omega) _
  have kA : KeepsFrom wl.heap.size W (W.alloc (.cells #[.int .i64 (((stepP (pc (rsN s.data.toList k))).map (·.1)).getD 0),.slice ta tl tc] 141)):=(KeepsOthers.alloc _ _).from _
  clear hN hV meW me ot so FE hE
  gi_wp2
  exact hK _ _ kA bA (SAK _ rfl)
 case hbody =>
  rintro l k a' W hk ⟨ss, vs, v, u, N, Q, so, me, hN, hbN, ot, hQ, two, hvq, rfl⟩
  have c0:=me.r0.cell
  have f0:=me.r0.frozen
  have c1:=me.r1.cell
  have f1:=me.r1.frozen
  have c2:=me.st.cell
  have c3:=me.la.cell
  have hl0:=lastV_ge so.2.2
  have hl30:=so.2.2.1
  have NO : Hid ((∀ x, stepP (pc (rsN s.data.toList k)) = some x → GoodSt (lastV ss) x → ss.length < 30 → False) → stepsAns s = none):=hide fun h => by
   refine piece_no so.2.1 (hm.2 k hk) so.2.2 ?_ h
   cases k with
   | zero => exact .inl (List.length_eq_zero_iff.1 so.1)
   | succ k => exact .inr ((rs_head (rsN s.data.toList k)).resolve_left (hm.2 (k + 1) hk))
  have OUT : Hid (stepsAns s = none → SX s w k ((W.setCell ⟨w.heap.size, 0, none⟩ (.slice none 0 0)).setCell ⟨w.heap.size + 1, 0, none⟩ (.bool false)) ∧ KeepsFrom wl.heap.size W ((W.setCell ⟨w.heap.size, 0, none⟩ (.slice none 0 0)).setCell ⟨w.heap.size + 1, 0, none⟩ (.bool false))):=hide fun h => ⟨⟨h, (me.r0.set _).other (by omega) _, (me.r1.other (by omega) _).set _, (me.below.setCell (p:=⟨w.heap.size, 0, none⟩) (Nat.le_refl _) _).setCell (p:=⟨w.heap.size + 1, 0, none⟩) (by show w.heap.size ≤ w.heap.size + 1; omega) _⟩, ((KeepsOthers.setCell _ _ _).trans (KeepsOthers.setCell _ _ _)).from _⟩
  obtain ⟨va, vc, rfl⟩:=OSt.form ⟨vs, me.own⟩
  obtain ⟨q0, q1⟩:=two
  have ON : Hid (∀ x, stepP (pc (rsN s.data.toList k)) = some x → GoodSt (lastV ss) x → ss.length < 30 → Sofar s (k + 1) (ss ++ [x])):=hide fun x hx hg h30 => by
   obtain ⟨h1, h2⟩:=piece_on so.2.1 so.2.2 hx hg h30
   exact ⟨by simp [so.1], h1, h2⟩
  obtain ⟨o, ho⟩ : ∃ o, stepP (pc (rsN s.data.toList k)) = o:=⟨_, rfl⟩
  rw [ho] at NO ON ot q0 ⊢
  have ME:=hide me
  clear FE hm so me ho hE cl m0 bl
  cases o with
  | none =>
   have OUT:=hide (OUT.out (NO.out fun x hx => by cases hx))
   clear NO ON
   simp only [Option.isSome_none, Option.map_none, Option.getD_none, stepV] at *
   gi_wp2_with fail
   refine ⟨trivial, ?_⟩
   gi_wp2
   exact ⟨OUT.out.2, OUT.out.1⟩
  | some x =>
   obtain ⟨n, ts⟩:=x
   simp only [Option.isSome_some, Option.map_some, Option.getD_some, stepV, stepT] at *
   obtain ⟨ta, tc, rfl⟩ : ∃ ta tc, u = .slice ta ts.length tc:=by
    rcases ot.2 with ⟨rfl, h0⟩ | ⟨g, cap, cur, rfl, _⟩
    ·exact ⟨none, 0, by rw [h0]⟩
    exact ⟨_, _, rfl⟩
   have OT':=hide ot
   clear ot
   by_cases g0 : ss.length = 30
   ·have OUT:=hide (OUT.out (NO.out fun x _ _ h => by omega))
    clear NO ON
    have g0' : decide ((ss.length : Int) = 30) = true:=by simp; omega
    gi_wp2_with fail
    refine ⟨trivial, ?_⟩
    gi_wp2
    exact ⟨OUT.out.2, OUT.out.1⟩
   have g0' : decide ((ss.length : Int) = 30) = false:=by simp; omega
   have g0b : (((ss.length : Nat) : Int) == 30) = false:=by rw [beq_eq_false_iff_ne]; omega
   by_cases g3 : 2 < ts.length
   ·have OUT:=hide (OUT.out (NO.out fun x hx h _ => by cases hx; have:=h.2.2; simp only at this; omega))
    clear NO ON
    have g3' : decide ((2 : Int) < (ts.length : Int)) = true:=by simp; omega
    gi_wp2_with fail
    refine ⟨trivial, ?_⟩
    gi_wp2
    exact ⟨OUT.out.2, OUT.out.1⟩
   have g3' : decide ((2 : Int) < (ts.length : Int)) = false:=by simp; omega
   by_cases g1 : lastV ss + 1 ≤ n ∧ n ≤ 60
   ·have WI:=hide fun w => within_yes n (lastV ss + 1) 60 w g1.1 g1.2
    have ON:=hide (ON.out (n, ts) rfl ⟨by show lastV ss < n; omega, g1.2, by show ts.length ≤ 2; omega⟩ (by omega))
    clear NO OUT
    obtain ⟨i0, hi, hz0, hz1, hz2⟩:=info_parts Tryz.infoSt
    have me:=ME.out
    have sz:=me.size
    have bX : Below W.heap.size W (W.alloc (.cells #[.int .i64 n,.slice ta ts.length tc] 141)):=(Below.refl _ _).alloc (Nat.le_refl _) _
    have ostX:=me.own.below bX
    have otX:=OT'.out.below bX
    clear OT' me
    gi_wp2_with fail
    refine ⟨trivial, (CallsIn.inRound l (callsIn_wide.2 (WI.out _))).mono ?_⟩
    rintro _ w2 ⟨rfl, rfl⟩
    gi_wp2_with (gi_at_builtin; refine wpListIn_append_own _ rfl _ _ 137 rfl (w.heap.size + 5) 141 i0 (.agg #[.int .i64 0,.slice none 0 0]) 2 32 Tryz.underlying137 hi hz0 hz1 hz2 rfl (by decide) _ _ _ rfl ostX.row ⟨w2.heap.size, 0, none⟩ 1 1 (scell (n,.slice ta ts.length tc)) rfl rfl (two_cell w2 (n,.slice ta ts.length tc) 141) (two_plain _ _ _ _) (by unfold maxLen; omega) (by omega) (by simp; omega) ?_; intro v' w1 hown' hgrow _; obtain ⟨g', cap', rfl, d2, e2, d3, e3, p1, MM⟩ := step_in ME.out hN hbN otX q0 hvq hQ hown' hgrow; clear hgrow hown' ostX otX ME q0 q1 c0 c1 c2 c3 f0 f1 bX)
    exact ⟨MM.out.2.1.from _, MM.out.2.2, ⟨_, _, _, ON.out, MM.out.1⟩⟩
   have OUT:=hide (OUT.out (NO.out fun x hx h _ => by cases hx; have h1:=h.1; have h2:=h.2.1; simp only at h1 h2; omega))
   have WI:=hide fun w => within_no n (lastV ss + 1) 60 w (by omega)
   clear NO ON
   gi_wp2_with fail
   refine ⟨trivial, (CallsIn.inRound l (callsIn_wide.2 (WI.out _))).mono ?_⟩
   rintro _ w2 ⟨rfl, rfl⟩
   gi_wp2
   exact ⟨OUT.out.2, OUT.out.1⟩
 case hdone =>
  rintro D W hD ⟨ss, vs, v, so, me⟩ hK
  have HA:=hide (piece_end (by have:=so.2.1; rwa [hm.1] at this) so.2.2)
  obtain ⟨va, vc, rfl⟩:=OSt.form ⟨vs, me.own⟩
  have c0:=me.r0.cell
  have f0:=me.r0.frozen
  have b1:=me.r1.other (B':=w.heap.size) (by omega) (.slice va ss.length vc)
  have c1:=b1.cell
  have f1:=b1.frozen
  have c2:=me.st.cell
  have ME:=hide me
  have B0:=(((me.r0.set (.slice va ss.length vc)).other (B':=w.heap.size + 1) (by omega) (.bool true)).kept (grownBy_putObj' _ D (.deferred none)) (fun e => by cases e; omega)).cell
  have B1:=((b1.set (.bool true)).kept (grownBy_putObj' _ D (.deferred none)) (fun e => by cases e; omega)).cell
  have hK':=(KeepsOthers.setCell (W.setCell ⟨w.heap.size, 0, none⟩ (.slice va ss.length vc)) ⟨w.heap.size + 1, 0, none⟩ (.bool true)).same D _ ((KeepsOthers.setCell W ⟨w.heap.size, 0, none⟩ (.slice va ss.length vc)).same D _ hK rfl) rfl
  clear FE hm so me hE cl m0 bl b1
  gi_wp2
  refine ⟨by simp, .inl ⟨_, _, rfl, run_takeDeferred hK', ?_⟩⟩
  refine ⟨.tuple #[.slice va ss.length vc,.bool true], by simp [results, Tryz.results124, go_sem, B0, B1],.slice va ss.length vc, by rw [HA.out]; rfl, ?_, ?_⟩
  ·rw [HA.out]
   have h1:=ost_set (ost_set ME.out.own w.heap.size (.slice va ss.length vc) (by omega)) (w.heap.size + 1) (.bool true) (by omega)
   have h2:=ost_keep (B:=0) h1 (grownBy_putObj' _ D (.deferred none)) (fun r e => by cases e; exact ⟨Nat.zero_le _, _, hK', rfl⟩)
   exact ⟨vs, h2.len, row_lower h2.row (by omega), fun k hk => row_lower (h2.each k hk) (by omega), h2.apart⟩
  exact ((ME.out.below.setCell (p := ⟨w.heap.size, 0, none⟩) (Nat.le_refl _) _).setCell (p := ⟨w.heap.size + 1, 0, none⟩) (by show w.heap.size ≤ w.heap.size + 1; omega) _).trans (belowK_b (w := w) (Nat.le_refl _) _ D _ _ (by omega) hK' rfl rfl)
 case hstop =>
  rintro D k W hD hk ⟨hn, b0, b1, bel⟩ hK
  have B0:=(b0.kept (grownBy_putObj' _ D (.deferred none)) (fun e => by cases e; omega)).cell
  have B1:=(b1.kept (grownBy_putObj' _ D (.deferred none)) (fun e => by cases e; omega)).cell
  clear FE hm hE cl m0 bl
  gi_wp2
  refine ⟨by simp, .inl ⟨_, _, rfl, run_takeDeferred hK, ?_⟩⟩
  refine ⟨.tuple #[.slice none 0 0,.bool false], by simp [results, Tryz.results124, go_sem, B0, B1],.slice none 0 0, by rw [hn]; rfl, by rw [hn]; exact ost_nil _ _, ?_⟩
  exact bel.trans (belowK_b (w := w) (Nat.le_refl _) _ D _ _ (by omega) hK rfl rfl)
end
section
open Go.RowKit
variable [∀ (a b c d : Int), Decidable (Ok4 a b c d)]
variable [∀ (a b c d : Nat), Decidable (okN a b c d)]
variable [∀ (last : Int) (s : St), Decidable (GoodSt last s)]
variable [∀ (x : T4), Decidable (OkT x)]
theorem implViewOf (s : ByteArray) (w : World) (hs : s.size ≤ 33554432) (hE : Env w) :
 Calls Tryz.prog 111 #[.string s] w fun e w' => e = .returned (.int .i64 (viewAns s)) ∧ Below w.heap.size w w' := by
 have ST:=hide fun w hE => implSteps s w hs hE
 have hl : ∀ ss, stepsAns s = some ss → ss.length ≤ 30 ∧ ∀ x ∈ ss, OkSt x:=fun ss h => ⟨((names_iff _ _).1 h).2.1, ((names_iff _ _).1 h).2.2.1⟩
 unfold viewAns
 generalize stepsAns s = A at *
 go_enter Tryz.func111, Tryz.ntmps111
 go_wp2_with fail
 refine (ST.out _ hE).mono ?_
 rintro e w1 ⟨v, rfl, o1, b1⟩
 cases A with
 | none =>
  obtain ⟨ao, ca, rfl⟩:=o1.form
  clear o1 ST hl
  go_wp2
  go_ret
  exact ⟨rfl, b1⟩
 | some ss =>
  obtain ⟨hl, hok⟩:=hl ss rfl
  obtain ⟨ao, ca, hv, r⟩:=o1.rst (fun x hx => by have:=(hok x hx).2.1; omega)
  subst hv
  clear o1 ST hok
  simp only [Option.getD_some] at *
  rcases r with rfl | ⟨g, rfl, r⟩
  ·go_wp2
   go_ret
   exact ⟨rfl, b1⟩
  by_cases h0 : ss.length = 0
  ·obtain rfl:=List.length_eq_zero_iff.1 h0
   go_wp2
   go_ret
   exact ⟨rfl, b1⟩
  obtain ⟨n, hn⟩ : ∃ n, ss.length = n + 1:=⟨ss.length - 1, by omega⟩
  obtain ⟨u, c0, c1, _⟩:=r n (by omega)
  have hlast:=hide (show (ss.getLast?.map (·.1)).getD 0 = (ss.getD n zst).1 by
   rw [List.getLast?_eq_getElem?, List.getD_eq_getElem?_getD, List.getElem?_eq_getElem (show ss.length - 1 < ss.length by omega), List.getElem?_eq_getElem (show n < ss.length by omega)]
   simp [hn])
  have hi : ((n + 1 : Nat) : Int) - 1 = n:=by omega
  generalize (ss.getD n zst).1 = x at *
  clear r h0
  go_wp2
  go_ret
  exact ⟨by rw [show ((some ss).getD []) = ss from rfl, hlast.out]; rfl, b1⟩
end
end Go.Proofs.YtjkcphnohhpihaaGreatDoor
