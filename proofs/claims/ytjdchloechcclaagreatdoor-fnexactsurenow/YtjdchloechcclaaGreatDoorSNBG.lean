/- Lemmas, as stated. -/
import Derived.Test.YtjdchloechcclaaGreatDoorSNAS
import Derived.Test.YtjdchloechcclaaGreatDoorSNBF
set_option maxRecDepth 100000
set_option maxHeartbeats 16000000
set_option linter.unusedSectionVars false
set_option linter.unusedSimpArgs false
set_option linter.unusedVariables false
namespace Go.Proofs.YtjdchloechcclaaGreatDoor
section
open Go.RowKit
variable [∀ (a b c d : Int), Decidable (Ok4 a b c d)]
variable [∀ (a b c d : Nat), Decidable (okN a b c d)]
variable [∀ (x : T4), Decidable (OkT x)]
variable [∀ (last : Int) (s : St), Decidable (GoodSt last s)]
def PT (w : World) (v : Value) (xs : List T4) : Prop :=
 ∃ ao cap, v = .slice ao xs.length cap ∧ (xs = [] ∨ ∃ ad : Addr, ao = some ad ∧ ∀ j u, (tcells xs)[j]? = some u → w.cell? (ad.add j) = some u)
theorem PT.below {w w' : World} {v : Value} {xs : List T4} (h : PT w v xs) (hb : Below w.heap.size w w') : PT w' v xs := by
 obtain ⟨ao, cap, rfl, h⟩:=h
 refine ⟨ao, cap, rfl, ?_⟩
 rcases h with h | ⟨ad, rfl, h⟩
 ·exact .inl h
 exact .inr ⟨ad, rfl, fun j u hj => (hb.cell (cell_lt (h j u hj))).trans (h j u hj)⟩
theorem add_zero4 (b o j : Nat) : ((⟨b, o, none⟩ : Addr).add j) = ⟨b, o + j, none⟩ := by unfold Addr.add; split <;> simp_all
theorem OT.pt {w : World} {base : Nat} {v : Value} {xs : List T4} (h : OT w base v xs) : PT w v xs := by
 rcases h.2 with ⟨rfl, h0⟩ | ⟨g, cap, cur, rfl, _⟩
 ·exact ⟨none, 0, by rw [h0], .inl (List.length_eq_zero_iff.1 h0)⟩
 exact ⟨_, cap, rfl, .inr ⟨_, rfl, World.ownsRow.cells h rfl⟩⟩
theorem RT.pt {w : World} {v : Value} {xs : List T4} (h : RT w v xs) : PT w v xs := by
 obtain ⟨hl, ao, cap, rfl, h⟩:=h
 refine ⟨ao, cap, rfl, ?_⟩
 rcases h with h | ⟨g, rfl, h⟩
 ·exact .inl h
 refine .inr ⟨_, rfl, fun j u hj => ?_⟩
 have hlt : j < xs.length * 4:=by rw [← tcells_len]; exact (List.getElem?_eq_some_iff.1 hj).1
 obtain ⟨k, r, hr, rfl⟩ : ∃ k r, r < 4 ∧ j = k * 4 + r:=⟨j / 4, j % 4, by omega, by omega⟩
 have hk : k < xs.length:=by omega
 rw [tcells_get xs k r hk hr] at hj
 obtain ⟨c0, c1, c2, c3⟩:=h k hk
 rw [add_zero4, Nat.zero_add]
 match r, hr with
 | 0, _ => exact c0.trans hj
 | 1, _ => exact c1.trans hj
 | 2, _ => exact c2.trans hj
 | 3, _ => exact c3.trans hj
theorem tcells_take (xs : List T4) (k j : Nat) (u : Value) (h : (tcells (xs.take k))[j]? = some u) : (tcells xs)[j]? = some u := by
 have e : tcells xs = tcells (xs.take k) ++ tcells (xs.drop k):=by rw [← tcells_append, List.take_append_drop]
 rw [e, List.getElem?_append_left (List.getElem?_eq_some_iff.1 h).1]
 exact h
theorem tcells_drop (xs : List T4) (k j : Nat) (u : Value) (hk : k ≤ xs.length) (h : (tcells (xs.drop k))[j]? = some u) : (tcells xs)[k * 4 + j]? = some u := by
 have e : tcells xs = tcells (xs.take k) ++ tcells (xs.drop k):=by rw [← tcells_append, List.take_append_drop]
 have hl : (tcells (xs.take k)).length = k * 4:=by rw [tcells_len, List.length_take]; omega
 rw [e, List.getElem?_append_right (by omega), hl, show k * 4 + j - k * 4 = j from by omega]
 exact h
theorem PT.take {w : World} {ao : Option Addr} {n cap : Nat} {xs : List T4} (h : PT w (.slice ao n cap) xs) (k : Nat) (hk : k ≤ n) (cap' : Nat) : PT w (.slice ao k cap') (xs.take k) := by
 obtain ⟨ao', cap2, e, h⟩:=h
 cases e
 refine ⟨ao, cap', by rw [List.length_take]; congr 1; omega, ?_⟩
 rcases h with rfl | ⟨ad, rfl, h⟩
 ·left; simp
 exact .inr ⟨ad, rfl, fun j u hj => h j u (tcells_take _ _ _ _ hj)⟩
theorem PT.drop {w : World} {ao : Option Addr} {n cap : Nat} {xs : List T4} (h : PT w (.slice ao n cap) xs) (k : Nat) (hk : k ≤ n) (cap' : Nat) {bo : Option Addr} (hb : k < n → bo = ao.map (·.add (k * 4))) : PT w (.slice bo (n - k) cap') (xs.drop k) := by
 obtain ⟨ao', cap2, e, h⟩:=h
 cases e
 refine ⟨bo, cap', by rw [List.length_drop], ?_⟩
 by_cases hlt : k < xs.length
 ·rcases h with rfl | ⟨ad, rfl, h⟩
  ·simp at hlt
  refine .inr ⟨ad.add (k * 4), hb hlt, fun j u hj => ?_⟩
  have:=h _ u (tcells_drop xs k j u hk hj)
  rw [← this]
  congr 1
  obtain ⟨b, o, s⟩:=ad
  unfold Addr.add
  split <;> split <;> simp_all <;> omega
 left; rw [List.drop_of_length_le (by omega)]
theorem run_append_nothing4 (ty : TypeId) (base cap : Nat) (v : Value) (n : Nat) (xs : List Value) (w : World) (hown : w.ownsRow base 70 4 v n xs) :
 (Builtin.append_ #[41, 41] ty #[v,.slice none 0 cap]).run Tryz.prog w = .ok v w := by
 obtain ⟨i0, hi, hz0, hz1, hz2⟩:=info_parts Tryz.infoTx
 rcases hown.2 with ⟨rfl, rfl⟩ | ⟨g, cp, cur, rfl, _, _, hnc, _⟩
 ·simp [Builtin.append_, run_underlying Tryz.underlying41, sizeOf, typeInfo, hi, Builtin.lenOf, Builtin.firstCells]
 simp [Builtin.append_, run_underlying Tryz.underlying41, sizeOf, typeInfo, hi, Builtin.lenOf, Builtin.firstCells, hnc, storeCells]
end
section
open Go Go.RowKit
variable [∀ (a b c d : Int), Decidable (Ok4 a b c d)]
variable [∀ (a b c d : Nat), Decidable (okN a b c d)]
variable [∀ (x : T4), Decidable (OkT x)]
variable [∀ (last : Int) (s : St), Decidable (GoodSt last s)]
theorem step_append_txs {ops : Array Oper} {o : Oper} {a : Act} {w : World} {K : Act → World → Prop} {Q : Exit → Act → World → Prop} {E : Prop} (hgd : o.guard = none) (s x : Operand)
 (ho : o.op = .call { callee := .builtin .append, args := #[s, x], argTypes := #[41, 41] }) (base : Nat) (v u : Value) (xs ys : List T4) (hs : a.eval s = v) (hx : a.eval x = u)
 (hown : OT w base v xs) (hp : PT w u ys) (hl : xs.length + ys.length ≤ 4194304) (hbase : base ≤ w.heap.size)
 (h : ∀ v' w', OT w' base v' (xs ++ ys) → w.grownBy w' v.ownBlock → (v'.ownBlock = v.ownBlock ∨ v'.ownBlock = some w.heap.size) → K (a.put o.dst v') w') :
 if Region.wanted o (yielded ops a.tmps) = true then Oper.wp Tryz.prog o a w K Q else E := by
 have hw : Region.wanted o (yielded ops a.tmps) = true:=by simp [Region.wanted, hgd]
 rw [if_pos hw]
 obtain ⟨i0, hi, hz0, hz1, hz2⟩:=info_parts Tryz.infoTx
 obtain ⟨ao, cap, rfl, hp⟩:=hp
 match ao, hx with
 | none, hx =>
  have hy : ys = []:=by rcases hp with h | ⟨ad, e, _⟩; exact h; cases e
  subst hy
  have hrun:=run_append_nothing4 o.type base cap v xs.length (tcells xs) w hown
  unfold Oper.wp
  simp only [List.length_nil] at hx
  simp [execOp, ho, resolve, invoke, builtin, hs, hx, hrun, Result.andThen]
  exact h v w (by simpa using hown) (grown_refl _ _) (.inl rfl)
 | some ad, hx =>
  have hn : ∀ j u, (tcells ys)[j]? = some u → w.cell? (ad.add j) = some u:=by
   rcases hp with rfl | ⟨ad', e, h⟩
   ·intro j u hj; simp [tcells] at hj
   cases e; exact h
  obtain ⟨v', w', hrun, r1, r2, _, r4⟩:=run_append_own_at (P:=Tryz.prog) w base 41 o.type 70 i0 (txv 0 0 0 0) 4 32 Tryz.underlying41 hi hz0 hz1 hz2 rfl (by decide) v xs.length (tcells xs) hown ad ys.length cap (tcells ys) (tcells_len ys) hn (four_plains ys) (by unfold maxLen; omega) (by omega) hbase
  unfold Oper.wp
  simp [execOp, ho, resolve, invoke, builtin, hs, hx, hrun, Result.andThen]
  refine h v' w' ?_ r2 r4
  unfold OT
  rw [tcells_append, List.length_append]
  exact r1
end
section
open Go Go.RowKit
variable [∀ (a b c d : Int), Decidable (Ok4 a b c d)]
variable [∀ (n f : Int), Decidable (COk n f)]
variable [∀ (a b c d : Nat), Decidable (okN a b c d)]
variable [∀ (x : T4), Decidable (OkT x)]
variable [∀ (last : Int) (s : St), Decidable (GoodSt last s)]
structure RZ (t : RpT) : Prop where
 s : t.s.size ≤ 281474976710656
 d : t.d.size ≤ 281474976710656
 tt : ∀ p ∈ t.tab, p.2.1.size ≤ 281474976710656
 hh : ∀ j, j < t.held.length → MZ (t.held.getD j zpost).2
theorem rtold_any (t : RpT) (ao bo co od oe : Option Addr) (ca cb cc cd ce : Nat) (w : World) (hm : RSm t) (hz : RZ t) (h : RRep w t (.slice ao t.qw.length ca) (.slice bo t.pool.length cb) (.slice co t.tab.length cc) (.slice od t.dsk.length cd) (.slice oe t.held.length ce)) :
 Calls Tryz.prog 43 #[rpv t (.slice ao t.qw.length ca) (.slice bo t.pool.length cb) (.slice co t.tab.length cc) (.slice od t.dsk.length cd) (.slice oe t.held.length ce)] w fun e w' => ∃ a' b' c' d' e', e = .returned (rpv t a' b' c' d' e') ∧ ORepG w' w.heap.size w'.heap.size t a' b' c' d' e' ∧ Below w.heap.size w w' := by
 have T1:=hide fun w' h => stold_any t.vo t.lo t.n t.s ao ca t.qw t.d w' hz.s hz.d h
 have T2:=hide fun w' h => dtold_any od cd t.su t.dsk w' (by have:=hm.d; omega) h
 have T3:=hide fun v w' h => toldEachP_any v t.tab w' (by have:=hm.tb; omega) hz.tt h
 have T4_:=hide fun v w' h => toldEachC_any v t.held w' hm.h hz.hh h
 have HR:=hide h
 have hpl:=hm.p
 clear h hm hz
 obtain ⟨w0, hw0, Bw0, P, O, zw0⟩:=bx2 w #[.int .i64 t.id,.int .i64 t.vw,.int .i64 t.ak,.int .i64 t.vo,.int .i64 t.lo,.int .i64 t.n,.string t.s,.slice ao t.qw.length ca,.string t.d,.slice bo t.pool.length cb,.slice co t.tab.length cc,.slice od t.dsk.length cd,.int .i64 t.su,.slice oe t.held.length ce] 46 #[.int .i64 0,.int .i64 0,.int .i64 0,.int .i64 0,.int .i64 0,.int .i64 0,.string ⟨#[]⟩,.slice none 0 0,.string ⟨#[]⟩,.slice none 0 0,.slice none 0 0,.slice none 0 0,.int .i64 0,.slice none 0 0] 46
 go_enter Tryz.func43, Tryz.ntmps43
 have K:=kw (kL P)
 go_upto_region 1 with fail
 clear hw0
 have bA : Below w0.heap.size w0 w0.drew:=Below.drew (Below.refl _ _)
 refine wp_region_noPanic ?_
 refine late_begin (S := fun w' => Below w0.heap.size w0 w' ∧ Loc w' (w.heap.size) #[.int .i64 t.id,.int .i64 t.vw,.int .i64 t.ak,.int .i64 t.vo,.int .i64 t.lo,.int .i64 t.n,.string t.s,.slice ao t.qw.length ca,.string t.d,.slice bo t.pool.length cb,.slice co t.tab.length cc,.slice od t.dsk.length cd,.int .i64 t.su,.slice oe t.held.length ce]) (fun j => j == 7 || j == 9) (by kernel_rfl) ?_
 obtain ⟨wd1, hwd⟩ : ∃ y, w0.drew = y:=⟨_, rfl⟩
 rw [hwd] at bA ⊢
 clear hwd
 have bb:=bA
 have Bwd1:=bu Bw0 bb
 have swd1:=bb.size
 replace P:=P.up bb
 replace O:=O.up bb
 clear Bw0 bb
 refine late_pure (i := 0) (d := 3) (v := ?_) rfl rfl (by kernel_rfl) (by kernel_rfl) (by kernel_rfl) (fun _ _ _ h => h) (Or.inl ⟨by rfl, ?_⟩) ?_
 rotate_left
 ·intro w hSw
  try dsimp only at hSw
  go_simp
  try with_reducible rfl
 simp only [Act.put, List.setIfInBounds_toArray, List.set_cons_zero, List.set_cons_succ]
 refine late_pure (i := 3) (d := 6) (v := ?_) rfl rfl (by kernel_rfl) (by kernel_rfl) (by kernel_rfl) (fun _ _ _ h => h) (Or.inl ⟨by rfl, ?_⟩) ?_
 rotate_left
 ·intro w hSw
  try dsimp only at hSw
  go_simp
  try with_reducible rfl
 simp only [Act.put, List.setIfInBounds_toArray, List.set_cons_zero, List.set_cons_succ]
 refine late_take (i := 1) (d := 4) (v := .agg #[.int .i64 t.vo,.int .i64 t.lo,.int .i64 t.n,.string t.s,.slice ao t.qw.length ca,.string t.d]) rfl rfl (by kernel_rfl) (by kernel_rfl) (by kernel_rfl) (by kernel_rfl) (fun _ _ _ h => h) ?_ (K.out _ bA) ?_
 ·exact yields_mid rfl 40 _ rfl rfl [.int .i64 t.vo, .int .i64 t.lo, .int .i64 t.n, .string t.s, .slice ao t.qw.length ca, .string t.d] _ (fun w h => (h.2).range 3 6 rfl) Tryz.underlying40 rfl (by kernel_rfl)
 simp only [Act.put, List.setIfInBounds_toArray, List.set_cons_zero, List.set_cons_succ]
 refine late_take (i := 4) (d := 7) (v := .agg #[.slice od t.dsk.length cd,.int .i64 t.su]) rfl rfl (by kernel_rfl) (by kernel_rfl) (by kernel_rfl) (by kernel_rfl) (fun _ _ _ h => h) ?_ (K.out _ bA) ?_
 ·exact yields_mid rfl 43 _ rfl rfl [.slice od t.dsk.length cd, .int .i64 t.su] _ (fun w h => (h.2).range 11 2 rfl) Tryz.underlying43 rfl (by kernel_rfl)
 simp only [Act.put, List.setIfInBounds_toArray, List.set_cons_zero, List.set_cons_succ]
 refine late_ready (i := 2) rfl (by kernel_rfl) (fun KK hKK => ?_)
 go_simp
 refine (T1.out _ (HR.out.q.below Bwd1)).mono ?_
 rintro e w1 ⟨u, rfl, oA, bb⟩
 have bz1 : Below w0.heap.size w0 w1:=bu bA bb
 refine hKK.out _ _ (fun _ _ => K.out _ bz1) ?_
 clear hKK KK bA
 have Bw1:=bu Bwd1 bb
 have sw1:=bb.size
 replace P:=P.up bb
 replace O:=O.up bb
 clear Bwd1 bb
 have toA:=World.ownsRow.lt oA
 obtain ⟨aoA, koA, rfl⟩:=oA.form
 refine late_pure (i := 6) (d := 9) (v := ?_) rfl rfl (by kernel_rfl) (by kernel_rfl) (by kernel_rfl) (fun _ _ _ h => h) (Or.inl ⟨by rfl, ?_⟩) ?_
 rotate_left
 ·intro w hSw
  try dsimp only at hSw
  go_simp
  try with_reducible rfl
 simp only [Act.put, List.setIfInBounds_toArray, List.set_cons_zero, List.set_cons_succ]
 refine late_ready (i := 5) rfl (by kernel_rfl) (fun KK hKK => ?_)
 go_simp
 refine (T2.out _ (HR.out.d.below Bw1)).mono ?_
 rintro e w2 ⟨u, rfl, oD, bb⟩
 have bz2 : Below w0.heap.size w0 w2:=bu bz1 bb
 refine hKK.out _ _ (fun _ _ => K.out _ bz2) ?_
 clear hKK KK bz1
 have Bw2:=bu Bw1 bb
 have sw2:=bb.size
 replace P:=P.up bb
 replace O:=O.up bb
 replace oA:=oA.below bb
 clear Bw1 bb
 have toD:=World.ownsRow.lt oD
 obtain ⟨aoD, koD, rfl⟩:=oD.form
 refine late_ready (i := 7) rfl (by kernel_rfl) (fun KK hKK => ?_)
 rw [if_pos (by rfl)]
 refine wp_store_mid 40 (.tmp 9) (.tmp 5) rfl (w.heap.size) 3 #[.int .i64 t.vo,.int .i64 t.lo,.int .i64 t.n,.string t.s,.slice aoA t.qw.length koA,.string t.d] rfl rfl (P.there 3 6 (by simp)) (by kernel_rfl) (by simp [Value.oneCell']) ?_
 refine hKK.out _ _ (fun h => absurd h (by decide)) ?_
 clear hKK KK
 obtain ⟨w3, hw3⟩ : ∃ y, w2.setCells (w.heap.size) 3 [.int .i64 t.vo, .int .i64 t.lo, .int .i64 t.n, .string t.s, .slice aoA t.qw.length koA, .string t.d] = y:=⟨_, rfl⟩
 rw [hw3]
 have kN : Kp w2 w3 (fun k => k = w.heap.size):=hw3 ▸ setCells_kp _ _ _ _
 replace P : Loc w3 (w.heap.size) #[.int .i64 t.id,.int .i64 t.vw,.int .i64 t.ak,.int .i64 t.vo,.int .i64 t.lo,.int .i64 t.n,.string t.s,.slice aoA t.qw.length koA,.string t.d,.slice bo t.pool.length cb,.slice co t.tab.length cc,.slice od t.dsk.length cd,.int .i64 t.su,.slice oe t.held.length ce]:=hw3 ▸ P.setCells _ _ rfl
 replace O:=O.kp kN (by omega)
 replace oA:=oA.kp kN (fun j hj e => by have:=toA j hj; omega)
 replace oD:=oD.kp kN (fun j hj e => by have:=toD j hj; omega)
 have Bw3:=Below.kp Bw2 kN Bw2.size (fun k hk => by omega)
 have sw3:=kN.size
 clear hw3 kN Bw2
 refine late_pure (i := 8) (d := 10) (v := ?_) rfl rfl (by kernel_rfl) (by kernel_rfl) (by kernel_rfl) (fun _ _ _ h => h) (Or.inl ⟨by rfl, ?_⟩) ?_
 rotate_left
 ·intro w hSw
  try dsimp only at hSw
  go_simp
  try with_reducible rfl
 simp only [Act.put, List.setIfInBounds_toArray, List.set_cons_zero, List.set_cons_succ]
 refine late_ready (i := 9) rfl (by kernel_rfl) (fun KK hKK => ?_)
 rw [if_pos (by rfl)]
 refine wp_store_mid 43 (.tmp 10) (.tmp 8) rfl (w.heap.size) 11 #[.slice aoD t.dsk.length koD,.int .i64 t.su] rfl rfl (P.there 11 2 (by simp)) (by kernel_rfl) (by simp [Value.oneCell']) ?_
 refine hKK.out _ _ (fun h => absurd h (by decide)) ?_
 clear hKK KK
 obtain ⟨w4, hw4⟩ : ∃ y, w3.setCells (w.heap.size) 11 [.slice aoD t.dsk.length koD, .int .i64 t.su] = y:=⟨_, rfl⟩
 rw [hw4]
 have kN : Kp w3 w4 (fun k => k = w.heap.size):=hw4 ▸ setCells_kp _ _ _ _
 replace P : Loc w4 (w.heap.size) #[.int .i64 t.id,.int .i64 t.vw,.int .i64 t.ak,.int .i64 t.vo,.int .i64 t.lo,.int .i64 t.n,.string t.s,.slice aoA t.qw.length koA,.string t.d,.slice bo t.pool.length cb,.slice co t.tab.length cc,.slice aoD t.dsk.length koD,.int .i64 t.su,.slice oe t.held.length ce]:=hw4 ▸ P.setCells _ _ rfl
 replace O:=O.kp kN (by omega)
 replace oA:=oA.kp kN (fun j hj e => by have:=toA j hj; omega)
 replace oD:=oD.kp kN (fun j hj e => by have:=toD j hj; omega)
 have Bw4:=Below.kp Bw3 kN Bw3.size (fun k hk => by omega)
 have sw4:=kN.size
 clear hw4 kN Bw3
 refine late_done (by kernel_rfl) ?_ _
 refine NoPanic.normal ?_
 clear K bz2
 have K:=kw (kL P)
 go_upto_region 2 with fail
 have bA : Below w4.heap.size w4 w4.drew:=Below.drew (Below.refl _ _)
 refine wp_region_noPanic ?_
 refine late_begin (S := fun w' => Below w4.heap.size w4 w' ∧ Loc w' (w.heap.size) #[.int .i64 t.id,.int .i64 t.vw,.int .i64 t.ak,.int .i64 t.vo,.int .i64 t.lo,.int .i64 t.n,.string t.s,.slice aoA t.qw.length koA,.string t.d,.slice bo t.pool.length cb,.slice co t.tab.length cc,.slice aoD t.dsk.length koD,.int .i64 t.su,.slice oe t.held.length ce]) (fun j => j == 10 || j == 12 || j == 14) (by kernel_rfl) ?_
 obtain ⟨wd2, hwd⟩ : ∃ y, w4.drew = y:=⟨_, rfl⟩
 rw [hwd] at bA ⊢
 clear hwd
 have bb:=bA
 have Bwd2:=bu Bw4 bb
 have swd2:=bb.size
 replace P:=P.up bb
 replace O:=O.up bb
 replace oA:=oA.below bb
 replace oD:=oD.below bb
 clear Bw4 bb
 refine late_pure (i := 0) (d := 11) (v := ?_) rfl rfl (by kernel_rfl) (by kernel_rfl) (by kernel_rfl) (fun _ _ _ h => h) (Or.inl ⟨by rfl, ?_⟩) ?_
 rotate_left
 ·intro w hSw
  try dsimp only at hSw
  go_simp
  try with_reducible rfl
 simp only [Act.put, List.setIfInBounds_toArray, List.set_cons_zero, List.set_cons_succ]
 refine late_pure (i := 3) (d := 14) (v := ?_) rfl rfl (by kernel_rfl) (by kernel_rfl) (by kernel_rfl) (fun _ _ _ h => h) (Or.inl ⟨by rfl, ?_⟩) ?_
 rotate_left
 ·intro w hSw
  try dsimp only at hSw
  go_simp
  try with_reducible rfl
 simp only [Act.put, List.setIfInBounds_toArray, List.set_cons_zero, List.set_cons_succ]
 refine late_pure (i := 6) (d := 17) (v := ?_) rfl rfl (by kernel_rfl) (by kernel_rfl) (by kernel_rfl) (fun _ _ _ h => h) (Or.inl ⟨by rfl, ?_⟩) ?_
 rotate_left
 ·intro w hSw
  try dsimp only at hSw
  go_simp
  try with_reducible rfl
 simp only [Act.put, List.setIfInBounds_toArray, List.set_cons_zero, List.set_cons_succ]
 refine late_take (i := 1) (d := 12) (v := ?_) rfl rfl (by kernel_rfl) (by kernel_rfl) (by kernel_rfl) (by kernel_rfl) (fun _ _ _ h => h) (Or.inl ⟨by rfl, ?_⟩) (K.out _ bA) ?_
 rotate_left
 ·intro w hSw
  try dsimp only at hSw
  have h:=hSw
  have hc9:=(h.2).cell 9 rfl
  clear h hSw
  go_simp
  try with_reducible rfl
 simp only [Act.put, List.setIfInBounds_toArray, List.set_cons_zero, List.set_cons_succ]
 refine late_take (i := 4) (d := 15) (v := ?_) rfl rfl (by kernel_rfl) (by kernel_rfl) (by kernel_rfl) (by kernel_rfl) (fun _ _ _ h => h) (Or.inl ⟨by rfl, ?_⟩) (K.out _ bA) ?_
 rotate_left
 ·intro w hSw
  try dsimp only at hSw
  have h:=hSw
  have hc10:=(h.2).cell 10 rfl
  clear h hSw
  go_simp
  try with_reducible rfl
 simp only [Act.put, List.setIfInBounds_toArray, List.set_cons_zero, List.set_cons_succ]
 refine late_take (i := 7) (d := 18) (v := ?_) rfl rfl (by kernel_rfl) (by kernel_rfl) (by kernel_rfl) (by kernel_rfl) (fun _ _ _ h => h) (Or.inl ⟨by rfl, ?_⟩) (K.out _ bA) ?_
 rotate_left
 ·intro w hSw
  try dsimp only at hSw
  have h:=hSw
  have hc13:=(h.2).cell 13 rfl
  clear h hSw
  go_simp
  try with_reducible rfl
 simp only [Act.put, List.setIfInBounds_toArray, List.set_cons_zero, List.set_cons_succ]
 refine late_ready (i := 2) rfl (by kernel_rfl) (fun KK hKK => ?_)
 refine step_append_txs rfl (.const (.slice none 0 0)) (.tmp 12) rfl w4.heap.size (.slice none 0 0) (.slice bo t.pool.length cb) [] (t.pool) rfl rfl (World.ownsRow_nil _ _ _ _) ((RT.below HR.out.p Bwd2).pt) (by simp; omega) bA.size ?_
 intro u w5 oB g7 _
 have bb : Below wd2.heap.size wd2 w5:=(Below.refl _ _).grown g7 (Nat.le_refl _) (fun j hj => by simp [Value.ownBlock] at hj)
 rw [List.nil_append] at oB
 have bz1 : Below w4.heap.size w4 w5:=bu bA bb
 refine hKK.out _ _ (fun _ _ => K.out _ bz1) ?_
 clear hKK KK g7 bA
 simp only [Act.put, List.setIfInBounds_toArray, List.set_cons_zero, List.set_cons_succ]
 have Bw5:=bu Bwd2 bb
 have sw5:=bb.size
 replace P:=P.up bb
 replace O:=O.up bb
 replace oA:=oA.below bb
 replace oD:=oD.below bb
 clear Bwd2 bb
 obtain ⟨aoB, koB, rfl⟩:=OT.form1 oB
 have toB:=World.ownsRow.lt oB
 refine late_pure (i := 9) (d := 20) (v := ?_) rfl rfl (by kernel_rfl) (by kernel_rfl) (by kernel_rfl) (fun _ _ _ h => h) (Or.inl ⟨by rfl, ?_⟩) ?_
 rotate_left
 ·intro w hSw
  try dsimp only at hSw
  go_simp
  try with_reducible rfl
 simp only [Act.put, List.setIfInBounds_toArray, List.set_cons_zero, List.set_cons_succ]
 refine late_ready (i := 5) rfl (by kernel_rfl) (fun KK hKK => ?_)
 go_simp
 refine (T3.out _ _ (HR.out.tb.below Bw5)).mono ?_
 rintro e w6 ⟨u, rfl, oC, bb⟩
 have bz2 : Below w4.heap.size w4 w6:=bu bz1 bb
 refine hKK.out _ _ (fun _ _ => K.out _ bz2) ?_
 clear hKK KK bz1
 have Bw6:=bu Bw5 bb
 have sw6:=bb.size
 replace P:=P.up bb
 replace O:=O.up bb
 replace oA:=oA.below bb
 replace oD:=oD.below bb
 replace oB:=oB.below bb
 clear Bw5 bb
 obtain ⟨vsC, oC⟩:=oC
 obtain ⟨aoC, koC, rfl⟩:=OPt.form ⟨vsC, oC⟩
 obtain ⟨m1, hm1⟩ : ∃ m, w6.heap.size = m:=⟨_, rfl⟩
 have oC:=OPtV.opr oC
 rw [hm1] at oC
 have hm2:=Nat.le_of_eq hm1
 have hm3:=Nat.le_of_eq hm1.symm
 clear hm1
 refine late_ready (i := 8) rfl (by kernel_rfl) (fun KK hKK => ?_)
 go_simp
 refine (T4_.out _ _ (HR.out.h.below Bw6)).mono ?_
 rintro e w7 ⟨u, rfl, oE, bb⟩
 have bz3 : Below w4.heap.size w4 w7:=bu bz2 bb
 refine hKK.out _ _ (fun _ _ => K.out _ bz3) ?_
 clear hKK KK bz2
 have Bw7:=bu Bw6 bb
 have sw7:=bb.size
 replace P:=P.up bb
 replace O:=O.up bb
 replace oA:=oA.below bb
 replace oD:=oD.below bb
 replace oB:=oB.below bb
 clear Bw6
 replace oC:=oC.below bb
 clear bb
 obtain ⟨aoE, koE, rfl⟩:=oE.form
 obtain ⟨m5, hm5⟩ : ∃ m, w7.heap.size = m:=⟨_, rfl⟩
 rw [hm5] at oE
 have hm6:=Nat.le_of_eq hm5
 have hm7:=Nat.le_of_eq hm5.symm
 clear hm5
 refine late_ready (i := 10) rfl (by kernel_rfl) (fun KK hKK => ?_)
 have q0:=P.cell 9 rfl
 have FG:=P.frozen
 go_simp
 refine hKK.out _ _ (fun h => absurd h (by decide)) ?_
 clear hKK KK q0 FG
 obtain ⟨w8, hw8⟩ : ∃ y, w7.setCell ⟨w.heap.size, 9, none⟩ (.slice aoB t.pool.length koB) = y:=⟨_, rfl⟩
 rw [hw8]
 have kN : Kp w7 w8 (fun k => k = w.heap.size):=hw8 ▸ set_kp _ _ _ _
 replace P : Loc w8 (w.heap.size) #[.int .i64 t.id,.int .i64 t.vw,.int .i64 t.ak,.int .i64 t.vo,.int .i64 t.lo,.int .i64 t.n,.string t.s,.slice aoA t.qw.length koA,.string t.d,.slice aoB t.pool.length koB,.slice co t.tab.length cc,.slice aoD t.dsk.length koD,.int .i64 t.su,.slice oe t.held.length ce]:=hw8 ▸ P.set 9 _ rfl
 replace O:=O.kp kN (by omega)
 replace oA:=oA.kp kN (fun j hj e => by have:=toA j hj; omega)
 replace oD:=oD.kp kN (fun j hj e => by have:=toD j hj; omega)
 replace oB:=oB.kp kN (fun j hj e => by have:=toB j hj; omega)
 replace oC:=oC.kp kN (fun j h1 h2 e => by omega)
 replace oE:=oE.kp kN (fun j h1 h2 e => by omega)
 have Bw8:=Below.kp Bw7 kN Bw7.size (fun k hk => by omega)
 have sw8:=kN.size
 clear hw8 kN Bw7
 refine late_pure (i := 11) (d := 21) (v := ?_) rfl rfl (by kernel_rfl) (by kernel_rfl) (by kernel_rfl) (fun _ _ _ h => h) (Or.inl ⟨by rfl, ?_⟩) ?_
 rotate_left
 ·intro w hSw
  try dsimp only at hSw
  go_simp
  try with_reducible rfl
 simp only [Act.put, List.setIfInBounds_toArray, List.set_cons_zero, List.set_cons_succ]
 refine late_ready (i := 12) rfl (by kernel_rfl) (fun KK hKK => ?_)
 have q0:=P.cell 10 rfl
 have FG:=P.frozen
 go_simp
 refine hKK.out _ _ (fun h => absurd h (by decide)) ?_
 clear hKK KK q0 FG
 obtain ⟨w9, hw9⟩ : ∃ y, w8.setCell ⟨w.heap.size, 10, none⟩ (.slice aoC t.tab.length koC) = y:=⟨_, rfl⟩
 rw [hw9]
 have kN : Kp w8 w9 (fun k => k = w.heap.size):=hw9 ▸ set_kp _ _ _ _
 replace P : Loc w9 (w.heap.size) #[.int .i64 t.id,.int .i64 t.vw,.int .i64 t.ak,.int .i64 t.vo,.int .i64 t.lo,.int .i64 t.n,.string t.s,.slice aoA t.qw.length koA,.string t.d,.slice aoB t.pool.length koB,.slice aoC t.tab.length koC,.slice aoD t.dsk.length koD,.int .i64 t.su,.slice oe t.held.length ce]:=hw9 ▸ P.set 10 _ rfl
 replace O:=O.kp kN (by omega)
 replace oA:=oA.kp kN (fun j hj e => by have:=toA j hj; omega)
 replace oD:=oD.kp kN (fun j hj e => by have:=toD j hj; omega)
 replace oB:=oB.kp kN (fun j hj e => by have:=toB j hj; omega)
 replace oC:=oC.kp kN (fun j h1 h2 e => by omega)
 replace oE:=oE.kp kN (fun j h1 h2 e => by omega)
 have Bw9:=Below.kp Bw8 kN Bw8.size (fun k hk => by omega)
 have sw9:=kN.size
 clear hw9 kN Bw8
 refine late_pure (i := 13) (d := 22) (v := ?_) rfl rfl (by kernel_rfl) (by kernel_rfl) (by kernel_rfl) (fun _ _ _ h => h) (Or.inl ⟨by rfl, ?_⟩) ?_
 rotate_left
 ·intro w hSw
  try dsimp only at hSw
  go_simp
  try with_reducible rfl
 simp only [Act.put, List.setIfInBounds_toArray, List.set_cons_zero, List.set_cons_succ]
 refine late_ready (i := 14) rfl (by kernel_rfl) (fun KK hKK => ?_)
 have q0:=P.cell 13 rfl
 have FG:=P.frozen
 go_simp
 refine hKK.out _ _ (fun h => absurd h (by decide)) ?_
 clear hKK KK q0 FG
 obtain ⟨w10, hw10⟩ : ∃ y, w9.setCell ⟨w.heap.size, 13, none⟩ (.slice aoE t.held.length koE) = y:=⟨_, rfl⟩
 rw [hw10]
 have kN : Kp w9 w10 (fun k => k = w.heap.size):=hw10 ▸ set_kp _ _ _ _
 replace P : Loc w10 (w.heap.size) #[.int .i64 t.id,.int .i64 t.vw,.int .i64 t.ak,.int .i64 t.vo,.int .i64 t.lo,.int .i64 t.n,.string t.s,.slice aoA t.qw.length koA,.string t.d,.slice aoB t.pool.length koB,.slice aoC t.tab.length koC,.slice aoD t.dsk.length koD,.int .i64 t.su,.slice aoE t.held.length koE]:=hw10 ▸ P.set 13 _ rfl
 replace O:=O.kp kN (by omega)
 replace oA:=oA.kp kN (fun j hj e => by have:=toA j hj; omega)
 replace oD:=oD.kp kN (fun j hj e => by have:=toD j hj; omega)
 replace oB:=oB.kp kN (fun j hj e => by have:=toB j hj; omega)
 replace oC:=oC.kp kN (fun j h1 h2 e => by omega)
 replace oE:=oE.kp kN (fun j h1 h2 e => by omega)
 have Bw10:=Below.kp Bw9 kN Bw9.size (fun k hk => by omega)
 have sw10:=kN.size
 clear hw10 kN Bw9
 refine late_done (by kernel_rfl) ?_ _
 refine NoPanic.normal ?_
 clear K bz3
 go_wp2_with (first | (refine wload P 46 _ rfl _ rfl rfl Tryz.underlying46 rfl (by kernel_rfl) ?_) | (refine wstore O 46 #[.int .i64 t.id,.int .i64 t.vw,.int .i64 t.ak,.int .i64 t.vo,.int .i64 t.lo,.int .i64 t.n,.string t.s,.slice aoA t.qw.length koA,.string t.d,.slice aoB t.pool.length koB,.slice aoC t.tab.length koC,.slice aoD t.dsk.length koD,.int .i64 t.su,.slice aoE t.held.length koE] rfl _ _ rfl rfl rfl (by kernel_rfl) rfl (by simp [Value.oneCell']) ?_))
 obtain ⟨wE, hwE⟩ : ∃ w9_, w10.setRow (w.heap.size + 1) #[.int .i64 t.id,.int .i64 t.vw,.int .i64 t.ak,.int .i64 t.vo,.int .i64 t.lo,.int .i64 t.n,.string t.s,.slice aoA t.qw.length koA,.string t.d,.slice aoB t.pool.length koB,.slice aoC t.tab.length koC,.slice aoD t.dsk.length koD,.int .i64 t.su,.slice aoE t.held.length koE] = w9_:=⟨_, rfl⟩
 have kN : Kp w10 wE (fun k => k = w.heap.size + 1):=hwE ▸ row_kp _ _ _
 replace O : Loc wE (w.heap.size + 1) #[.int .i64 t.id,.int .i64 t.vw,.int .i64 t.ak,.int .i64 t.vo,.int .i64 t.lo,.int .i64 t.n,.string t.s,.slice aoA t.qw.length koA,.string t.d,.slice aoB t.pool.length koB,.slice aoC t.tab.length koC,.slice aoD t.dsk.length koD,.int .i64 t.su,.slice aoE t.held.length koE]:=hwE ▸ O.row
 replace P:=P.kp kN (by omega)
 replace oA:=oA.kp kN (fun j hj e => by have:=toA j hj; omega)
 replace oD:=oD.kp kN (fun j hj e => by have:=toD j hj; omega)
 replace oB:=oB.kp kN (fun j hj e => by have:=toB j hj; omega)
 replace oC:=oC.kp kN (fun j h1 h2 e => by omega)
 replace oE:=oE.kp kN (fun j h1 h2 e => by omega)
 have BwE:=Below.kp Bw10 kN Bw10.size (fun k hk => by omega)
 have swE:=kN.size
 rw [hwE]
 clear hwE kN Bw10
 refine bodyPost_ret (v := rpv t (.slice aoA t.qw.length koA) (.slice aoB t.pool.length koB) (.slice aoC t.tab.length koC) (.slice aoD t.dsk.length koD) (.slice aoE t.held.length koE)) (res_row Tryz.results43 _ O rfl Tryz.underlying46 rfl (by kernel_rfl)) rfl ?_
 exact ⟨_, _, _, _, _, rfl, ⟨w1.heap.size, w4.heap.size, w5.heap.size, m1, w1.heap.size, w2.heap.size, w6.heap.size, vsC, by omega, ⟨oA.mono (by omega), fun j hj => (toA j hj).2⟩, ⟨oB, fun j hj => (toB j hj).2⟩, oC, ⟨oD.mono (by omega), fun j hj => (toD j hj).2⟩, oE.mono (by omega) (by omega)⟩, BwE⟩
end
section
open Go.RowKit
theorem told_new (g : Nat) (ao : Option Addr) (n ca : Nat) (s : Int) (xs : List Int) (w : World) (h : Loc w g (drv 0 (.slice ao n ca) s 0)) (hr : RF w g (.slice ao n ca) xs) :
 Calls Tryz.prog 111 #[.pointer (some ⟨g, 0, none⟩)] w fun e w' => ∃ u, e = .returned (dv u s) ∧ OB w' w.heap.size u xs ∧ Kp w w' (fun k => k = g) := by
 obtain ⟨w0, hw0⟩ : ∃ y, w.alloc (.cells #[.slice none 0 0,.int .i64 0] 43) = y:=⟨_, rfl⟩
 have b0 : Below w.heap.size w w0:=hw0 ▸ qalloc _ _
 have R0 : Loc w0 w.heap.size #[.slice none 0 0,.int .i64 0]:=hw0 ▸ loc_at w _ _ rfl
 have LK:=hide (lockL g (.slice ao n ca) s 0 w0 (h.up b0))
 have r0:=hr.below b0
 have hl:=hr.1
 have lgw:=h.lt
 have hn : xs.length = n:=by obtain ⟨_, _, _, e, _⟩:=hr; injection e with _ e2 _; exact e2.symm
 have HN:=hide hn
 clear h hr
 have hRg : w.heap.size ≠ g:=by omega
 go_enter_defers Tryz.func111, Tryz.ntmps111
 go_wp2_with fail
 clear hw0
 refine LK.out.mono ?_
 rintro e w1 ⟨rfl, L1, k1⟩
 have R1:=(r0.kp k1).rb
 rw [← hn] at R1
 have DT:=hide (dtold_any ao ca s xs w1 (by omega) R1)
 rw [hn] at DT
 replace R0:=R0.kp k1 (by omega)
 have K1 : Kp w w1 (fun k => k = g):=(Below.kpOf b0 _).trans k1
 have z1 : w.heap.size < w1.heap.size:=R0.lt
 have hg1:=L1.lt
 clear b0 k1 r0 LK R1
 have c2:=L1.cell 2 rfl
 have c3:=L1.cell 3 rfl
 go_wp2_with fail
 refine DT.out.mono ?_
 rintro e w2 ⟨u, rfl, O2, bb⟩
 clear c2 c3 DT
 have L2:=L1.up bb
 have R2:=R0.up bb
 have K2:=K1.trans (Below.kpOf bb _)
 have s2:=bb.size
 clear L1 R0 K1 bb
 have lt2:=World.ownsRow.lt O2
 obtain ⟨ua, uc, rfl⟩:=O2.form
 rw [hn] at O2 lt2 ⊢
 go_upto_region 4 with (refine wstore (loc_at w2 #[.slice none 0 0,.int .i64 0] 43 rfl) 43 #[.slice ua n uc,.int .i64 s] rfl _ _ rfl rfl rfl (by kernel_rfl) rfl (by simp [Value.oneCell']) ?_)
 obtain ⟨w5, h5⟩ : ∃ y, (w2.alloc (.cells #[.slice none 0 0,.int .i64 0] 43)).setRow w2.heap.size #[.slice ua n uc,.int .i64 s] = y:=⟨_, rfl⟩
 rw [h5]
 have bs : Below w2.heap.size w2 w5:=h5 ▸ box_below _ _ _ _
 have L5 : Loc w5 w2.heap.size #[.slice ua n uc,.int .i64 s]:=h5 ▸ box_loc _ _ _ _
 clear h5
 have O5:=O2.below bs
 have hu5 : ∀ j, (Value.slice ua n uc).ownBlock = some j → j ≠ w2.heap.size:=fun j hj => Nat.ne_of_lt (lt2 j hj).2
 have L5g:=L2.up bs
 have R5:=R2.up bs
 have K5:=K2.trans (Below.kpOf bs _)
 have s5:=bs.size
 have hg2:=L2.lt
 have hr2:=R2.lt
 clear L2 R2 K2 bs O2 lt2
 have LD:=hide (atomicLoad g 4 0 w5 (L5g.cell 4 rfl))
 go_wp2_with fail
 refine LD.out.mono ?_
 rintro e w6 ⟨rfl, rfl⟩
 clear LD
 have y0:=L5.cell 0 rfl
 have y1:=L5.cell 1 rfl
 have fy:=L5.frozen
 have r0:=R5.cell 0 rfl
 have r1:=R5.cell 1 rfl
 have fr:=R5.frozen
 go_wp2
 obtain ⟨w7, hw7⟩ : ∃ y, (w6.setCell ⟨w.heap.size, 0, none⟩ (.slice ua n uc)).setCell ⟨w.heap.size, 1, none⟩ (.int .i64 s) = y:=⟨_, rfl⟩
 have k7 : Kp w6 w7 (fun k => k = w.heap.size ∨ k = w2.heap.size):=hw7 ▸ ((set_kp _ _ _ _).mono (fun k e => Or.inl e)).trans ((set_kp _ _ _ _).mono (fun k e => Or.inl e))
 have L7 : Loc w7 g (drv 1 (.slice ao n ca) s 0):=hw7 ▸ (L5g.other (p:=⟨w.heap.size, 0, none⟩) (by simpa using hRg.symm) _).other (p:=⟨w.heap.size, 1, none⟩) (by simpa using hRg.symm) _
 have R7 : Loc w7 w.heap.size #[.slice ua n uc,.int .i64 s]:=hw7 ▸ (R5.set 0 _ rfl).set 1 _ rfl
 have lt5:=World.ownsRow.lt O5
 have O7 : OB w7 w1.heap.size (.slice ua n uc) xs:=O5.kp k7 (fun j hj e => e.elim (fun e => by have:=(lt5 j hj).1; omega) (fun e => hu5 j hj e))
 have lt7:=World.ownsRow.lt O7
 have K7 : Kp w w7 (fun k => k = g):=⟨k7.os.trans K5.os, k7.tape.trans K5.tape, k7.output.trans K5.output, Nat.le_trans K5.size k7.size, fun j hj hx => (k7.block j (Nat.lt_of_lt_of_le hj K5.size) (fun e => by rcases e with e | e <;> omega)).trans (K5.block j hj hx)⟩
 rw [hw7]
 clear hw7 k7 O5 K5 R5 L5g L5 y0 y1 fy r0 r1 fr lt5
 refine leaves_cons (f := 152) (args := #[.pointer (some ⟨g, 0, none⟩)]) (by simp) (by simp [go_sem]) ?_
 refine (unlockL g (.slice ao n ca) s 0 .returning _ L7).mono ?_
 rintro e u' w8 ⟨rfl, rfl, L8, k8⟩
 have R8:=R7.kp k8 hRg
 have r0:=R8.cell 0 rfl
 have r1:=R8.cell 1 rfl
 refine ⟨dv (.slice ua n uc) s, by simp [results, Tryz.results111, go_sem, r0, r1], _, rfl, (O7.kp k8 (fun j hj e => by have := (lt7 j hj).1; omega)).mono (by omega), K7.trans k8⟩

theorem told_sure (g : Nat) (ao : Option Addr) (n ca : Nat) (s : Int) (xs : List Int) (w : World) (h : Loc w g (drv 0 (.slice ao n ca) s 1)) (hr : RF w g (.slice ao n ca) xs) :
 Calls Tryz.prog 111 #[.pointer (some ⟨g, 0, none⟩)] w fun e w' => ∃ u, e = .returned (dv u (n : Int)) ∧ OB w' w.heap.size u xs ∧ Kp w w' (fun k => k = g) := by
 obtain ⟨w0, hw0⟩ : ∃ y, w.alloc (.cells #[.slice none 0 0,.int .i64 0] 43) = y:=⟨_, rfl⟩
 have b0 : Below w.heap.size w w0:=hw0 ▸ qalloc _ _
 have R0 : Loc w0 w.heap.size #[.slice none 0 0,.int .i64 0]:=hw0 ▸ loc_at w _ _ rfl
 have LK:=hide (lockL g (.slice ao n ca) s 1 w0 (h.up b0))
 have r0:=hr.below b0
 have hl:=hr.1
 have lgw:=h.lt
 have hn : xs.length = n:=by obtain ⟨_, _, _, e, _⟩:=hr; injection e with _ e2 _; exact e2.symm
 have HN:=hide hn
 clear h hr
 have hRg : w.heap.size ≠ g:=by omega
 go_enter_defers Tryz.func111, Tryz.ntmps111
 go_wp2_with fail
 clear hw0
 refine LK.out.mono ?_
 rintro e w1 ⟨rfl, L1, k1⟩
 have R1:=(r0.kp k1).rb
 rw [← hn] at R1
 have DT:=hide (dtold_any ao ca s xs w1 (by omega) R1)
 rw [hn] at DT
 replace R0:=R0.kp k1 (by omega)
 have K1 : Kp w w1 (fun k => k = g):=(Below.kpOf b0 _).trans k1
 have z1 : w.heap.size < w1.heap.size:=R0.lt
 have hg1:=L1.lt
 clear b0 k1 r0 LK R1
 have c2:=L1.cell 2 rfl
 have c3:=L1.cell 3 rfl
 go_wp2_with fail
 refine DT.out.mono ?_
 rintro e w2 ⟨u, rfl, O2, bb⟩
 clear c2 c3 DT
 have L2:=L1.up bb
 have R2:=R0.up bb
 have K2:=K1.trans (Below.kpOf bb _)
 have s2:=bb.size
 clear L1 R0 K1 bb
 have lt2:=World.ownsRow.lt O2
 obtain ⟨ua, uc, rfl⟩:=O2.form
 rw [hn] at O2 lt2 ⊢
 go_upto_region 4 with (refine wstore (loc_at w2 #[.slice none 0 0,.int .i64 0] 43 rfl) 43 #[.slice ua n uc,.int .i64 s] rfl _ _ rfl rfl rfl (by kernel_rfl) rfl (by simp [Value.oneCell']) ?_)
 obtain ⟨w5, h5⟩ : ∃ y, (w2.alloc (.cells #[.slice none 0 0,.int .i64 0] 43)).setRow w2.heap.size #[.slice ua n uc,.int .i64 s] = y:=⟨_, rfl⟩
 rw [h5]
 have bs : Below w2.heap.size w2 w5:=h5 ▸ box_below _ _ _ _
 have L5 : Loc w5 w2.heap.size #[.slice ua n uc,.int .i64 s]:=h5 ▸ box_loc _ _ _ _
 clear h5
 have O5:=O2.below bs
 have hu5 : ∀ j, (Value.slice ua n uc).ownBlock = some j → j ≠ w2.heap.size:=fun j hj => Nat.ne_of_lt (lt2 j hj).2
 have L5g:=L2.up bs
 have R5:=R2.up bs
 have K5:=K2.trans (Below.kpOf bs _)
 have s5:=bs.size
 have hg2:=L2.lt
 have hr2:=R2.lt
 clear L2 R2 K2 bs O2 lt2
 have LD:=hide (atomicLoad g 4 1 w5 (L5g.cell 4 rfl))
 go_wp2_with fail
 refine LD.out.mono ?_
 rintro e w6 ⟨rfl, rfl⟩
 clear LD
 have y0:=L5.cell 0 rfl
 have y1:=L5.cell 1 rfl
 have fy:=L5.frozen
 have r0:=R5.cell 0 rfl
 have r1:=R5.cell 1 rfl
 have fr:=R5.frozen
 go_wp2
 obtain ⟨w7, hw7⟩ : ∃ y, ((w6.setCell ⟨w2.heap.size, 1, none⟩ (.int .i64 (n : Int))).setCell ⟨w.heap.size, 0, none⟩ (.slice ua n uc)).setCell ⟨w.heap.size, 1, none⟩ (.int .i64 (n : Int)) = y:=⟨_, rfl⟩
 have k7 : Kp w6 w7 (fun k => k = w.heap.size ∨ k = w2.heap.size):=hw7 ▸ (((set_kp _ _ _ _).mono (fun k e => Or.inr e)).trans ((set_kp _ _ _ _).mono (fun k e => Or.inl e))).trans ((set_kp _ _ _ _).mono (fun k e => Or.inl e))
 have L7 : Loc w7 g (drv 1 (.slice ao n ca) s 1):=hw7 ▸ ((L5g.other (p:=⟨w2.heap.size, 1, none⟩) (by simp; omega) _).other (p:=⟨w.heap.size, 0, none⟩) (by simpa using hRg.symm) _).other (p:=⟨w.heap.size, 1, none⟩) (by simpa using hRg.symm) _
 have R7 : Loc w7 w.heap.size #[.slice ua n uc,.int .i64 (n : Int)]:=hw7 ▸ ((R5.other (p:=⟨w2.heap.size, 1, none⟩) (by simp; omega) _).set 0 _ rfl).set 1 _ rfl
 have lt5:=World.ownsRow.lt O5
 have O7 : OB w7 w1.heap.size (.slice ua n uc) xs:=O5.kp k7 (fun j hj e => e.elim (fun e => by have:=(lt5 j hj).1; omega) (fun e => hu5 j hj e))
 have lt7:=World.ownsRow.lt O7
 have K7 : Kp w w7 (fun k => k = g):=⟨k7.os.trans K5.os, k7.tape.trans K5.tape, k7.output.trans K5.output, Nat.le_trans K5.size k7.size, fun j hj hx => (k7.block j (Nat.lt_of_lt_of_le hj K5.size) (fun e => by rcases e with e | e <;> omega)).trans (K5.block j hj hx)⟩
 rw [hw7]
 clear hw7 k7 O5 K5 R5 L5g L5 y0 y1 fy r0 r1 fr lt5
 refine leaves_cons (f := 152) (args := #[.pointer (some ⟨g, 0, none⟩)]) (by simp) (by simp [go_sem]) ?_
 refine (unlockL g (.slice ao n ca) s 1 .returning _ L7).mono ?_
 rintro e u' w8 ⟨rfl, rfl, L8, k8⟩
 have R8:=R7.kp k8 hRg
 have r0:=R8.cell 0 rfl
 have r1:=R8.cell 1 rfl
 refine ⟨dv (.slice ua n uc) (n : Int), by simp [results, Tryz.results111, go_sem, r0, r1], _, rfl, (O7.kp k8 (fun j hj e => by have := (lt7 j hj).1; omega)).mono (by omega), K7.trans k8⟩
theorem rb_len {w : World} {ao : Option Addr} {n ca : Nat} {xs : List Int} (h : RB w (.slice ao n ca) xs) : n = xs.length ∧ n ≤ ca := by
 obtain ⟨_, a, c, e, hc, _⟩:=h
 injection e with e1 e2 e3
 subst e1 e2 e3
 exact ⟨rfl, hc.1⟩
theorem implSync_yes (ao : Option Addr) (n ca : Nat) (s : Int) (xs : List Int) (w : World) (hr : RB w (.slice ao n ca) xs) (hl : xs.length ≤ 1048576) (hd : dokB n s = true) :
 Calls Tryz.prog 45 #[dv (.slice ao n ca) s] w fun e w' => ∃ u, e = .returned (dv u (n : Int)) ∧ OB w' w.heap.size u (xs) ∧ Below w.heap.size w w' := by
 obtain ⟨hn, hca⟩:=rb_len hr
 have hna : n ≤ xs.length:=by omega
 have hnb : xs.length ≤ n:=by omega
 clear hn
 obtain ⟨w0, hw0⟩ : ∃ y, (((w.alloc (.cells #[.slice ao n ca,.int .i64 s] 43)).alloc (.cells #[.slice none 0 0,.int .i64 0] 43)).alloc (.cells (drv 0 (.slice ao n ca) s 0) 161)) = y:=⟨_, rfl⟩
 have b0 : Below w.heap.size w w0:=hw0 ▸ (((Below.refl w.heap.size w).alloc (Nat.le_refl _) _).alloc (by simp) _).alloc (by simp; omega) _
 have L0 : Loc w0 (w.heap.size + 1 + 1) (drv 0 (.slice ao n ca) s 0):=hw0 ▸ loc_at ((w.alloc _).alloc _) _ _ (by simp)
 have S0 : Loc w0 (w.heap.size + 1) #[.slice none 0 0,.int .i64 0]:=hw0 ▸ Loc.alloc (loc_at (w.alloc _) _ _ (by simp)) _
 have z0 : w.heap.size + 1 + 1 + 1 ≤ w0.heap.size:=hw0 ▸ (by simp)
 have R0 : RF w0 (w.heap.size + 1 + 1) (.slice ao n ca) xs:=(hr.rf (by omega) (by omega)).below b0
 have HW:=hide hw0
 clear hr hw0
 have C0:=hide (makeSure_yes (w.heap.size + 1 + 1) ao n ca s w0 L0 hd)
 go_enter Tryz.func45, Tryz.ntmps45
 go_wp2_with fail
 rw [HW.out]
 refine C0.out.mono ?_
 rintro e w1 ⟨rfl, L1, k1⟩
 have R1:=R0.kp k1
 have S1:=S0.kp k1 (by omega)
 have C1:=hide (told_sure (w.heap.size + 1 + 1) ao n ca s xs w1 L1 R1)
 go_wp2_with fail
 refine C1.out.mono ?_
 rintro e w2 ⟨u, rfl, o2, k2⟩
 have S2:=S1.kp k2 (by omega)
 have K:=((k1).trans k2)
 have zK:=K.size
 have lt2:=o2.lt
 have zz:=(k1).size
 obtain ⟨ua, uc, hu⟩:=o2.form
 have O:=hide o2
 clear o2
 subst hu
 have y0:=S2.cell 0 rfl
 have y1:=S2.cell 1 rfl
 have f0:=S2.frozen 0
 have f1:=S2.frozen 1
 clear C0 C1 HW R0 R1 L0 L1 S0 S1 S2 hd
 go_wp2
 refine bodyPost_ret (v := dv (.slice ua xs.length uc) (n : Int)) (by simp [results, Tryz.results45, go_sem, y0, y1]) rfl ?_
 have Q : Kp w2 ((w2.setCell ⟨w.heap.size + 1, 0, none⟩ (.slice ua xs.length uc)).setCell ⟨w.heap.size + 1, 1, none⟩ (.int .i64 (n : Int))) (fun k => k = w.heap.size + 1):=(set_kp _ _ _ _).trans (set_kp _ _ _ _)
 exact ⟨_, rfl, (O.out.kp Q (fun k hk => by have := lt2 k hk; omega)).mono (by omega), Below.kp (Below.kp b0 K b0.size (fun k hk => by omega)) Q (by omega) (fun k hk => by omega)⟩
theorem implSync_no (ao : Option Addr) (n ca : Nat) (s : Int) (xs : List Int) (w : World) (hr : RB w (.slice ao n ca) xs) (hl : xs.length ≤ 1048576) (hd : dokB n s = false) :
 Calls Tryz.prog 45 #[dv (.slice ao n ca) s] w fun e w' => ∃ u, e = .returned (dv u s) ∧ OB w' w.heap.size u (xs) ∧ Below w.heap.size w w' := by
 obtain ⟨hn, hca⟩:=rb_len hr
 have hna : n ≤ xs.length:=by omega
 have hnb : xs.length ≤ n:=by omega
 clear hn
 obtain ⟨w0, hw0⟩ : ∃ y, (((w.alloc (.cells #[.slice ao n ca,.int .i64 s] 43)).alloc (.cells #[.slice none 0 0,.int .i64 0] 43)).alloc (.cells (drv 0 (.slice ao n ca) s 0) 161)) = y:=⟨_, rfl⟩
 have b0 : Below w.heap.size w w0:=hw0 ▸ (((Below.refl w.heap.size w).alloc (Nat.le_refl _) _).alloc (by simp) _).alloc (by simp; omega) _
 have L0 : Loc w0 (w.heap.size + 1 + 1) (drv 0 (.slice ao n ca) s 0):=hw0 ▸ loc_at ((w.alloc _).alloc _) _ _ (by simp)
 have S0 : Loc w0 (w.heap.size + 1) #[.slice none 0 0,.int .i64 0]:=hw0 ▸ Loc.alloc (loc_at (w.alloc _) _ _ (by simp)) _
 have z0 : w.heap.size + 1 + 1 + 1 ≤ w0.heap.size:=hw0 ▸ (by simp)
 have R0 : RF w0 (w.heap.size + 1 + 1) (.slice ao n ca) xs:=(hr.rf (by omega) (by omega)).below b0
 have HW:=hide hw0
 clear hr hw0
 have C0:=hide (makeSure_no (w.heap.size + 1 + 1) ao n ca s w0 L0 hd)
 go_enter Tryz.func45, Tryz.ntmps45
 go_wp2_with fail
 rw [HW.out]
 refine C0.out.mono ?_
 rintro e w1 ⟨rfl, L1, k1⟩
 have R1:=R0.kp k1
 have S1:=S0.kp k1 (by omega)
 have C1:=hide (told_new (w.heap.size + 1 + 1) ao n ca s xs w1 L1 R1)
 go_wp2_with fail
 refine C1.out.mono ?_
 rintro e w2 ⟨u, rfl, o2, k2⟩
 have S2:=S1.kp k2 (by omega)
 have K:=((k1).trans k2)
 have zK:=K.size
 have lt2:=o2.lt
 have zz:=(k1).size
 obtain ⟨ua, uc, hu⟩:=o2.form
 have O:=hide o2
 clear o2
 subst hu
 have y0:=S2.cell 0 rfl
 have y1:=S2.cell 1 rfl
 have f0:=S2.frozen 0
 have f1:=S2.frozen 1
 clear C0 C1 HW R0 R1 L0 L1 S0 S1 S2 hd
 go_wp2
 refine bodyPost_ret (v := dv (.slice ua xs.length uc) s) (by simp [results, Tryz.results45, go_sem, y0, y1]) rfl ?_
 have Q : Kp w2 ((w2.setCell ⟨w.heap.size + 1, 0, none⟩ (.slice ua xs.length uc)).setCell ⟨w.heap.size + 1, 1, none⟩ (.int .i64 s)) (fun k => k = w.heap.size + 1):=(set_kp _ _ _ _).trans (set_kp _ _ _ _)
 exact ⟨_, rfl, (O.out.kp Q (fun k hk => by have := lt2 k hk; omega)).mono (by omega), Below.kp (Below.kp b0 K b0.size (fun k hk => by omega)) Q (by omega) (fun k hk => by omega)⟩
end
end Go.Proofs.YtjdchloechcclaaGreatDoor
