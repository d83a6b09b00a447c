/- Lemmas, as stated. -/
import Derived.Test.YtjdchloechcclaaGreatDoorSNBK
set_option maxRecDepth 100000
set_option maxHeartbeats 16000000
set_option linter.unusedSectionVars false
set_option linter.unusedSimpArgs false
namespace Go.Proofs.YtjdchloechcclaaGreatDoor
section
open Go.RowKit
variable [∀ (a b c d : Int), Decidable (Ok4 a b c d)]
variable [∀ (n f : Int), Decidable (COk n f)]
variable [∀ (a b c d : Nat), Decidable (okN a b c d)]
variable [∀ (x : T4), Decidable (OkT x)]
theorem rep_small {t : RpT} {rs : List Pr} (ht : t.tab = rs.map prp) (g : (t.s.size : Int) + t.qw.length + t.d.size + t.pool.length + rs.length + psum rs + t.dsk.length + t.held.length + posum t.held ≤ 1048576) : RSm t ∧ (t.s.size ≤ 1048576 ∧ t.d.size ≤ 1048576) ∧ (∀ p ∈ t.tab, p.2.1.size ≤ 1048576 ∧ p.2.2.length ≤ 1048576) ∧ ∀ j, j < t.held.length → msz (t.held.getD j zpost).2 ≤ 1048576 := by
 have hl : t.tab.length = rs.length:=by rw [ht]; simp
 have h1 : ∀ p ∈ t.tab, p.2.1.size ≤ 1048576 ∧ p.2.2.length ≤ 1048576:=fun p hp => by
  have:=prp_mem (p:=p) (by rw [← ht]; exact hp); omega
 have h2 : ∀ j, j < t.held.length → msz (t.held.getD j zpost).2 ≤ 1048576:=fun j hj => by
  have:=posum_each (rs:=t.held) (r:=t.held.getD j zpost) (by rw [List.getD_eq_getElem?_getD, List.getElem?_eq_getElem hj]; exact List.getElem_mem hj)
  omega
 exact ⟨⟨by omega, by omega, by omega, by omega, by omega, fun p hp => by have := h1 p hp; omega, fun j hj => by have := h2 j hj; unfold msz at this; omega⟩, ⟨by omega, by omega⟩, h1, h2⟩
end
section
open Go.ChangeShapes Go.WideShapes Go.ChangeAt Go.RowKit
open Go.Joins
variable [∀ (a b c d : Int), Decidable (Ok4 a b c d)]
variable [∀ (n f : Int), Decidable (COk n f)]
theorem cellsSafe : Tryz.prog.cellsOf 28 = 6 := by kernel_rfl
theorem cellsD : Tryz.prog.cellsOf 33 = 2 := by kernel_rfl
def ABW (W : World) (ao : Option Addr) (ca : Nat) (zs : List Int) : Prop := zs.length ≤ ca ∧ ca ≤ maxLen ∧ (zs = [] ∨ ∃ b off, ao = some ⟨b, off, none⟩ ∧ ∀ k, k < zs.length → W.cell? ⟨b, off + k, none⟩ = some (.int .u8 (zs.getD k 0)))
theorem ABW.rb {W : World} {ao : Option Addr} {ca : Nat} {zs : List Int} (h : ABW W ao ca zs) (hl : zs.length ≤ 1048576) : RB W (.slice ao zs.length ca) zs := ⟨by omega, ao, ca, rfl, ⟨h.1, h.2.1⟩, h.2.2⟩
theorem open_byteW {H : Type} {enc : TypeId × Value → H} {W : World} {n : Nat} {c : Value} {y : DataW H × List MemPlace} (h : DataW.trod enc Tryz.prog W 0 (fun _ => true) true n 31 [c] = some y) :
 ∃ ao ca, ∃ zs : List Int, c = .slice ao zs.length ca ∧ zs.length ≤ maxLen ∧ ABW W ao ca zs ∧ ∀ k, k < zs.length → 0 ≤ zs.getD k 0 ∧ zs.getD k 0 ≤ 255 := by
 rcases open_ints Tryz.underlying31 Tryz.underlying5 (by kernel_rfl) h with ⟨hcs, _⟩ | ⟨x, len, cap, zs, hcs, _, hl, hm, hz, _, hcell, hwz⟩
 ·simp at hcs
  exact ⟨none, 0, [], hcs, by simp, ⟨by simp, by unfold maxLen; omega, .inl rfl⟩, fun k hk => by simp at hk⟩
 simp at hcs
 have hz' : zs.length = cap:=by simpa using hz
 have e : (zs.take len).length = len:=by simp; omega
 have hm' : cap ≤ maxLen:=by first | exact hm | omega
 refine ⟨some x, cap, zs.take len, by rw [hcs, e], by rw [e]; omega, ⟨by omega, hm', ?_⟩, ?_⟩
 ·by_cases h0 : len = 0
  ·left; simp [h0]
  right
  obtain ⟨b, off, spot⟩:=x
  have hc:=hcell 0 (by omega)
  have hspot : spot = none:=by simpa [Addr.add] using World.cell?_spot hc
  subst hspot
  refine ⟨b, off, rfl, fun k hk => ?_⟩
  rw [e] at hk
  have hk':=hcell k (by omega)
  rw [show ((⟨b, off, none⟩ : Addr).add k) = ⟨b, off + k, none⟩ from by unfold Addr.add; split <;> simp_all] at hk'
  rw [hk']
  simp [hk]
 intro k hk
 have hm2 : (zs.take len).getD k 0 ∈ zs:=by
  rw [List.getD_eq_getElem?_getD, List.getElem?_eq_getElem hk]
  exact List.mem_of_mem_take (List.getElem_mem hk)
 have:=bounds_u8 (hwz _ hm2)
 omega
end
section
open Go.ChangeShapes Go.WideShapes Go.ChangeAt Go.RowKit
open Go.Joins
variable [∀ (a b c d : Int), Decidable (Ok4 a b c d)]
variable [∀ (n f : Int), Decidable (COk n f)]
variable [∀ (a b c d : Nat), Decidable (okN a b c d)]
variable [∀ (x : T4), Decidable (OkT x)]
theorem cellsTx : Tryz.prog.cellsOf 61 = 4 := by kernel_rfl
theorem field_int {H : Type} {enc : TypeId × Value → H} {W : World} {n : Nat} {c : Value} {y : DataW H × List MemPlace} (h : DataW.trod enc Tryz.prog W 0 (fun _ => true) true n 3 [c] = some y) : ∃ a : Int, c = .int .i64 a := by
 obtain ⟨a, e0, _, _⟩:=DataW.trod_int Tryz.underlying3 h
 simp at e0
 exact ⟨a, e0⟩
theorem four_list {α : Type} {l : List α} (h : l.length = 4) : ∃ a b c d, l = [a, b, c, d] := by
 match l, h with
 | [a, b, c, d], _ => exact ⟨a, b, c, d, rfl⟩
theorem open_txs0 {H : Type} {enc : TypeId × Value → H} {W : World} {fuel : Nat} {a : Option Addr} {len cap : Nat} {x : DataW H × List MemPlace} (h : DataW.trod enc Tryz.prog W 0 (fun _ => true) true fuel 29 (Value.slice a len cap).cells.toList = some x) :
 ∃ xs : List T4, len = xs.length ∧ xs.length ≤ maxLen ∧ AR W a xs := by
 rcases Go.Deep.open_slice Tryz.underlying29 h with ⟨hcs, _⟩ | ⟨ad, l, c, m, n, D, Pl, hcs, _, hl, hm, hmm, _, hx⟩
 ·simp [Value.cells] at hcs
  obtain ⟨rfl, rfl, rfl⟩:=hcs
  exact ⟨[], rfl, by simp, .inl rfl⟩
 simp [Value.cells] at hcs
 obtain ⟨rfl, rfl, rfl⟩:=hcs
 have hm' : m = cap:=by simpa using hmm
 have each : ∀ i, ∃ q : T4, i < len → W.cell? (ad.add (i * 4)) = some (.int .i64 q.1) ∧ W.cell? (ad.add (i * 4 + 1)) = some (.int .i64 q.2.1) ∧ W.cell? (ad.add (i * 4 + 2)) = some (.int .i64 q.2.2.1) ∧ W.cell? (ad.add (i * 4 + 3)) = some (.int .i64 q.2.2.2):=by
  intro i
  by_cases hi : i < len
  ·obtain ⟨cs', h1, h2⟩:=hx i (by omega)
   rw [cellsTx] at h1
   obtain ⟨_, hlen, hcell⟩:=World.cells?_some h1
   obtain ⟨y0, y1, y2, y3, k, _, _, g0, g1, g2, g3⟩:=trod_struct4 Tryz.underlying61 h2
   obtain ⟨v0, v1, v2, v3, rfl⟩:=four_list hlen
   have e0:=hcell 0 (by omega)
   have e1:=hcell 1 (by omega)
   have e2:=hcell 2 (by omega)
   have e3:=hcell 3 (by omega)
   rw [Go.Deep.add_add] at e0 e1 e2 e3
   have ci : Tryz.prog.cellsOf 3 = 1:=by kernel_rfl
   simp [ci] at g0 g1 g2 g3
   obtain ⟨a0, rfl⟩:=field_int g0
   obtain ⟨a1, rfl⟩:=field_int g1
   obtain ⟨a2, rfl⟩:=field_int g2
   obtain ⟨a3, rfl⟩:=field_int g3
   exact ⟨(a0, a1, a2, a3), fun _ => ⟨by simpa using e0, by simpa using e1, by simpa using e2, by simpa using e3⟩⟩
  exact ⟨(0, 0, 0, 0), fun h => absurd h hi⟩
 obtain ⟨q, hq⟩:=Classical.axiomOfChoice each
 refine ⟨(List.range len).map q, by simp, by simp; omega, ?_⟩
 by_cases h0 : len = 0
 ·left; simp [h0]
 right
 obtain ⟨b, off, spot⟩:=ad
 have hc:=(hq 0 (by omega)).1
 have hspot : spot = none:=by simpa [Addr.add] using World.cell?_spot hc
 subst hspot
 refine ⟨b, off, rfl, fun k hk => ?_⟩
 rw [List.length_map, List.length_range] at hk
 have:=hq k hk
 have ea : ∀ j, ((⟨b, off, none⟩ : Addr).add j) = ⟨b, off + j, none⟩:=fun j => by unfold Addr.add; split <;> simp_all
 rw [ea, ea, ea, ea] at this
 have eg : ((List.range len).map q).getD k (0, 0, 0, 0) = q k:=by simp [hk]
 rw [eg]
 simpa [Nat.add_assoc] using this
end
section
open Go.ChangeShapes Go.WideShapes Go.ChangeAt Go.RowKit
open Go.Joins
variable [∀ (a b c d : Int), Decidable (Ok4 a b c d)]
variable [∀ (n f : Int), Decidable (COk n f)]
variable [∀ (a b c d : Nat), Decidable (okN a b c d)]
variable [∀ (x : T4), Decidable (OkT x)]
section
variable {H : Type} {enc : TypeId × Value → H} {P : Program} {w : World} {base : Nat} {spare : Bool}
theorem trod_struct8 {held : TypeId → Bool} {t : TypeId} {f0 f1 f2 f3 f4 f5 f6 f7 : Field} {fuel : Nat} {cs : List Value} {x : DataW H × List MemPlace} (ht : P.underlying t = some (.struct #[f0, f1, f2, f3, f4, f5, f6, f7])) (h : DataW.trod enc P w base held spare fuel t cs = some x) :
 ∃ y0 y1 y2 y3 y4 y5 y6 y7 n, DataW.trod enc P w base held spare n f0.type ((cs.drop f0.offset).take (P.cellsOf f0.type)) = some y0 ∧ DataW.trod enc P w base held spare n f1.type ((cs.drop f1.offset).take (P.cellsOf f1.type)) = some y1 ∧ DataW.trod enc P w base held spare n f2.type ((cs.drop f2.offset).take (P.cellsOf f2.type)) = some y2 ∧ DataW.trod enc P w base held spare n f3.type ((cs.drop f3.offset).take (P.cellsOf f3.type)) = some y3 ∧ DataW.trod enc P w base held spare n f4.type ((cs.drop f4.offset).take (P.cellsOf f4.type)) = some y4 ∧ DataW.trod enc P w base held spare n f5.type ((cs.drop f5.offset).take (P.cellsOf f5.type)) = some y5 ∧ DataW.trod enc P w base held spare n f6.type ((cs.drop f6.offset).take (P.cellsOf f6.type)) = some y6 ∧ DataW.trod enc P w base held spare n f7.type ((cs.drop f7.offset).take (P.cellsOf f7.type)) = some y7 := by
 obtain ⟨xs, n, _, rfl, hl, hlen, hf⟩:=DataW.trod_struct ht h
 match xs, hlen with
 | [y0, y1, y2, y3, y4, y5, y6, y7], _ => exact ⟨y0, y1, y2, y3, y4, y5, y6, y7, n, by simpa using hf 0 f0 rfl, by simpa using hf 1 f1 rfl, by simpa using hf 2 f2 rfl, by simpa using hf 3 f3 rfl, by simpa using hf 4 f4 rfl, by simpa using hf 5 f5 rfl, by simpa using hf 6 f6 rfl, by simpa using hf 7 f7 rfl⟩
end
theorem array14 {cs : Array Value} (h : cs.size = 14) : ∃ c0 c1 c2 c3 c4 c5 c6 c7 c8 c9 c10 c11 c12 c13, cs = #[c0, c1, c2, c3, c4, c5, c6, c7, c8, c9, c10, c11, c12, c13] := by
 obtain ⟨l⟩:=cs
 match l, h with
 | [c0, c1, c2, c3, c4, c5, c6, c7, c8, c9, c10, c11, c12, c13], _ => exact ⟨c0, c1, c2, c3, c4, c5, c6, c7, c8, c9, c10, c11, c12, c13, rfl⟩
theorem cellsRep : Tryz.prog.cellsOf 36 = 14 := by kernel_rfl
theorem cellsTxsL : Tryz.prog.cellsOf 29 = 1 := by kernel_rfl
theorem cellsPartsL : Tryz.prog.cellsOf 30 = 1 := by kernel_rfl
theorem cellsPostsL : Tryz.prog.cellsOf 34 = 1 := by kernel_rfl
theorem open_safe0 {H : Type} {enc : TypeId × Value → H} {W : World} {fuel : Nat} {c0 c1 c2 c3 c4 c5 : Value} {x : DataW H × List MemPlace} (hf : DataW.trod enc Tryz.prog W 0 (fun _ => true) true fuel 28 [c0, c1, c2, c3, c4, c5] = some x) :
 ∃ vo lo n s ao ca m, ∃ xs : List Int, [c0, c1, c2, c3, c4, c5] = [.int .i64 vo, .int .i64 lo, .int .i64 n, .string s, .slice ao xs.length ca, .string m] ∧ s.size ≤ maxLen ∧ xs.length ≤ maxLen ∧ m.size ≤ maxLen ∧ AIW W ao xs ∧ WfL xs := by
 obtain ⟨y0, y1, y2, y3, k, _, _, h0, h1, h2, h3⟩:=trod_struct4 Tryz.underlying28 hf
 have h0' : DataW.trod enc Tryz.prog W 0 (fun _ => true) true k 3 [c0] = some y0:=by simpa [cellsInt, cellsQc, cellsStr] using h0
 have h1' : DataW.trod enc Tryz.prog W 0 (fun _ => true) true k 3 [c1] = some y1:=by simpa [cellsInt, cellsQc, cellsStr] using h1
 have h2' : DataW.trod enc Tryz.prog W 0 (fun _ => true) true k 26 [c2, c3, c4] = some y2:=by simpa [cellsInt, cellsQc, cellsStr] using h2
 have h3' : DataW.trod enc Tryz.prog W 0 (fun _ => true) true k 9 [c5] = some y3:=by simpa [cellsInt, cellsQc, cellsStr] using h3
 obtain ⟨z0, z1, z2, j, _, _, g0, g1, g2⟩:=Go.Deep.trod_struct3 Tryz.underlying26 h2'
 have g0' : DataW.trod enc Tryz.prog W 0 (fun _ => true) true j 3 [c2] = some z0:=by simpa [cellsInt] using g0
 have g1' : DataW.trod enc Tryz.prog W 0 (fun _ => true) true j 9 [c3] = some z1:=by simpa [cellsStr] using g1
 have g2' : DataW.trod enc Tryz.prog W 0 (fun _ => true) true j 24 [c4] = some z2:=by simpa [cellsInts] using g2
 obtain ⟨a, e0, _, _⟩:=DataW.trod_int Tryz.underlying3 h0'
 obtain ⟨b, e1, _, _⟩:=DataW.trod_int Tryz.underlying3 h1'
 obtain ⟨n, e2, _, _⟩:=DataW.trod_int Tryz.underlying3 g0'
 obtain ⟨s, e3, _, hs⟩:=DataW.trod_string Tryz.underlying9 g1'
 obtain ⟨ao, ca, xs, rfl, hx, ax, wx⟩:=open_listW g2'
 obtain ⟨m, e5, _, hm⟩:=DataW.trod_string Tryz.underlying9 h3'
 simp at e0 e1 e2 e3 e5
 exact ⟨a, b, n, s, ao, ca, m, xs, by rw [e0, e1, e2, e3, e5], hs, hx, hm, ax, wx⟩
theorem slice_cell {H : Type} {enc : TypeId × Value → H} {P : Program} {W : World} {t e : TypeId} {fuel : Nat} {c : Value} {x : DataW H × List MemPlace} (ht : P.underlying t = some (.slice e)) (h : DataW.trod enc P W 0 (fun _ => true) true fuel t [c] = some x) : ∃ a l k, c = .slice a l k := by
 rcases Go.Deep.open_slice ht h with ⟨hcs, _⟩ | ⟨ad, l, k, m, n, D, Pl, hcs, _⟩
 ·exact ⟨_, _, _, by simpa using hcs⟩
 exact ⟨_, _, _, by simpa using hcs⟩
theorem open_rep {H : Type} {enc : TypeId × Value → H} {W : World} {base : Nat} {v : Value} {d : DataW H} {p : List MemPlace} (hv : Value.okWide Tryz.prog W .any base 36 v)
 (h : DataW.Trod enc Tryz.prog W 0 (fun _ => true) true 36 v d p) :
 ∃ (t : RpT) (ao bo co od oe : Option Addr) (ca cb cc cd ce : Nat) (rs : List Pr), t.tab = rs.map prp ∧ v = rpv t (.slice ao t.qw.length ca) (.slice bo t.pool.length cb) (.slice co rs.length cc) (.slice od t.dsk.length cd) (.slice oe t.held.length ce) ∧ RMx t rs ∧ AIW W ao t.qw ∧ WfL t.qw ∧ AR W bo t.pool ∧ ATab W co rs ∧ (∀ r ∈ rs, AIW W r.2.2.1 r.2.2.2.2 ∧ WfL r.2.2.2.2) ∧ (ABW W od cd t.dsk ∧ ∀ k, k < t.dsk.length → 0 ≤ t.dsk.getD k 0 ∧ t.dsk.getD k 0 ≤ 255) ∧ RG (RPoA t.held) 18 W (.slice oe t.held.length ce) t.held.length ∧ ∀ p ∈ t.held, (WfL p.2.bw ∧ WfL p.2.pw ∧ WfL p.2.qw) ∧ MI p.2 := by
 obtain ⟨cs, rfl, hsz⟩:=okWide_struct Tryz.underlying36 hv
 obtain ⟨c0, c1, c2, c3, c4, c5, c6, c7, c8, c9, c10, c11, c12, c13, rfl⟩:=array14 (hsz.trans cellsRep)
 obtain ⟨fuel, hf⟩:=h
 obtain ⟨y0, y1, y2, y3, y4, y5, y6, y7, k, h0, h1, h2, h3, h4, h5, h6, h7⟩:=trod_struct8 Tryz.underlying36 hf
 have g0 : DataW.trod enc Tryz.prog W 0 (fun _ => true) true k 3 [c0] = some y0:=by simpa [Value.cells, cellsInt, cellsStr, cellsSafe, cellsTxsL, cellsPartsL, cellsD, cellsPostsL] using h0
 have g1 : DataW.trod enc Tryz.prog W 0 (fun _ => true) true k 3 [c1] = some y1:=by simpa [Value.cells, cellsInt, cellsStr, cellsSafe, cellsTxsL, cellsPartsL, cellsD, cellsPostsL] using h1
 have g2 : DataW.trod enc Tryz.prog W 0 (fun _ => true) true k 3 [c2] = some y2:=by simpa [Value.cells, cellsInt, cellsStr, cellsSafe, cellsTxsL, cellsPartsL, cellsD, cellsPostsL] using h2
 have g3 : DataW.trod enc Tryz.prog W 0 (fun _ => true) true k 28 [c3, c4, c5, c6, c7, c8] = some y3:=by simpa [Value.cells, cellsInt, cellsStr, cellsSafe, cellsTxsL, cellsPartsL, cellsD, cellsPostsL] using h3
 have g4 : DataW.trod enc Tryz.prog W 0 (fun _ => true) true k 29 [c9] = some y4:=by simpa [Value.cells, cellsInt, cellsStr, cellsSafe, cellsTxsL, cellsPartsL, cellsD, cellsPostsL] using h4
 have g5 : DataW.trod enc Tryz.prog W 0 (fun _ => true) true k 30 [c10] = some y5:=by simpa [Value.cells, cellsInt, cellsStr, cellsSafe, cellsTxsL, cellsPartsL, cellsD, cellsPostsL] using h5
 have g6 : DataW.trod enc Tryz.prog W 0 (fun _ => true) true k 33 [c11, c12] = some y6:=by simpa [Value.cells, cellsInt, cellsStr, cellsSafe, cellsTxsL, cellsPartsL, cellsD, cellsPostsL] using h6
 have g7 : DataW.trod enc Tryz.prog W 0 (fun _ => true) true k 34 [c13] = some y7:=by simpa [Value.cells, cellsInt, cellsStr, cellsSafe, cellsTxsL, cellsPartsL, cellsD, cellsPostsL] using h7
 obtain ⟨id, e0, _, _⟩:=DataW.trod_int Tryz.underlying3 g0
 obtain ⟨vw, e1, _, _⟩:=DataW.trod_int Tryz.underlying3 g1
 obtain ⟨ak, e2, _, _⟩:=DataW.trod_int Tryz.underlying3 g2
 obtain ⟨vo, lo, n, s, ao, ca, m, qw, e3, l1, l2, l3, aq, fq⟩:=open_safe0 g3
 obtain ⟨bo, pl, cb, rfl⟩:=slice_cell Tryz.underlying29 g4
 obtain ⟨pool, rfl, l4, ap⟩:=open_txs0 (a:=bo) (len:=pl) (cap:=cb) g4
 obtain ⟨co, tl, cc, rfl⟩:=slice_cell Tryz.underlying30 g5
 obtain ⟨rs, rfl, l5, at_, he⟩:=open_parts0 (a:=co) (len:=tl) (cap:=cc) g5
 obtain ⟨z0, z1, kd, _, _, d0, d1⟩:=trod_struct2 Tryz.underlying33 g6
 have cB : Tryz.prog.cellsOf 31 = 1:=by kernel_rfl
 have d0' : DataW.trod enc Tryz.prog W 0 (fun _ => true) true kd 31 [c11] = some z0:=by simpa [cellsInt, cB] using d0
 have d1' : DataW.trod enc Tryz.prog W 0 (fun _ => true) true kd 3 [c12] = some z1:=by simpa [cellsInt, cB] using d1
 obtain ⟨od, cd, zs, rfl, l6, ad, fd⟩:=open_byteW d0'
 obtain ⟨su, e12, _, _⟩:=DataW.trod_int Tryz.underlying3 d1'
 obtain ⟨oe, hl, ce, rfl⟩:=slice_cell Tryz.underlying34 g7
 obtain ⟨ps, rfl, l7, ah, hp⟩:=open_posts0 (a:=oe) (len:=hl) (cap:=ce) g7
 simp at e0 e1 e2 e3 e12
 obtain ⟨e3, e4, e5, e6, e7, e8⟩:=e3
 exact ⟨⟨id, vw, ak, vo, lo, n, s, qw, m, pool, rs.map prp, zs, su, ps⟩, ao, bo, co, od, oe, ca, cb, cc, cd, ce, rs, rfl, by rw [e0, e1, e2, e3, e4, e5, e6, e7, e8, e12], ⟨l1, l2, l3, l4, l5, fun r hr => ⟨(he r hr).1, (he r hr).2.1⟩, l6, l7, fun p hp' => (hp p hp').1⟩, aq, fq, ap, at_, fun r hr => (he r hr).2.2, ⟨ad, fd⟩, ah, fun p hp' => (hp p hp').2⟩
end
section
open Go Go.RowKit
variable [∀ (a b c d : Int), Decidable (Ok4 a b c d)]
variable [∀ (n f : Int), Decidable (COk n f)]
variable [∀ (a b c d : Nat), Decidable (okN a b c d)]
variable [∀ (x : T4), Decidable (OkT x)]
variable [∀ (last : Int) (s : St), Decidable (GoodSt last s)]
variable [∀ (n : Int) (s : List Int), Decidable (OkL n s)]
variable [∀ (x y : T4), Decidable (Bef x y)]
variable [∀ (ts : List T4), Decidable (Asc ts)]
variable [∀ (ts : List T4), Decidable (AllOk ts)]
variable [∀ (ts : List T4), Decidable (POk ts)]
theorem rep_came {W : World} {t : RpT} {ao bo co od oe : Option Addr} {ca cc cd ce : Nat} {rs : List Pr} (ht : t.tab = rs.map prp) (g : (t.s.size : Int) + t.qw.length + t.d.size + t.pool.length + rs.length + psum rs + t.dsk.length + t.held.length + posum t.held ≤ 1048576) (aq : AIW W ao t.qw) (ap : AR W bo t.pool) (at_ : ATab W co rs) (he : ∀ r ∈ rs, AIW W r.2.2.1 r.2.2.2.2 ∧ WfL r.2.2.2.2) (ad : ABW W od cd t.dsk) (ah : RG (RPoA t.held) 18 W (.slice oe t.held.length ce) t.held.length) :
 RSm t ∧ RS t ∧ IRep W t (.slice ao t.qw.length ca) bo (.slice co t.tab.length cc) (.slice od t.dsk.length cd) (.slice oe t.held.length ce) := by
 obtain ⟨hsm, ⟨s1, s2⟩, h1, h2⟩:=rep_small ht g
 refine ⟨hsm, ⟨s1, s2, fun p hp => (h1 p hp).1, fun j hj => ?_⟩, ⟨aq.ri (by have := hsm.q; omega), ap, ?_, ad.rb (by omega), RPoA.rpo ah hsm.hh⟩⟩
 ·have:=h2 j hj; unfold msz at this; exact ⟨by omega, by omega, by omega, by omega⟩
 have h3 : ∀ r ∈ rs, r.2.2.2.2.length ≤ 4194304:=fun r hr => by have:=psum_each hr; omega
 have:=ATab.rpt (ca:=cc) at_ (fun r hr => (he r hr).1) h3
 rw [show rs.length = t.tab.length by rw [ht]; simp] at this
 rw [← ht] at this
 exact this
theorem RI_.new (id : Int) : RI_ (newR id) := ⟨(Nat.zero_le _ : 0 ≤ 33554432), (Nat.zero_le _ : 0 ≤ 33554432), fun p hp => by simp [newR] at hp, fun j hj => by simp [newR] at hj⟩
end
section
open Go.RowKit
variable [∀ (a b c d : Int), Decidable (Ok4 a b c d)]
variable [∀ (a b c d : Nat), Decidable (okN a b c d)]
variable [∀ (last : Int) (s : St), Decidable (GoodSt last s)]
variable [∀ (x : T4), Decidable (OkT x)]
variable [∀ (n : Int) (s : List Int), Decidable (OkL n s)]
variable [∀ (n f : Int), Decidable (COk n f)]
theorem OB.nil (w : World) (base : Nat) : OB w base (.slice none 0 0) [] := World.ownsRow_nil _ _ _ _
end
section
open Go Go.RowKit
variable [∀ (a b c d : Int), Decidable (Ok4 a b c d)]
variable [∀ (n f : Int), Decidable (COk n f)]
variable [∀ (a b c d : Nat), Decidable (okN a b c d)]
variable [∀ (x : T4), Decidable (OkT x)]
variable [∀ (last : Int) (s : St), Decidable (GoodSt last s)]
variable [∀ (n : Int) (s : List Int), Decidable (OkL n s)]
variable [∀ (x y : T4), Decidable (Bef x y)]
variable [∀ (ts : List T4), Decidable (Asc ts)]
variable [∀ (ts : List T4), Decidable (AllOk ts)]
variable [∀ (ts : List T4), Decidable (POk ts)]
theorem RRep.zero (w : World) : RRep w zeroR (.slice none 0 0) (.slice none 0 0) (.slice none 0 0) (.slice none 0 0) (.slice none 0 0) :=
 ⟨⟨by simp [zeroR], none, 0, rfl, .inl rfl⟩, ⟨by simp [zeroR], none, 0, rfl, .inl rfl⟩, ⟨none, 0, rfl, .inl rfl⟩, ⟨by simp [zeroR], none, 0, rfl, ⟨by simp [zeroR], by unfold maxLen; omega⟩, .inl rfl⟩, RPo.nil w⟩
theorem RSm.zero : RSm zeroR := ⟨by simp [zeroR], by simp [zeroR], by simp [zeroR], by simp [zeroR], by simp [zeroR], fun p hp => by simp [zeroR] at hp, fun j hj => by simp [zeroR] at hj⟩
theorem rep_ri {t : RpT} {rs : List Pr} (ht : t.tab = rs.map prp) (g : (t.s.size : Int) + t.qw.length + t.d.size + t.pool.length + rs.length + psum rs + t.dsk.length + t.held.length + posum t.held ≤ 1048576) (hh : ∀ p ∈ t.held, (WfL p.2.bw ∧ WfL p.2.pw ∧ WfL p.2.qw) ∧ MI p.2) : RI_ t := by
 obtain ⟨_, ⟨s1, s2⟩, h1, h2⟩:=rep_small ht g
 refine ⟨by omega, by omega, fun p hp => by have := (h1 p hp).1; omega, fun j hj => ⟨?_, (hh _ (by rw [List.getD_eq_getElem?_getD, List.getElem?_eq_getElem hj]; exact List.getElem_mem hj)).2⟩⟩
 have:=h2 j hj
 unfold msz at this
 exact ⟨by omega, by omega, by omega, by omega⟩
theorem whos_psum : ∀ rs : List Pr, whos (rs.map prp) ≤ psum rs
 | [] => Nat.le_refl _
 | r :: rs => by have := whos_psum rs; simp only [List.map_cons, whos, psum, prp]; omega
theorem poend_sum : ∀ (k : Nat) (ps : List PoT), poend k ps ≤ k + 15 * ps.length + posum ps
 | k, [] => by simp [poend]
 | k, p :: ps => by
  have:=poend_sum (k + pol p) ps
  simp only [poend, posum, List.length_cons]
  unfold pol at this ⊢
  unfold msz
  omega
theorem rq5_small {t : RpT} {rs : List Pr} (ht : t.tab = rs.map prp) (g : (t.s.size : Int) + t.qw.length + t.d.size + t.pool.length + rs.length + psum rs + t.dsk.length + t.held.length + posum t.held ≤ 1048576) (k : Nat) (hk : k ≤ 20000000) : rq5 k t ≤ 100000000 := by
 unfold rq5
 have h1:=poend_sum (rq4 k t) t.held
 have h2 : rq4 k t = k + t.qw.length + t.pool.length * 4 + 2 * t.tab.length + whos t.tab + t.dsk.length:=by
  unfold rq4 rq3 rq2 rq1; rw [pend_sum]
 have h3 : whos t.tab ≤ psum rs:=by rw [ht]; exact whos_psum rs
 have h4 : t.tab.length = rs.length:=by rw [ht]; simp
 omega
theorem fnSureNow_long (n f : Int) (t : RpT) (ao bo co od oe : Option Addr) (ca cb cc cd ce : Nat) (rs : List Pr) (w : World) (ht : t.tab = rs.map prp) (g : 1048576 < (t.s.size : Int) + t.qw.length + t.d.size + t.pool.length + rs.length + psum rs + t.dsk.length + t.held.length + posum t.held) (hc : ATab w co rs) (hh : RPoL w (.slice oe t.held.length ce) t.held) (m : RMx t rs) :
 Calls Tryz.prog 3 #[cv n f, rpv t (.slice ao t.qw.length ca) (.slice bo t.pool.length cb) (.slice co t.tab.length cc) (.slice od t.dsk.length cd) (.slice oe t.held.length ce)] w fun e w' => e = .returned (.bool true) ∧ Below w.heap.size w w' := by
 have hrl : rs.length = t.tab.length:=by rw [ht]; simp
 have ZA:=hide fun w (h : ATab w co rs) (h' : RPoL w (.slice oe t.held.length ce) t.held) => szRep_no t ao bo co od oe ca cb cc cd ce rs 1048576 w h h' (by omega) m (by omega) g
 rw [hrl] at ZA
 have d1 : decide ((-1 : Int) < 0) = true:=by decide
 have HC:=hide hc
 have HH:=hide hh
 clear hc hh g hrl ht m
 obtain ⟨w0, hw0, Bw0, LC, LA, zw0⟩:=bx2 w #[.int .i64 n,.int .i64 f] 23 #[.int .i64 t.id,.int .i64 t.vw,.int .i64 t.ak,.int .i64 t.vo,.int .i64 t.lo,.int .i64 t.n,.string t.s,.slice ao t.qw.length ca,.string t.d,.slice bo t.pool.length cb,.slice co t.tab.length cc,.slice od t.dsk.length cd,.int .i64 t.su,.slice oe t.held.length ce] 36
 go_enter Tryz.func3, Tryz.ntmps3
 go_wp2_with (first | (refine wload LA 36 _ rfl _ rfl rfl Tryz.underlying36 rfl (by kernel_rfl) ?_))
 clear hw0
 refine (ZA.out _ (HC.out.below Bw0) (HH.out.below Bw0)).mono ?_
 rintro _ w1 ⟨rfl, bb⟩
 have Bw1:=bu Bw0 bb
 have sw1:=bb.size
 replace LC:=LC.up bb
 replace LA:=LA.up bb
 clear Bw0 bb
 go_wp2
 go_ret
 exact ⟨rfl, Bw1⟩
theorem rep_rz {t : RpT} (h : RS t) : RZ t := ⟨by have := h.s; omega, by have := h.d; omega, fun p hp => by have := h.tb p hp; omega, fun j hj => by obtain ⟨h1, h2, h3, h4⟩ := h.h j hj; exact ⟨by omega, by omega, by omega, by omega⟩⟩
theorem sure_fits (n f : Int) {t : RpT} (h : RSm t) : RSm (sureT n f t) ∧ (sureP n f t).length ≤ 1048577 ∧ (∀ j, j < (sureP n f t).length → ((sureP n f t).getD j zpost).2.bw.length ≤ 4194304 ∧ ((sureP n f t).getD j zpost).2.pw.length ≤ 4194304 ∧ ((sureP n f t).getD j zpost).2.qw.length ≤ 4194304) ∧ rq5 1 (sureT n f t) ≤ rq5 1 t ∧ poend (rq5 1 (sureT n f t)) (sureP n f t) = rq5 1 t := by
 unfold sureT sureP
 by_cases hb : repB n f t = true
 ·rw [if_pos hb, if_pos hb]
  have e : rq5 1 (srT t) = rq4 1 t:=rfl
  exact ⟨h.sr, h.h, h.hh, by rw [e]; exact (rq_le 1 t).2.2.2.2, by rw [e]; rfl⟩
 rw [if_neg hb, if_neg hb]
 exact ⟨h, by simp, fun j hj => by simp at hj, Nat.le_refl _, rfl⟩
theorem fnSureNow_walk (n f : Int) (t : RpT) (ao bo co od oe : Option Addr) (ca cb cc cd ce : Nat) (rs : List Pr) (w : World) (ht : t.tab = rs.map prp) (hm : RMx t rs) (aq : AIW w ao t.qw) (ap : AR w bo t.pool) (at_ : ATab w co rs) (he : ∀ r ∈ rs, AIW w r.2.2.1 r.2.2.2.2 ∧ WfL r.2.2.2.2) (ad : ABW w od cd t.dsk ∧ ∀ k, k < t.dsk.length → 0 ≤ t.dsk.getD k 0 ∧ t.dsk.getD k 0 ≤ 255) (ah : RG (RPoA t.held) 18 w (.slice oe t.held.length ce) t.held.length) (hh : ∀ p ∈ t.held, (WfL p.2.bw ∧ WfL p.2.pw ∧ WfL p.2.qw) ∧ MI p.2) (hE : Env w) :
 Calls Tryz.prog 3 #[cv n f, rpv t (.slice ao t.qw.length ca) (.slice bo t.pool.length cb) (.slice co rs.length cc) (.slice od t.dsk.length cd) (.slice oe t.held.length ce)] w fun e w' => e = .returned (.bool true) ∧ Below w.heap.size w w' := by
 have hrl : rs.length = t.tab.length:=by rw [ht]; simp
 rw [hrl]
 by_cases g : (t.s.size : Int) + t.qw.length + t.d.size + t.pool.length + rs.length + psum rs + t.dsk.length + t.held.length + posum t.held ≤ 1048576
 ·obtain ⟨hsm, hrs, hI⟩:=rep_came ht g aq ap at_ he ad.1 ah
  have hri:=rep_ri ht g hh
  have hrz:=rep_rz hrs
  have hd : t.dsk.length ≤ 1048576:=by omega
  obtain ⟨f1, f2, f3, f4, f5⟩:=sure_fits n f hsm
  have hq:=rq5_small ht g 1 (by omega)
  exact fnSureNow_short Env (fun _ _ h b => h.below b) n f t ao bo co od oe ca cb cc cd ce rs w (sureT n f t) (sureP n f t) f1 f2 f3 hq (Nat.le_trans f4 hq) (by rw [f5]; exact hq) ht g at_ (RPoA.low ah) hsm hI hE (fun ao bo co od oe ca cb cc cd ce w h => specSureNow n f t ao bo co od oe ca cb cc cd ce w hsm hd hrs h) (fun ao bo co od oe ca cb cc cd ce w he h => (implSureNow n f t ao bo co od oe ca cb cc cd ce w hsm hd hri hrz he h).mono fun _ _ ⟨a, b, c, d, e, v, hr, m, h1, h2, h3, h4, h5⟩ => ⟨a, b, c, d, e, v, hr, ⟨m, h1, h2, h3, h4⟩, h5⟩)
 exact fnSureNow_long n f t ao bo co od oe ca cb cc cd ce rs w ht (by omega) at_ (RPoA.low ah) hm
end
end Go.Proofs.YtjdchloechcclaaGreatDoor
