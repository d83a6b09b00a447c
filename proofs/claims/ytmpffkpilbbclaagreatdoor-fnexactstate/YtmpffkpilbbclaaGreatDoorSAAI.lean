/- Lemmas; their conditions stand in each statement. -/
import Derived.Test.YtmpffkpilbbclaaGreatDoorSAAH
set_option maxRecDepth 100000
set_option maxHeartbeats 16000000
set_option linter.unusedSectionVars false
namespace Go.Proofs.YtmpffkpilbbclaaGreatDoor
section
open Go Go.RowKit
variable [∀ (a b c d : Int), Decidable (Ok4 a b c d)]
variable [∀ (n f : Int), Decidable (COk n f)]
abbrev PoT := Int × MT
def zMT : MT := ⟨0, 0, ⟨#[]⟩, 0, ⟨#[]⟩, [], 0, ⟨#[]⟩, [], 0, ⟨#[]⟩, [], 0, 0, 0, 0, 0⟩
def zpost : PoT := (0, zMT)
def RPoR (ps : List PoT) (w : World) (k : Nat) (cs : List Value) : Prop := ∃ a b c, cs = pocs (ps.getD k zpost).1 (ps.getD k zpost).2 a b c ∧ RI w a (ps.getD k zpost).2.bw ∧ RI w b (ps.getD k zpost).2.pw ∧ RI w c (ps.getD k zpost).2.qw
def RPo (w : World) (v : Value) (ps : List PoT) : Prop := RG (RPoR ps) 18 w v ps.length
theorem RPo.below {w w' : World} {B : Nat} {v : Value} {ps : List PoT} (h : RPo w v ps) (hb : Below B w w') (hB : w.heap.size ≤ B := by exact Nat.le_refl _) : RPo w' v ps :=
 RG.below h (by decide) hb hB (fun _ _ ⟨a, b, c, e, h1, h2, h3⟩ => ⟨a, b, c, e, h1.below hb hB, h2.below hb hB, h3.below hb hB⟩)
theorem RPo.form {w : World} {v : Value} {ps : List PoT} (h : RPo w v ps) : ∃ ao ca, v = .slice ao ps.length ca := RG.form h
theorem RPo.nil (w : World) : RPo w (.slice none 0 0) [] := ⟨none, 0, rfl, .inl rfl⟩
def OPoA (w : World) (lo : Nat) (ps : List PoT) (rows : List (List Value)) (k : Nat) : Prop := ∀ j, j < k → ∃ a b c, rows.getD j [] = pocs (ps.getD j zpost).1 (ps.getD j zpost).2 a b c ∧ OM w lo a b c (ps.getD j zpost).2.bw (ps.getD j zpost).2.pw (ps.getD j zpost).2.qw
theorem OPoA.below {w w' : World} {lo k : Nat} {ps : List PoT} {rows : List (List Value)} (h : OPoA w lo ps rows k) (hb : Below w.heap.size w w') : OPoA w' lo ps rows k := fun j hj => by
 obtain ⟨a, b, c, e, m⟩:=h j hj; exact ⟨a, b, c, e, m.below hb⟩
theorem OPoA.kp {w w' : World} {X : Nat → Prop} {lo k : Nat} {ps : List PoT} {rows : List (List Value)} (h : OPoA w lo ps rows k) (hk : Kp w w' X) (hX : ∀ j, lo ≤ j → ¬ X j) : OPoA w' lo ps rows k := fun j hj => by
 obtain ⟨a, b, c, e, m⟩:=h j hj; exact ⟨a, b, c, e, m.kp hk (fun i h1 _ _ => hX i h1)⟩
def OPo (w : World) (base : Nat) (v : Value) (ps : List PoT) : Prop := ∃ rows, OG 123 18 w base v rows ∧ rows.length = ps.length ∧ OPoA w base ps rows ps.length
theorem OPo.below {w w' : World} {base : Nat} {v : Value} {ps : List PoT} (h : OPo w base v ps) (hb : Below w.heap.size w w') : OPo w' base v ps := by
 obtain ⟨rows, g, l, a⟩:=h; exact ⟨rows, g.below hb, l, a.below hb⟩
theorem OPo.kp {w w' : World} {X : Nat → Prop} {base : Nat} {v : Value} {ps : List PoT} (h : OPo w base v ps) (k : Kp w w' X) (hX : ∀ j, base ≤ j → ¬ X j) : OPo w' base v ps := by
 obtain ⟨rows, g, l, a⟩:=h; exact ⟨rows, g.kp k (fun j e => hX j (g.lt j e).1), l, a.kp k hX⟩
theorem OPo.mono {w : World} {base base' : Nat} {v : Value} {ps : List PoT} (h : OPo w base v ps) (hb : base' ≤ base) : OPo w base' v ps := by
 obtain ⟨rows, g, l, a⟩:=h; exact ⟨rows, g.mono hb, l, fun j hj => by obtain ⟨x, y, z, e, m⟩:=a j hj; exact ⟨x, y, z, e, m.mono hb⟩⟩
theorem OPo.form {w : World} {base : Nat} {v : Value} {ps : List PoT} (h : OPo w base v ps) : ∃ ao ca, v = .slice ao ps.length ca := by obtain ⟨rows, g, l, _⟩ := h; rw [← l]; exact g.form
theorem OPo.rpo {w : World} {base : Nat} {v : Value} {ps : List PoT} (h : OPo w base v ps) (hs : ∀ j, j < ps.length → (ps.getD j zpost).2.bw.length ≤ 4194304 ∧ (ps.getD j zpost).2.pw.length ≤ 4194304 ∧ (ps.getD j zpost).2.qw.length ≤ 4194304) : RPo w v ps := by
 obtain ⟨rows, g, l, a⟩:=h
 have:=g.rg (R:=RPoR ps) (fun k hk => by
  obtain ⟨x, y, z, e, m⟩:=a k (by omega)
  obtain ⟨r1, r2, r3⟩:=m.ri3 (hs k (by omega))
  exact ⟨x, y, z, e, r1, r2, r3⟩)
 rw [l] at this
 exact this
theorem RPo.small {w : World} {v : Value} {ps : List PoT} (h : RPo w v ps) (j : Nat) (hj : j < ps.length) : (ps.getD j zpost).2.bw.length ≤ 4194304 ∧ (ps.getD j zpost).2.pw.length ≤ 4194304 ∧ (ps.getD j zpost).2.qw.length ≤ 4194304 := by
 obtain ⟨ao, ca, rfl⟩:=h.form
 obtain ⟨g, off, cs, _, _, _, a, b, c, _, r1, r2, r3⟩:=RG.at h j hj
 exact ⟨r1.1, r2.1, r3.1⟩
theorem Tryz.infoPo : (Tryz.prog.info? 123).map (fun i => (i.zero, i.size, i.bytes)) = some (some (pov 0 zMT (.slice none 0 0) (.slice none 0 0) (.slice none 0 0)), 18, 224) := by kernel_rfl
theorem rows_step {R : List (List Value)} {n k : Nat} {z cs : List Value} (hR : R.length = k) (hk : k < n) : (R ++ List.replicate (n - k) z).set k cs = (R ++ [cs]) ++ List.replicate (n - (k + 1)) z := by
 subst hR
 rw [List.set_append_right _ _ (Nat.le_refl _), Nat.sub_self, show n - R.length = (n - (R.length + 1)) + 1 by omega, List.replicate_succ, List.set_cons_zero, List.append_assoc]; rfl
end
section
open Go.ChangeShapes Go.WideShapes Go.ChangeAt Go.RowKit
open Go.Joins
variable [∀ (a b c d : Int), Decidable (Ok4 a b c d)]
variable [∀ (n f : Int), Decidable (COk n f)]
theorem open_msg0 {H : Type} {enc : TypeId × Value → H} {W : World} {fuel : Nat} {cs : List Value} {x : DataW H × List MemPlace} (hlen : cs.length = 17) (hf : DataW.trod enc Tryz.prog W 0 (fun _ => true) true fuel 110 cs = some x) :
 ∃ (t : MT) (ao bo co : Option Addr) (ca cb cc : Nat), cs = [.int .i64 t.k, .int .i64 t.vw, .string t.bn, .int .i64 t.bv, .string t.bs, .slice ao t.bw.length ca, .int .i64 t.pv, .string t.ps, .slice bo t.pw.length cb, .int .i64 t.qv, .string t.qs, .slice co t.qw.length cc, .int .i64 t.wh, .int .i64 t.fr, .int .i64 t.tu, .int .i64 t.am, .int .i64 t.no] ∧ MB t ∧ (AIW W ao t.bw ∧ AIW W bo t.pw ∧ AIW W co t.qw) ∧ (WfL t.bw ∧ WfL t.pw ∧ WfL t.qw) ∧ MI t := by
 obtain ⟨c0, c1, c2, c3, c4, c5, c6, c7, c8, c9, c10, c11, c12, c13, c14, c15, c16, e⟩:=array17 (cs:=⟨cs⟩) hlen
 have e' : cs = [c0, c1, c2, c3, c4, c5, c6, c7, c8, c9, c10, c11, c12, c13, c14, c15, c16]:=congrArg Array.toList e
 subst e'
 clear e hlen
 obtain ⟨y0, y1, y2, y3, y4, y5, y6, k, h0, h1, h2, h3, h4, h5, h6⟩:=trod_struct7 Tryz.underlying110 hf
 have g0 : DataW.trod enc Tryz.prog W 0 (fun _ => true) true k 3 [c0] = some y0:=by simpa [cellsInt, cellsStr, cellsQc, cellsBlock, cellsPartL, cellsTxL, cellsInts] using h0
 have g1 : DataW.trod enc Tryz.prog W 0 (fun _ => true) true k 3 [c1] = some y1:=by simpa [cellsInt, cellsStr, cellsQc, cellsBlock, cellsPartL, cellsTxL, cellsInts] using h1
 have g2 : DataW.trod enc Tryz.prog W 0 (fun _ => true) true k 106 [c2, c3, c4, c5] = some y2:=by simpa [cellsInt, cellsStr, cellsQc, cellsBlock, cellsPartL, cellsTxL, cellsInts] using h2
 have g3 : DataW.trod enc Tryz.prog W 0 (fun _ => true) true k 102 [c6, c7, c8] = some y3:=by simpa [cellsInt, cellsStr, cellsQc, cellsBlock, cellsPartL, cellsTxL, cellsInts] using h3
 have g4 : DataW.trod enc Tryz.prog W 0 (fun _ => true) true k 26 [c9, c10, c11] = some y4:=by simpa [cellsInt, cellsStr, cellsQc, cellsBlock, cellsPartL, cellsTxL, cellsInts] using h4
 have g5 : DataW.trod enc Tryz.prog W 0 (fun _ => true) true k 3 [c12] = some y5:=by simpa [cellsInt, cellsStr, cellsQc, cellsBlock, cellsPartL, cellsTxL, cellsInts] using h5
 have g6 : DataW.trod enc Tryz.prog W 0 (fun _ => true) true k 108 [c13, c14, c15, c16] = some y6:=by simpa [cellsInt, cellsStr, cellsQc, cellsBlock, cellsPartL, cellsTxL, cellsInts] using h6
 obtain ⟨b0, b1, kb, _, _, hb0, hb1⟩:=trod_struct2 Tryz.underlying106 g2
 have gb0 : DataW.trod enc Tryz.prog W 0 (fun _ => true) true kb 9 [c2] = some b0:=by simpa [cellsInt, cellsStr, cellsQc, cellsBlock, cellsPartL, cellsTxL, cellsInts] using hb0
 have gb1 : DataW.trod enc Tryz.prog W 0 (fun _ => true) true kb 26 [c3, c4, c5] = some b1:=by simpa [cellsInt, cellsStr, cellsQc, cellsBlock, cellsPartL, cellsTxL, cellsInts] using hb1
 obtain ⟨q0, q1, q2, kq, _, _, hq0, hq1, hq2⟩:=Go.Deep.trod_struct3 Tryz.underlying26 gb1
 have gq0 : DataW.trod enc Tryz.prog W 0 (fun _ => true) true kq 3 [c3] = some q0:=by simpa [cellsInt, cellsStr, cellsQc, cellsBlock, cellsPartL, cellsTxL, cellsInts] using hq0
 have gq1 : DataW.trod enc Tryz.prog W 0 (fun _ => true) true kq 9 [c4] = some q1:=by simpa [cellsInt, cellsStr, cellsQc, cellsBlock, cellsPartL, cellsTxL, cellsInts] using hq1
 have gq2 : DataW.trod enc Tryz.prog W 0 (fun _ => true) true kq 24 [c5] = some q2:=by simpa [cellsInt, cellsStr, cellsQc, cellsBlock, cellsPartL, cellsTxL, cellsInts] using hq2
 obtain ⟨r0, r1, r2, kr, _, _, hr0, hr1, hr2⟩:=Go.Deep.trod_struct3 Tryz.underlying102 g3
 have gr0 : DataW.trod enc Tryz.prog W 0 (fun _ => true) true kr 3 [c6] = some r0:=by simpa [cellsInt, cellsStr, cellsQc, cellsBlock, cellsPartL, cellsTxL, cellsInts] using hr0
 have gr1 : DataW.trod enc Tryz.prog W 0 (fun _ => true) true kr 9 [c7] = some r1:=by simpa [cellsInt, cellsStr, cellsQc, cellsBlock, cellsPartL, cellsTxL, cellsInts] using hr1
 have gr2 : DataW.trod enc Tryz.prog W 0 (fun _ => true) true kr 24 [c8] = some r2:=by simpa [cellsInt, cellsStr, cellsQc, cellsBlock, cellsPartL, cellsTxL, cellsInts] using hr2
 obtain ⟨s0, s1, s2, ks, _, _, hs0, hs1, hs2⟩:=Go.Deep.trod_struct3 Tryz.underlying26 g4
 have gs0 : DataW.trod enc Tryz.prog W 0 (fun _ => true) true ks 3 [c9] = some s0:=by simpa [cellsInt, cellsStr, cellsQc, cellsBlock, cellsPartL, cellsTxL, cellsInts] using hs0
 have gs1 : DataW.trod enc Tryz.prog W 0 (fun _ => true) true ks 9 [c10] = some s1:=by simpa [cellsInt, cellsStr, cellsQc, cellsBlock, cellsPartL, cellsTxL, cellsInts] using hs1
 have gs2 : DataW.trod enc Tryz.prog W 0 (fun _ => true) true ks 24 [c11] = some s2:=by simpa [cellsInt, cellsStr, cellsQc, cellsBlock, cellsPartL, cellsTxL, cellsInts] using hs2
 obtain ⟨x0, x1, x2, x3, kx, _, _, hx0, hx1, hx2, hx3⟩:=trod_struct4 Tryz.underlying108 g6
 have gx0 : DataW.trod enc Tryz.prog W 0 (fun _ => true) true kx 3 [c13] = some x0:=by simpa [cellsInt, cellsStr, cellsQc, cellsBlock, cellsPartL, cellsTxL, cellsInts] using hx0
 have gx1 : DataW.trod enc Tryz.prog W 0 (fun _ => true) true kx 3 [c14] = some x1:=by simpa [cellsInt, cellsStr, cellsQc, cellsBlock, cellsPartL, cellsTxL, cellsInts] using hx1
 have gx2 : DataW.trod enc Tryz.prog W 0 (fun _ => true) true kx 3 [c15] = some x2:=by simpa [cellsInt, cellsStr, cellsQc, cellsBlock, cellsPartL, cellsTxL, cellsInts] using hx2
 have gx3 : DataW.trod enc Tryz.prog W 0 (fun _ => true) true kx 3 [c16] = some x3:=by simpa [cellsInt, cellsStr, cellsQc, cellsBlock, cellsPartL, cellsTxL, cellsInts] using hx3
 obtain ⟨vk, e0, _, _⟩:=DataW.trod_int Tryz.underlying3 g0
 obtain ⟨vv, e1, _, _⟩:=DataW.trod_int Tryz.underlying3 g1
 obtain ⟨bn, e2, _, l1⟩:=DataW.trod_string Tryz.underlying9 gb0
 obtain ⟨nq, e3, _, wq⟩:=DataW.trod_int Tryz.underlying3 gq0
 obtain ⟨sq, e4, _, zq⟩:=DataW.trod_string Tryz.underlying9 gq1
 obtain ⟨oQ, jq, qs, rfl, uq, aq, fq⟩:=open_listW gq2
 obtain ⟨nr, e6, _, wr⟩:=DataW.trod_int Tryz.underlying3 gr0
 obtain ⟨sr, e7, _, zr⟩:=DataW.trod_string Tryz.underlying9 gr1
 obtain ⟨oR, jr, rs, rfl, ur, ar, fr⟩:=open_listW gr2
 obtain ⟨ns, e9, _, ws⟩:=DataW.trod_int Tryz.underlying3 gs0
 obtain ⟨ss, e10, _, zs⟩:=DataW.trod_string Tryz.underlying9 gs1
 obtain ⟨oS, js, lS, rfl, us, aS, fs⟩:=open_listW gs2
 obtain ⟨vh, e12, _, _⟩:=DataW.trod_int Tryz.underlying3 g5
 obtain ⟨t0, e13, _, _⟩:=DataW.trod_int Tryz.underlying3 gx0
 obtain ⟨t1, e14, _, _⟩:=DataW.trod_int Tryz.underlying3 gx1
 obtain ⟨t2, e15, _, _⟩:=DataW.trod_int Tryz.underlying3 gx2
 obtain ⟨t3, e16, _, _⟩:=DataW.trod_int Tryz.underlying3 gx3
 simp at e0 e1 e2 e3 e4 e6 e7 e9 e10 e12 e13 e14 e15 e16
 refine ⟨⟨vk, vv, bn, nq, sq, qs, nr, sr, rs, ns, ss, lS, vh, t0, t1, t2, t3⟩, oQ, oR, oS, jq, jr, js, by rw [e0, e1, e2, e3, e4, e6, e7, e9, e10, e12, e13, e14, e15, e16], ⟨l1, zq, uq, zr, ur, zs, us⟩, ⟨aq, ar, aS⟩, ⟨fq, fr, fs⟩, bounds_i64 wq, fun x hx => bounds_i64 (fq x hx)⟩
theorem cellsPost : Tryz.prog.cellsOf 112 = 18 := by kernel_rfl
def RPoA (ps : List PoT) (w : World) (k : Nat) (cs : List Value) : Prop := ∃ (ao bo co : Option Addr) (ca cb cc : Nat), cs = pocs (ps.getD k zpost).1 (ps.getD k zpost).2 (.slice ao (ps.getD k zpost).2.bw.length ca) (.slice bo (ps.getD k zpost).2.pw.length cb) (.slice co (ps.getD k zpost).2.qw.length cc) ∧ AIW w ao (ps.getD k zpost).2.bw ∧ AIW w bo (ps.getD k zpost).2.pw ∧ AIW w co (ps.getD k zpost).2.qw
theorem RG.imp {R R' : World → Nat → List Value → Prop} {m n : Nat} {w : World} {v : Value} (h : RG R m w v n) (hi : ∀ k cs, k < n → R w k cs → R' w k cs) : RG R' m w v n := by
 obtain ⟨ao, cap, e, h⟩:=h
 refine ⟨ao, cap, e, ?_⟩
 rcases h with h | ⟨g, off, e', h⟩
 ·exact .inl h
 exact .inr ⟨g, off, e', fun k hk => by obtain ⟨cs, a, b, c⟩ := h k hk; exact ⟨cs, a, b, hi k cs hk c⟩⟩
theorem RPoA.rpo {w : World} {v : Value} {ps : List PoT} (h : RG (RPoA ps) 18 w v ps.length) (hs : ∀ j, j < ps.length → (ps.getD j zpost).2.bw.length ≤ 4194304 ∧ (ps.getD j zpost).2.pw.length ≤ 4194304 ∧ (ps.getD j zpost).2.qw.length ≤ 4194304) : RPo w v ps :=
 RG.imp h (fun k _ hk ⟨_, _, _, _, _, _, e, a, b, c⟩ => ⟨_, _, _, e, a.ri (hs k hk).1, b.ri (hs k hk).2.1, c.ri (hs k hk).2.2⟩)
theorem open_posts0 {H : Type} {enc : TypeId × Value → H} {W : World} {fuel : Nat} {a : Option Addr} {len cap : Nat} {x : DataW H × List MemPlace} (h : DataW.trod enc Tryz.prog W 0 (fun _ => true) true fuel 34 (Value.slice a len cap).cells.toList = some x) :
 ∃ ps : List PoT, len = ps.length ∧ ps.length ≤ maxLen ∧ RG (RPoA ps) 18 W (.slice a len cap) ps.length ∧ ∀ p ∈ ps, MB p.2 ∧ (WfL p.2.bw ∧ WfL p.2.pw ∧ WfL p.2.qw) ∧ MI p.2 := by
 rcases Go.Deep.open_slice Tryz.underlying34 h with ⟨hcs, _⟩ | ⟨ad, l, c, m, n, D, Pl, hcs, _, hl, hm, hmm, _, hx⟩
 ·simp [Value.cells] at hcs
  obtain ⟨rfl, rfl, rfl⟩:=hcs
  exact ⟨[], rfl, by simp, ⟨none, 0, rfl, .inl rfl⟩, fun r hr => by simp at hr⟩
 simp [Value.cells] at hcs
 obtain ⟨rfl, rfl, rfl⟩:=hcs
 have hm' : m = cap:=by simpa using hmm
 have each : ∀ i, ∃ q : PoT, i < len → (∃ (ao bo co : Option Addr) (ca cb cc : Nat), (∀ j v, (pocs q.1 q.2 (.slice ao q.2.bw.length ca) (.slice bo q.2.pw.length cb) (.slice co q.2.qw.length cc))[j]? = some v → W.cell? (ad.add (i * 18 + j)) = some v) ∧ AIW W ao q.2.bw ∧ AIW W bo q.2.pw ∧ AIW W co q.2.qw) ∧ MB q.2 ∧ (WfL q.2.bw ∧ WfL q.2.pw ∧ WfL q.2.qw) ∧ MI q.2:=by
  intro i
  by_cases hi : i < len
  ·obtain ⟨cs', h1, h2⟩:=hx i (by omega)
   rw [cellsPost] at h1
   obtain ⟨_, hlen, hcell⟩:=World.cells?_some h1
   obtain ⟨y0, y1, k, _, _, g0, g1⟩:=trod_struct2 Tryz.underlying112 h2
   match cs', hlen with
   | v0 :: r, hlen =>
    have ci : Tryz.prog.cellsOf 3 = 1:=by kernel_rfl
    have hr : r.length = 17:=by simpa using hlen
    simp only [ci, cellsMsg] at g0 g1
    have g0' : DataW.trod enc Tryz.prog W 0 (fun _ => true) true k 3 [v0] = some y0:=g0
    have g1' : DataW.trod enc Tryz.prog W 0 (fun _ => true) true k 110 r = some y1:=by
     have : r.take 17 = r:=List.take_of_length_le (by omega)
     rw [← this]; exact g1
    obtain ⟨a0, e0', _, _⟩:=DataW.trod_int Tryz.underlying3 g0'
    simp at e0'
    subst e0'
    obtain ⟨t, ao, bo, co, ca, cb, cc, rfl, m1, m2, m3, m4⟩:=open_msg0 hr g1'
    refine ⟨(a0, t), fun _ => ⟨⟨ao, bo, co, ca, cb, cc, fun j v hj => ?_, m2⟩, m1, m3, m4⟩⟩
    have hj' : j < 18:=by have:=(List.getElem?_eq_some_iff.1 hj).1; simpa using this
    have:=hcell j (by omega)
    rw [Go.Deep.add_add] at this
    rw [this]
    simpa [List.getElem?_eq_some_iff] using hj
  exact ⟨zpost, fun h => absurd h hi⟩
 obtain ⟨q, hq⟩:=Classical.axiomOfChoice each
 have eg : ∀ k, k < len → ((List.range len).map q).getD k zpost = q k:=fun k hk => by simp [hk]
 refine ⟨(List.range len).map q, by simp, by simp; omega, ⟨some ad, cap, by simp, ?_⟩, fun r hr => ?_⟩
 ·by_cases h0 : len = 0
  ·left; simp [h0]
  right
  obtain ⟨b, off, spot⟩:=ad
  obtain ⟨⟨ao, bo, co, ca, cb, cc, hc, _⟩, _⟩:=hq 0 (by omega)
  have hspot : spot = none:=by simpa [Addr.add] using World.cell?_spot (hc 0 _ rfl)
  subst hspot
  refine ⟨b, off, rfl, fun k hk => ?_⟩
  rw [List.length_map, List.length_range] at hk
  obtain ⟨⟨ao, bo, co, ca, cb, cc, hc, ai⟩, _⟩:=hq k hk
  have ea : ∀ j, ((⟨b, off, none⟩ : Addr).add j) = ⟨b, off + j, none⟩:=fun j => by unfold Addr.add; split <;> simp_all
  refine ⟨pocs (q k).1 (q k).2 (.slice ao (q k).2.bw.length ca) (.slice bo (q k).2.pw.length cb) (.slice co (q k).2.qw.length cc), rfl, fun j v hv => ?_, ?_⟩
  ·have:=hc j v hv
   rw [ea, ← Nat.add_assoc] at this
   exact this
  refine ⟨ao, bo, co, ca, cb, cc, ?_, ?_⟩
  ·rw [eg k hk]
  rw [eg k hk]; exact ai
 obtain ⟨j, hj, rfl⟩:=List.mem_map.1 hr
 exact (hq j (List.mem_range.1 hj)).2
end
section
open Go Go.RowKit
variable [∀ (a b c d : Int), Decidable (Ok4 a b c d)]
variable [∀ (n f : Int), Decidable (COk n f)]
theorem eqPostS_yes (u v : Value) (ps : List PoT) (w : World) (hl : ps.length ≤ 4194304) (hu : RPo w u ps) (hv : RPo w v ps) :
 Calls Tryz.prog 51 #[u, v] w fun e w' => e = .returned (.bool true) ∧ Below w.heap.size w w' := by
 obtain ⟨ao, ca, rfl⟩:=hu.form
 obtain ⟨bo, cb, rfl⟩:=hv.form
 have HU:=hide hu
 have HV:=hide hv
 obtain ⟨n, hn⟩ : ∃ n, ps.length = n:=⟨_, rfl⟩
 have Hn:=hide hn
 rw [hn] at hl HU HV ⊢
 clear hn hu hv
 go_enter Tryz.func51, Tryz.ntmps51
 go_wp2
 go_loopw [5] (fun i wr => ∃ k : Nat, k ≤ n ∧ i = .int .i64 k ∧ Below w.heap.size w wr) (fun i _ => n - (intOf i).toNat)
 case atStart => exact ⟨0, Nat.zero_le _, rfl, Below.refl _ _⟩
 case round =>
  obtain ⟨k, hk, rfl, br⟩:=hrel
  by_cases hlt : k < n
  ·have hkx : k < ps.length:=by have:=Hn.out; omega
   have h1:=HU.out.below br
   have h2:=HV.out.below br
   obtain ⟨g, off, cs, rfl, _, c1, a, b, c, e, ra, rb, rc⟩:=RG.at h1 k hkx
   subst e
   obtain ⟨g', off', cs', rfl, _, c2, a', b', c', e, ra', rb', rc'⟩:=RG.at h2 k hkx
   subst e
   clear h1 h2 HU HV
   generalize (ps.getD k zpost).1 = m at *
   generalize (ps.getD k zpost).2 = t at *
   have EQ:=hide fun w h1 h2 h3 h4 h5 h6 => eqPost_yes m t a b c a' b' c' t.bw t.pw t.qw w h1 h2 h3 h4 h5 h6
   have R1:=hide ra
   have R2:=hide rb
   have R3:=hide rc
   have R4:=hide ra'
   have R5:=hide rb'
   have R6:=hide rc'
   obtain ⟨oa, ka, rfl⟩:=ra.form
   obtain ⟨ob, kb, rfl⟩:=rb.form
   obtain ⟨oc, kc, rfl⟩:=rc.form
   obtain ⟨oa', ka', rfl⟩:=ra'.form
   obtain ⟨ob', kb', rfl⟩:=rb'.form
   obtain ⟨oc', kc', rfl⟩:=rc'.form
   generalize t.bw.length = xl at *
   generalize t.pw.length = yl at *
   generalize t.qw.length = zl at *
   clear ra rb rc ra' rb' rc'
   have K : Hid (∀ w', Below wr.heap.size wr w' → (fun w' => Below wr.heap.size wr w' ∧ w'.rangeAt g (off + k * 18) [.int .i64 m, .int .i64 t.k, .int .i64 t.vw, .string t.bn, .int .i64 t.bv, .string t.bs, .slice oa xl ka, .int .i64 t.pv, .string t.ps, .slice ob yl kb, .int .i64 t.qv, .string t.qs, .slice oc zl kc, .int .i64 t.wh, .int .i64 t.fr, .int .i64 t.tu, .int .i64 t.am, .int .i64 t.no] ∧ w'.rangeAt g' (off' + k * 18) [.int .i64 m, .int .i64 t.k, .int .i64 t.vw, .string t.bn, .int .i64 t.bv, .string t.bs, .slice oa' xl ka', .int .i64 t.pv, .string t.ps, .slice ob' yl kb', .int .i64 t.qv, .string t.qs, .slice oc' zl kc', .int .i64 t.wh, .int .i64 t.fr, .int .i64 t.tu, .int .i64 t.am, .int .i64 t.no]) w'):=hide fun w' hb' => ⟨hb', rangeAt_below c1 hb' (rangeAt_lt c1 (by simp)), rangeAt_below c2 hb' (rangeAt_lt c2 (by simp))⟩
   clear c1 c2
   go_upto_region 6 with fail
   refine wra K (fun bA hHeld => ?_)
   refine tx 0 17 ?_
   refine tx 1 18 ?_
   refine tx 4 21 ?_
   refine tx 5 22 ?_
   refine tx 2 19 ?_
   refine tx 6 23 ?_
   refine take_at (i := 3) (d := 20) (v := .agg #[.int .i64 m,.int .i64 t.k,.int .i64 t.vw,.string t.bn,.int .i64 t.bv,.string t.bs,.slice oa xl ka,.int .i64 t.pv,.string t.ps,.slice ob yl kb,.int .i64 t.qv,.string t.qs,.slice oc zl kc,.int .i64 t.wh,.int .i64 t.fr,.int .i64 t.tu,.int .i64 t.am,.int .i64 t.no]) rfl rfl (by kernel_rfl) (by kernel_rfl) (by kernel_rfl) (fun _ _ _ h => h) ?_ (by assumption) ?_
   ·exact yields_mid rfl 123 _ rfl rfl [.int .i64 m, .int .i64 t.k, .int .i64 t.vw, .string t.bn, .int .i64 t.bv, .string t.bs, .slice oa xl ka, .int .i64 t.pv, .string t.ps, .slice ob yl kb, .int .i64 t.qv, .string t.qs, .slice oc zl kc, .int .i64 t.wh, .int .i64 t.fr, .int .i64 t.tu, .int .i64 t.am, .int .i64 t.no] _ (fun w h => h.2.1) Tryz.underlying123 rfl (by kernel_rfl)
   simp only [pU]
   refine take_at (i := 7) (d := 24) (v := .agg #[.int .i64 m,.int .i64 t.k,.int .i64 t.vw,.string t.bn,.int .i64 t.bv,.string t.bs,.slice oa' xl ka',.int .i64 t.pv,.string t.ps,.slice ob' yl kb',.int .i64 t.qv,.string t.qs,.slice oc' zl kc',.int .i64 t.wh,.int .i64 t.fr,.int .i64 t.tu,.int .i64 t.am,.int .i64 t.no]) rfl rfl (by kernel_rfl) (by kernel_rfl) (by kernel_rfl) (fun _ _ _ h => h) ?_ (by assumption) ?_
   ·exact yields_mid rfl 123 _ rfl rfl [.int .i64 m, .int .i64 t.k, .int .i64 t.vw, .string t.bn, .int .i64 t.bv, .string t.bs, .slice oa' xl ka', .int .i64 t.pv, .string t.ps, .slice ob' yl kb', .int .i64 t.qv, .string t.qs, .slice oc' zl kc', .int .i64 t.wh, .int .i64 t.fr, .int .i64 t.tu, .int .i64 t.am, .int .i64 t.no] _ (fun w h => h.2.2) Tryz.underlying123 rfl (by kernel_rfl)
   simp only [pU]
   refine rd 8 rfl (fun KK hKK => ?_)
   go_simp
   have hgo:=bA
   refine (EQ.out _ (R1.out.below bA) (R2.out.below bA) (R3.out.below bA) (R4.out.below bA) (R5.out.below bA) (R6.out.below bA)).mono ?_
   rintro e w2 ⟨rfl, bb⟩
   have bz : Below wr.heap.size wr w2:=bu bA bb
   clear bA hgo bb hHeld
   refine hKK.out _ _ (K.out _ bz) (fun hHeld => ?_)
   clear hKK KK
   refine tx 9 26 ?_
   clear hHeld
   refine wdn ?_
   have B2:=bu br bz
   clear EQ bz K
   go_wp2
   go_roundw
   case rel => exact ⟨k + 1, by omega, by go_num, B2⟩
   case measure => simp [intOf]; omega
  obtain rfl : k = n:=by omega
  go_wp2
  go_ret
  exact ⟨rfl, br⟩

def msz (t : MT) : Nat := t.bn.size + t.bs.size + t.bw.length + t.ps.size + t.pw.length + t.qs.size + t.qw.length
def posum : List PoT → Nat
 | [] => 0
 | r :: rs => msz r.2 + posum rs
theorem posum_snoc (rs : List PoT) (r : PoT) : posum (rs ++ [r]) = posum rs + msz r.2 := by
 induction rs with
 | nil => simp [posum]
 | cons x rs ih => simp only [List.cons_append, posum, ih]; omega
theorem posum_take (rs : List PoT) (k : Nat) (hk : k < rs.length) : posum (rs.take (k + 1)) = posum (rs.take k) + msz (rs.getD k zpost).2 := by
 rw [List.take_succ_eq_append_getElem hk, posum_snoc]
 simp [List.getElem?_eq_getElem hk]
theorem posum_le (rs : List PoT) (k : Nat) : posum (rs.take k) ≤ posum rs := by
 induction rs generalizing k with
 | nil => simp [posum]
 | cons r rs ih =>
  cases k with
  | zero => simp [posum]
  | succ k => simp only [List.take_succ_cons, posum]; have := ih k; omega
theorem posum_each {rs : List PoT} {r : PoT} (h : r ∈ rs) : msz r.2 ≤ posum rs := by
 induction rs with
 | nil => simp at h
 | cons x rs ih => rcases List.mem_cons.1 h with rfl | h
                   ·simp only [posum]; omega
                   have:=ih h; simp only [posum]; omega

def RPoF (ps : List PoT) (_ : World) (k : Nat) (cs : List Value) : Prop := ∃ (ao bo co : Option Addr) (ca cb cc : Nat), cs = pocs (ps.getD k zpost).1 (ps.getD k zpost).2 (.slice ao (ps.getD k zpost).2.bw.length ca) (.slice bo (ps.getD k zpost).2.pw.length cb) (.slice co (ps.getD k zpost).2.qw.length cc)
def RPoL (w : World) (v : Value) (ps : List PoT) : Prop := RG (RPoF ps) 18 w v ps.length
theorem RPoA.low {w : World} {v : Value} {ps : List PoT} (h : RG (RPoA ps) 18 w v ps.length) : RPoL w v ps :=
 RG.imp h (fun _ _ _ ⟨_, _, _, _, _, _, e, _⟩ => ⟨_, _, _, _, _, _, e⟩)
theorem RPoL.below {w w' : World} {v : Value} {ps : List PoT} (h : RPoL w v ps) (hb : Below w.heap.size w w') : RPoL w' v ps := RG.below h (by decide) hb (Nat.le_refl _) (fun _ _ h => h)

theorem szPostS_yes (v : Value) (ps : List PoT) (left : Int) (w : World) (h : RPoL w v ps) (hs : (ps.length : Int) + posum ps ≤ left) (hl : left ≤ 1048576) :
 Calls Tryz.prog 24 #[v,.int .i64 left] w fun e w' => e = .returned (.int .i64 (left - ps.length - posum ps)) ∧ Below w.heap.size w w' := by
 obtain ⟨al, cl, rfl⟩:=RG.form h
 have H:=hide h
 obtain ⟨n, hn⟩ : ∃ n, ps.length = n:=⟨_, rfl⟩
 have Hn:=hide hn
 unfold RPoL at H
 rw [hn] at hs H ⊢
 clear hn h
 have hd0 : decide (left - (n : Int) < 0) = false:=by simp; omega
 go_enter Tryz.func24, Tryz.ntmps24
 go_wp2
 go_loopw [1, 5] (fun a i wr => ∃ k : Nat, k ≤ n ∧ i = .int .i64 k ∧ a = .int .i64 (left - n - (posum (ps.take k) : Nat)) ∧ Below w.heap.size w wr) (fun _ i _ => n - (intOf i).toNat)
 case atStart => exact ⟨0, Nat.zero_le _, rfl, by simp [posum], Below.refl _ _⟩
 case round =>
  obtain ⟨k, hk, rfl, rfl, br⟩:=hrel
  have hp:=posum_le ps k
  by_cases hlt : k < n
  ·have hkx : k < ps.length:=by have:=Hn.out; omega
   have hp1:=posum_le ps (k + 1)
   have hps:=posum_take ps k hkx
   have HP1:=hide hps
   rw [hps] at hp1
   clear hps
   have h1:=RG.below H.out (by decide) br (Nat.le_refl _) (fun _ _ h => h)
   obtain ⟨g, off, cs, rfl, _, c1, ao, bo, co, ca, cb, cc, e⟩:=RG.at h1 k hlt
   subst e
   clear H h1
   generalize (ps.getD k zpost).1 = m at *
   generalize (ps.getD k zpost).2 = t at *
   unfold msz at hp1 HP1
   generalize posum (ps.take k) = q at *
   have SZ:=hide fun w => szPost_yes m t ao bo co ca cb cc (left - n - q) w (by omega) (by omega)
   have hd1 : decide (left - (n : Int) - (q : Int) - t.bn.size - t.bs.size - t.bw.length - t.ps.size - t.pw.length - t.qs.size - t.qw.length < 0) = false:=by simp; omega
   go_wp2_with (first | (refine wloadM _ c1 112 _ rfl _ rfl rfl Tryz.underlying112 rfl (by kernel_rfl) ?_))
   refine (SZ.out _).mono ?_
   rintro e w1 ⟨rfl, b1⟩
   have B1:=bu br b1
   clear c1 SZ b1
   go_wp2
   go_roundw
   case rel => exact ⟨k + 1, by omega, by go_num, by rw [HP1.out]; simp; omega, B1⟩
   case measure => simp [intOf]; omega
  have hkn : ps.take k = ps:=List.take_of_length_le (by have:=Hn.out; omega)
  rw [hkn]
  clear hp
  go_wp2
  go_ret
  exact ⟨rfl, br⟩

theorem szPostS_no (v : Value) (ps : List PoT) (left : Int) (w : World) (h : RPoL w v ps) (hb : ∀ p ∈ ps, MB p.2) (h0 : 0 ≤ left) (hm : ps.length ≤ maxLen) (hs : left < (ps.length : Int) + posum ps) (hl : left ≤ 1048576) :
 Calls Tryz.prog 24 #[v,.int .i64 left] w fun e w' => e = .returned (.int .i64 (-1)) ∧ Below w.heap.size w w' := by
 obtain ⟨al, cl, rfl⟩:=RG.form h
 have H:=hide h
 have HB:=hide hb
 obtain ⟨n, hn⟩ : ∃ n, ps.length = n:=⟨_, rfl⟩
 have Hn:=hide hn
 unfold RPoL at H
 unfold maxLen at hm
 rw [hn] at hs hm H ⊢
 clear hn h hb
 by_cases h1 : left < n
 ·have hd0 : decide (left - (n : Int) < 0) = true:=by simp; omega
  clear H HB
  go_enter Tryz.func24, Tryz.ntmps24
  go_wp2
  go_ret
  exact ⟨rfl, Below.refl _ _⟩
 have hd0 : decide (left - (n : Int) < 0) = false:=by simp; omega
 go_enter Tryz.func24, Tryz.ntmps24
 go_wp2
 go_loopw [1, 5] (fun a i wr => ∃ k : Nat, k ≤ n ∧ i = .int .i64 k ∧ a = .int .i64 (left - n - (posum (ps.take k) : Nat)) ∧ (posum (ps.take k) : Int) ≤ left - n ∧ Below w.heap.size w wr) (fun _ i _ => n - (intOf i).toNat)
 case atStart => exact ⟨0, Nat.zero_le _, rfl, by simp [posum], by simp [posum]; omega, Below.refl _ _⟩
 case round =>
  obtain ⟨k, hk, rfl, rfl, hp, br⟩:=hrel
  by_cases hlt : k < n
  ·have hkx : k < ps.length:=by have:=Hn.out; omega
   have HP1:=hide (posum_take ps k hkx)
   have hbk:=HB.out (ps.getD k zpost) (by rw [List.getD_eq_getElem?_getD, List.getElem?_eq_getElem hkx]; exact List.getElem_mem hkx)
   have h1:=RG.below H.out (by decide) br (Nat.le_refl _) (fun _ _ h => h)
   obtain ⟨g, off, cs, rfl, _, c1, ao, bo, co, ca, cb, cc, e⟩:=RG.at h1 k hlt
   subst e
   clear H h1 HB
   generalize (ps.getD k zpost).1 = m at *
   generalize (ps.getD k zpost).2 = t at *
   unfold msz at HP1
   generalize posum (ps.take k) = q at *
   have hbh:=hide hbk
   obtain ⟨hb1, hb2, hb3, hb4, hb5, hb6, hb7⟩:=hbk
   unfold maxLen at hb1 hb2 hb3 hb4 hb5 hb6 hb7
   by_cases hfit : (t.bn.size : Int) + t.bs.size + t.bw.length + t.ps.size + t.pw.length + t.qs.size + t.qw.length ≤ left - n - q
   ·have SZ:=hide fun w => szPost_yes m t ao bo co ca cb cc (left - n - q) w hfit (by omega)
    have hd1 : decide (left - (n : Int) - (q : Int) - t.bn.size - t.bs.size - t.bw.length - t.ps.size - t.pw.length - t.qs.size - t.qw.length < 0) = false:=by simp; omega
    go_wp2_with (first | (refine wloadM _ c1 112 _ rfl _ rfl rfl Tryz.underlying112 rfl (by kernel_rfl) ?_))
    refine (SZ.out _).mono ?_
    rintro e w1 ⟨rfl, b1⟩
    have B1:=bu br b1
    clear c1 SZ b1
    go_wp2
    go_roundw
    case rel => exact ⟨k + 1, by omega, by go_num, by rw [HP1.out]; simp; omega, by rw [HP1.out]; simp; omega, B1⟩
    case measure => simp [intOf]; omega
   have SZ:=hide fun w => szPost_no m t ao bo co ca cb cc (left - n - q) w (by omega) (by omega) hbh.out (by omega)
   go_wp2_with (first | (refine wloadM _ c1 112 _ rfl _ rfl rfl Tryz.underlying112 rfl (by kernel_rfl) ?_))
   refine (SZ.out _).mono ?_
   rintro e w1 ⟨rfl, b1⟩
   have B1:=bu br b1
   clear c1 SZ b1
   go_wp2
   go_ret
   exact ⟨rfl, B1⟩
  have hkn : ps.take k = ps:=List.take_of_length_le (by have:=Hn.out; omega)
  rw [hkn] at hp
  omega
end
section
open Go.RowKit
abbrev Pt := Int × ByteArray × List Int
def zpt : Pt := (0, ⟨#[]⟩, [])
def phd (p : Pt) : Int × ByteArray := (p.1, p.2.1)
theorem Tryz.infoPt : (Tryz.prog.info? 71).map (fun i => (i.zero, i.size, i.bytes)) = some (some (.agg #[.int .i64 0,.string ⟨#[]⟩,.slice none 0 0]), 3, 48) := by kernel_rfl
def pcell (p : (Int × ByteArray) × Value) : List Value := [.int .i64 p.1.1, .string p.1.2, p.2]
def pcells (ps : List ((Int × ByteArray) × Value)) : List Value := ps.flatMap pcell
theorem pcells_cons (p : (Int × ByteArray) × Value) (ps : List ((Int × ByteArray) × Value)) : pcells (p :: ps) = .int .i64 p.1.1 :: .string p.1.2 :: p.2 :: pcells ps := by simp [pcells, pcell]
theorem pcells_len (ps : List ((Int × ByteArray) × Value)) : (pcells ps).length = ps.length * 3 := by
 induction ps with
 | nil => rfl
 | cons p ps ih => rw [pcells_cons]; simp only [List.length_cons, ih]; omega
theorem pcells_get (ps : List ((Int × ByteArray) × Value)) (k j : Nat) (hk : k < ps.length) (hj : j < 3) : (pcells ps)[k * 3 + j]? = (pcell (ps.getD k ((0, ⟨#[]⟩),.slice none 0 0)))[j]? := by
 induction ps generalizing k with
 | nil => simp at hk
 | cons p ps ih =>
  have e : pcells (p :: ps) = pcell p ++ pcells ps:=by simp [pcells]
  rw [e]
  cases k with
  | zero => rw [Nat.zero_mul, Nat.zero_add, List.getElem?_append_left (by simp [pcell]; exact hj)]; rfl
  | succ k =>
   rw [List.getElem?_append_right (by simp [pcell]; omega), show (pcell p).length = 3 from rfl, show (k + 1) * 3 + j - 3 = k * 3 + j from by omega, ih k (by simpa using hk)]
   rfl
structure OPtV (w : World) (base : Nat) (v : Value) (ps : List Pt) (vs : List Value) : Prop where
 len : vs.length = ps.length
 row : w.ownsRow base 71 3 v ps.length (pcells ((ps.map phd).zip vs))
 each : ∀ k, k < ps.length → OI w base (vs.getD k (.slice none 0 0)) (ps.getD k zpt).2.2
 apart : ∀ i j, i < j → j < ps.length → ∀ b, (vs.getD i (.slice none 0 0)).ownBlock = some b → (vs.getD j (.slice none 0 0)).ownBlock ≠ some b
def OPt (w : World) (base : Nat) (v : Value) (ps : List Pt) : Prop := ∃ vs, OPtV w base v ps vs
theorem pt_oi {w : World} {B B' n : Nat} {v u : Value} {cs : List Value} {ys : List Int} (h : w.ownsRow B 71 3 v n cs) (h' : OI w B' u ys) (b : Nat) (hv : v.ownBlock = some b) : u.ownBlock ≠ some b := by
 rcases h.2 with ⟨rfl, _⟩ | ⟨g, cap, cur, rfl, _, hg, _⟩
 ·simp [Value.ownBlock] at hv
 rcases h'.2 with ⟨rfl, _⟩ | ⟨g', cap', cur', rfl, _, hg', _⟩
 ·simp [Value.ownBlock]
 intro e
 simp [Value.ownBlock] at e hv
 subst hv
 rw [e, hg] at hg'
 simp at hg'
theorem OPtV.below {w w' : World} {base : Nat} {v : Value} {ps : List Pt} {vs : List Value} (h : OPtV w base v ps vs) (hb : Below w.heap.size w w') : OPtV w' base v ps vs :=
 ⟨h.len, World.ownsRow.kept (row := none) h.row ⟨hb.os, hb.tape, hb.output, hb.size, fun k hk _ => hb.block k hk⟩ (by cases v.ownBlock <;> simp), fun k hk => (h.each k hk).below hb, h.apart⟩
theorem OPt.below {w w' : World} {base : Nat} {v : Value} {ps : List Pt} (h : OPt w base v ps) (hb : Below w.heap.size w w') : OPt w' base v ps := by
 obtain ⟨vs, h⟩:=h; exact ⟨vs, h.below hb⟩
theorem OPtV.kp {w w' : World} {base : Nat} {X : Nat → Prop} {v : Value} {ps : List Pt} {vs : List Value} (h : OPtV w base v ps vs) (k : Kp w w' X) (hX : ∀ j, base ≤ j → j < w.heap.size → ¬ X j) : OPtV w' base v ps vs := by
 have rl:=World.ownsRow.lt h.row
 refine ⟨h.len, ?_, fun j hj => (h.each j hj).kp k (fun b hb => by have := World.ownsRow.lt (h.each j hj) b hb; exact hX b this.1 this.2), h.apart⟩
 rcases h.row with ⟨h1, ⟨e, h0⟩ | ⟨g, cap, cur, e, hg, hrow, rest⟩⟩
 ·exact ⟨h1, .inl ⟨e, h0⟩⟩
 have hlt:=rl g (by rw [e]; rfl)
 exact ⟨h1, .inr ⟨g, cap, cur, e, hg, (k.block g hlt.2 (hX g hlt.1 hlt.2)).trans hrow, rest⟩⟩
theorem OPt.kp {w w' : World} {base : Nat} {X : Nat → Prop} {v : Value} {ps : List Pt} (h : OPt w base v ps) (k : Kp w w' X) (hX : ∀ j, base ≤ j → j < w.heap.size → ¬ X j) : OPt w' base v ps := by
 obtain ⟨vs, h⟩:=h; exact ⟨vs, h.kp k hX⟩
theorem OPtV.mono {w : World} {base base' : Nat} {v : Value} {ps : List Pt} {vs : List Value} (h : OPtV w base v ps vs) (hb : base' ≤ base) : OPtV w base' v ps vs := by
 refine ⟨h.len, ?_, fun k hk => OI.mono (h.each k hk) hb, h.apart⟩
 obtain ⟨h1, h2⟩:=h.row
 refine ⟨h1, ?_⟩
 rcases h2 with h2 | ⟨g, cap, cur, e, hg, rest⟩
 ·exact .inl h2
 exact .inr ⟨g, cap, cur, e, Nat.le_trans hb hg, rest⟩
theorem OPt.mono {w : World} {base base' : Nat} {v : Value} {ps : List Pt} (h : OPt w base v ps) (hb : base' ≤ base) : OPt w base' v ps := by
 obtain ⟨vs, h⟩:=h; exact ⟨vs, h.mono hb⟩
theorem OPt.form {w : World} {base : Nat} {v : Value} {ps : List Pt} (h : OPt w base v ps) : ∃ ao ca, v = .slice ao ps.length ca := by
 obtain ⟨vs, h⟩:=h
 rcases h.row.2 with ⟨rfl, h0⟩ | ⟨g, cap, cur, rfl, _⟩
 ·exact ⟨none, 0, by rw [h0]⟩
 exact ⟨_, _, rfl⟩
def RPt (w : World) (v : Value) (ps : List Pt) : Prop :=
 ∃ ao cap, v = .slice ao ps.length cap ∧ (ps = [] ∨ ∃ g off, ao = some ⟨g, off, none⟩ ∧ ∀ k, k < ps.length → ∃ u, w.cell? ⟨g, off + k * 3, none⟩ = some (.int .i64 (ps.getD k zpt).1) ∧ w.cell? ⟨g, off + k * 3 + 1, none⟩ = some (.string (ps.getD k zpt).2.1) ∧ w.cell? ⟨g, off + k * 3 + 2, none⟩ = some u ∧ RI w u (ps.getD k zpt).2.2)
theorem pzip_get (ps : List Pt) (vs : List Value) (hl : vs.length = ps.length) (k : Nat) (hk : k < ps.length) : ((ps.map phd).zip vs).getD k ((0, ⟨#[]⟩),.slice none 0 0) = (phd (ps.getD k zpt), vs.getD k (.slice none 0 0)) := by
 rw [List.getD_eq_getElem?_getD, List.getElem?_eq_getElem (by simp; omega)]
 simp [List.getElem?_eq_getElem hk, List.getElem?_eq_getElem (show k < vs.length by omega)]
theorem pt_mem {ps : List Pt} {k : Nat} (hk : k < ps.length) : ps.getD k zpt ∈ ps := by
 rw [List.getD_eq_getElem?_getD, List.getElem?_eq_getElem hk]; exact List.getElem_mem hk
theorem OPt.rpt {w : World} {base : Nat} {v : Value} {ps : List Pt} (h : OPt w base v ps) (hs : ∀ p ∈ ps, p.2.2.length ≤ 4194304) : RPt w v ps := by
 obtain ⟨vs, h⟩:=h
 have hz : ((ps.map phd).zip vs).length = ps.length:=by simp [h.len]
 rcases h.row.2 with ⟨rfl, h0⟩ | ⟨g, cap, cur, rfl, _⟩
 ·exact ⟨none, 0, by rw [h0], .inl (List.length_eq_zero_iff.1 h0)⟩
 refine ⟨_, cap, rfl, .inr ⟨g, 0, rfl, fun k hk => ?_⟩⟩
 have c0:=World.ownsRow.cellAt h.row (k * 3 + 0) (by omega)
 have c1:=World.ownsRow.cellAt h.row (k * 3 + 1) (by omega)
 have c2:=World.ownsRow.cellAt h.row (k * 3 + 2) (by omega)
 rw [pcells_get _ k _ (by omega) (by omega), pzip_get ps vs h.len k hk] at c0 c1 c2
 refine ⟨_, ?_, ?_, ?_, (h.each k hk).ri (hs _ (pt_mem hk))⟩
 ·rw [Nat.zero_add]; exact c0
 ·rw [Nat.zero_add]; exact c1
 rw [Nat.zero_add]; exact c2
theorem RPt.below {w w' : World} {B : Nat} {v : Value} {ps : List Pt} (h : RPt w v ps) (hb : Below B w w') (hB : w.heap.size ≤ B := by exact Nat.le_refl _) : RPt w' v ps := by
 obtain ⟨ao, cap, rfl, h⟩:=h
 refine ⟨ao, cap, rfl, ?_⟩
 rcases h with h | ⟨g, off, rfl, h⟩
 ·exact .inl h
 refine .inr ⟨g, off, rfl, fun k hk => ?_⟩
 obtain ⟨u, c0, c1, c2, r⟩:=h k hk
 have hg : g < B:=Nat.lt_of_lt_of_le (cell_lt c0) hB
 exact ⟨u, (hb.cell (p := ⟨g, off + k * 3, none⟩) hg).trans c0, (hb.cell (p := ⟨g, off + k * 3 + 1, none⟩) hg).trans c1, (hb.cell (p := ⟨g, off + k * 3 + 2, none⟩) hg).trans c2, r.below hb hB⟩
theorem RPt.form {w : World} {v : Value} {ps : List Pt} (h : RPt w v ps) : ∃ ao ca, v = .slice ao ps.length ca := by obtain ⟨ao, ca, e, _⟩ := h; exact ⟨ao, ca, e⟩
theorem RPt.at {w : World} {ao : Option Addr} {n ca : Nat} {ps : List Pt} (h : RPt w (.slice ao n ca) ps) (k : Nat) (hk : k < ps.length) : ∃ g off u, ao = some ⟨g, off, none⟩ ∧ w.cell? ⟨g, off + k * 3, none⟩ = some (.int .i64 (ps.getD k zpt).1) ∧ w.cell? ⟨g, off + k * 3 + 1, none⟩ = some (.string (ps.getD k zpt).2.1) ∧ w.cell? ⟨g, off + k * 3 + 2, none⟩ = some u ∧ RI w u (ps.getD k zpt).2.2 := by
 obtain ⟨ao', ca', e, h⟩:=h
 cases e
 rcases h with rfl | ⟨g, off, rfl, h⟩
 ·simp at hk
 obtain ⟨u, h⟩:=h k hk; exact ⟨g, off, u, rfl, h⟩
structure OPR (w : World) (lo hi : Nat) (v : Value) (ps : List Pt) (vs : List Value) : Prop where
 tab : OPtV w lo v ps vs
 top : hi ≤ w.heap.size
 rowHi : ∀ b, v.ownBlock = some b → b < hi
 eachHi : ∀ k, k < ps.length → ∀ b, (vs.getD k (.slice none 0 0)).ownBlock = some b → b < hi
theorem OPtV.opr {w : World} {base : Nat} {v : Value} {ps : List Pt} {vs : List Value} (h : OPtV w base v ps vs) : OPR w base w.heap.size v ps vs :=
 ⟨h, Nat.le_refl _, fun b hb => (World.ownsRow.lt h.row b hb).2, fun k hk b hb => (World.ownsRow.lt (h.each k hk) b hb).2⟩
theorem OPR.kp {w w' : World} {lo hi : Nat} {X : Nat → Prop} {v : Value} {ps : List Pt} {vs : List Value} (h : OPR w lo hi v ps vs) (k : Kp w w' X) (hX : ∀ j, lo ≤ j → j < hi → ¬ X j) : OPR w' lo hi v ps vs := by
 refine ⟨?_, Nat.le_trans h.top k.size, h.rowHi, h.eachHi⟩
 refine ⟨h.tab.len, ?_, fun j hj => (h.tab.each j hj).kp k (fun b hb => hX b (World.ownsRow.lt (h.tab.each j hj) b hb).1 (h.eachHi j hj b hb)), h.tab.apart⟩
 have rl:=World.ownsRow.lt h.tab.row
 rcases h.tab.row with ⟨h1, ⟨e, h0⟩ | ⟨g, cap, cur, e, hg, hrow, rest⟩⟩
 ·exact ⟨h1, .inl ⟨e, h0⟩⟩
 have eo : v.ownBlock = some g:=by rw [e]; rfl
 exact ⟨h1, .inr ⟨g, cap, cur, e, hg, (k.block g (rl g eo).2 (hX g (rl g eo).1 (h.rowHi g eo))).trans hrow, rest⟩⟩
theorem OPR.below {w w' : World} {lo hi : Nat} {v : Value} {ps : List Pt} {vs : List Value} (h : OPR w lo hi v ps vs) (hb : Below w.heap.size w w') : OPR w' lo hi v ps vs :=
 h.kp (Below.kpOf hb (fun _ => False)) (fun _ _ _ h => h)
theorem OPR.rpt {w : World} {lo hi : Nat} {v : Value} {ps : List Pt} {vs : List Value} (h : OPR w lo hi v ps vs) (hs : ∀ p ∈ ps, p.2.2.length ≤ 4194304) : RPt w v ps := OPt.rpt ⟨vs, h.tab⟩ hs
def CapP (v : Value) : Prop := ∃ ao n cap, v = .slice ao n cap ∧ n ≤ cap ∧ cap ≤ maxLen
theorem OPtV.cap {w : World} {base : Nat} {v : Value} {ps : List Pt} {vs : List Value} (h : OPtV w base v ps vs) : CapP v := by
 rcases h.row.2 with ⟨rfl, h0⟩ | ⟨g, cap, cur, rfl, _, _, hca, hcm, _⟩
 ·exact ⟨none, 0, 0, rfl, Nat.le_refl _, by unfold maxLen; omega⟩
 exact ⟨_, _, cap, rfl, hca, hcm⟩
theorem OPt.cap {w : World} {base : Nat} {v : Value} {ps : List Pt} (h : OPt w base v ps) : CapP v := by obtain ⟨vs, h⟩ := h; exact h.cap
theorem OPR.cap {w : World} {lo hi : Nat} {v : Value} {ps : List Pt} {vs : List Value} (h : OPR w lo hi v ps vs) : CapP v := h.tab.cap
end
section
open Go.ChangeShapes Go.WideShapes Go.ChangeAt Go.RowKit
open Go.Joins
variable [∀ (a b c d : Int), Decidable (Ok4 a b c d)]
variable [∀ (n f : Int), Decidable (COk n f)]
theorem cellsPart : Tryz.prog.cellsOf 102 = 3 := by kernel_rfl
abbrev Pr := Int × ByteArray × Option Addr × Nat × List Int
def prz : Pr := (0, ⟨#[]⟩, none, 0, [])
def prp (r : Pr) : Pt := (r.1, r.2.1, r.2.2.2.2)
def ATab (W : World) (ao : Option Addr) (rs : List Pr) : Prop :=
 rs = [] ∨ ∃ g off, ao = some ⟨g, off, none⟩ ∧ ∀ k, k < rs.length → W.cell? ⟨g, off + k * 3, none⟩ = some (.int .i64 (rs.getD k prz).1) ∧ W.cell? ⟨g, off + k * 3 + 1, none⟩ = some (.string (rs.getD k prz).2.1) ∧ W.cell? ⟨g, off + k * 3 + 2, none⟩ = some (.slice (rs.getD k prz).2.2.1 (rs.getD k prz).2.2.2.2.length (rs.getD k prz).2.2.2.1)
theorem three_list {α : Type} {l : List α} (h : l.length = 3) : ∃ a b c, l = [a, b, c] := by
 match l, h with
 | [a, b, c], _ => exact ⟨a, b, c, rfl⟩
theorem open_parts0 {H : Type} {enc : TypeId × Value → H} {W : World} {fuel : Nat} {a : Option Addr} {len cap : Nat} {x : DataW H × List MemPlace} (h : DataW.trod enc Tryz.prog W 0 (fun _ => true) true fuel 30 (Value.slice a len cap).cells.toList = some x) :
 ∃ rs : List Pr, len = rs.length ∧ rs.length ≤ maxLen ∧ ATab W a rs ∧ ∀ r ∈ rs, r.2.1.size ≤ maxLen ∧ r.2.2.2.2.length ≤ maxLen ∧ AIW W r.2.2.1 r.2.2.2.2 ∧ WfL r.2.2.2.2 := by
 rcases Go.Deep.open_slice Tryz.underlying30 h with ⟨hcs, _⟩ | ⟨ad, l, c, m, n, D, Pl, hcs, _, hl, hm, hmm, _, hx⟩
 ·simp [Value.cells] at hcs
  obtain ⟨rfl, rfl, rfl⟩:=hcs
  exact ⟨[], rfl, by simp, .inl rfl, fun r hr => by simp at hr⟩
 simp [Value.cells] at hcs
 obtain ⟨rfl, rfl, rfl⟩:=hcs
 have hm' : m = cap:=by simpa using hmm
 have each : ∀ i, ∃ q : Pr, i < len → (W.cell? (ad.add (i * 3)) = some (.int .i64 q.1) ∧ W.cell? (ad.add (i * 3 + 1)) = some (.string q.2.1) ∧ W.cell? (ad.add (i * 3 + 2)) = some (.slice q.2.2.1 q.2.2.2.2.length q.2.2.2.1)) ∧ q.2.1.size ≤ maxLen ∧ q.2.2.2.2.length ≤ maxLen ∧ AIW W q.2.2.1 q.2.2.2.2 ∧ WfL q.2.2.2.2:=by
  intro i
  by_cases hi : i < len
  ·obtain ⟨cs', h1, h2⟩:=hx i (by omega)
   rw [cellsPart] at h1
   obtain ⟨_, hlen, hcell⟩:=World.cells?_some h1
   obtain ⟨y0, y1, y2, k, _, _, g0, g1, g2⟩:=Go.Deep.trod_struct3 Tryz.underlying102 h2
   obtain ⟨v0, v1, v2, rfl⟩:=three_list hlen
   have e0:=hcell 0 (by omega)
   have e1:=hcell 1 (by omega)
   have e2:=hcell 2 (by omega)
   rw [Go.Deep.add_add] at e0 e1 e2
   have ci : Tryz.prog.cellsOf 3 = 1:=by kernel_rfl
   have cs : Tryz.prog.cellsOf 9 = 1:=by kernel_rfl
   simp [ci, cs] at g0 g1 g2
   obtain ⟨a0, e0', _, _⟩:=DataW.trod_int Tryz.underlying3 g0
   obtain ⟨a1, e1', _, hs1⟩:=DataW.trod_string Tryz.underlying9 g1
   obtain ⟨ao, ca, xs, rfl, hxl, hxc, hxw⟩:=open_listW g2
   simp at e0' e1'
   subst e0' e1'
   exact ⟨(a0, a1, ao, ca, xs), fun _ => ⟨⟨by simpa using e0, by simpa using e1, by simpa using e2⟩, hs1, hxl, hxc, hxw⟩⟩
  exact ⟨prz, fun h => absurd h hi⟩
 obtain ⟨q, hq⟩:=Classical.axiomOfChoice each
 refine ⟨(List.range len).map q, by simp, by simp; omega, ?_, fun r hr => ?_⟩
 ·by_cases h0 : len = 0
  ·left; simp [h0]
  right
  obtain ⟨b, off, spot⟩:=ad
  have hc:=(hq 0 (by omega)).1.1
  have hspot : spot = none:=by simpa [Addr.add] using World.cell?_spot hc
  subst hspot
  refine ⟨b, off, rfl, fun k hk => ?_⟩
  rw [List.length_map, List.length_range] at hk
  have:=(hq k hk).1
  have ea : ∀ j, ((⟨b, off, none⟩ : Addr).add j) = ⟨b, off + j, none⟩:=fun j => by unfold Addr.add; split <;> simp_all
  rw [ea, ea, ea] at this
  have eg : ((List.range len).map q).getD k prz = q k:=by simp [hk]
  rw [eg]
  simpa [Nat.add_assoc] using this
 obtain ⟨j, hj, rfl⟩:=List.mem_map.1 hr
 exact (hq j (List.mem_range.1 hj)).2
theorem ATab.rpt {W : World} {ao : Option Addr} {ca : Nat} {rs : List Pr} (h : ATab W ao rs) (he : ∀ r ∈ rs, AIW W r.2.2.1 r.2.2.2.2) (hl : ∀ r ∈ rs, r.2.2.2.2.length ≤ 4194304) : RPt W (.slice ao rs.length ca) (rs.map prp) := by
 refine ⟨ao, ca, by simp, ?_⟩
 rcases h with rfl | ⟨g, off, rfl, h⟩
 ·exact .inl rfl
 refine .inr ⟨g, off, rfl, fun k hk => ?_⟩
 rw [List.length_map] at hk
 have hm : rs.getD k prz ∈ rs:=by rw [List.getD_eq_getElem?_getD, List.getElem?_eq_getElem hk]; exact List.getElem_mem hk
 have e : (rs.map prp).getD k zpt = prp (rs.getD k prz):=by simp [List.getElem?_eq_getElem hk]
 obtain ⟨c0, c1, c2⟩:=h k hk
 rw [e]
 exact ⟨_, c0, c1, c2, (he _ hm).ri (hl _ hm)⟩
end
end Go.Proofs.YtmpffkpilbbclaaGreatDoor
