/- Lemmas, as stated. -/
import Derived.Test.YtjdchloechcclaaGreatDoorSNAN
import Derived.Test.YtjdchloechcclaaGreatDoorSNAI
import Derived.Test.YtjdchloechcclaaGreatDoorSNAJ
set_option maxRecDepth 100000
set_option maxHeartbeats 16000000
set_option linter.unusedSectionVars false
namespace Go.Proofs.YtjdchloechcclaaGreatDoor
section
open Go.RowKit
variable [∀ (a b c d : Int), Decidable (Ok4 a b c d)]
def tmark (k0 i : Nat) : T4 := ((k0 : Int) + (i : Int) * 4, (k0 : Int) + (i : Int) * 4 + 1, (k0 : Int) + (i : Int) * 4 + 2, (k0 : Int) + (i : Int) * 4 + 3)
def tmarks (k0 n : Nat) : List T4 := (List.range n).map (tmark k0)
theorem tmarks_len (k0 n : Nat) : (tmarks k0 n).length = n := by simp [tmarks]
theorem tmarks_get (k0 n i : Nat) (h : i < n) : (tmarks k0 n).getD i (0, 0, 0, 0) = tmark k0 i := by simp [tmarks, h]
theorem tmarks_succ (k0 n : Nat) : tmarks k0 (n + 1) = tmarks k0 n ++ [tmark k0 n] := by simp [tmarks, List.range_succ]
def tmixed (k0 k : Nat) (vs : List T4) : List T4 := tmarks k0 k ++ vs.drop k
theorem tmixed_zero (k0 : Nat) (vs : List T4) : tmixed k0 0 vs = vs := by simp [tmixed, tmarks]
theorem tmixed_all (k0 : Nat) (vs : List T4) : tmixed k0 vs.length vs = tmarks k0 vs.length := by simp [tmixed]
theorem tmixed_len (k0 k : Nat) (vs : List T4) (h : k ≤ vs.length) : (tmixed k0 k vs).length = vs.length := by simp [tmixed, tmarks_len]; omega
theorem tcells_set (xs : List T4) (k : Nat) (x : T4) (hk : k < xs.length) : ((((tcells xs).set (k * 4) (.int .i64 x.1)).set (k * 4 + 1) (.int .i64 x.2.1)).set (k * 4 + 2) (.int .i64 x.2.2.1)).set (k * 4 + 3) (.int .i64 x.2.2.2) = tcells (xs.set k x) := by
 induction xs generalizing k with
 | nil => simp at hk
 | cons y ys ih =>
  have e : ∀ z : T4, ∀ zs, tcells (z :: zs) = .int .i64 z.1 :: .int .i64 z.2.1 :: .int .i64 z.2.2.1 :: .int .i64 z.2.2.2 :: tcells zs:=fun z zs => by simp [tcells, tcell]
  cases k with
  | zero => rw [e]; simp [e]
  | succ k =>
   rw [e, List.set_cons_succ, e, ← ih k (by simpa using hk)]
   rw [show (k + 1) * 4 = k * 4 + 1 + 1 + 1 + 1 from by omega]
   simp only [List.set_cons_succ]
theorem tmixed_set (k0 k : Nat) (vs : List T4) (h : k < vs.length) : (tmixed k0 k vs).set k (tmark k0 k) = tmixed k0 (k + 1) vs := by
 unfold tmixed
 rw [tmarks_succ, List.set_append_right _ _ (by simp [tmarks_len]), tmarks_len, Nat.sub_self, List.drop_eq_getElem_cons h, List.set_cons_zero]
 simp

theorem tmark_row (base g n cap k0 : Nat) (vs : List T4) (w : World) (hn : n ≤ 4194304) (hk1 : k0 ≤ 100000000) (hv : vs.length = n) (h : OT w base (.slice (some ⟨g, 0, none⟩) n cap) vs) :
 Calls Tryz.prog 52 #[.slice (some ⟨g, 0, none⟩) n cap,.int .i64 k0] w fun e w' => e = .returned (.int .i64 (k0 + n * 4)) ∧
  OT w' base (.slice (some ⟨g, 0, none⟩) n cap) (tmarks k0 n) ∧ w.grownBy w' (some g) := by
 have Hv:=hide hv
 clear hv
 go_enter Tryz.func52, Tryz.ntmps52
 go_wp2
 go_loopw [1, 5] (fun c i wr => ∃ k : Nat, k ≤ n ∧ i = .int .i64 k ∧ c = .int .i64 ((k0 : Int) + (k : Int) * 4) ∧ OT wr base (.slice (some ⟨g, 0, none⟩) n cap) (tmixed k0 k vs) ∧ w.grownBy wr (some g)) (fun _ i _ => n - (intOf i).toNat)
 case atStart => exact ⟨0, Nat.zero_le _, rfl, by go_num, by rw [tmixed_zero]; exact h, ⟨rfl, rfl, rfl, Nat.le_refl _, fun _ _ _ => rfl⟩⟩
 case round =>
  obtain ⟨k, hk, rfl, rfl, ho, hg⟩:=hrel
  by_cases hlt : k < n
  ·have hkv : k < vs.length:=by rw [Hv.out]; exact hlt
   have hlen : (tmixed k0 k vs).length = n:=by rw [tmixed_len k0 k vs (by omega), Hv.out]
   have ho0 : wr.ownsRow base 70 4 (.slice (some ⟨g, 0, none⟩) n cap) n (tcells (tmixed k0 k vs)):=by have:=ho; unfold OT at this; rw [hlen] at this; exact this
   obtain ⟨y0, y1, y2, y3⟩ : (∃ u, wr.cell? ⟨g, k * 4, none⟩ = some u) ∧ (∃ u, wr.cell? ⟨g, k * 4 + 1, none⟩ = some u) ∧ (∃ u, wr.cell? ⟨g, k * 4 + 2, none⟩ = some u) ∧ (∃ u, wr.cell? ⟨g, k * 4 + 3, none⟩ = some u):=by
    have gt : ∀ j, j < n * 4 → ∃ u, wr.cell? ⟨g, j, none⟩ = some u:=fun j hj => ⟨_, (ho0.cellAt j hj).trans (List.getElem?_eq_getElem (by rw [tcells_len, hlen]; exact hj))⟩
    exact ⟨gt _ (by omega), gt _ (by omega), gt _ (by omega), gt _ (by omega)⟩
   obtain ⟨u0, y0⟩:=y0
   obtain ⟨u1, y1⟩:=y1
   obtain ⟨u2, y2⟩:=y2
   obtain ⟨u3, y3⟩:=y3
   have hfr:=ho0.frozenAt
   have t0:=ho0.stored (k * 4) (.int .i64 ((k0 : Int) + (k : Int) * 4))
   have t1:=t0.1.stored (k * 4 + 1) (.int .i64 ((k0 : Int) + (k : Int) * 4 + 1))
   have t2:=t1.1.stored (k * 4 + 2) (.int .i64 ((k0 : Int) + (k : Int) * 4 + 2))
   have t3:=t2.1.stored (k * 4 + 3) (.int .i64 ((k0 : Int) + (k : Int) * 4 + 3))
   have HO:=hide t3.1
   have HG:=hide (grown_trans hg (grown_trans t0.2 (grown_trans t1.2 (grown_trans t2.2 t3.2))))
   have hlen' : (tmixed k0 (k + 1) vs).length = n:=by rw [tmixed_len k0 (k + 1) vs (by omega), Hv.out]
   clear t0 t1 t2 t3 ho ho0 hg
   go_wp2
   go_roundw
   case rel =>
    refine ⟨k + 1, by omega, by go_num, by go_num, ?_, ?_⟩
    ·unfold OT
     rw [hlen', ← tmixed_set k0 k vs hkv, ← tcells_set _ _ _ (by rw [hlen]; exact hlt)]
     exact HO.out
    exact HG.out
   case measure => simp [intOf]; omega
  have hkn : k = n:=by omega
  have HO : Hid (OT wr base (.slice (some ⟨g, 0, none⟩) n cap) (tmarks k0 n)):=by
   have:=tmixed_all k0 vs; rw [Hv.out] at this; rw [← this, ← hkn]; rw [← hkn] at ho; exact ho
  clear ho
  subst hkn
  go_wp2
  go_ret
  exact ⟨rfl, HO.out, hg⟩

theorem theld_row (v : Value) (n k0 : Nat) (w : World) (hn : n ≤ 4194304) (hk1 : k0 ≤ 100000000) (h : RT w v (tmarks k0 n)) :
 Calls Tryz.prog 58 #[v,.int .i64 k0] w fun e w' => e = .returned (.int .i64 (k0 + n * 4)) ∧ Below w.heap.size w w' := by
 obtain ⟨hl, ao, ca, rfl, ha⟩:=h
 rw [tmarks_len] at hl ha ⊢
 go_enter Tryz.func58, Tryz.ntmps58
 go_wp2
 go_loopw [1, 5] (fun c i wr => ∃ k : Nat, k ≤ n ∧ i = .int .i64 k ∧ c = .int .i64 ((k0 : Int) + (k : Int) * 4) ∧ Below w.heap.size w wr) (fun _ i _ => n - (intOf i).toNat)
 case atStart => exact ⟨0, Nat.zero_le _, rfl, by go_num, Below.refl _ _⟩
 case round =>
  obtain ⟨k, hk, rfl, rfl, hb⟩:=hrel
  by_cases hlt : k < n
  ·rcases ha with ha | ⟨b, rfl, ha⟩
   ·have:=congrArg List.length ha; rw [tmarks_len] at this; simp at this; omega
   obtain ⟨a0, a1, a2, a3⟩:=ha k hlt
   rw [tmarks_get k0 n k hlt] at a0 a1 a2 a3
   simp only [tmark] at a0 a1 a2 a3
   have hlb : b < w.heap.size:=cell_lt a0
   have c0:=(hb.cell (p:=⟨b, k * 4, none⟩) hlb).trans a0
   have c1:=(hb.cell (p:=⟨b, k * 4 + 1, none⟩) hlb).trans a1
   have c2:=(hb.cell (p:=⟨b, k * 4 + 2, none⟩) hlb).trans a2
   have c3:=(hb.cell (p:=⟨b, k * 4 + 3, none⟩) hlb).trans a3
   clear ha a0 a1 a2 a3
   go_wp2
   go_roundw
   case rel => exact ⟨k + 1, by omega, by go_num, by go_num, hb⟩
   case measure => simp [intOf]; omega
  have hkn : k = n:=by omega
  subst hkn
  clear ha
  go_wp2
  go_ret
  exact ⟨rfl, hb⟩
end
section
open Go.RowKit
variable [∀ (a b c d : Int), Decidable (Ok4 a b c d)]
variable [∀ (a b c d : Nat), Decidable (okN a b c d)]
variable [∀ (x : T4), Decidable (OkT x)]
theorem OT.kp {w w' : World} {base : Nat} {X : Nat → Prop} {v : Value} {xs : List T4} (h : OT w base v xs) (k : Kp w w' X) (hv : ∀ k, v.ownBlock = some k → ¬ X k) : OT w' base v xs := by
 refine ⟨h.1, ?_⟩
 rcases h.2 with hn | ⟨g, cap, cur, rfl, hb, hgg, rest⟩
 ·exact .inl hn
 refine .inr ⟨g, cap, cur, rfl, hb, ?_, rest⟩
 rw [k.block g (Array.getElem?_eq_some_iff.1 hgg).1 (hv g rfl)]
 exact hgg
theorem szL_yes (ao : Option Addr) (n ca : Nat) (left : Int) (w : World) (hn : (n : Int) ≤ left) (hl : left ≤ 1048576) :
 Calls Tryz.prog 29 #[.slice ao n ca,.int .i64 left] w fun e w' => e = .returned (.int .i64 (left - n)) ∧ w' = w := by
 have hd : decide ((left : Int) - (n : Int) < 0) = false:=by simp; omega
 go_enter Tryz.func29, Tryz.ntmps29
 go_wp2
 go_ret
 exact ⟨rfl, rfl⟩
theorem szL_no (ao : Option Addr) (n ca : Nat) (left : Int) (w : World) (h0 : 0 ≤ left) (hn : left < (n : Int)) (hm : n ≤ 9223372036854775807) (hl : left ≤ 1048576) :
 Calls Tryz.prog 29 #[.slice ao n ca,.int .i64 left] w fun e w' => e = .returned (.int .i64 (-1)) ∧ w' = w := by
 have hd : decide ((left : Int) - (n : Int) < 0) = true:=by simp; omega
 go_enter Tryz.func29, Tryz.ntmps29
 go_wp2
 go_ret
 exact ⟨rfl, rfl⟩
theorem tmark_none (k0 : Int) (w : World) :
 Calls Tryz.prog 52 #[.slice none 0 0,.int .i64 k0] w fun e w' => e = .returned (.int .i64 k0) ∧ w' = w := by
 go_enter Tryz.func52, Tryz.ntmps52
 go_wp2
 refine wp_loop_rounds 1 ?_
 rw [rounds_succ]
 go_wp2
 go_ret
 exact ⟨rfl, rfl⟩
end
section
open Go.RowKit
variable [∀ (a b c d : Int), Decidable (Ok4 a b c d)]
variable [∀ (n f : Int), Decidable (COk n f)]
variable [∀ (a b c d : Nat), Decidable (okN a b c d)]
variable [∀ (x : T4), Decidable (OkT x)]
structure RpT where
 id : Int
 vw : Int
 ak : Int
 vo : Int
 lo : Int
 n : Int
 s : ByteArray
 qw : List Int
 d : ByteArray
 pool : List T4
 tab : List Pt
 dsk : List Int
 su : Int
 held : List PoT
abbrev rpv (t : RpT) (a b c d e : Value) : Value := .agg #[.int .i64 t.id,.int .i64 t.vw,.int .i64 t.ak,.int .i64 t.vo,.int .i64 t.lo,.int .i64 t.n,.string t.s, a,.string t.d, b, c, d,.int .i64 t.su, e]
structure RRep (w : World) (t : RpT) (a b c d e : Value) : Prop where
 q : RI w a t.qw
 p : RT w b t.pool
 tb : RPt w c t.tab
 d : RB w d t.dsk
 h : RPo w e t.held
structure IRep (w : World) (t : RpT) (a : Value) (bo : Option Addr) (c d e : Value) : Prop where
 q : RI w a t.qw
 p : AR w bo t.pool
 tb : RPt w c t.tab
 d : RB w d t.dsk
 h : RPo w e t.held
theorem IRep.below {w w' : World} {t : RpT} {a : Value} {bo : Option Addr} {c d e : Value} (h : IRep w t a bo c d e) (hb : Below w.heap.size w w') : IRep w' t a bo c d e :=
 ⟨h.q.below hb, h.p.below hb, h.tb.below hb, h.d.below hb, h.h.below hb⟩
def ORep (w : World) (lo : Nat) (t : RpT) (a b c d e : Value) : Prop := ∃ s1 s2 s3 s4 vs, (lo ≤ s1 ∧ s1 ≤ s2 ∧ s2 ≤ s3 ∧ s3 ≤ s4 ∧ s4 ≤ w.heap.size) ∧ (OI w lo a t.qw ∧ ∀ j, a.ownBlock = some j → j < s1) ∧ (OT w s1 b t.pool ∧ ∀ j, b.ownBlock = some j → j < s2) ∧ OPR w s2 s3 c t.tab vs ∧ (OB w s3 d t.dsk ∧ ∀ j, d.ownBlock = some j → j < s4) ∧ OPo w s4 e t.held
theorem ORep.below {w w' : World} {lo : Nat} {t : RpT} {a b c d e : Value} (h : ORep w lo t a b c d e) (hb : Below w.heap.size w w') : ORep w' lo t a b c d e := by
 obtain ⟨s1, s2, s3, s4, vs, hs, ⟨a1, a2⟩, ⟨b1, b2⟩, c1, ⟨d1, d2⟩, e1⟩:=h
 have:=hb.size
 exact ⟨s1, s2, s3, s4, vs, by omega, ⟨a1.below hb, a2⟩, ⟨b1.below hb, b2⟩, c1.below hb, ⟨d1.below hb, d2⟩, e1.below hb⟩
theorem ORep.mono {w : World} {lo lo' : Nat} {t : RpT} {a b c d e : Value} (h : ORep w lo t a b c d e) (hl : lo' ≤ lo) : ORep w lo' t a b c d e := by
 obtain ⟨s1, s2, s3, s4, vs, hs, ⟨a1, a2⟩, r⟩:=h
 exact ⟨s1, s2, s3, s4, vs, by omega, ⟨a1.mono hl, a2⟩, r⟩
theorem OT.form1 {w : World} {base : Nat} {v : Value} {xs : List T4} (h : OT w base v xs) : ∃ ao ca, v = .slice ao xs.length ca := by
 rcases h.2 with ⟨rfl, h0⟩ | ⟨g, cap, cur, rfl, _⟩
 ·exact ⟨none, 0, by rw [h0]⟩
 exact ⟨_, _, rfl⟩
theorem ORep.form {w : World} {lo : Nat} {t : RpT} {a b c d e : Value} (h : ORep w lo t a b c d e) : ∃ ao ca bo cb co cc od cd oe ce, a = .slice ao t.qw.length ca ∧ b = .slice bo t.pool.length cb ∧ c = .slice co t.tab.length cc ∧ d = .slice od t.dsk.length cd ∧ e = .slice oe t.held.length ce := by
 obtain ⟨s1, s2, s3, s4, vs, hs, ⟨a1, a2⟩, ⟨b1, b2⟩, c1, ⟨d1, d2⟩, e1⟩:=h
 obtain ⟨ao, ca, rfl⟩:=a1.form
 obtain ⟨bo, cb, rfl⟩:=OT.form1 b1
 obtain ⟨co, cc, rfl⟩:=OPt.form ⟨vs, c1.tab⟩
 obtain ⟨od, cd, rfl⟩:=d1.form
 obtain ⟨oe, ce, rfl⟩:=e1.form
 exact ⟨_, _, _, _, _, _, _, _, _, _, rfl, rfl, rfl, rfl, rfl⟩
structure RSm (t : RpT) : Prop where
 q : t.qw.length ≤ 1048577
 p : t.pool.length ≤ 1048577
 tb : t.tab.length ≤ 1048577
 d : t.dsk.length ≤ 1048577
 h : t.held.length ≤ 1048577
 tt : ∀ p ∈ t.tab, p.2.2.length ≤ 4194304
 hh : ∀ j, j < t.held.length → (t.held.getD j zpost).2.bw.length ≤ 4194304 ∧ (t.held.getD j zpost).2.pw.length ≤ 4194304 ∧ (t.held.getD j zpost).2.qw.length ≤ 4194304
theorem ORep.rrep {w : World} {lo : Nat} {t : RpT} {a b c d e : Value} (h : ORep w lo t a b c d e) (hs : RSm t) : RRep w t a b c d e := by
 obtain ⟨s1, s2, s3, s4, vs, _, ⟨a1, _⟩, ⟨b1, _⟩, c1, ⟨d1, _⟩, e1⟩:=h
 exact ⟨a1.ri (by have := hs.q; omega), b1.rt (by have := hs.p; omega), c1.rpt hs.tt, d1.rb (by have := hs.d; omega), e1.rpo hs.hh⟩
theorem RB.form1 {w : World} {v : Value} {xs : List Int} (h : RB w v xs) : ∃ ao ca, v = .slice ao xs.length ca := by obtain ⟨_, ao, ca, e, _⟩ := h; exact ⟨ao, ca, e⟩
end
section
open Go.RowKit
def markT (k : Nat) : ByteArray := ⟨(109 :: Lib.decDigits k).toArray⟩

theorem markText_any (n : Nat) (w : World) (hn : 0 < n) (hm : n ≤ 9223372036854775807) :
 Calls Tryz.prog 55 #[.int .i64 n] w fun e w' => e = .returned (.string (markT n)) ∧ Below w.heap.size w w' := by
 have hcv:=one_str
 have hsz:=one_size
 go_enter Tryz.func55, Tryz.ntmps55
 go_wp2
 go_loopw [0, 3] (fun x s wr => ∃ (m : Nat) (t : List UInt8), m ≤ 9223372036854775807 ∧ DAt n m t ∧ x = .int .i64 m ∧ s = .string ⟨t.toArray⟩ ∧ Below w.heap.size w wr) (fun x _ _ => (intOf x).toNat)
 case atStart => exact ⟨n, [], hm, dat_start n (by omega), rfl, rfl, Below.refl _ _⟩
 case round =>
  obtain ⟨m, t, hm', hd, rfl, rfl, hb⟩:=hrel
  have ht20:=hd.2.1
  by_cases h0 : m = 0
  ·subst h0
   have HE:=hide (dat_end hd (by omega))
   clear hd
   go_wp2
   go_ret
   have HE':=HE.out
   subst HE'
   exact ⟨by apply congrArg Ending.returned; apply congrArg Value.string; apply ByteArray.ext; apply Array.toList_inj.1; simp [markT], hb⟩
  have hpos : 0 < m:=by omega
  obtain ⟨hd', hl⟩:=dat_step hd h0
  have HD:=hide hd'
  clear hd hd'
  have hs0:=hb.size
  have hmo:=one_more (m % 10) t (by omega)
  have hbl : Below w.heap.size w (wr.alloc (.cells #[.int .u8 (48 + (m : Int) % 10)] 5)):=hb.alloc hs0 _
  go_wp2
  go_roundw
  case rel => exact ⟨m / 10, _, by omega, HD.out, by go_num, by rw [← hmo]; rfl, hbl⟩
  case measure => simp [intOf]; omega
end
section
open Go.RowKit
variable [∀ (a b c d : Int), Decidable (Ok4 a b c d)]
variable [∀ (n f : Int), Decidable (COk n f)]
def pmk : Nat → List Pt → List Pt
 | _, [] => []
 | k, p :: ps => ((k : Int), markT (k + 1), imarks (k + 2) p.2.2.length) :: pmk (k + 2 + p.2.2.length) ps
def pend : Nat → List Pt → Nat
 | k, [] => k
 | k, p :: ps => pend (k + 2 + p.2.2.length) ps
theorem pmk_len (k : Nat) (ps : List Pt) : (pmk k ps).length = ps.length := by
 induction ps generalizing k with
 | nil => rfl
 | cons p ps ih => simp [pmk, ih]
theorem pmk_snoc (k : Nat) (ps : List Pt) (p : Pt) : pmk k (ps ++ [p]) = pmk k ps ++ [((pend k ps : Int), markT (pend k ps + 1), imarks (pend k ps + 2) p.2.2.length)] ∧ pend k (ps ++ [p]) = pend k ps + 2 + p.2.2.length := by
 induction ps generalizing k with
 | nil => exact ⟨rfl, rfl⟩
 | cons x ps ih => simp only [List.cons_append, pmk, pend, (ih _).1, (ih _).2]; exact ⟨trivial, trivial⟩
theorem pend_take (k0 : Nat) (ps : List Pt) (k : Nat) (hk : k < ps.length) : pend k0 (ps.take (k + 1)) = pend k0 (ps.take k) + 2 + (ps.getD k zpt).2.2.length := by
 rw [List.take_succ_eq_append_getElem hk, (pmk_snoc _ _ _).2]
 simp [List.getElem?_eq_getElem hk]
theorem pend_ge (k0 : Nat) (ps : List Pt) : k0 ≤ pend k0 ps := by
 induction ps generalizing k0 with
 | nil => exact Nat.le_refl _
 | cons p ps ih => have := ih (k0 + 2 + p.2.2.length); simp only [pend]; omega
theorem pend_le (k0 : Nat) (ps : List Pt) (k : Nat) : pend k0 (ps.take k) ≤ pend k0 ps := by
 induction ps generalizing k0 k with
 | nil => simp [pend]
 | cons p ps ih =>
  cases k with
  | zero => simp only [List.take_zero, pend]; have := pend_ge (k0 + 2 + p.2.2.length) ps; omega
  | succ k => simp only [List.take_succ_cons, pend]; exact ih _ _
def pmix (k0 k : Nat) (ps : List Pt) : List Pt := pmk k0 (ps.take k) ++ ps.drop k
theorem pmix_len (k0 k : Nat) (ps : List Pt) (h : k ≤ ps.length) : (pmix k0 k ps).length = ps.length := by
 simp [pmix, pmk_len]; omega
theorem pmix_get (k0 k : Nat) (ps : List Pt) (h : k < ps.length) : (pmix k0 k ps).getD k zpt = ps.getD k zpt := by
 have hl : (pmk k0 (ps.take k)).length = k:=by rw [pmk_len]; simp; omega
 unfold pmix
 rw [List.getD_eq_getElem?_getD, List.getElem?_append_right (by omega), hl, Nat.sub_self, List.getElem?_drop, Nat.add_zero, ← List.getD_eq_getElem?_getD]
theorem pmix_set (k0 k : Nat) (ps : List Pt) (h : k < ps.length) : (pmix k0 k ps).set k ((pend k0 (ps.take k) : Int), markT (pend k0 (ps.take k) + 1), imarks (pend k0 (ps.take k) + 2) (ps.getD k zpt).2.2.length) = pmix k0 (k + 1) ps := by
 have hl : (pmk k0 (ps.take k)).length = k:=by rw [pmk_len]; simp; omega
 unfold pmix
 rw [List.set_append_right _ _ (by omega), hl, Nat.sub_self, List.drop_eq_getElem_cons h, List.set_cons_zero, List.take_succ_eq_append_getElem h, (pmk_snoc _ _ _).1, List.append_assoc]
 simp [List.getElem?_eq_getElem h]

theorem markPartS_any (lo hi : Nat) (v : Value) (ps : List Pt) (vs : List Value) (k0 : Nat) (w : World) (hn : ps.length ≤ 4194304) (hw : ∀ p ∈ ps, p.2.2.length ≤ 4194304) (hp : pend k0 ps ≤ 100000000) (h : OPR w lo hi v ps vs) :
 Calls Tryz.prog 53 #[v,.int .i64 k0] w fun e w' => e = .returned (.int .i64 (pend k0 ps)) ∧ OPR w' lo hi v (pmk k0 ps) vs ∧ Kp w w' (fun b => lo ≤ b ∧ b < hi) := by
 obtain ⟨va, vc, rfl⟩:=OPt.form ⟨vs, h.tab⟩
 obtain ⟨n, hn'⟩ : ∃ n, ps.length = n:=⟨_, rfl⟩
 have Hn:=hide hn'
 have HW:=hide hw
 rw [hn'] at hn h ⊢
 have HS:=hide h
 clear hw h hn'
 go_enter Tryz.func53, Tryz.ntmps53
 go_wp2
 go_loopw [1, 5] (fun c i wr => ∃ k : Nat, k ≤ n ∧ i = .int .i64 k ∧ c = .int .i64 ((pend k0 (ps.take k) : Nat) : Int) ∧ OPR wr lo hi (.slice va n vc) (pmix k0 k ps) vs ∧ Kp w wr (fun b => lo ≤ b ∧ b < hi)) (fun _ i _ => n - (intOf i).toNat)
 case atStart => exact ⟨0, Nat.zero_le _, rfl, by simp [pend], by simpa [pmix, pmk] using HS.out, Kp.refl _ _⟩
 case round =>
  clear HS
  obtain ⟨k, hk, rfl, rfl, os, kr⟩:=hrel
  have hpk:=pend_le k0 ps k
  by_cases hlt : k < n
  ·have hkx : k < ps.length:=by have:=Hn.out; omega
   have hlen : (pmix k0 k ps).length = n:=by rw [pmix_len k0 k ps (by omega)]; exact Hn.out
   have hge:=pmix_get k0 k ps hkx
   have hse:=pmix_set k0 k ps hkx
   have hpt:=pend_take k0 ps k hkx
   have hpk1:=pend_le k0 ps (k + 1)
   have hxl:=HW.out _ (pt_mem hkx)
   have hkl : k < (pmix k0 k ps).length:=by omega
   obtain ⟨g, rfl⟩ : ∃ g, va = some ⟨g, 0, none⟩:=by
    rcases os.tab.row.2 with ⟨e, h0⟩ | ⟨g, cap, cur, e, _⟩
    ·omega
    injection e with e1 e2 e3; exact ⟨g, e1⟩
   have hrow:=os.tab.row
   rw [hlen] at hrow
   have hglo:=(World.ownsRow.lt hrow g rfl).1
   have hghi:=os.rowHi g rfl
   have hplen : (pcells (((pmix k0 k ps).map phd).zip vs)).length = n * 3:=by rw [pcells_len]; simp [os.tab.len, hlen]
   have hou:=os.tab.each k hkl
   have huh:=os.eachHi k hkl
   have hne : (vs.getD k (.slice none 0 0)).ownBlock ≠ some g:=pt_oi os.tab.row hou g rfl
   have hzl : ((pmix k0 k ps).map phd).zip vs = ((pmix k0 k ps).map phd).zip vs:=rfl
   have c2 : wr.cell? ⟨g, k * 3 + 2, none⟩ = some (vs.getD k (.slice none 0 0)):=by
    have:=hrow.cellAt (k * 3 + 2) (by omega)
    rw [pcells_get _ k _ (by simp [os.tab.len]; omega) (by omega), pzip_get _ vs os.tab.len k hkl] at this
    exact this
   rw [hge] at hou
   generalize (ps.getD k zpt).2.2 = xs at *
   generalize hqe : pend k0 (ps.take k) = q at *
   obtain ⟨u, hu⟩ : ∃ u, vs.getD k (.slice none 0 0) = u:=⟨_, rfl⟩
   have HU:=hide hu
   rw [hu] at hou huh hne c2
   obtain ⟨y0, d0⟩ : ∃ y, wr.cell? ⟨g, k * 3, none⟩ = some y:=⟨_, (hrow.cellAt (k * 3) (by omega)).trans (List.getElem?_eq_getElem (by rw [hplen]; omega))⟩
   have f0:=hrow.frozenAt (k * 3)
   obtain ⟨w1, hw1⟩ : ∃ y, wr.setCell ⟨g, k * 3, none⟩ (.int .i64 (q : Int)) = y:=⟨_, rfl⟩
   have k1 : Kp wr w1 (fun b => b = g):=hw1 ▸ set_kp _ _ _ _
   have r1:=hw1 ▸ (hrow.stored (k * 3) (.int .i64 (q : Int))).1
   have MT:=hide fun w => markText_any (q + 1) w (by omega) (by omega)
   have HSE:=hide hse
   have HPT:=hide hpt
   have T:=hide os.tab
   have TOP:=os.top
   have RH:=hide os.rowHi
   have EH:=hide os.eachHi
   have MK:=hide fun w h => imark_any lo (q + 2) u xs w hxl (by omega) h
   clear hzl hge hu hse hpt os
   go_wp2_with fail
   refine (MT.out _).mono ?_
   rintro e w2 ⟨rfl, b2⟩
   have r2:=World.ownsRow.kept (row:=none) r1 ⟨b2.os, b2.tape, b2.output, b2.size, fun k hk _ => b2.block k hk⟩ (by simp [Value.ownBlock])
   obtain ⟨y1, d1⟩ : ∃ y, w2.cell? ⟨g, k * 3 + 1, none⟩ = some y:=⟨_, (r2.cellAt (k * 3 + 1) (by omega)).trans (List.getElem?_eq_getElem (by rw [List.length_set, hplen]; omega))⟩
   have f1:=r2.frozenAt (k * 3 + 1)
   have c2' : w2.cell? ⟨g, k * 3 + 2, none⟩ = some u:=by
    have h1 : w1.cell? ⟨g, k * 3 + 2, none⟩ = some u:=hw1 ▸ (World.cell?_setCell_other _ _ _ _ (by simp)).trans c2
    exact (b2.cell (p := ⟨g, k * 3 + 2, none⟩) (cell_lt h1)).trans h1
   obtain ⟨mt, hmt⟩ : ∃ t, markT (q + 1) = t:=⟨_, rfl⟩
   rw [hmt] at HSE ⊢
   clear hmt
   obtain ⟨w3, hw3⟩ : ∃ y, w2.setCell ⟨g, k * 3 + 1, none⟩ (.string mt) = y:=⟨_, rfl⟩
   have r3:=hw3 ▸ (r2.stored (k * 3 + 1) (.string mt)).1
   have k3 : Kp wr w3 (fun b => b = g):=(k1.trans (Below.kpOf b2 _)).trans (hw3 ▸ set_kp _ _ _ _)
   have c3 : w3.cell? ⟨g, k * 3 + 2, none⟩ = some u:=hw3 ▸ (World.cell?_setCell_other _ _ _ _ (by simp)).trans c2'
   have o3 : OI w3 lo u xs:=hou.kp k3 (fun b hb e => hne (by rw [← e]; exact hb))
   have lu:=World.ownsRow.lt hou
   obtain ⟨ua, uc, rfl⟩:=o3.form
   have O3:=hide o3
   have R3:=hide r3
   clear c2 c2' d0 f0 r1 r2 b2 k1 MT hou hrow r3 o3 hw1
   go_wp2_with fail
   refine (MK.out _ O3.out).mono ?_
   rintro e w4 ⟨rfl, o4, g4⟩
   have T4 : OPtV w4 lo (.slice (some ⟨g, 0, none⟩) n vc) (pmix k0 (k + 1) ps) vs:=by
    rw [← HSE.out]
    refine opt_mark T.out hkl (by rw [hlen]; exact R3.out) k3 (by rw [HU.out]; exact o4) (by rw [HU.out]; exact g4)
   have K4 : Kp w w4 (fun b => lo ≤ b ∧ b < hi):=(kr.trans (k3.mono fun b e => e ▸ ⟨hglo, hghi⟩)).trans ((kp_grown g4).mono fun b e => ⟨(lu b e).1, huh b e⟩)
   have OP : Hid (OPR w4 lo hi (.slice (some ⟨g, 0, none⟩) n vc) (pmix k0 (k + 1) ps) vs):=hide ⟨T4, by have:=k3.size; have:=g4.size; omega, RH.out, fun j hj => EH.out j (by rw [hlen]; rw [pmix_len k0 (k + 1) ps (by omega), Hn.out] at hj; exact hj)⟩
   clear T4 o4 g4 c3 d1 f1 k3 lu O3 R3 T RH EH huh hne kr hw3
   go_wp2
   go_roundw
   case rel => exact ⟨k + 1, by omega, by go_num, by rw [HPT.out]; simp, OP.out, K4⟩
   case measure => simp [intOf]; omega
  have hkn : ps.take k = ps:=List.take_of_length_le (by have:=Hn.out; omega)
  have hpm : pmix k0 k ps = pmk k0 ps:=by unfold pmix; rw [hkn, List.drop_of_length_le (by have:=Hn.out; omega), List.append_nil]
  rw [hpm] at os
  rw [hkn]
  have OS:=hide os
  clear os hpm hpk
  go_wp2
  go_ret
  exact ⟨rfl, OS.out, kr⟩
theorem pmk_get (k0 : Nat) (ps : List Pt) (k : Nat) (hk : k < ps.length) : (pmk k0 ps).getD k zpt = ((pend k0 (ps.take k) : Int), markT (pend k0 (ps.take k) + 1), imarks (pend k0 (ps.take k) + 2) (ps.getD k zpt).2.2.length) := by
 induction ps generalizing k0 k with
 | nil => simp at hk
 | cons p ps ih =>
  cases k with
  | zero => rfl
  | succ k =>
   have:=ih (k0 + 2 + p.2.2.length) k (by simpa using hk)
   simpa [pmk, pend] using this

theorem heldPartS_any (v : Value) (ps : List Pt) (k0 : Nat) (w : World) (hn : ps.length ≤ 4194304) (hp : pend k0 ps ≤ 100000000) (h : RPt w v (pmk k0 ps)) :
 Calls Tryz.prog 59 #[v,.int .i64 k0] w fun e w' => e = .returned (.int .i64 (pend k0 ps)) ∧ Below w.heap.size w w' := by
 obtain ⟨ao, ca, rfl⟩:=h.form
 rw [pmk_len] at h ⊢
 obtain ⟨n, hn'⟩ : ∃ n, ps.length = n:=⟨_, rfl⟩
 have Hn:=hide hn'
 rw [hn'] at hn h ⊢
 have H:=hide h
 clear h hn'
 go_enter Tryz.func59, Tryz.ntmps59
 go_wp2
 go_loopw [1, 5] (fun c i wr => ∃ k : Nat, k ≤ n ∧ i = .int .i64 k ∧ c = .int .i64 ((pend k0 (ps.take k) : Nat) : Int) ∧ Below w.heap.size w wr) (fun _ i _ => n - (intOf i).toNat)
 case atStart => exact ⟨0, Nat.zero_le _, rfl, by simp [pend], Below.refl _ _⟩
 case round =>
  obtain ⟨k, hk, rfl, rfl, br⟩:=hrel
  have hpk:=pend_le k0 ps k
  by_cases hlt : k < n
  ·have hkx : k < ps.length:=by have:=Hn.out; omega
   have hge:=pmk_get k0 ps k hkx
   have HPT:=hide (pend_take k0 ps k hkx)
   have hpk1:=pend_le k0 ps (k + 1)
   rw [HPT.out] at hpk1
   obtain ⟨g, o, u, rfl, c0, c1, c2, ru⟩:=(H.out.below br).at k (by rw [pmk_len]; exact hkx)
   rw [hge] at c0 c1 ru
   simp only at c0 c1 ru
   generalize (ps.getD k zpt).2.2.length = xl at *
   generalize pend k0 (ps.take k) = q at *
   have MT:=hide fun w => markText_any (q + 1) w (by omega) (by omega)
   generalize markT (q + 1) = mt at *
   have K : Hid (∀ w', Below wr.heap.size wr w' → Below wr.heap.size wr w' ∧ w'.cell? ⟨g, o + k * 3, none⟩ = some (.int .i64 q) ∧ w'.cell? ⟨g, o + k * 3 + 1, none⟩ = some (.string mt) ∧ w'.cell? ⟨g, o + k * 3 + 2, none⟩ = some u):=hide fun w' hb' =>
    ⟨hb', (hb'.cell (p := ⟨g, o + k * 3, none⟩) (cell_lt c0)).trans c0, (hb'.cell (p := ⟨g, o + k * 3 + 1, none⟩) (cell_lt c1)).trans c1, (hb'.cell (p := ⟨g, o + k * 3 + 2, none⟩) (cell_lt c2)).trans c2⟩
   have RU:=hide fun w' (hb' : Below wr.heap.size wr w') => ru.below hb'
   obtain ⟨ua, uc, rfl⟩:=ru.form
   rw [imarks_len] at K RU c2
   have HE:=hide fun w h => iheld_any (.slice ua xl uc) xl (q + 2) w (by omega) h
   have bA : Below wr.heap.size wr wr.drew:=Below.drew (Below.refl _ _)
   have hKeep:=K.out _ bA
   clear hge ru H
   go_upto_region 7 with fail
   first | go_region_held3 (fun w' => Below wr.heap.size wr w' ∧ w'.cell? ⟨g, o + k * 3, none⟩ = some (.int .i64 q) ∧ w'.cell? ⟨g, o + k * 3 + 1, none⟩ = some (.string mt) ∧ w'.cell? ⟨g, o + k * 3 + 2, none⟩ = some (.slice ua xl uc)) (exact hKeep) (first
    | (go_at_call 55; have hgo := bA; refine (MT.out _).mono ?_; rintro e wa ⟨rfl, ba⟩
       have bB : Below wr.heap.size wr wa:=bu bA ba
       have hKeep:=K.out _ bB; clear bA hgo ba)) | fail
   all_goals
    have e2:=hKeep.2.2.2
    have hd1 : decide ((q : Int) + 1 + 1 + (xl : Int) < 0) = false:=by simp; omega
    clear hKeep c0 c1 c2
    go_wp2_with fail
    refine (HE.out _ (RU.out _ bB)).mono ?_
    rintro e w4 ⟨rfl, rfl⟩
    clear e2 RU HE K
    go_wp2
    go_roundw
    case rel => exact ⟨k + 1, by omega, by go_num, by rw [HPT.out]; simp, bu br bB⟩
    case measure => simp [intOf]; omega
  have hkn : ps.take k = ps:=List.take_of_length_le (by have:=Hn.out; omega)
  rw [hkn]
  clear hpk H
  go_wp2
  go_ret
  exact ⟨rfl, br⟩

theorem szPartS_no (al : Option Addr) (cl : Nat) (rs : List Pr) (left : Int) (w : World) (h : ATab w al rs) (hb : ∀ r ∈ rs, r.2.1.size ≤ maxLen ∧ r.2.2.2.2.length ≤ maxLen) (h0 : 0 ≤ left) (hm : rs.length ≤ maxLen) (hs : left < (rs.length : Int) + psum rs) (hl : left ≤ 1048576) :
 Calls Tryz.prog 30 #[.slice al rs.length cl,.int .i64 left] w fun e w' => e = .returned (.int .i64 (-1)) ∧ Below w.heap.size w w' := by
 obtain ⟨n, hn⟩ : ∃ n, rs.length = n:=⟨_, rfl⟩
 have Hn:=hide hn
 have H:=hide h
 have HB:=hide hb
 unfold maxLen at hm
 rw [hn] at hs hm ⊢
 clear hn h hb
 by_cases h1 : left < n
 ·have hd0 : decide (left - (n : Int) < 0) = true:=by simp; omega
  clear H HB
  go_enter Tryz.func30, Tryz.ntmps30
  go_wp2
  go_ret
  exact ⟨rfl, Below.refl _ _⟩
 have hd0 : decide (left - (n : Int) < 0) = false:=by simp; omega
 go_enter Tryz.func30, Tryz.ntmps30
 go_wp2
 go_loopw [1, 5] (fun a i wr => ∃ k : Nat, k ≤ n ∧ i = .int .i64 k ∧ a = .int .i64 (left - n - (psum (rs.take k) : Nat)) ∧ (psum (rs.take k) : Int) ≤ left - n ∧ Below w.heap.size w wr) (fun _ i _ => n - (intOf i).toNat)
 case atStart => exact ⟨0, Nat.zero_le _, rfl, by simp [psum], by simp [psum]; omega, Below.refl _ _⟩
 case round =>
  obtain ⟨k, hk, rfl, rfl, hp, br⟩:=hrel
  by_cases hlt : k < n
  ·have hkx : k < rs.length:=by have:=Hn.out; omega
   have HP1:=hide (psum_take rs k hkx)
   have hbk:=HB.out (rs.getD k prz) (by rw [List.getD_eq_getElem?_getD, List.getElem?_eq_getElem hkx]; exact List.getElem_mem hkx)
   rcases H.out with h | ⟨g, off, rfl, h⟩
   ·subst h; simp at hkx
   obtain ⟨c0, c1, c2⟩:=h k hkx
   have hg : g < w.heap.size:=cell_lt c0
   replace c0:=(br.cell (p:=⟨g, off + k * 3, none⟩) hg).trans c0
   replace c1:=(br.cell (p:=⟨g, off + k * 3 + 1, none⟩) hg).trans c1
   replace c2:=(br.cell (p:=⟨g, off + k * 3 + 2, none⟩) hg).trans c2
   clear h H HB
   generalize (rs.getD k prz).1 = m at *
   generalize (rs.getD k prz).2.1 = s at *
   generalize (rs.getD k prz).2.2.2.2.length = x at *
   generalize (rs.getD k prz).2.2.1 = ao at *
   generalize (rs.getD k prz).2.2.2.1 = ca at *
   generalize psum (rs.take k) = q at *
   obtain ⟨hb1, hb2⟩:=hbk
   unfold maxLen at hb1 hb2
   by_cases hfit : (s.size : Int) + x ≤ left - n - q
   ·have SZ:=hide fun w => szPart_yes m s ao x ca (left - n - q) w hfit (by omega)
    have hd1 : decide (left - (n : Int) - (q : Int) - (s.size : Int) - (x : Int) < 0) = false:=by simp; omega
    go_wp2_with fail
    refine (SZ.out _).mono ?_
    rintro e w1 ⟨rfl, b1⟩
    have B1:=bu br b1
    clear c0 c1 c2 SZ b1
    go_wp2
    go_roundw
    case rel => exact ⟨k + 1, by omega, by go_num, by rw [HP1.out]; simp; omega, by rw [HP1.out]; simp; omega, B1⟩
    case measure => simp [intOf]; omega
   have SZ:=hide fun w => szPart_no m s ao x ca (left - n - q) w (by omega) (by omega) (by omega) (by omega) (by omega)
   go_wp2_with fail
   refine (SZ.out _).mono ?_
   rintro e w1 ⟨rfl, b1⟩
   have B1:=bu br b1
   clear c0 c1 c2 SZ b1
   go_wp2
   go_ret
   exact ⟨rfl, B1⟩
  have hkn : rs.take k = rs:=List.take_of_length_le (by have:=Hn.out; omega)
  rw [hkn] at hp
  omega
theorem psum_each {rs : List Pr} {r : Pr} (h : r ∈ rs) : r.2.1.size + r.2.2.2.2.length ≤ psum rs := by
 induction rs with
 | nil => simp at h
 | cons x rs ih =>
  rcases List.mem_cons.1 h with rfl | h
  ·simp only [psum]; omega
  have:=ih h; simp only [psum]; omega
theorem prp_mem {rs : List Pr} {p : Pt} (h : p ∈ rs.map prp) : p.2.1.size + p.2.2.length ≤ psum rs := by
 obtain ⟨r, hr, rfl⟩:=List.mem_map.1 h
 exact psum_each hr
theorem ATab.below {W W' : World} {ao : Option Addr} {rs : List Pr} (h : ATab W ao rs) (hb : Below W.heap.size W W') : ATab W' ao rs := by
 rcases h with h | ⟨g, off, rfl, h⟩
 ·exact .inl h
 refine .inr ⟨g, off, rfl, fun k hk => ?_⟩
 obtain ⟨c0, c1, c2⟩:=h k hk
 have hg:=cell_lt c0
 exact ⟨(hb.cell (p := ⟨g, off + k * 3, none⟩) hg).trans c0, (hb.cell (p := ⟨g, off + k * 3 + 1, none⟩) hg).trans c1, (hb.cell (p := ⟨g, off + k * 3 + 2, none⟩) hg).trans c2⟩
def whos : List Pt → Nat
 | [] => 0
 | p :: ps => p.2.2.length + whos ps
theorem pend_sum (k : Nat) (ps : List Pt) : pend k ps = k + 2 * ps.length + whos ps := by
 induction ps generalizing k with
 | nil => simp [pend, whos]
 | cons p ps ih => simp only [pend, whos, ih, List.length_cons]; omega
theorem pmk_small (k : Nat) (ps : List Pt) (h : ∀ p ∈ ps, p.2.2.length ≤ 4194304) : ∀ p ∈ pmk k ps, p.2.2.length ≤ 4194304 := by
 induction ps generalizing k with
 | nil => simp [pmk]
 | cons x ps ih =>
  intro p hp
  simp only [pmk, List.mem_cons] at hp
  rcases hp with rfl | hp
  ·simp only [imarks_len]; exact h x (by simp)
  exact ih _ (fun y hy => h y (by simp [hy])) p hp
end
section
open Go.RowKit
variable [∀ (a b c d : Int), Decidable (Ok4 a b c d)]
variable [∀ (n f : Int), Decidable (COk n f)]
variable [∀ (a b c d : Nat), Decidable (okN a b c d)]
variable [∀ (x : T4), Decidable (OkT x)]
theorem RT.form1 {w : World} {v : Value} {xs : List T4} (h : RT w v xs) : ∃ ao ca, v = .slice ao xs.length ca := by obtain ⟨_, ao, ca, e, _⟩ := h; exact ⟨ao, ca, e⟩
theorem eqRep_yes (t : RpT) (a b c d e a' b' c' d' e' : Value) (w : World) (hs : RSm t) (h : RRep w t a b c d e) (h' : RRep w t a' b' c' d' e') :
 Calls Tryz.prog 12 #[rpv t a b c d e, rpv t a' b' c' d' e'] w fun r w' => r = .returned (.bool true) ∧ Below w.heap.size w w' := by
 have HX:=hide h
 have HY:=hide h'
 have T1:=hide fun w h h' => eqSafe_yes t.vo t.lo t.n t.s a a' t.qw t.d w h h'
 have T2:=hide fun w h h' => eqTxS_yes b b' t.pool w h h'
 have T3:=hide fun w h h' => eqPartS_yes c c' t.tab w (by have:=hs.tb; omega) h h'
 have T4_:=hide fun w h h' => eqDisk_yes d d' t.dsk t.su w h h'
 have T5:=hide fun w h h' => eqPostS_yes e e' t.held w (by have:=hs.h; omega) h h'
 obtain ⟨oa, ka, rfl⟩:=h.q.form
 obtain ⟨ob, kb, rfl⟩:=RT.form1 h.p
 obtain ⟨oc, kc, rfl⟩:=h.tb.form
 obtain ⟨od, kd, rfl⟩:=RB.form1 h.d
 obtain ⟨oe, ke, rfl⟩:=h.h.form
 obtain ⟨oa', ka', rfl⟩:=h'.q.form
 obtain ⟨ob', kb', rfl⟩:=RT.form1 h'.p
 obtain ⟨oc', kc', rfl⟩:=h'.tb.form
 obtain ⟨od', kd', rfl⟩:=RB.form1 h'.d
 obtain ⟨oe', ke', rfl⟩:=h'.h.form
 clear h h' hs
 obtain ⟨w0, hw0, Bw0, A, B, zw0⟩:=bx2 w #[.int .i64 t.id,.int .i64 t.vw,.int .i64 t.ak,.int .i64 t.vo,.int .i64 t.lo,.int .i64 t.n,.string t.s,.slice oa t.qw.length ka,.string t.d,.slice ob t.pool.length kb,.slice oc t.tab.length kc,.slice od t.dsk.length kd,.int .i64 t.su,.slice oe t.held.length ke] 46 #[.int .i64 t.id,.int .i64 t.vw,.int .i64 t.ak,.int .i64 t.vo,.int .i64 t.lo,.int .i64 t.n,.string t.s,.slice oa' t.qw.length ka',.string t.d,.slice ob' t.pool.length kb',.slice oc' t.tab.length kc',.slice od' t.dsk.length kd',.int .i64 t.su,.slice oe' t.held.length ke'] 46
 go_enter Tryz.func12, Tryz.ntmps12
 obtain ⟨cA0,cA1,cA2⟩:=cc3 A 0 1 2
 obtain ⟨cB0,cB1,cB2⟩:=cc3 B 0 1 2
 go_wp2_with (first | (refine wloadM [.int .i64 t.vo, .int .i64 t.lo, .int .i64 t.n, .string t.s, .slice oa t.qw.length ka, .string t.d] (A.range 3 6 rfl) 40 _ rfl _ rfl rfl Tryz.underlying40 rfl (by kernel_rfl) ?_) | (refine wloadM [.int .i64 t.vo, .int .i64 t.lo, .int .i64 t.n, .string t.s, .slice oa' t.qw.length ka', .string t.d] (B.range 3 6 rfl) 40 _ rfl _ rfl rfl Tryz.underlying40 rfl (by kernel_rfl) ?_))
 clear hw0
 refine (T1.out _ (HX.out.q.below Bw0) (HY.out.q.below Bw0)).mono ?_
 rintro _ w1 ⟨rfl, bb⟩
 clear cA0 cA1 cA2 cB0 cB1 cB2
 have Bw1:=bu Bw0 bb
 have sw1:=bb.size
 replace A:=A.up bb
 replace B:=B.up bb
 clear Bw0 bb
 have cA9:=A.cell 9 rfl
 have cB9:=B.cell 9 rfl
 go_wp2_with fail
 refine (T2.out _ (HX.out.p.below Bw1) (HY.out.p.below Bw1)).mono ?_
 rintro _ w2 ⟨rfl, bb⟩
 clear cA9 cB9
 have Bw2:=bu Bw1 bb
 have sw2:=bb.size
 replace A:=A.up bb
 replace B:=B.up bb
 clear Bw1 bb
 have cA10:=A.cell 10 rfl
 have cB10:=B.cell 10 rfl
 go_wp2_with fail
 refine (T3.out _ (HX.out.tb.below Bw2) (HY.out.tb.below Bw2)).mono ?_
 rintro _ w3 ⟨rfl, bb⟩
 clear cA10 cB10
 have Bw3:=bu Bw2 bb
 have sw3:=bb.size
 replace A:=A.up bb
 replace B:=B.up bb
 clear Bw2 bb
 go_wp2_with (first | (refine wloadM [.slice od t.dsk.length kd, .int .i64 t.su] (A.range 11 2 rfl) 43 _ rfl _ rfl rfl Tryz.underlying43 rfl (by kernel_rfl) ?_) | (refine wloadM [.slice od' t.dsk.length kd', .int .i64 t.su] (B.range 11 2 rfl) 43 _ rfl _ rfl rfl Tryz.underlying43 rfl (by kernel_rfl) ?_))
 refine (T4_.out _ (HX.out.d.below Bw3) (HY.out.d.below Bw3)).mono ?_
 rintro _ w4 ⟨rfl, bb⟩
 have Bw4:=bu Bw3 bb
 have sw4:=bb.size
 replace A:=A.up bb
 replace B:=B.up bb
 clear Bw3 bb
 have cA13:=A.cell 13 rfl
 have cB13:=B.cell 13 rfl
 go_wp2_with fail
 refine (T5.out _ (HX.out.h.below Bw4) (HY.out.h.below Bw4)).mono ?_
 rintro _ w5 ⟨rfl, bb⟩
 clear cA13 cB13
 have Bw5:=bu Bw4 bb
 have sw5:=bb.size
 replace A:=A.up bb
 replace B:=B.up bb
 clear Bw4 bb
 go_wp2
 go_ret
 exact ⟨rfl, Bw5⟩
end
section
open Go.RowKit
theorem implQcFirst (w : World) : Calls Tryz.prog 167 #[] w fun e w' => e = .returned (qv 0 ⟨#[]⟩ (.slice none 0 0)) ∧ Below w.heap.size w w' := by
 go_enter Tryz.func167, Tryz.ntmps167
 go_wp2
 refine bodyPost_ret (v := qv 0 ⟨#[]⟩ (.slice none 0 0)) (by simp [results, Tryz.results167, go_sem]) rfl ?_
 exact ⟨rfl, qalloc _ _⟩
end
end Go.Proofs.YtjdchloechcclaaGreatDoor
