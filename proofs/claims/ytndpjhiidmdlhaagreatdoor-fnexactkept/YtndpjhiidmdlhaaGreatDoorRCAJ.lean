/- Texts that belong together: PostEq, PartRows, PartOpen, PartEq, PartSet, PartTo. -/
import Derived.Test.YtndpjhiidmdlhaaGreatDoorRCAI
import Derived.Deep.RegionHeld3
import Derived.Test.YtndpjhiidmdlhaaGreatDoorRCAA
import Derived.OwnWalk
import Derived.Maps.AppendAt
import Derived.Test.YtndpjhiidmdlhaaGreatDoorRCAC
import Derived.Deep.Slices
import Derived.Test.YtndpjhiidmdlhaaGreatDoorRCAE
set_option maxRecDepth 100000
set_option maxHeartbeats 16000000
namespace Go.Proofs.YtndpjhiidmdlhaaGreatDoor
open Go Go.RowKit
set_option linter.unusedSectionVars false
variable [∀ (a b c d : Int), Decidable (Ok4 a b c d)]
variable [∀ (n f : Int), Decidable (COk n f)]

theorem eqPostS_yes (u v : Value) (ps : List PoT) (w : World) (hl : ps.length ≤ 4194304) (hu : RPo w u ps) (hv : RPo w v ps) :
 Calls Tryz.prog 58 #[u, v] w fun e w' => e = .returned (.bool true) ∧ Below w.heap.size w w' := by
 obtain ⟨ao, ca, rfl⟩:=hu.form
 obtain ⟨bo, cb, rfl⟩:=hv.form
 have HU:=hide hu
 have HV:=hide hv
 obtain ⟨n, hn⟩ : ∃ n, ps.length = n:=⟨_, rfl⟩
 have Hn:=hide hn
 rw [hn] at hl HU HV ⊢
 clear hn hu hv
 go_enter Tryz.func58, Tryz.ntmps58
 go_wp2
 go_loopw [5] (fun i wr => ∃ k : Nat, k ≤ n ∧ i = .int .i64 k ∧ Below w.heap.size w wr) (fun i _ => n - (intOf i).toNat)
 case atStart => exact ⟨0, Nat.zero_le _, rfl, Below.refl _ _⟩
 case round =>
  obtain ⟨k, hk, rfl, br⟩:=hrel
  by_cases hlt : k < n
  ·have hkx : k < ps.length:=by have:=Hn.out; omega
   have h1:=HU.out.below br
   have h2:=HV.out.below br
   obtain ⟨g, off, cs, rfl, _, c1, a, b, c, e, ra, rb, rc⟩:=RG.at h1 k hkx
   subst e
   obtain ⟨g', off', cs', rfl, _, c2, a', b', c', e, ra', rb', rc'⟩:=RG.at h2 k hkx
   subst e
   clear h1 h2 HU HV
   generalize (ps.getD k zpost).1 = m at *
   generalize (ps.getD k zpost).2 = t at *
   have EQ:=hide fun w h1 h2 h3 h4 h5 h6 => eqPost_yes m t a b c a' b' c' t.bw t.pw t.qw w h1 h2 h3 h4 h5 h6
   have R1:=hide ra
   have R2:=hide rb
   have R3:=hide rc
   have R4:=hide ra'
   have R5:=hide rb'
   have R6:=hide rc'
   obtain ⟨oa, ka, rfl⟩:=ra.form
   obtain ⟨ob, kb, rfl⟩:=rb.form
   obtain ⟨oc, kc, rfl⟩:=rc.form
   obtain ⟨oa', ka', rfl⟩:=ra'.form
   obtain ⟨ob', kb', rfl⟩:=rb'.form
   obtain ⟨oc', kc', rfl⟩:=rc'.form
   generalize t.bw.length = xl at *
   generalize t.pw.length = yl at *
   generalize t.qw.length = zl at *
   clear ra rb rc ra' rb' rc'
   have K : Hid (∀ w', Below wr.heap.size wr w' → (fun w' => Below wr.heap.size wr w' ∧ w'.rangeAt g (off + k * 18) [.int .i64 m, .int .i64 t.k, .int .i64 t.vw, .string t.bn, .int .i64 t.bv, .string t.bs, .slice oa xl ka, .int .i64 t.pv, .string t.ps, .slice ob yl kb, .int .i64 t.qv, .string t.qs, .slice oc zl kc, .int .i64 t.wh, .int .i64 t.fr, .int .i64 t.tu, .int .i64 t.am, .int .i64 t.no] ∧ w'.rangeAt g' (off' + k * 18) [.int .i64 m, .int .i64 t.k, .int .i64 t.vw, .string t.bn, .int .i64 t.bv, .string t.bs, .slice oa' xl ka', .int .i64 t.pv, .string t.ps, .slice ob' yl kb', .int .i64 t.qv, .string t.qs, .slice oc' zl kc', .int .i64 t.wh, .int .i64 t.fr, .int .i64 t.tu, .int .i64 t.am, .int .i64 t.no]) w'):=hide fun w' hb' => ⟨hb', rangeAt_below c1 hb' (rangeAt_lt c1 (by simp)), rangeAt_below c2 hb' (rangeAt_lt c2 (by simp))⟩
   clear c1 c2
   go_upto_region 6 with fail
   have bA : Below wr.heap.size wr wr.drew:=Below.drew (Below.refl _ _)
   refine wrn K bA (fun hHeld => ?_)
   refine' tj 0 17 rfl ?_ ?_;rotate_left
   ·intro w h;go_simp;try rfl
   simp only [pU]
   refine' tj 1 18 rfl ?_ ?_;rotate_left
   ·intro w h;go_simp;try rfl
   simp only [pU]
   refine' tj 4 21 rfl ?_ ?_;rotate_left
   ·intro w h;go_simp;try rfl
   simp only [pU]
   refine' tj 5 22 rfl ?_ ?_;rotate_left
   ·intro w h;go_simp;try rfl
   simp only [pU]
   refine' tj 2 19 rfl ?_ ?_;rotate_left
   ·intro w h;go_simp;try rfl
   simp only [pU]
   refine' tj 6 23 rfl ?_ ?_;rotate_left
   ·intro w h;go_simp;try rfl
   simp only [pU]
   refine take_at (i := 3) (d := 20) (v := .agg #[.int .i64 m,.int .i64 t.k,.int .i64 t.vw,.string t.bn,.int .i64 t.bv,.string t.bs,.slice oa xl ka,.int .i64 t.pv,.string t.ps,.slice ob yl kb,.int .i64 t.qv,.string t.qs,.slice oc zl kc,.int .i64 t.wh,.int .i64 t.fr,.int .i64 t.tu,.int .i64 t.am,.int .i64 t.no]) rfl rfl (by kernel_rfl) (by kernel_rfl) (by kernel_rfl) (fun _ _ _ h => h) ?_ (by assumption) ?_
   ·exact yields_mid rfl 88 _ rfl rfl [.int .i64 m, .int .i64 t.k, .int .i64 t.vw, .string t.bn, .int .i64 t.bv, .string t.bs, .slice oa xl ka, .int .i64 t.pv, .string t.ps, .slice ob yl kb, .int .i64 t.qv, .string t.qs, .slice oc zl kc, .int .i64 t.wh, .int .i64 t.fr, .int .i64 t.tu, .int .i64 t.am, .int .i64 t.no] _ (fun w h => h.2.1) Tryz.underlying88 rfl (by kernel_rfl)
   simp only [pU]
   refine take_at (i := 7) (d := 24) (v := .agg #[.int .i64 m,.int .i64 t.k,.int .i64 t.vw,.string t.bn,.int .i64 t.bv,.string t.bs,.slice oa' xl ka',.int .i64 t.pv,.string t.ps,.slice ob' yl kb',.int .i64 t.qv,.string t.qs,.slice oc' zl kc',.int .i64 t.wh,.int .i64 t.fr,.int .i64 t.tu,.int .i64 t.am,.int .i64 t.no]) rfl rfl (by kernel_rfl) (by kernel_rfl) (by kernel_rfl) (fun _ _ _ h => h) ?_ (by assumption) ?_
   ·exact yields_mid rfl 88 _ rfl rfl [.int .i64 m, .int .i64 t.k, .int .i64 t.vw, .string t.bn, .int .i64 t.bv, .string t.bs, .slice oa' xl ka', .int .i64 t.pv, .string t.ps, .slice ob' yl kb', .int .i64 t.qv, .string t.qs, .slice oc' zl kc', .int .i64 t.wh, .int .i64 t.fr, .int .i64 t.tu, .int .i64 t.am, .int .i64 t.no] _ (fun w h => h.2.2) Tryz.underlying88 rfl (by kernel_rfl)
   simp only [pU]
   refine rd 8 rfl (fun KK hKK => ?_)
   go_simp
   have hgo:=bA
   refine (EQ.out _ (R1.out.below bA) (R2.out.below bA) (R3.out.below bA) (R4.out.below bA) (R5.out.below bA) (R6.out.below bA)).mono ?_
   rintro e w2 ⟨rfl, bb⟩
   have bz : Below wr.heap.size wr w2:=bu bA bb
   clear bA hgo bb
   clear hHeld
   refine hKK.out _ _ (K.out _ bz) (fun hHeld => ?_)
   clear hKK KK
   refine' tj 9 26 rfl ?_ ?_;rotate_left
   ·intro w h;go_simp;try rfl
   simp only [pU]
   clear hHeld
   refine wdn ?_
   have B2:=bu br bz
   clear EQ bz K
   go_wp2
   go_roundw
   case rel => exact ⟨k + 1, by omega, by go_num, B2⟩
   case measure => simp [intOf]; omega
  ·obtain rfl : k = n:=by omega
   go_wp2
   go_ret
   exact ⟨rfl, br⟩

def msz (t : MT) : Nat := t.bn.size + t.bs.size + t.bw.length + t.ps.size + t.pw.length + t.qs.size + t.qw.length
def posum : List PoT → Nat
 | [] => 0
 | r :: rs => msz r.2 + posum rs
theorem posum_snoc (rs : List PoT) (r : PoT) : posum (rs ++ [r]) = posum rs + msz r.2 := by
 induction rs with
 | nil => simp [posum]
 | cons x rs ih => simp only [List.cons_append, posum, ih]; omega
theorem posum_take (rs : List PoT) (k : Nat) (hk : k < rs.length) : posum (rs.take (k + 1)) = posum (rs.take k) + msz (rs.getD k zpost).2 := by
 rw [List.take_succ_eq_append_getElem hk, posum_snoc]
 simp [List.getElem?_eq_getElem hk]
theorem posum_le (rs : List PoT) (k : Nat) : posum (rs.take k) ≤ posum rs := by
 induction rs generalizing k with
 | nil => simp [posum]
 | cons r rs ih =>
  cases k with
  | zero => simp [posum]
  | succ k => simp only [List.take_succ_cons, posum]; have := ih k; omega
theorem posum_each {rs : List PoT} {r : PoT} (h : r ∈ rs) : msz r.2 ≤ posum rs := by
 induction rs with
 | nil => simp at h
 | cons x rs ih => rcases List.mem_cons.1 h with rfl | h
                   ·simp only [posum]; omega
                   ·have:=ih h; simp only [posum]; omega

def RPoF (ps : List PoT) (_ : World) (k : Nat) (cs : List Value) : Prop := ∃ (ao bo co : Option Addr) (ca cb cc : Nat), cs = pocs (ps.getD k zpost).1 (ps.getD k zpost).2 (.slice ao (ps.getD k zpost).2.bw.length ca) (.slice bo (ps.getD k zpost).2.pw.length cb) (.slice co (ps.getD k zpost).2.qw.length cc)
def RPoL (w : World) (v : Value) (ps : List PoT) : Prop := RG (RPoF ps) 18 w v ps.length
theorem RPoA.low {w : World} {v : Value} {ps : List PoT} (h : RG (RPoA ps) 18 w v ps.length) : RPoL w v ps :=
 RG.imp h (fun _ _ _ ⟨_, _, _, _, _, _, e, _⟩ => ⟨_, _, _, _, _, _, e⟩)
theorem RPoL.below {w w' : World} {v : Value} {ps : List PoT} (h : RPoL w v ps) (hb : Below w.heap.size w w') : RPoL w' v ps := RG.below h (by decide) hb (Nat.le_refl _) (fun _ _ h => h)

theorem szPostS_yes (v : Value) (ps : List PoT) (left : Int) (w : World) (h : RPoL w v ps) (hs : (ps.length : Int) + posum ps ≤ left) (hl : left ≤ 1048576) :
 Calls Tryz.prog 37 #[v,.int .i64 left] w fun e w' => e = .returned (.int .i64 (left - ps.length - posum ps)) ∧ Below w.heap.size w w' := by
 obtain ⟨al, cl, rfl⟩:=RG.form h
 have H:=hide h
 obtain ⟨n, hn⟩ : ∃ n, ps.length = n:=⟨_, rfl⟩
 have Hn:=hide hn
 unfold RPoL at H
 rw [hn] at hs H ⊢
 clear hn h
 have hd0 : decide (left - (n : Int) < 0) = false:=by simp; omega
 go_enter Tryz.func37, Tryz.ntmps37
 go_wp2
 go_loopw [1, 5] (fun a i wr => ∃ k : Nat, k ≤ n ∧ i = .int .i64 k ∧ a = .int .i64 (left - n - (posum (ps.take k) : Nat)) ∧ Below w.heap.size w wr) (fun _ i _ => n - (intOf i).toNat)
 case atStart => exact ⟨0, Nat.zero_le _, rfl, by simp [posum], Below.refl _ _⟩
 case round =>
  obtain ⟨k, hk, rfl, rfl, br⟩:=hrel
  have hp:=posum_le ps k
  by_cases hlt : k < n
  ·have hkx : k < ps.length:=by have:=Hn.out; omega
   have hp1:=posum_le ps (k + 1)
   have hps:=posum_take ps k hkx
   have HP1:=hide hps
   rw [hps] at hp1
   clear hps
   have h1:=RG.below H.out (by decide) br (Nat.le_refl _) (fun _ _ h => h)
   obtain ⟨g, off, cs, rfl, _, c1, ao, bo, co, ca, cb, cc, e⟩:=RG.at h1 k hlt
   subst e
   clear H h1
   generalize (ps.getD k zpost).1 = m at *
   generalize (ps.getD k zpost).2 = t at *
   unfold msz at hp1 HP1
   generalize posum (ps.take k) = q at *
   have SZ:=hide fun w => szPost_yes m t ao bo co ca cb cc (left - n - q) w (by omega) (by omega)
   have hd1 : decide (left - (n : Int) - (q : Int) - t.bn.size - t.bs.size - t.bw.length - t.ps.size - t.pw.length - t.qs.size - t.qw.length < 0) = false:=by simp; omega
   go_wp2_with (first | (refine wloadM _ c1 132 _ rfl _ rfl rfl Tryz.underlying132 rfl (by kernel_rfl) ?_))
   refine (SZ.out _).mono ?_
   rintro e w1 ⟨rfl, b1⟩
   have B1:=bu br b1
   clear c1 SZ b1
   go_wp2
   go_roundw
   case rel => exact ⟨k + 1, by omega, by go_num, by rw [HP1.out]; simp; omega, B1⟩
   case measure => simp [intOf]; omega
  ·have hkn : ps.take k = ps:=List.take_of_length_le (by have:=Hn.out; omega)
   rw [hkn]
   clear hp
   go_wp2
   go_ret
   exact ⟨rfl, br⟩

theorem szPostS_no (v : Value) (ps : List PoT) (left : Int) (w : World) (h : RPoL w v ps) (hb : ∀ p ∈ ps, MB p.2) (h0 : 0 ≤ left) (hm : ps.length ≤ maxLen) (hs : left < (ps.length : Int) + posum ps) (hl : left ≤ 1048576) :
 Calls Tryz.prog 37 #[v,.int .i64 left] w fun e w' => e = .returned (.int .i64 (-1)) ∧ Below w.heap.size w w' := by
 obtain ⟨al, cl, rfl⟩:=RG.form h
 have H:=hide h
 have HB:=hide hb
 obtain ⟨n, hn⟩ : ∃ n, ps.length = n:=⟨_, rfl⟩
 have Hn:=hide hn
 unfold RPoL at H
 unfold maxLen at hm
 rw [hn] at hs hm H ⊢
 clear hn h hb
 by_cases h1 : left < n
 ·have hd0 : decide (left - (n : Int) < 0) = true:=by simp; omega
  clear H HB
  go_enter Tryz.func37, Tryz.ntmps37
  go_wp2
  go_ret
  exact ⟨rfl, Below.refl _ _⟩
 have hd0 : decide (left - (n : Int) < 0) = false:=by simp; omega
 go_enter Tryz.func37, Tryz.ntmps37
 go_wp2
 go_loopw [1, 5] (fun a i wr => ∃ k : Nat, k ≤ n ∧ i = .int .i64 k ∧ a = .int .i64 (left - n - (posum (ps.take k) : Nat)) ∧ (posum (ps.take k) : Int) ≤ left - n ∧ Below w.heap.size w wr) (fun _ i _ => n - (intOf i).toNat)
 case atStart => exact ⟨0, Nat.zero_le _, rfl, by simp [posum], by simp [posum]; omega, Below.refl _ _⟩
 case round =>
  obtain ⟨k, hk, rfl, rfl, hp, br⟩:=hrel
  by_cases hlt : k < n
  ·have hkx : k < ps.length:=by have:=Hn.out; omega
   have HP1:=hide (posum_take ps k hkx)
   have hbk:=HB.out (ps.getD k zpost) (by rw [List.getD_eq_getElem?_getD, List.getElem?_eq_getElem hkx]; exact List.getElem_mem hkx)
   have h1:=RG.below H.out (by decide) br (Nat.le_refl _) (fun _ _ h => h)
   obtain ⟨g, off, cs, rfl, _, c1, ao, bo, co, ca, cb, cc, e⟩:=RG.at h1 k hlt
   subst e
   clear H h1 HB
   generalize (ps.getD k zpost).1 = m at *
   generalize (ps.getD k zpost).2 = t at *
   unfold msz at HP1
   generalize posum (ps.take k) = q at *
   have hbh:=hide hbk
   obtain ⟨hb1, hb2, hb3, hb4, hb5, hb6, hb7⟩:=hbk
   unfold maxLen at hb1 hb2 hb3 hb4 hb5 hb6 hb7
   by_cases hfit : (t.bn.size : Int) + t.bs.size + t.bw.length + t.ps.size + t.pw.length + t.qs.size + t.qw.length ≤ left - n - q
   ·have SZ:=hide fun w => szPost_yes m t ao bo co ca cb cc (left - n - q) w hfit (by omega)
    have hd1 : decide (left - (n : Int) - (q : Int) - t.bn.size - t.bs.size - t.bw.length - t.ps.size - t.pw.length - t.qs.size - t.qw.length < 0) = false:=by simp; omega
    go_wp2_with (first | (refine wloadM _ c1 132 _ rfl _ rfl rfl Tryz.underlying132 rfl (by kernel_rfl) ?_))
    refine (SZ.out _).mono ?_
    rintro e w1 ⟨rfl, b1⟩
    have B1:=bu br b1
    clear c1 SZ b1
    go_wp2
    go_roundw
    case rel => exact ⟨k + 1, by omega, by go_num, by rw [HP1.out]; simp; omega, by rw [HP1.out]; simp; omega, B1⟩
    case measure => simp [intOf]; omega
   ·have SZ:=hide fun w => szPost_no m t ao bo co ca cb cc (left - n - q) w (by omega) (by omega) hbh.out (by omega)
    go_wp2_with (first | (refine wloadM _ c1 132 _ rfl _ rfl rfl Tryz.underlying132 rfl (by kernel_rfl) ?_))
    refine (SZ.out _).mono ?_
    rintro e w1 ⟨rfl, b1⟩
    have B1:=bu br b1
    clear c1 SZ b1
    go_wp2
    go_ret
    exact ⟨rfl, B1⟩
  ·have hkn : ps.take k = ps:=List.take_of_length_le (by have:=Hn.out; omega)
   rw [hkn] at hp
   omega
end Go.Proofs.YtndpjhiidmdlhaaGreatDoor
namespace Go.Proofs.YtndpjhiidmdlhaaGreatDoor
open Go.RowKit

abbrev Pt := Int × ByteArray × List Int
def zpt : Pt := (0, ⟨#[]⟩, [])
def phd (p : Pt) : Int × ByteArray := (p.1, p.2.1)
theorem Tryz.infoPt : (Tryz.prog.info? 82).map (fun i => (i.zero, i.size, i.bytes)) = some (some (.agg #[.int .i64 0,.string ⟨#[]⟩,.slice none 0 0]), 3, 48) := by kernel_rfl
def pcell (p : (Int × ByteArray) × Value) : List Value := [.int .i64 p.1.1, .string p.1.2, p.2]
def pcells (ps : List ((Int × ByteArray) × Value)) : List Value := ps.flatMap pcell
theorem pcells_cons (p : (Int × ByteArray) × Value) (ps : List ((Int × ByteArray) × Value)) : pcells (p :: ps) = .int .i64 p.1.1 :: .string p.1.2 :: p.2 :: pcells ps := by simp [pcells, pcell]
theorem pcells_len (ps : List ((Int × ByteArray) × Value)) : (pcells ps).length = ps.length * 3 := by
 induction ps with
 | nil => rfl
 | cons p ps ih => rw [pcells_cons]; simp only [List.length_cons, ih]; omega
theorem pcells_get (ps : List ((Int × ByteArray) × Value)) (k j : Nat) (hk : k < ps.length) (hj : j < 3) : (pcells ps)[k * 3 + j]? = (pcell (ps.getD k ((0, ⟨#[]⟩),.slice none 0 0)))[j]? := by
 induction ps generalizing k with
 | nil => simp at hk
 | cons p ps ih =>
  have e : pcells (p :: ps) = pcell p ++ pcells ps:=by simp [pcells]
  rw [e]
  cases k with
  | zero => rw [Nat.zero_mul, Nat.zero_add, List.getElem?_append_left (by simp [pcell]; exact hj)]; rfl
  | succ k =>
   rw [List.getElem?_append_right (by simp [pcell]; omega), show (pcell p).length = 3 from rfl, show (k + 1) * 3 + j - 3 = k * 3 + j from by omega, ih k (by simpa using hk)]
   rfl
structure OPtV (w : World) (base : Nat) (v : Value) (ps : List Pt) (vs : List Value) : Prop where
 len : vs.length = ps.length
 row : w.ownsRow base 82 3 v ps.length (pcells ((ps.map phd).zip vs))
 each : ∀ k, k < ps.length → OI w base (vs.getD k (.slice none 0 0)) (ps.getD k zpt).2.2
 apart : ∀ i j, i < j → j < ps.length → ∀ b, (vs.getD i (.slice none 0 0)).ownBlock = some b → (vs.getD j (.slice none 0 0)).ownBlock ≠ some b
def OPt (w : World) (base : Nat) (v : Value) (ps : List Pt) : Prop := ∃ vs, OPtV w base v ps vs
theorem pt_oi {w : World} {B B' n : Nat} {v u : Value} {cs : List Value} {ys : List Int} (h : w.ownsRow B 82 3 v n cs) (h' : OI w B' u ys) (b : Nat) (hv : v.ownBlock = some b) : u.ownBlock ≠ some b := by
 rcases h.2 with ⟨rfl, _⟩ | ⟨g, cap, cur, rfl, _, hg, _⟩
 ·simp [Value.ownBlock] at hv
 ·rcases h'.2 with ⟨rfl, _⟩ | ⟨g', cap', cur', rfl, _, hg', _⟩
  ·simp [Value.ownBlock]
  ·intro e
   simp [Value.ownBlock] at e hv
   subst hv
   rw [e, hg] at hg'
   simp at hg'
theorem OPtV.below {w w' : World} {base : Nat} {v : Value} {ps : List Pt} {vs : List Value} (h : OPtV w base v ps vs) (hb : Below w.heap.size w w') : OPtV w' base v ps vs :=
 ⟨h.len, World.ownsRow.kept (row := none) h.row ⟨hb.os, hb.tape, hb.output, hb.size, fun k hk _ => hb.block k hk⟩ (by cases v.ownBlock <;> simp), fun k hk => (h.each k hk).below hb, h.apart⟩
theorem OPt.below {w w' : World} {base : Nat} {v : Value} {ps : List Pt} (h : OPt w base v ps) (hb : Below w.heap.size w w') : OPt w' base v ps := by
 obtain ⟨vs, h⟩:=h; exact ⟨vs, h.below hb⟩
theorem OPtV.kp {w w' : World} {base : Nat} {X : Nat → Prop} {v : Value} {ps : List Pt} {vs : List Value} (h : OPtV w base v ps vs) (k : Kp w w' X) (hX : ∀ j, base ≤ j → j < w.heap.size → ¬ X j) : OPtV w' base v ps vs := by
 have rl:=World.ownsRow.lt h.row
 refine ⟨h.len, ?_, fun j hj => (h.each j hj).kp k (fun b hb => by have := World.ownsRow.lt (h.each j hj) b hb; exact hX b this.1 this.2), h.apart⟩
 rcases h.row with ⟨h1, ⟨e, h0⟩ | ⟨g, cap, cur, e, hg, hrow, rest⟩⟩
 ·exact ⟨h1, .inl ⟨e, h0⟩⟩
 ·have hlt:=rl g (by rw [e]; rfl)
  exact ⟨h1, .inr ⟨g, cap, cur, e, hg, (k.block g hlt.2 (hX g hlt.1 hlt.2)).trans hrow, rest⟩⟩
theorem OPt.kp {w w' : World} {base : Nat} {X : Nat → Prop} {v : Value} {ps : List Pt} (h : OPt w base v ps) (k : Kp w w' X) (hX : ∀ j, base ≤ j → j < w.heap.size → ¬ X j) : OPt w' base v ps := by
 obtain ⟨vs, h⟩:=h; exact ⟨vs, h.kp k hX⟩
theorem OPtV.mono {w : World} {base base' : Nat} {v : Value} {ps : List Pt} {vs : List Value} (h : OPtV w base v ps vs) (hb : base' ≤ base) : OPtV w base' v ps vs := by
 refine ⟨h.len, ?_, fun k hk => OI.mono (h.each k hk) hb, h.apart⟩
 obtain ⟨h1, h2⟩:=h.row
 refine ⟨h1, ?_⟩
 rcases h2 with h2 | ⟨g, cap, cur, e, hg, rest⟩
 ·exact .inl h2
 ·exact .inr ⟨g, cap, cur, e, Nat.le_trans hb hg, rest⟩
theorem OPt.mono {w : World} {base base' : Nat} {v : Value} {ps : List Pt} (h : OPt w base v ps) (hb : base' ≤ base) : OPt w base' v ps := by
 obtain ⟨vs, h⟩:=h; exact ⟨vs, h.mono hb⟩
theorem OPt.form {w : World} {base : Nat} {v : Value} {ps : List Pt} (h : OPt w base v ps) : ∃ ao ca, v = .slice ao ps.length ca := by
 obtain ⟨vs, h⟩:=h
 rcases h.row.2 with ⟨rfl, h0⟩ | ⟨g, cap, cur, rfl, _⟩
 ·exact ⟨none, 0, by rw [h0]⟩
 ·exact ⟨_, _, rfl⟩
def RPt (w : World) (v : Value) (ps : List Pt) : Prop :=
 ∃ ao cap, v = .slice ao ps.length cap ∧ (ps = [] ∨ ∃ g off, ao = some ⟨g, off, none⟩ ∧ ∀ k, k < ps.length → ∃ u, w.cell? ⟨g, off + k * 3, none⟩ = some (.int .i64 (ps.getD k zpt).1) ∧ w.cell? ⟨g, off + k * 3 + 1, none⟩ = some (.string (ps.getD k zpt).2.1) ∧ w.cell? ⟨g, off + k * 3 + 2, none⟩ = some u ∧ RI w u (ps.getD k zpt).2.2)
theorem pzip_get (ps : List Pt) (vs : List Value) (hl : vs.length = ps.length) (k : Nat) (hk : k < ps.length) : ((ps.map phd).zip vs).getD k ((0, ⟨#[]⟩),.slice none 0 0) = (phd (ps.getD k zpt), vs.getD k (.slice none 0 0)) := by
 rw [List.getD_eq_getElem?_getD, List.getElem?_eq_getElem (by simp; omega)]
 simp [List.getElem?_eq_getElem hk, List.getElem?_eq_getElem (show k < vs.length by omega)]
theorem pt_mem {ps : List Pt} {k : Nat} (hk : k < ps.length) : ps.getD k zpt ∈ ps := by
 rw [List.getD_eq_getElem?_getD, List.getElem?_eq_getElem hk]; exact List.getElem_mem hk
theorem OPt.rpt {w : World} {base : Nat} {v : Value} {ps : List Pt} (h : OPt w base v ps) (hs : ∀ p ∈ ps, p.2.2.length ≤ 4194304) : RPt w v ps := by
 obtain ⟨vs, h⟩:=h
 have hz : ((ps.map phd).zip vs).length = ps.length:=by simp [h.len]
 rcases h.row.2 with ⟨rfl, h0⟩ | ⟨g, cap, cur, rfl, _⟩
 ·exact ⟨none, 0, by rw [h0], .inl (List.length_eq_zero_iff.1 h0)⟩
 ·refine ⟨_, cap, rfl, .inr ⟨g, 0, rfl, fun k hk => ?_⟩⟩
  have c0:=World.ownsRow.cellAt h.row (k * 3 + 0) (by omega)
  have c1:=World.ownsRow.cellAt h.row (k * 3 + 1) (by omega)
  have c2:=World.ownsRow.cellAt h.row (k * 3 + 2) (by omega)
  rw [pcells_get _ k _ (by omega) (by omega), pzip_get ps vs h.len k hk] at c0 c1 c2
  refine ⟨_, ?_, ?_, ?_, (h.each k hk).ri (hs _ (pt_mem hk))⟩
  ·rw [Nat.zero_add]; exact c0
  ·rw [Nat.zero_add]; exact c1
  ·rw [Nat.zero_add]; exact c2
theorem RPt.below {w w' : World} {B : Nat} {v : Value} {ps : List Pt} (h : RPt w v ps) (hb : Below B w w') (hB : w.heap.size ≤ B := by exact Nat.le_refl _) : RPt w' v ps := by
 obtain ⟨ao, cap, rfl, h⟩:=h
 refine ⟨ao, cap, rfl, ?_⟩
 rcases h with h | ⟨g, off, rfl, h⟩
 ·exact .inl h
 ·refine .inr ⟨g, off, rfl, fun k hk => ?_⟩
  obtain ⟨u, c0, c1, c2, r⟩:=h k hk
  have hg : g < B:=Nat.lt_of_lt_of_le (cell_lt c0) hB
  exact ⟨u, (hb.cell (p := ⟨g, off + k * 3, none⟩) hg).trans c0, (hb.cell (p := ⟨g, off + k * 3 + 1, none⟩) hg).trans c1, (hb.cell (p := ⟨g, off + k * 3 + 2, none⟩) hg).trans c2, r.below hb hB⟩
theorem RPt.form {w : World} {v : Value} {ps : List Pt} (h : RPt w v ps) : ∃ ao ca, v = .slice ao ps.length ca := by obtain ⟨ao, ca, e, _⟩ := h; exact ⟨ao, ca, e⟩
theorem RPt.at {w : World} {ao : Option Addr} {n ca : Nat} {ps : List Pt} (h : RPt w (.slice ao n ca) ps) (k : Nat) (hk : k < ps.length) : ∃ g off u, ao = some ⟨g, off, none⟩ ∧ w.cell? ⟨g, off + k * 3, none⟩ = some (.int .i64 (ps.getD k zpt).1) ∧ w.cell? ⟨g, off + k * 3 + 1, none⟩ = some (.string (ps.getD k zpt).2.1) ∧ w.cell? ⟨g, off + k * 3 + 2, none⟩ = some u ∧ RI w u (ps.getD k zpt).2.2 := by
 obtain ⟨ao', ca', e, h⟩:=h
 cases e
 rcases h with rfl | ⟨g, off, rfl, h⟩
 ·simp at hk
 ·obtain ⟨u, h⟩:=h k hk; exact ⟨g, off, u, rfl, h⟩
structure OPR (w : World) (lo hi : Nat) (v : Value) (ps : List Pt) (vs : List Value) : Prop where
 tab : OPtV w lo v ps vs
 top : hi ≤ w.heap.size
 rowHi : ∀ b, v.ownBlock = some b → b < hi
 eachHi : ∀ k, k < ps.length → ∀ b, (vs.getD k (.slice none 0 0)).ownBlock = some b → b < hi
theorem OPtV.opr {w : World} {base : Nat} {v : Value} {ps : List Pt} {vs : List Value} (h : OPtV w base v ps vs) : OPR w base w.heap.size v ps vs :=
 ⟨h, Nat.le_refl _, fun b hb => (World.ownsRow.lt h.row b hb).2, fun k hk b hb => (World.ownsRow.lt (h.each k hk) b hb).2⟩
theorem OPR.kp {w w' : World} {lo hi : Nat} {X : Nat → Prop} {v : Value} {ps : List Pt} {vs : List Value} (h : OPR w lo hi v ps vs) (k : Kp w w' X) (hX : ∀ j, lo ≤ j → j < hi → ¬ X j) : OPR w' lo hi v ps vs := by
 refine ⟨?_, Nat.le_trans h.top k.size, h.rowHi, h.eachHi⟩
 refine ⟨h.tab.len, ?_, fun j hj => (h.tab.each j hj).kp k (fun b hb => hX b (World.ownsRow.lt (h.tab.each j hj) b hb).1 (h.eachHi j hj b hb)), h.tab.apart⟩
 have rl:=World.ownsRow.lt h.tab.row
 rcases h.tab.row with ⟨h1, ⟨e, h0⟩ | ⟨g, cap, cur, e, hg, hrow, rest⟩⟩
 ·exact ⟨h1, .inl ⟨e, h0⟩⟩
 ·have eo : v.ownBlock = some g:=by rw [e]; rfl
  exact ⟨h1, .inr ⟨g, cap, cur, e, hg, (k.block g (rl g eo).2 (hX g (rl g eo).1 (h.rowHi g eo))).trans hrow, rest⟩⟩
theorem OPR.below {w w' : World} {lo hi : Nat} {v : Value} {ps : List Pt} {vs : List Value} (h : OPR w lo hi v ps vs) (hb : Below w.heap.size w w') : OPR w' lo hi v ps vs :=
 h.kp (Below.kpOf hb (fun _ => False)) (fun _ _ _ h => h)
theorem OPR.rpt {w : World} {lo hi : Nat} {v : Value} {ps : List Pt} {vs : List Value} (h : OPR w lo hi v ps vs) (hs : ∀ p ∈ ps, p.2.2.length ≤ 4194304) : RPt w v ps := OPt.rpt ⟨vs, h.tab⟩ hs
def CapP (v : Value) : Prop := ∃ ao n cap, v = .slice ao n cap ∧ n ≤ cap ∧ cap ≤ maxLen
theorem OPtV.cap {w : World} {base : Nat} {v : Value} {ps : List Pt} {vs : List Value} (h : OPtV w base v ps vs) : CapP v := by
 rcases h.row.2 with ⟨rfl, h0⟩ | ⟨g, cap, cur, rfl, _, _, hca, hcm, _⟩
 ·exact ⟨none, 0, 0, rfl, Nat.le_refl _, by unfold maxLen; omega⟩
 ·exact ⟨_, _, cap, rfl, hca, hcm⟩
theorem OPt.cap {w : World} {base : Nat} {v : Value} {ps : List Pt} (h : OPt w base v ps) : CapP v := by obtain ⟨vs, h⟩ := h; exact h.cap
theorem OPR.cap {w : World} {lo hi : Nat} {v : Value} {ps : List Pt} {vs : List Value} (h : OPR w lo hi v ps vs) : CapP v := h.tab.cap
end Go.Proofs.YtndpjhiidmdlhaaGreatDoor
namespace Go.Proofs.YtndpjhiidmdlhaaGreatDoor
open Go.ChangeShapes Go.WideShapes Go.ChangeAt Go.RowKit
open Go.Joins
set_option linter.unusedSectionVars false
variable [∀ (a b c d : Int), Decidable (Ok4 a b c d)]
variable [∀ (n f : Int), Decidable (COk n f)]

theorem cellsPart : Tryz.prog.cellsOf 123 = 3 := by kernel_rfl
abbrev Pr := Int × ByteArray × Option Addr × Nat × List Int
def prz : Pr := (0, ⟨#[]⟩, none, 0, [])
def prp (r : Pr) : Pt := (r.1, r.2.1, r.2.2.2.2)
def ATab (W : World) (ao : Option Addr) (rs : List Pr) : Prop :=
 rs = [] ∨ ∃ g off, ao = some ⟨g, off, none⟩ ∧ ∀ k, k < rs.length → W.cell? ⟨g, off + k * 3, none⟩ = some (.int .i64 (rs.getD k prz).1) ∧ W.cell? ⟨g, off + k * 3 + 1, none⟩ = some (.string (rs.getD k prz).2.1) ∧ W.cell? ⟨g, off + k * 3 + 2, none⟩ = some (.slice (rs.getD k prz).2.2.1 (rs.getD k prz).2.2.2.2.length (rs.getD k prz).2.2.2.1)
theorem three_list {α : Type} {l : List α} (h : l.length = 3) : ∃ a b c, l = [a, b, c] := by
 match l, h with
 | [a, b, c], _ => exact ⟨a, b, c, rfl⟩
theorem open_parts0 {H : Type} {enc : TypeId × Value → H} {W : World} {fuel : Nat} {a : Option Addr} {len cap : Nat} {x : DataW H × List MemPlace} (h : DataW.trod enc Tryz.prog W 0 (fun _ => true) true fuel 30 (Value.slice a len cap).cells.toList = some x) :
 ∃ rs : List Pr, len = rs.length ∧ rs.length ≤ maxLen ∧ ATab W a rs ∧ ∀ r ∈ rs, r.2.1.size ≤ maxLen ∧ r.2.2.2.2.length ≤ maxLen ∧ AIW W r.2.2.1 r.2.2.2.2 ∧ WfL r.2.2.2.2 := by
 rcases Go.Deep.open_slice Tryz.underlying30 h with ⟨hcs, _⟩ | ⟨ad, l, c, m, n, D, Pl, hcs, _, hl, hm, hmm, _, hx⟩
 ·simp [Value.cells] at hcs
  obtain ⟨rfl, rfl, rfl⟩:=hcs
  exact ⟨[], rfl, by simp, .inl rfl, fun r hr => by simp at hr⟩
 ·simp [Value.cells] at hcs
  obtain ⟨rfl, rfl, rfl⟩:=hcs
  have hm' : m = cap:=by simpa using hmm
  have each : ∀ i, ∃ q : Pr, i < len → (W.cell? (ad.add (i * 3)) = some (.int .i64 q.1) ∧ W.cell? (ad.add (i * 3 + 1)) = some (.string q.2.1) ∧ W.cell? (ad.add (i * 3 + 2)) = some (.slice q.2.2.1 q.2.2.2.2.length q.2.2.2.1)) ∧ q.2.1.size ≤ maxLen ∧ q.2.2.2.2.length ≤ maxLen ∧ AIW W q.2.2.1 q.2.2.2.2 ∧ WfL q.2.2.2.2:=by
   intro i
   by_cases hi : i < len
   ·obtain ⟨cs', h1, h2⟩:=hx i (by omega)
    rw [cellsPart] at h1
    obtain ⟨_, hlen, hcell⟩:=World.cells?_some h1
    obtain ⟨y0, y1, y2, k, _, _, g0, g1, g2⟩:=Go.Deep.trod_struct3 Tryz.underlying123 h2
    obtain ⟨v0, v1, v2, rfl⟩:=three_list hlen
    have e0:=hcell 0 (by omega)
    have e1:=hcell 1 (by omega)
    have e2:=hcell 2 (by omega)
    rw [Go.Deep.add_add] at e0 e1 e2
    have ci : Tryz.prog.cellsOf 3 = 1:=by kernel_rfl
    have cs : Tryz.prog.cellsOf 9 = 1:=by kernel_rfl
    simp [ci, cs] at g0 g1 g2
    obtain ⟨a0, e0', _, _⟩:=DataW.trod_int Tryz.underlying3 g0
    obtain ⟨a1, e1', _, hs1⟩:=DataW.trod_string Tryz.underlying9 g1
    obtain ⟨ao, ca, xs, rfl, hxl, hxc, hxw⟩:=open_listW g2
    simp at e0' e1'
    subst e0' e1'
    exact ⟨(a0, a1, ao, ca, xs), fun _ => ⟨⟨by simpa using e0, by simpa using e1, by simpa using e2⟩, hs1, hxl, hxc, hxw⟩⟩
   ·exact ⟨prz, fun h => absurd h hi⟩
  obtain ⟨q, hq⟩:=Classical.axiomOfChoice each
  refine ⟨(List.range len).map q, by simp, by simp; omega, ?_, fun r hr => ?_⟩
  ·by_cases h0 : len = 0
   ·left; simp [h0]
   ·right
    obtain ⟨b, off, spot⟩:=ad
    have hc:=(hq 0 (by omega)).1.1
    have hspot : spot = none:=by simpa [Addr.add] using World.cell?_spot hc
    subst hspot
    refine ⟨b, off, rfl, fun k hk => ?_⟩
    rw [List.length_map, List.length_range] at hk
    have:=(hq k hk).1
    have ea : ∀ j, ((⟨b, off, none⟩ : Addr).add j) = ⟨b, off + j, none⟩:=fun j => by unfold Addr.add; split <;> simp_all
    rw [ea, ea, ea] at this
    have eg : ((List.range len).map q).getD k prz = q k:=by simp [hk]
    rw [eg]
    simpa [Nat.add_assoc] using this
  ·obtain ⟨j, hj, rfl⟩:=List.mem_map.1 hr
   exact (hq j (List.mem_range.1 hj)).2
theorem ATab.rpt {W : World} {ao : Option Addr} {ca : Nat} {rs : List Pr} (h : ATab W ao rs) (he : ∀ r ∈ rs, AIW W r.2.2.1 r.2.2.2.2) (hl : ∀ r ∈ rs, r.2.2.2.2.length ≤ 4194304) : RPt W (.slice ao rs.length ca) (rs.map prp) := by
 refine ⟨ao, ca, by simp, ?_⟩
 rcases h with rfl | ⟨g, off, rfl, h⟩
 ·exact .inl rfl
 ·refine .inr ⟨g, off, rfl, fun k hk => ?_⟩
  rw [List.length_map] at hk
  have hm : rs.getD k prz ∈ rs:=by rw [List.getD_eq_getElem?_getD, List.getElem?_eq_getElem hk]; exact List.getElem_mem hk
  have e : (rs.map prp).getD k zpt = prp (rs.getD k prz):=by simp [List.getElem?_eq_getElem hk]
  obtain ⟨c0, c1, c2⟩:=h k hk
  rw [e]
  exact ⟨_, c0, c1, c2, (he _ hm).ri (hl _ hm)⟩
end Go.Proofs.YtndpjhiidmdlhaaGreatDoor
namespace Go.Proofs.YtndpjhiidmdlhaaGreatDoor
open Go.RowKit
set_option linter.unusedSectionVars false
variable [∀ (a b c d : Int), Decidable (Ok4 a b c d)]
variable [∀ (n f : Int), Decidable (COk n f)]

theorem eqPartS_yes (v u : Value) (ps : List Pt) (w : World) (hl : ps.length ≤ 4194304) (hv : RPt w v ps) (hu : RPt w u ps) :
 Calls Tryz.prog 56 #[v, u] w fun e w' => e = .returned (.bool true) ∧ Below w.heap.size w w' := by
 obtain ⟨ao, ca, rfl, ha⟩:=hv
 obtain ⟨bo, cb, rfl, hb⟩:=hu
 obtain ⟨n, hn⟩ : ∃ n, ps.length = n:=⟨_, rfl⟩
 have Hn:=hide hn
 rw [hn] at hl ha hb ⊢
 clear hn
 go_enter Tryz.func56, Tryz.ntmps56
 go_wp2
 go_loopw [5] (fun i wr => ∃ k : Nat, k ≤ n ∧ i = .int .i64 k ∧ Below w.heap.size w wr) (fun i _ => n - (intOf i).toNat)
 case atStart => exact ⟨0, Nat.zero_le _, rfl, Below.refl _ _⟩
 case round =>
  obtain ⟨k, hk, rfl, br⟩:=hrel
  have hsr:=br.size
  by_cases hlt : k < n
  ·rcases ha with ha | ⟨g, o, rfl, ha⟩
   ·subst ha; have := Hn.out; simp at this; omega
   rcases hb with hb | ⟨g', o', rfl, hb⟩
   ·subst hb; have := Hn.out; simp at this; omega
   obtain ⟨p, a0, a1, a2, ra⟩:=ha k hlt
   obtain ⟨q, b0, b1, b2, rb⟩:=hb k hlt
   have hg : g < w.heap.size:=cell_lt a0
   have hg' : g' < w.heap.size:=cell_lt b0
   generalize (ps.getD k zpt).1 = m at *
   generalize (ps.getD k zpt).2.1 = s at *
   generalize (ps.getD k zpt).2.2 = xs at *
   have K : Hid (∀ w', Below wr.heap.size wr w' → Below wr.heap.size wr w' ∧ (w'.cell? ⟨g, o + k * 3, none⟩ = some (.int .i64 m) ∧ w'.cell? ⟨g, o + k * 3 + 1, none⟩ = some (.string s) ∧ w'.cell? ⟨g, o + k * 3 + 2, none⟩ = some p) ∧ (w'.cell? ⟨g', o' + k * 3, none⟩ = some (.int .i64 m) ∧ w'.cell? ⟨g', o' + k * 3 + 1, none⟩ = some (.string s) ∧ w'.cell? ⟨g', o' + k * 3 + 2, none⟩ = some q)):=fun w' hb' => by
    have hw:=br.trans (hb'.mono hsr)
    exact ⟨hb', ⟨(hw.cell (p := ⟨g, o + k * 3, none⟩) hg).trans a0, (hw.cell (p := ⟨g, o + k * 3 + 1, none⟩) hg).trans a1, (hw.cell (p := ⟨g, o + k * 3 + 2, none⟩) hg).trans a2⟩, ⟨(hw.cell (p := ⟨g', o' + k * 3, none⟩) hg').trans b0, (hw.cell (p := ⟨g', o' + k * 3 + 1, none⟩) hg').trans b1, (hw.cell (p := ⟨g', o' + k * 3 + 2, none⟩) hg').trans b2⟩⟩
   have EQ : Hid (∀ w', Below wr.heap.size wr w' → Calls Tryz.prog 123 #[qv m s p, qv m s q] w' fun e w'' => e = .returned (.bool true) ∧ Below w'.heap.size w' w''):=hide fun w' hb' => by
    have hw:=br.trans (hb'.mono hsr)
    exact eqPart_yes m s p q xs w' (ra.below hw) (rb.below hw)
   obtain ⟨pa, pc, rfl⟩:=ra.form
   obtain ⟨qa, qc, rfl⟩:=rb.form
   have bA : Below wr.heap.size wr wr.drew:=Below.drew (Below.refl _ _)
   have hKeep:=K.out _ bA
   clear ha hb a0 a1 a2 b0 b1 b2 ra rb
   generalize xs.length = xl at *
   go_wp2_with fail
   first | go_region_held3 (fun w' => Below wr.heap.size wr w' ∧ (w'.cell? ⟨g, o + k * 3, none⟩ = some (.int .i64 m) ∧ w'.cell? ⟨g, o + k * 3 + 1, none⟩ = some (.string s) ∧ w'.cell? ⟨g, o + k * 3 + 2, none⟩ = some (.slice pa xl pc)) ∧ (w'.cell? ⟨g', o' + k * 3, none⟩ = some (.int .i64 m) ∧ w'.cell? ⟨g', o' + k * 3 + 1, none⟩ = some (.string s) ∧ w'.cell? ⟨g', o' + k * 3 + 2, none⟩ = some (.slice qa xl qc))) (exact hKeep) (first
    | (go_at_call 123; have hgo := bA; refine (EQ.out _ bA).mono ?_; rintro e wa ⟨rfl, ba⟩
       have bB : Below wr.heap.size wr wa:=bA.trans ba
       have hKeep:=K.out _ bB; clear bA hgo)) | fail
   all_goals
    go_wp2
    go_roundw
    case rel => exact ⟨k + 1, by omega, by go_num, br.trans (bB.mono hsr)⟩
    case measure => simp [intOf]; omega
  ·have hkn : k = n:=by omega
   subst hkn
   clear ha hb
   go_wp2
   go_ret
   exact ⟨rfl, br⟩

def psum : List Pr → Nat
 | [] => 0
 | r :: rs => r.2.1.size + r.2.2.2.2.length + psum rs
theorem psum_snoc (rs : List Pr) (r : Pr) : psum (rs ++ [r]) = psum rs + (r.2.1.size + r.2.2.2.2.length) := by
 induction rs with
 | nil => simp [psum]
 | cons x rs ih => simp only [List.cons_append, psum, ih]; omega
theorem psum_take (rs : List Pr) (k : Nat) (hk : k < rs.length) : psum (rs.take (k + 1)) = psum (rs.take k) + ((rs.getD k prz).2.1.size + (rs.getD k prz).2.2.2.2.length) := by
 rw [List.take_succ_eq_append_getElem hk, psum_snoc]
 simp [List.getElem?_eq_getElem hk]
theorem psum_le (rs : List Pr) (k : Nat) : psum (rs.take k) ≤ psum rs := by
 induction rs generalizing k with
 | nil => simp [psum]
 | cons r rs ih =>
  cases k with
  | zero => simp [psum]
  | succ k => simp only [List.take_succ_cons, psum]; have := ih k; omega

theorem szPartS_yes (al : Option Addr) (cl : Nat) (rs : List Pr) (left : Int) (w : World) (h : ATab w al rs) (hs : (rs.length : Int) + psum rs ≤ left) (hl : left ≤ 1048576) :
 Calls Tryz.prog 35 #[.slice al rs.length cl,.int .i64 left] w fun e w' => e = .returned (.int .i64 (left - rs.length - psum rs)) ∧ Below w.heap.size w w' := by
 obtain ⟨n, hn⟩ : ∃ n, rs.length = n:=⟨_, rfl⟩
 have Hn:=hide hn
 have H:=hide h
 rw [hn] at hs ⊢
 clear hn h
 have hd0 : decide (left - (n : Int) < 0) = false:=by simp; omega
 go_enter Tryz.func35, Tryz.ntmps35
 go_wp2
 go_loopw [1, 5] (fun a i wr => ∃ k : Nat, k ≤ n ∧ i = .int .i64 k ∧ a = .int .i64 (left - n - (psum (rs.take k) : Nat)) ∧ Below w.heap.size w wr) (fun _ i _ => n - (intOf i).toNat)
 case atStart => exact ⟨0, Nat.zero_le _, rfl, by simp [psum], Below.refl _ _⟩
 case round =>
  obtain ⟨k, hk, rfl, rfl, br⟩:=hrel
  have hp:=psum_le rs k
  by_cases hlt : k < n
  ·have hkx : k < rs.length:=by have:=Hn.out; omega
   have hp1:=psum_le rs (k + 1)
   have hps:=psum_take rs k hkx
   have HP1:=hide hps
   rw [hps] at hp1
   clear hps
   rcases H.out with h | ⟨g, off, rfl, h⟩
   ·subst h; simp at hkx
   obtain ⟨c0, c1, c2⟩:=h k hkx
   have hg : g < w.heap.size:=cell_lt c0
   replace c0:=(br.cell (p:=⟨g, off + k * 3, none⟩) hg).trans c0
   replace c1:=(br.cell (p:=⟨g, off + k * 3 + 1, none⟩) hg).trans c1
   replace c2:=(br.cell (p:=⟨g, off + k * 3 + 2, none⟩) hg).trans c2
   clear h H
   generalize (rs.getD k prz).1 = m at *
   generalize (rs.getD k prz).2.1 = s at *
   generalize (rs.getD k prz).2.2.2.2.length = x at *
   generalize (rs.getD k prz).2.2.1 = ao at *
   generalize (rs.getD k prz).2.2.2.1 = ca at *
   generalize psum (rs.take k) = q at *
   have SZ:=hide fun w => szPart_yes m s ao x ca (left - n - q) w (by omega) (by omega)
   have hd1 : decide (left - (n : Int) - (q : Int) - (s.size : Int) - (x : Int) < 0) = false:=by simp; omega
   go_wp2_with fail
   refine (SZ.out _).mono ?_
   rintro e w1 ⟨rfl, b1⟩
   have B1:=bu br b1
   clear c0 c1 c2 SZ b1
   go_wp2
   go_roundw
   case rel => exact ⟨k + 1, by omega, by go_num, by rw [HP1.out]; simp; omega, B1⟩
   case measure => simp [intOf]; omega
  ·have hkn : rs.take k = rs:=List.take_of_length_le (by have:=Hn.out; omega)
   rw [hkn]
   clear hp
   go_wp2
   go_ret
   exact ⟨rfl, br⟩
end Go.Proofs.YtndpjhiidmdlhaaGreatDoor
namespace Go.Proofs.YtndpjhiidmdlhaaGreatDoor
open Go.RowKit

theorem pcells_set3 (l : List ((Int × ByteArray) × Value)) (k : Nat) (m : Int) (s : ByteArray) (u : Value) (hk : k < l.length) : (((pcells l).set (k * 3) (.int .i64 m)).set (k * 3 + 1) (.string s)).set (k * 3 + 2) u = pcells (l.set k ((m, s), u)) := by
 induction l generalizing k with
 | nil => simp at hk
 | cons p l ih =>
  cases k with
  | zero => simp [pcells_cons]
  | succ k =>
   rw [List.set_cons_succ, pcells_cons, pcells_cons, show (k + 1) * 3 = k * 3 + 1 + 1 + 1 by omega, show k * 3 + 1 + 1 + 1 + 1 = (k * 3 + 1) + 1 + 1 + 1 by omega, show k * 3 + 1 + 1 + 1 + 2 = (k * 3 + 2) + 1 + 1 + 1 by omega]
   simp only [List.set_cons_succ]
   rw [ih k (by simpa using hk)]
theorem pzip_set (ps : List Pt) (vs : List Value) (k : Nat) (x : Pt) (u : Value) (hl : vs.length = ps.length) : ((ps.set k x).map phd).zip (vs.set k u) = ((ps.map phd).zip vs).set k (phd x, u) := by
 apply List.ext_getElem?
 intro j
 by_cases hj : j < ps.length
 ·rw [List.getElem?_eq_getElem (by simp; omega), List.getElem?_eq_getElem (by simp; omega)]
  rw [List.getElem_set]
  by_cases e : k = j
  ·subst e; simp
  ·simp [e]
 ·rw [List.getElem?_eq_none (by simp; omega), List.getElem?_eq_none (by simp; omega)]
theorem opt_set {w : World} {base g cap k : Nat} {ps : List Pt} {vs : List Value} {m : Int} {s : ByteArray} {u : Value} {xs : List Int} (h : OPtV w base (.slice (some ⟨g, 0, none⟩) ps.length cap) ps vs) (hk : k < ps.length) (hu : OI w base u xs)
 (hap : ∀ j, j < ps.length → j ≠ k → ∀ b, (vs.getD j (.slice none 0 0)).ownBlock = some b → u.ownBlock ≠ some b) :
 OPtV (((w.setCell ⟨g, k * 3, none⟩ (.int .i64 m)).setCell ⟨g, k * 3 + 1, none⟩ (.string s)).setCell ⟨g, k * 3 + 2, none⟩ u) base (.slice (some ⟨g, 0, none⟩) ps.length cap) (ps.set k (m, s, xs)) (vs.set k u) := by
 have hz : ((ps.map phd).zip vs).length = ps.length:=by simp [h.len]
 have K : Kp w (((w.setCell ⟨g, k * 3, none⟩ (.int .i64 m)).setCell ⟨g, k * 3 + 1, none⟩ (.string s)).setCell ⟨g, k * 3 + 2, none⟩ u) (fun b => b = g):=((set_kp _ _ _ _).trans (set_kp _ _ _ _)).trans (set_kp _ _ _ _)
 have keep : ∀ (x : Value) (zs : List Int), OI w base x zs → OI (((w.setCell ⟨g, k * 3, none⟩ (.int .i64 m)).setCell ⟨g, k * 3 + 1, none⟩ (.string s)).setCell ⟨g, k * 3 + 2, none⟩ u) base x zs:=fun x zs hx =>
  hx.kp K (fun b hb e => pt_oi h.row hx g rfl (by rw [← e]; exact hb))
 refine ⟨by simp [h.len], ?_, fun j hj => ?_, fun i j hij hj b hb => ?_⟩
 ·rw [List.length_set, pzip_set ps vs k _ u h.len, show phd (m, s, xs) = (m, s) from rfl, ← pcells_set3 _ k m s u (by omega)]
  exact (((h.row.stored (k * 3) _).1.stored (k * 3 + 1) _).1.stored (k * 3 + 2) _).1
 ·rw [List.length_set] at hj
  by_cases e : k = j
  ·subst e
   have e1 : (ps.set k (m, s, xs)).getD k zpt = (m, s, xs):=by simp [hk]
   have e2 : (vs.set k u).getD k (.slice none 0 0) = u:=by simp [h.len, hk]
   rw [e1, e2]; exact keep _ _ hu
  ·have e1 : (ps.set k (m, s, xs)).getD j zpt = ps.getD j zpt:=by simp [e]
   have e2 : (vs.set k u).getD j (.slice none 0 0) = vs.getD j (.slice none 0 0):=by simp [e]
   rw [e1, e2]; exact keep _ _ (h.each j hj)
 ·rw [List.length_set] at hj
  by_cases e : k = i
  ·subst e
   have e1 : (vs.set k u).getD k (.slice none 0 0) = u:=by simp [h.len, hk]
   have e2 : (vs.set k u).getD j (.slice none 0 0) = vs.getD j (.slice none 0 0):=by simp [show k ≠ j by omega]
   rw [e1] at hb
   rw [e2]
   intro e3
   exact hap j hj (by omega) b e3 hb
  ·by_cases e' : k = j
   ·subst e'
    have e1 : (vs.set k u).getD k (.slice none 0 0) = u:=by simp [h.len, hk]
    have e2 : (vs.set k u).getD i (.slice none 0 0) = vs.getD i (.slice none 0 0):=by simp [e]
    rw [e2] at hb
    rw [e1]
    exact hap i (by omega) (by omega) b hb
   ·have e1 : (vs.set k u).getD i (.slice none 0 0) = vs.getD i (.slice none 0 0):=by simp [e]
    have e2 : (vs.set k u).getD j (.slice none 0 0) = vs.getD j (.slice none 0 0):=by simp [e']
    rw [e1] at hb
    rw [e2]
    exact h.apart i j hij hj b hb
end Go.Proofs.YtndpjhiidmdlhaaGreatDoor
namespace Go.Proofs.YtndpjhiidmdlhaaGreatDoor
open Go.RowKit
set_option linter.unusedSectionVars false
variable [∀ (a b c d : Int), Decidable (Ok4 a b c d)]
variable [∀ (n f : Int), Decidable (COk n f)]

theorem made_pcells (n : Nat) : (madeCells (qv 0 ⟨#[]⟩ (.slice none 0 0)).cells (n * 3)).toList = pcells (List.replicate n ((0, ⟨#[]⟩),.slice none 0 0)) := by
 apply List.ext_getElem?
 intro i
 by_cases hi : i < n * 3
 ·have h:=pcells_get (List.replicate n ((0, ⟨#[]⟩),.slice none 0 0)) (i / 3) (i % 3) (by simp; omega) (by omega)
  rw [show i / 3 * 3 + i % 3 = i by omega] at h
  have hr : (List.replicate n (((0 : Int), (⟨#[]⟩ : ByteArray)), Value.slice none 0 0)).getD (i / 3) ((0, ⟨#[]⟩),.slice none 0 0) = ((0, ⟨#[]⟩),.slice none 0 0):=by simp [show i / 3 < n by omega]
  rw [h, hr]
  have hc : (qv 0 ⟨#[]⟩ (.slice none 0 0)).cells = #[.int .i64 0,.string ⟨#[]⟩,.slice none 0 0]:=by rfl
  rw [hc]
  have h3 : i % 3 = 0 ∨ i % 3 = 1 ∨ i % 3 = 2:=by omega
  have he : (madeCells #[Value.int .i64 0,.string ⟨#[]⟩,.slice none 0 0] (n * 3)).toList[i]? = some (#[Value.int .i64 0,.string ⟨#[]⟩,.slice none 0 0][i % 3]!):=by
   simp [madeCells, hi]
  rw [he]
  rcases h3 with e | e | e <;> rw [e] <;> rfl
 ·rw [List.getElem?_eq_none (by rw [Array.length_toList, size_madeCells]; omega), List.getElem?_eq_none (by rw [pcells_len]; simp; omega)]
theorem opt_zero {w : World} {base n : Nat} {v : Value} (h : w.ownsRow base 82 3 v n (pcells (List.replicate n ((0, ⟨#[]⟩),.slice none 0 0)))) : OPtV w base v (List.replicate n zpt) (List.replicate n (.slice none 0 0)) := by
 refine ⟨by simp, ?_, fun k hk => ?_, fun i j hij hj b hb => ?_⟩
 ·rw [List.length_replicate, List.map_replicate, List.zip_replicate']
  exact h
 ·rw [List.length_replicate] at hk
  have e1 : (List.replicate n (Value.slice none 0 0)).getD k (.slice none 0 0) = .slice none 0 0:=by simp [hk]
  have e2 : (List.replicate n zpt).getD k zpt = zpt:=by simp [hk]
  rw [e1, e2]
  exact World.ownsRow_nil _ _ _ _
 ·rw [List.length_replicate] at hj
  have e1 : (List.replicate n (Value.slice none 0 0)).getD i (.slice none 0 0) = .slice none 0 0:=by simp [show i < n by omega]
  rw [e1] at hb
  simp [Value.ownBlock] at hb
def pthalf (ps : List Pt) (k : Nat) : List Pt := ps.take k ++ List.replicate (ps.length - k) zpt
theorem pthalf_len (ps : List Pt) (k : Nat) (h : k ≤ ps.length) : (pthalf ps k).length = ps.length := by simp [pthalf]; omega
theorem pthalf_set (ps : List Pt) (k : Nat) (h : k < ps.length) : (pthalf ps k).set k (ps.getD k zpt) = pthalf ps (k + 1) := by
 have e : ps.length - k = (ps.length - (k + 1)) + 1:=by omega
 have hk : (ps.take k).length = k:=by simp; omega
 unfold pthalf
 rw [List.take_succ_eq_append_getElem h, e, List.replicate_succ, List.set_append_right _ _ (by omega), hk, Nat.sub_self, List.set_cons_zero, List.append_assoc, List.getD_eq_getElem?_getD, List.getElem?_eq_getElem h]
 rfl

theorem toPartS_any (v : Value) (ps : List Pt) (w : World) (hl : ps.length ≤ 1048577) (h : RPt w v ps) :
 Calls Tryz.prog 46 #[v] w fun e w' => ∃ u, e = .returned u ∧ OPt w' w.heap.size u ps ∧ Below w.heap.size w w' := by
 obtain ⟨i0, hi, hz0, hz1, hz2⟩:=info_parts Tryz.infoPt
 obtain ⟨ao, ca, rfl⟩:=h.form
 have H:=hide h
 obtain ⟨n, hn⟩ : ∃ n, ps.length = n:=⟨_, rfl⟩
 have Hn:=hide hn
 rw [hn] at hl H ⊢
 clear h hn
 go_enter Tryz.func46, Tryz.ntmps46
 go_wp2_with (first | (at_make; refine wpList_make_full _ rfl _ _ 45 rfl w.heap.size 82 i0 (qv 0 ⟨#[]⟩ (.slice none 0 0)) 3 Tryz.underlying45 hi hz0 hz1 .i64 .i64 _ _ n rfl rfl rfl rfl (by rw [hz2]; omega) (by unfold maxLen; omega) (Nat.le_refl _) ?_; intro w0 ho0 hg0))
 have T0 : OPtV w0 w.heap.size (.slice (some ⟨w.heap.size, 0, none⟩) n n) (pthalf ps 0) (List.replicate n (.slice none 0 0)):=by
  rw [made_pcells] at ho0
  have:=opt_zero ho0
  simpa [pthalf, Hn.out] using this
 have B0 : Below w.heap.size w w0:=(Below.refl _ _).grown hg0 (Nat.le_refl _) (by simp)
 clear ho0 hg0 hz0 hz1 hz2 hi
 go_loopw [4] (fun i wr => ∃ (k : Nat) (vs : List Value), k ≤ n ∧ i = .int .i64 k ∧ OPtV wr w.heap.size (.slice (some ⟨w.heap.size, 0, none⟩) n n) (pthalf ps k) vs ∧ Below w.heap.size w wr) (fun i _ => n - (intOf i).toNat)
 case atStart => exact ⟨0, _, Nat.zero_le _, rfl, T0, B0⟩
 case round =>
  clear T0
  obtain ⟨k, vs, hk, rfl, T, br⟩:=hrel
  by_cases hlt : k < n
  ·have hkx : k < ps.length:=by have:=Hn.out; omega
   have hlen:=pthalf_len ps k (by omega)
   have HR:=H.out.below br
   obtain ⟨g, off, u, rfl, c0, c1, c2, ru⟩:=HR.at k hkx
   have HS:=hide (pthalf_set ps k hkx)
   obtain ⟨x, hx⟩ : ∃ x, ps.getD k zpt = x:=⟨_, rfl⟩
   rw [hx] at c0 c1 ru HS
   clear hx
   obtain ⟨m, s, xs⟩:=x
   simp only at c0 c1 ru
   have TP:=hide fun w h => toPart_any m s u xs w h
   obtain ⟨ua, uc, rfl⟩:=ru.form
   have RU:=hide ru
   have HT:=hide T
   generalize xs.length = xl at *
   clear HR H ru T
   go_wp2_with fail
   refine (TP.out _ RU.out).mono ?_
   rintro e w2 ⟨u2, rfl, o2, b2⟩
   have T2:=HT.out.below b2
   have B2:=bu br b2
   have lt2:=World.ownsRow.lt o2
   have hrow:=T2.row
   rw [hlen, Hn.out] at hrow
   have hplen : (pcells (((pthalf ps k).map phd).zip vs)).length = n * 3:=by rw [pcells_len]; simp [T2.len, hlen, Hn.out]
   have gt : ∀ j, j < n * 3 → ∃ u, w2.cell? ⟨w.heap.size, j, none⟩ = some u:=fun j hj => ⟨_, (hrow.cellAt j hj).trans (List.getElem?_eq_getElem (by rw [hplen]; exact hj))⟩
   obtain ⟨y0, d0⟩:=gt (k * 3) (by omega)
   obtain ⟨y1, d1⟩:=gt (k * 3 + 1) (by omega)
   obtain ⟨y2, d2⟩:=gt (k * 3 + 2) (by omega)
   have f0:=hrow.frozenAt (k * 3)
   have f1:=hrow.frozenAt (k * 3 + 1)
   have f2:=hrow.frozenAt (k * 3 + 2)
   have R:=hide (show OPtV (((w2.setCell ⟨w.heap.size, k * 3, none⟩ (.int .i64 m)).setCell ⟨w.heap.size, k * 3 + 1, none⟩ (.string s)).setCell ⟨w.heap.size, k * 3 + 2, none⟩ u2) w.heap.size (.slice (some ⟨w.heap.size, 0, none⟩) n n) (pthalf ps (k + 1)) (vs.set k u2) by
    have T3:=T2
    have en : n = (pthalf ps k).length:=by rw [hlen, Hn.out]
    rw [← HS.out]
    have:=opt_set (m:=m) (s:=s) (u:=u2) (xs:=xs) (k:=k) (cap:=n) (g:=w.heap.size) (w:=w2) (base:=w.heap.size) (ps:=pthalf ps k) (vs:=vs) (by rw [← en]; exact T3) (by rw [hlen]; exact hkx) (OI.mono o2 br.size) (fun j hj _ b hb e => by
     have h1:=World.ownsRow.lt (HT.out.each j hj) b hb
     have h2:=lt2 b e
     omega)
    rw [← en] at this
    exact this)
   have BR:=hide (((B2.setCell (p:=⟨w.heap.size, k * 3, none⟩) (Nat.le_refl _) (.int .i64 m)).setCell (p:=⟨w.heap.size, k * 3 + 1, none⟩) (Nat.le_refl _) (.string s)).setCell (p:=⟨w.heap.size, k * 3 + 2, none⟩) (Nat.le_refl _) u2)
   obtain ⟨va, vc, rfl⟩:=o2.form
   generalize xs.length = zl at *
   clear T2 B2 hrow hplen gt o2 lt2 HT TP RU c0 c1 c2
   go_wp2
   go_roundw
   case rel => exact ⟨k + 1, _, by omega, by go_num, R.out, BR.out⟩
   case measure => simp [intOf]; omega
  ·have hkn : pthalf ps k = ps:=by
    have:=Hn.out
    unfold pthalf
    rw [List.take_of_length_le (by omega), show ps.length - k = 0 by omega]
    simp
   rw [hkn] at T
   have T':=hide T
   clear T hkn H
   go_wp2
   go_ret
   exact ⟨_, rfl, ⟨_, T'.out⟩, br⟩
end Go.Proofs.YtndpjhiidmdlhaaGreatDoor
