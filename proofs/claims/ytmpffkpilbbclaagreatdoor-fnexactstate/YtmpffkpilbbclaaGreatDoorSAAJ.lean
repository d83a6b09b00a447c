/- Lemmas; their conditions stand in each statement. -/
import Derived.Test.YtmpffkpilbbclaaGreatDoorSAAI
import Derived.Lib.AppendZerosOnto
import Derived.Laws.EntriesVeiled
set_option maxRecDepth 100000
set_option maxHeartbeats 4000000
set_option linter.unusedSectionVars false
namespace Go.Proofs.YtmpffkpilbbclaaGreatDoor
section
open Go.RowKit
variable [∀ (a b c d : Int), Decidable (Ok4 a b c d)]
variable [∀ (n f : Int), Decidable (COk n f)]
theorem eqPartS_yes (v u : Value) (ps : List Pt) (w : World) (hl : ps.length ≤ 4194304) (hv : RPt w v ps) (hu : RPt w u ps) :
 Calls Tryz.prog 49 #[v, u] w fun e w' => e = .returned (.bool true) ∧ Below w.heap.size w w' := by
 obtain ⟨ao, ca, rfl, ha⟩:=hv
 obtain ⟨bo, cb, rfl, hb⟩:=hu
 obtain ⟨n, hn⟩ : ∃ n, ps.length = n:=⟨_, rfl⟩
 have Hn:=hide hn
 rw [hn] at hl ha hb ⊢
 clear hn
 go_enter Tryz.func49, Tryz.ntmps49
 go_wp2
 go_loopw [5] (fun i wr => ∃ k : Nat, k ≤ n ∧ i = .int .i64 k ∧ Below w.heap.size w wr) (fun i _ => n - (intOf i).toNat)
 case atStart => exact ⟨0, Nat.zero_le _, rfl, Below.refl _ _⟩
 case round =>
  obtain ⟨k, hk, rfl, br⟩:=hrel
  have hsr:=br.size
  by_cases hlt : k < n
  ·rcases ha with ha | ⟨g, o, rfl, ha⟩
   ·subst ha; have := Hn.out; simp at this; omega
   rcases hb with hb | ⟨g', o', rfl, hb⟩
   ·subst hb; have := Hn.out; simp at this; omega
   obtain ⟨p, a0, a1, a2, ra⟩:=ha k hlt
   obtain ⟨q, b0, b1, b2, rb⟩:=hb k hlt
   have hg : g < w.heap.size:=cell_lt a0
   have hg' : g' < w.heap.size:=cell_lt b0
   generalize (ps.getD k zpt).1 = m at *
   generalize (ps.getD k zpt).2.1 = s at *
   generalize (ps.getD k zpt).2.2 = xs at *
   have K : Hid (∀ w', Below wr.heap.size wr w' → Below wr.heap.size wr w' ∧ (w'.cell? ⟨g, o + k * 3, none⟩ = some (.int .i64 m) ∧ w'.cell? ⟨g, o + k * 3 + 1, none⟩ = some (.string s) ∧ w'.cell? ⟨g, o + k * 3 + 2, none⟩ = some p) ∧ (w'.cell? ⟨g', o' + k * 3, none⟩ = some (.int .i64 m) ∧ w'.cell? ⟨g', o' + k * 3 + 1, none⟩ = some (.string s) ∧ w'.cell? ⟨g', o' + k * 3 + 2, none⟩ = some q)):=fun w' hb' => by
    have hw:=br.trans (hb'.mono hsr)
    exact ⟨hb', ⟨(hw.cell (p := ⟨g, o + k * 3, none⟩) hg).trans a0, (hw.cell (p := ⟨g, o + k * 3 + 1, none⟩) hg).trans a1, (hw.cell (p := ⟨g, o + k * 3 + 2, none⟩) hg).trans a2⟩, ⟨(hw.cell (p := ⟨g', o' + k * 3, none⟩) hg').trans b0, (hw.cell (p := ⟨g', o' + k * 3 + 1, none⟩) hg').trans b1, (hw.cell (p := ⟨g', o' + k * 3 + 2, none⟩) hg').trans b2⟩⟩
   have EQ : Hid (∀ w', Below wr.heap.size wr w' → Calls Tryz.prog 108 #[qv m s p, qv m s q] w' fun e w'' => e = .returned (.bool true) ∧ Below w'.heap.size w' w''):=hide fun w' hb' => by
    have hw:=br.trans (hb'.mono hsr)
    exact eqPart_yes m s p q xs w' (ra.below hw) (rb.below hw)
   obtain ⟨pa, pc, rfl⟩:=ra.form
   obtain ⟨qa, qc, rfl⟩:=rb.form
   have bA : Below wr.heap.size wr wr.drew:=Below.drew (Below.refl _ _)
   have hKeep:=K.out _ bA
   clear ha hb a0 a1 a2 b0 b1 b2 ra rb
   generalize xs.length = xl at *
   go_wp2_with fail
   first | go_region_held3 (fun w' => Below wr.heap.size wr w' ∧ (w'.cell? ⟨g, o + k * 3, none⟩ = some (.int .i64 m) ∧ w'.cell? ⟨g, o + k * 3 + 1, none⟩ = some (.string s) ∧ w'.cell? ⟨g, o + k * 3 + 2, none⟩ = some (.slice pa xl pc)) ∧ (w'.cell? ⟨g', o' + k * 3, none⟩ = some (.int .i64 m) ∧ w'.cell? ⟨g', o' + k * 3 + 1, none⟩ = some (.string s) ∧ w'.cell? ⟨g', o' + k * 3 + 2, none⟩ = some (.slice qa xl qc))) (exact hKeep) (first
    | (go_at_call 108; have hgo := bA; refine (EQ.out _ bA).mono ?_; rintro e wa ⟨rfl, ba⟩
       have bB : Below wr.heap.size wr wa:=bA.trans ba
       have hKeep:=K.out _ bB; clear bA hgo)) | fail
   all_goals
    go_wp2
    go_roundw
    case rel => exact ⟨k + 1, by omega, by go_num, br.trans (bB.mono hsr)⟩
    case measure => simp [intOf]; omega
  have hkn : k = n:=by omega
  subst hkn
  clear ha hb
  go_wp2
  go_ret
  exact ⟨rfl, br⟩

def psum : List Pr → Nat
 | [] => 0
 | r :: rs => r.2.1.size + r.2.2.2.2.length + psum rs
theorem psum_snoc (rs : List Pr) (r : Pr) : psum (rs ++ [r]) = psum rs + (r.2.1.size + r.2.2.2.2.length) := by
 induction rs with
 | nil => simp [psum]
 | cons x rs ih => simp only [List.cons_append, psum, ih]; omega
theorem psum_take (rs : List Pr) (k : Nat) (hk : k < rs.length) : psum (rs.take (k + 1)) = psum (rs.take k) + ((rs.getD k prz).2.1.size + (rs.getD k prz).2.2.2.2.length) := by
 rw [List.take_succ_eq_append_getElem hk, psum_snoc]
 simp [List.getElem?_eq_getElem hk]
theorem psum_le (rs : List Pr) (k : Nat) : psum (rs.take k) ≤ psum rs := by
 induction rs generalizing k with
 | nil => simp [psum]
 | cons r rs ih =>
  cases k with
  | zero => simp [psum]
  | succ k => simp only [List.take_succ_cons, psum]; have := ih k; omega

theorem szPartS_yes (al : Option Addr) (cl : Nat) (rs : List Pr) (left : Int) (w : World) (h : ATab w al rs) (hs : (rs.length : Int) + psum rs ≤ left) (hl : left ≤ 1048576) :
 Calls Tryz.prog 22 #[.slice al rs.length cl,.int .i64 left] w fun e w' => e = .returned (.int .i64 (left - rs.length - psum rs)) ∧ Below w.heap.size w w' := by
 obtain ⟨n, hn⟩ : ∃ n, rs.length = n:=⟨_, rfl⟩
 have Hn:=hide hn
 have H:=hide h
 rw [hn] at hs ⊢
 clear hn h
 have hd0 : decide (left - (n : Int) < 0) = false:=by simp; omega
 go_enter Tryz.func22, Tryz.ntmps22
 go_wp2
 go_loopw [1, 5] (fun a i wr => ∃ k : Nat, k ≤ n ∧ i = .int .i64 k ∧ a = .int .i64 (left - n - (psum (rs.take k) : Nat)) ∧ Below w.heap.size w wr) (fun _ i _ => n - (intOf i).toNat)
 case atStart => exact ⟨0, Nat.zero_le _, rfl, by simp [psum], Below.refl _ _⟩
 case round =>
  obtain ⟨k, hk, rfl, rfl, br⟩:=hrel
  have hp:=psum_le rs k
  by_cases hlt : k < n
  ·have hkx : k < rs.length:=by have:=Hn.out; omega
   have hp1:=psum_le rs (k + 1)
   have hps:=psum_take rs k hkx
   have HP1:=hide hps
   rw [hps] at hp1
   clear hps
   rcases H.out with h | ⟨g, off, rfl, h⟩
   ·subst h; simp at hkx
   obtain ⟨c0, c1, c2⟩:=h k hkx
   have hg : g < w.heap.size:=cell_lt c0
   replace c0:=(br.cell (p:=⟨g, off + k * 3, none⟩) hg).trans c0
   replace c1:=(br.cell (p:=⟨g, off + k * 3 + 1, none⟩) hg).trans c1
   replace c2:=(br.cell (p:=⟨g, off + k * 3 + 2, none⟩) hg).trans c2
   clear h H
   generalize (rs.getD k prz).1 = m at *
   generalize (rs.getD k prz).2.1 = s at *
   generalize (rs.getD k prz).2.2.2.2.length = x at *
   generalize (rs.getD k prz).2.2.1 = ao at *
   generalize (rs.getD k prz).2.2.2.1 = ca at *
   generalize psum (rs.take k) = q at *
   have SZ:=hide fun w => szPart_yes m s ao x ca (left - n - q) w (by omega) (by omega)
   have hd1 : decide (left - (n : Int) - (q : Int) - (s.size : Int) - (x : Int) < 0) = false:=by simp; omega
   go_wp2_with fail
   refine (SZ.out _).mono ?_
   rintro e w1 ⟨rfl, b1⟩
   have B1:=bu br b1
   clear c0 c1 c2 SZ b1
   go_wp2
   go_roundw
   case rel => exact ⟨k + 1, by omega, by go_num, by rw [HP1.out]; simp; omega, B1⟩
   case measure => simp [intOf]; omega
  have hkn : rs.take k = rs:=List.take_of_length_le (by have:=Hn.out; omega)
  rw [hkn]
  clear hp
  go_wp2
  go_ret
  exact ⟨rfl, br⟩
end
section
open Go.RowKit
theorem pcells_set3 (l : List ((Int × ByteArray) × Value)) (k : Nat) (m : Int) (s : ByteArray) (u : Value) (hk : k < l.length) : (((pcells l).set (k * 3) (.int .i64 m)).set (k * 3 + 1) (.string s)).set (k * 3 + 2) u = pcells (l.set k ((m, s), u)) := by
 induction l generalizing k with
 | nil => simp at hk
 | cons p l ih =>
  cases k with
  | zero => simp [pcells_cons]
  | succ k =>
   rw [List.set_cons_succ, pcells_cons, pcells_cons, show (k + 1) * 3 = k * 3 + 1 + 1 + 1 by omega, show k * 3 + 1 + 1 + 1 + 1 = (k * 3 + 1) + 1 + 1 + 1 by omega, show k * 3 + 1 + 1 + 1 + 2 = (k * 3 + 2) + 1 + 1 + 1 by omega]
   simp only [List.set_cons_succ]
   rw [ih k (by simpa using hk)]
theorem pcells_set2 (l : List ((Int × ByteArray) × Value)) (k : Nat) (m : Int) (s : ByteArray) (hk : k < l.length) : ((pcells l).set (k * 3) (.int .i64 m)).set (k * 3 + 1) (.string s) = pcells (l.set k ((m, s), (l.getD k ((0, ⟨#[]⟩),.slice none 0 0)).2)) := by
 induction l generalizing k with
 | nil => simp at hk
 | cons p l ih =>
  cases k with
  | zero => simp [pcells_cons]
  | succ k =>
   rw [List.set_cons_succ, pcells_cons, pcells_cons, show (k + 1) * 3 = k * 3 + 1 + 1 + 1 by omega, show k * 3 + 1 + 1 + 1 + 1 = (k * 3 + 1) + 1 + 1 + 1 by omega]
   simp only [List.set_cons_succ]
   rw [ih k (by simpa using hk)]
   simp
theorem pzip_set (ps : List Pt) (vs : List Value) (k : Nat) (x : Pt) (u : Value) (hl : vs.length = ps.length) : ((ps.set k x).map phd).zip (vs.set k u) = ((ps.map phd).zip vs).set k (phd x, u) := by
 apply List.ext_getElem?
 intro j
 by_cases hj : j < ps.length
 ·rw [List.getElem?_eq_getElem (by simp; omega), List.getElem?_eq_getElem (by simp; omega)]
  rw [List.getElem_set]
  by_cases e : k = j
  ·subst e; simp
  simp [e]
 rw [List.getElem?_eq_none (by simp; omega), List.getElem?_eq_none (by simp; omega)]
theorem vset_same (vs : List Value) (k : Nat) (hk : k < vs.length) : vs.set k (vs.getD k (.slice none 0 0)) = vs := by
 apply List.ext_getElem?
 intro j
 rw [List.getElem?_set]
 split
 ·rename_i e; subst e; simp [hk]
 rfl
theorem opt_set {w : World} {base g cap k : Nat} {ps : List Pt} {vs : List Value} {m : Int} {s : ByteArray} {u : Value} {xs : List Int} (h : OPtV w base (.slice (some ⟨g, 0, none⟩) ps.length cap) ps vs) (hk : k < ps.length) (hu : OI w base u xs)
 (hap : ∀ j, j < ps.length → j ≠ k → ∀ b, (vs.getD j (.slice none 0 0)).ownBlock = some b → u.ownBlock ≠ some b) :
 OPtV (((w.setCell ⟨g, k * 3, none⟩ (.int .i64 m)).setCell ⟨g, k * 3 + 1, none⟩ (.string s)).setCell ⟨g, k * 3 + 2, none⟩ u) base (.slice (some ⟨g, 0, none⟩) ps.length cap) (ps.set k (m, s, xs)) (vs.set k u) := by
 have hz : ((ps.map phd).zip vs).length = ps.length:=by simp [h.len]
 have K : Kp w (((w.setCell ⟨g, k * 3, none⟩ (.int .i64 m)).setCell ⟨g, k * 3 + 1, none⟩ (.string s)).setCell ⟨g, k * 3 + 2, none⟩ u) (fun b => b = g):=((set_kp _ _ _ _).trans (set_kp _ _ _ _)).trans (set_kp _ _ _ _)
 have keep : ∀ (x : Value) (zs : List Int), OI w base x zs → OI (((w.setCell ⟨g, k * 3, none⟩ (.int .i64 m)).setCell ⟨g, k * 3 + 1, none⟩ (.string s)).setCell ⟨g, k * 3 + 2, none⟩ u) base x zs:=fun x zs hx =>
  hx.kp K (fun b hb e => pt_oi h.row hx g rfl (by rw [← e]; exact hb))
 refine ⟨by simp [h.len], ?_, fun j hj => ?_, fun i j hij hj b hb => ?_⟩
 ·rw [List.length_set, pzip_set ps vs k _ u h.len, show phd (m, s, xs) = (m, s) from rfl, ← pcells_set3 _ k m s u (by omega)]
  exact (((h.row.stored (k * 3) _).1.stored (k * 3 + 1) _).1.stored (k * 3 + 2) _).1
 ·rw [List.length_set] at hj
  by_cases e : k = j
  ·subst e
   have e1 : (ps.set k (m, s, xs)).getD k zpt = (m, s, xs):=by simp [hk]
   have e2 : (vs.set k u).getD k (.slice none 0 0) = u:=by simp [h.len, hk]
   rw [e1, e2]; exact keep _ _ hu
  have e1 : (ps.set k (m, s, xs)).getD j zpt = ps.getD j zpt:=by simp [e]
  have e2 : (vs.set k u).getD j (.slice none 0 0) = vs.getD j (.slice none 0 0):=by simp [e]
  rw [e1, e2]; exact keep _ _ (h.each j hj)
 rw [List.length_set] at hj
 by_cases e : k = i
 ·subst e
  have e1 : (vs.set k u).getD k (.slice none 0 0) = u:=by simp [h.len, hk]
  have e2 : (vs.set k u).getD j (.slice none 0 0) = vs.getD j (.slice none 0 0):=by simp [show k ≠ j by omega]
  rw [e1] at hb
  rw [e2]
  intro e3
  exact hap j hj (by omega) b e3 hb
 by_cases e' : k = j
 ·subst e'
  have e1 : (vs.set k u).getD k (.slice none 0 0) = u:=by simp [h.len, hk]
  have e2 : (vs.set k u).getD i (.slice none 0 0) = vs.getD i (.slice none 0 0):=by simp [e]
  rw [e2] at hb
  rw [e1]
  exact hap i (by omega) (by omega) b hb
 have e1 : (vs.set k u).getD i (.slice none 0 0) = vs.getD i (.slice none 0 0):=by simp [e]
 have e2 : (vs.set k u).getD j (.slice none 0 0) = vs.getD j (.slice none 0 0):=by simp [e']
 rw [e1] at hb
 rw [e2]
 exact h.apart i j hij hj b hb
theorem opt_mark {w w1 w2 : World} {base g n cap k : Nat} {ps : List Pt} {vs : List Value} {m : Int} {s : ByteArray} {xs : List Int} (h : OPtV w base (.slice (some ⟨g, 0, none⟩) n cap) ps vs) (hk : k < ps.length)
 (t : w1.ownsRow base 71 3 (.slice (some ⟨g, 0, none⟩) n cap) ps.length (((pcells ((ps.map phd).zip vs)).set (k * 3) (.int .i64 m)).set (k * 3 + 1) (.string s))) (g1 : Kp w w1 (fun b => b = g))
 (o2 : OI w2 base (vs.getD k (.slice none 0 0)) xs) (g2 : w1.grownBy w2 (vs.getD k (.slice none 0 0)).ownBlock) : OPtV w2 base (.slice (some ⟨g, 0, none⟩) n cap) (ps.set k (m, s, xs)) vs := by
 have hz : ((ps.map phd).zip vs).length = ps.length:=by simp [h.len]
 have key1 : ∀ j, j < ps.length → OI w1 base (vs.getD j (.slice none 0 0)) (ps.getD j zpt).2.2:=fun j hj =>
  (h.each j hj).kp g1 (fun b hb e => pt_oi h.row (h.each j hj) g rfl (by rw [← e]; exact hb))
 refine ⟨by simp [h.len], ?_, fun j hj => ?_, fun i j hij hj => h.apart i j hij (by simpa using hj)⟩
 ·have ev : vs = vs.set k (vs.getD k (.slice none 0 0)):=(vset_same vs k (by rw [h.len]; exact hk)).symm
  rw [List.length_set]
  have e : ((ps.set k (m, s, xs)).map phd).zip vs = ((ps.map phd).zip vs).set k ((m, s), vs.getD k (.slice none 0 0)):=by
   conv => lhs; rw [ev]
   exact pzip_set ps vs k _ _ h.len
  have e2 : (((ps.map phd).zip vs).getD k ((0, ⟨#[]⟩),.slice none 0 0)).2 = vs.getD k (.slice none 0 0):=by rw [pzip_get ps vs h.len k hk]
  rw [e, ← e2, ← pcells_set2 _ k m s (by omega)]
  refine World.ownsRow.kept t g2 (.inr fun e => ?_)
  exact pt_oi t (key1 k hk) g rfl (by rw [← e]; rfl)
 rw [List.length_set] at hj
 by_cases e : k = j
 ·subst e
  have : (ps.set k (m, s, xs)).getD k zpt = (m, s, xs):=by simp [hk]
  rw [this]; exact o2
 have : (ps.set k (m, s, xs)).getD j zpt = ps.getD j zpt:=by simp [e]
 rw [this]
 refine World.ownsRow.kept (key1 j hj) g2 ?_
 cases hv : (vs.getD j (.slice none 0 0)).ownBlock with
 | none => exact .inl rfl
 | some b =>
  refine .inr fun e2 => ?_
  rcases Nat.lt_or_ge k j with h3 | h3
  ·exact h.apart k j h3 hj b e2.symm hv
  exact h.apart j k (by omega) hk b hv e2.symm
end
section
open Go.RowKit
variable [∀ (a b c d : Int), Decidable (Ok4 a b c d)]
variable [∀ (n f : Int), Decidable (COk n f)]
theorem made_pcells (n : Nat) : (madeCells (qv 0 ⟨#[]⟩ (.slice none 0 0)).cells (n * 3)).toList = pcells (List.replicate n ((0, ⟨#[]⟩),.slice none 0 0)) := by
 apply List.ext_getElem?
 intro i
 by_cases hi : i < n * 3
 ·have h:=pcells_get (List.replicate n ((0, ⟨#[]⟩),.slice none 0 0)) (i / 3) (i % 3) (by simp; omega) (by omega)
  rw [show i / 3 * 3 + i % 3 = i by omega] at h
  have hr : (List.replicate n (((0 : Int), (⟨#[]⟩ : ByteArray)), Value.slice none 0 0)).getD (i / 3) ((0, ⟨#[]⟩),.slice none 0 0) = ((0, ⟨#[]⟩),.slice none 0 0):=by simp [show i / 3 < n by omega]
  rw [h, hr]
  have hc : (qv 0 ⟨#[]⟩ (.slice none 0 0)).cells = #[.int .i64 0,.string ⟨#[]⟩,.slice none 0 0]:=by rfl
  rw [hc]
  have h3 : i % 3 = 0 ∨ i % 3 = 1 ∨ i % 3 = 2:=by omega
  have he : (madeCells #[Value.int .i64 0,.string ⟨#[]⟩,.slice none 0 0] (n * 3)).toList[i]? = some (#[Value.int .i64 0,.string ⟨#[]⟩,.slice none 0 0][i % 3]!):=by
   simp [madeCells, hi]
  rw [he]
  rcases h3 with e | e | e <;> rw [e] <;> rfl
 rw [List.getElem?_eq_none (by rw [Array.length_toList, size_madeCells]; omega), List.getElem?_eq_none (by rw [pcells_len]; simp; omega)]
theorem opt_zero {w : World} {base n : Nat} {v : Value} (h : w.ownsRow base 71 3 v n (pcells (List.replicate n ((0, ⟨#[]⟩),.slice none 0 0)))) : OPtV w base v (List.replicate n zpt) (List.replicate n (.slice none 0 0)) := by
 refine ⟨by simp, ?_, fun k hk => ?_, fun i j hij hj b hb => ?_⟩
 ·rw [List.length_replicate, List.map_replicate, List.zip_replicate']
  exact h
 ·rw [List.length_replicate] at hk
  have e1 : (List.replicate n (Value.slice none 0 0)).getD k (.slice none 0 0) = .slice none 0 0:=by simp [hk]
  have e2 : (List.replicate n zpt).getD k zpt = zpt:=by simp [hk]
  rw [e1, e2]
  exact World.ownsRow_nil _ _ _ _
 rw [List.length_replicate] at hj
 have e1 : (List.replicate n (Value.slice none 0 0)).getD i (.slice none 0 0) = .slice none 0 0:=by simp [show i < n by omega]
 rw [e1] at hb
 simp [Value.ownBlock] at hb
def pthalf (ps : List Pt) (k : Nat) : List Pt := ps.take k ++ List.replicate (ps.length - k) zpt
theorem pthalf_len (ps : List Pt) (k : Nat) (h : k ≤ ps.length) : (pthalf ps k).length = ps.length := by simp [pthalf]; omega
theorem pthalf_set (ps : List Pt) (k : Nat) (h : k < ps.length) : (pthalf ps k).set k (ps.getD k zpt) = pthalf ps (k + 1) := by
 have e : ps.length - k = (ps.length - (k + 1)) + 1:=by omega
 have hk : (ps.take k).length = k:=by simp; omega
 unfold pthalf
 rw [List.take_succ_eq_append_getElem h, e, List.replicate_succ, List.set_append_right _ _ (by omega), hk, Nat.sub_self, List.set_cons_zero, List.append_assoc, List.getD_eq_getElem?_getD, List.getElem?_eq_getElem h]
 rfl

theorem toPartS_any (v : Value) (ps : List Pt) (w : World) (hl : ps.length ≤ 1048577) (h : RPt w v ps) :
 Calls Tryz.prog 36 #[v] w fun e w' => ∃ u, e = .returned u ∧ OPt w' w.heap.size u ps ∧ Below w.heap.size w w' := by
 obtain ⟨i0, hi, hz0, hz1, hz2⟩:=info_parts Tryz.infoPt
 obtain ⟨ao, ca, rfl⟩:=h.form
 have H:=hide h
 obtain ⟨n, hn⟩ : ∃ n, ps.length = n:=⟨_, rfl⟩
 have Hn:=hide hn
 rw [hn] at hl H ⊢
 clear h hn
 go_enter Tryz.func36, Tryz.ntmps36
 go_wp2_with (first | (at_make; refine wpList_make_full _ rfl _ _ 48 rfl w.heap.size 71 i0 (qv 0 ⟨#[]⟩ (.slice none 0 0)) 3 Tryz.underlying48 hi hz0 hz1 .i64 .i64 _ _ n rfl rfl rfl rfl (by rw [hz2]; omega) (by unfold maxLen; omega) (Nat.le_refl _) ?_; intro w0 ho0 hg0))
 have T0 : OPtV w0 w.heap.size (.slice (some ⟨w.heap.size, 0, none⟩) n n) (pthalf ps 0) (List.replicate n (.slice none 0 0)):=by
  rw [made_pcells] at ho0
  have:=opt_zero ho0
  simpa [pthalf, Hn.out] using this
 have B0 : Below w.heap.size w w0:=(Below.refl _ _).grown hg0 (Nat.le_refl _) (by simp)
 clear ho0 hg0 hz0 hz1 hz2 hi
 go_loopw [4] (fun i wr => ∃ (k : Nat) (vs : List Value), k ≤ n ∧ i = .int .i64 k ∧ OPtV wr w.heap.size (.slice (some ⟨w.heap.size, 0, none⟩) n n) (pthalf ps k) vs ∧ Below w.heap.size w wr) (fun i _ => n - (intOf i).toNat)
 case atStart => exact ⟨0, _, Nat.zero_le _, rfl, T0, B0⟩
 case round =>
  clear T0
  obtain ⟨k, vs, hk, rfl, T, br⟩:=hrel
  by_cases hlt : k < n
  ·have hkx : k < ps.length:=by have:=Hn.out; omega
   have hlen:=pthalf_len ps k (by omega)
   have HR:=H.out.below br
   obtain ⟨g, off, u, rfl, c0, c1, c2, ru⟩:=HR.at k hkx
   have HS:=hide (pthalf_set ps k hkx)
   obtain ⟨x, hx⟩ : ∃ x, ps.getD k zpt = x:=⟨_, rfl⟩
   rw [hx] at c0 c1 ru HS
   clear hx
   obtain ⟨m, s, xs⟩:=x
   simp only at c0 c1 ru
   have TP:=hide fun w h => toPart_any m s u xs w h
   obtain ⟨ua, uc, rfl⟩:=ru.form
   have RU:=hide ru
   have HT:=hide T
   generalize xs.length = xl at *
   clear HR H ru T
   go_wp2_with fail
   refine (TP.out _ RU.out).mono ?_
   rintro e w2 ⟨u2, rfl, o2, b2⟩
   have T2:=HT.out.below b2
   have B2:=bu br b2
   have lt2:=World.ownsRow.lt o2
   have hrow:=T2.row
   rw [hlen, Hn.out] at hrow
   have hplen : (pcells (((pthalf ps k).map phd).zip vs)).length = n * 3:=by rw [pcells_len]; simp [T2.len, hlen, Hn.out]
   have gt : ∀ j, j < n * 3 → ∃ u, w2.cell? ⟨w.heap.size, j, none⟩ = some u:=fun j hj => ⟨_, (hrow.cellAt j hj).trans (List.getElem?_eq_getElem (by rw [hplen]; exact hj))⟩
   obtain ⟨y0, d0⟩:=gt (k * 3) (by omega)
   obtain ⟨y1, d1⟩:=gt (k * 3 + 1) (by omega)
   obtain ⟨y2, d2⟩:=gt (k * 3 + 2) (by omega)
   have f0:=hrow.frozenAt (k * 3)
   have f1:=hrow.frozenAt (k * 3 + 1)
   have f2:=hrow.frozenAt (k * 3 + 2)
   have R:=hide (show OPtV (((w2.setCell ⟨w.heap.size, k * 3, none⟩ (.int .i64 m)).setCell ⟨w.heap.size, k * 3 + 1, none⟩ (.string s)).setCell ⟨w.heap.size, k * 3 + 2, none⟩ u2) w.heap.size (.slice (some ⟨w.heap.size, 0, none⟩) n n) (pthalf ps (k + 1)) (vs.set k u2) by
    have T3:=T2
    have en : n = (pthalf ps k).length:=by rw [hlen, Hn.out]
    rw [← HS.out]
    have:=opt_set (m:=m) (s:=s) (u:=u2) (xs:=xs) (k:=k) (cap:=n) (g:=w.heap.size) (w:=w2) (base:=w.heap.size) (ps:=pthalf ps k) (vs:=vs) (by rw [← en]; exact T3) (by rw [hlen]; exact hkx) (OI.mono o2 br.size) (fun j hj _ b hb e => by
     have h1:=World.ownsRow.lt (HT.out.each j hj) b hb
     have h2:=lt2 b e
     omega)
    rw [← en] at this
    exact this)
   have BR:=hide (((B2.setCell (p:=⟨w.heap.size, k * 3, none⟩) (Nat.le_refl _) (.int .i64 m)).setCell (p:=⟨w.heap.size, k * 3 + 1, none⟩) (Nat.le_refl _) (.string s)).setCell (p:=⟨w.heap.size, k * 3 + 2, none⟩) (Nat.le_refl _) u2)
   obtain ⟨va, vc, rfl⟩:=o2.form
   generalize xs.length = zl at *
   clear T2 B2 hrow hplen gt o2 lt2 HT TP RU c0 c1 c2
   go_wp2
   go_roundw
   case rel => exact ⟨k + 1, _, by omega, by go_num, R.out, BR.out⟩
   case measure => simp [intOf]; omega
  have hkn : pthalf ps k = ps:=by
   have:=Hn.out
   unfold pthalf
   rw [List.take_of_length_le (by omega), show ps.length - k = 0 by omega]
   simp
  rw [hkn] at T
  have T':=hide T
  clear T hkn H
  go_wp2
  go_ret
  exact ⟨_, rfl, ⟨_, T'.out⟩, br⟩
end
section
open Go.RowKit
abbrev sv (vo lo n : Int) (s : ByteArray) (v : Value) (d : ByteArray) : Value := .agg #[.int .i64 vo,.int .i64 lo,.int .i64 n,.string s, v,.string d]

theorem eqSafe_yes (vo lo n : Int) (s : ByteArray) (a b : Value) (xs : List Int) (d : ByteArray) (w : World) (ha : RI w a xs) (hb : RI w b xs) :
 Calls Tryz.prog 47 #[sv vo lo n s a d, sv vo lo n s b d] w fun e w' => e = .returned (.bool true) ∧ Below w.heap.size w w' := by
 obtain ⟨w0, hw0⟩ : ∃ w0, (w.alloc (.cells #[.int .i64 vo,.int .i64 lo,.int .i64 n,.string s, a,.string d] 46)).alloc (.cells #[.int .i64 vo,.int .i64 lo,.int .i64 n,.string s, b,.string d] 46) = w0:=⟨_, rfl⟩
 have B0 : Below w.heap.size w w0:=hw0 ▸ qalloc2 _ _ _
 have LA : Loc w0 w.heap.size #[.int .i64 vo,.int .i64 lo,.int .i64 n,.string s, a,.string d]:=hw0 ▸ (loc_at w _ _ rfl).alloc _
 have LB : Loc w0 (w.heap.size + 1) #[.int .i64 vo,.int .i64 lo,.int .i64 n,.string s, b,.string d]:=hw0 ▸ loc_at (w.alloc _) _ _ (by simp)
 have EQ:=hide (eqQc_yes n s a b xs w0 (ha.below B0) (hb.below B0))
 have HA:=hide LA
 have HB:=hide LB
 have x0:=LA.cell 0 rfl
 have x1:=LA.cell 1 rfl
 have x2:=LA.cell 2 rfl
 have x3:=LA.cell 3 rfl
 have x4:=LA.cell 4 rfl
 have x5:=LA.cell 5 rfl
 have y0:=LB.cell 0 rfl
 have y1:=LB.cell 1 rfl
 have y2:=LB.cell 2 rfl
 have y3:=LB.cell 3 rfl
 have y4:=LB.cell 4 rfl
 have y5:=LB.cell 5 rfl
 clear ha hb LA LB
 go_enter Tryz.func47, Tryz.ntmps47
 go_wp2_with fail
 clear hw0
 refine EQ.out.mono ?_
 rintro e w1 ⟨rfl, b1⟩
 have A1:=(HA.out.below b1 HA.out.lt).cell 5 rfl
 have C1:=(HB.out.below b1 HB.out.lt).cell 5 rfl
 have B1:=bu B0 b1
 clear b1 x0 y0 x1 y1 x2 y2 x3 y3 x4 y4 x5 y5 EQ HA HB
 go_wp2
 go_ret
 exact ⟨rfl, B1⟩

theorem markSafe_any (vo lo n : Int) (s : ByteArray) (base : Nat) (v : Value) (d : ByteArray) (xs : List Int) (k0 : Nat) (w : World) (hl : xs.length ≤ 4194304) (hk : k0 ≤ 100000000) (h : OI w base v xs) :
 Calls Tryz.prog 52 #[sv vo lo n s v d,.int .i64 k0] w fun e w' => e = .returned (.int .i64 (k0 + xs.length)) ∧ OI w' base v (imarks k0 xs.length) ∧ Kp w w' (fun k => v.ownBlock = some k) := by
 have B:=hide (qalloc w (.cells #[.int .i64 vo,.int .i64 lo,.int .i64 n,.string s, v,.string d] 46))
 have H:=hide (h.below B.out)
 have MK:=hide fun w h => markQc_any n s base v xs k0 w hl hk h
 clear h
 go_enter Tryz.func52, Tryz.ntmps52
 go_wp2_with fail
 refine (MK.out _ H.out).mono ?_
 rintro e w1 ⟨rfl, o1, k1⟩
 have K:=(Below.kpOf B.out (fun k => v.ownBlock = some k)).trans k1
 go_wp2
 go_ret
 exact ⟨rfl, o1, K⟩

theorem szSafe_yes (vo lo n : Int) (s : ByteArray) (ao : Option Addr) (k ca : Nat) (d : ByteArray) (left : Int) (w : World) (h : (s.size : Int) + k + d.size ≤ left) (hl : left ≤ 1048576) :
 Calls Tryz.prog 20 #[sv vo lo n s (.slice ao k ca) d,.int .i64 left] w fun e w' => e = .returned (.int .i64 (left - s.size - k - d.size)) ∧ Below w.heap.size w w' := by
 have h2 : decide ((left : Int) - (s.size : Int) - (k : Int) < 0) = false:=by simp; omega
 have h1 : decide ((left : Int) - (s.size : Int) - (k : Int) - (d.size : Int) < 0) = false:=by simp; omega
 have ZQ:=hide fun w => szQc_yes n s ao k ca left w (by omega) (by omega)
 obtain ⟨w0, hw0⟩ : ∃ w0, w.alloc (.cells #[.int .i64 vo,.int .i64 lo,.int .i64 n,.string s,.slice ao k ca,.string d] 28) = w0:=⟨_, rfl⟩
 have B0 : Below w.heap.size w w0:=hw0 ▸ qalloc _ _
 have LA : Loc w0 w.heap.size #[.int .i64 vo,.int .i64 lo,.int .i64 n,.string s,.slice ao k ca,.string d]:=hw0 ▸ loc_at w _ _ rfl
 have HA:=hide LA
 have x0:=LA.cell 0 rfl
 have x1:=LA.cell 1 rfl
 have x2:=LA.cell 2 rfl
 have x3:=LA.cell 3 rfl
 have x4:=LA.cell 4 rfl
 have x5:=LA.cell 5 rfl
 clear LA
 go_enter Tryz.func20, Tryz.ntmps20
 go_wp2_with fail
 clear hw0
 refine (ZQ.out _).mono ?_
 rintro e w1 ⟨rfl, b1⟩
 have A1:=(HA.out.below b1 HA.out.lt).cell 5 rfl
 have B1:=bu B0 b1
 clear b1 x0 x1 x2 x3 x4 x5 HA
 go_wp2
 go_ret
 exact ⟨rfl, B1⟩
theorem szSafe_no1 (vo lo n : Int) (s : ByteArray) (ao : Option Addr) (k ca : Nat) (d : ByteArray) (left : Int) (w : World) (h0 : 0 ≤ left) (h : left < s.size + k) (hs : s.size ≤ 9223372036854775807) (hk : k ≤ 9223372036854775807) (hl : left ≤ 1048576) :
 Calls Tryz.prog 20 #[sv vo lo n s (.slice ao k ca) d,.int .i64 left] w fun e w' => e = .returned (.int .i64 (-1)) ∧ Below w.heap.size w w' := by
 have ZQ:=hide fun w => szQc_no n s ao k ca left w (by omega) (by omega) hs hk (by omega)
 obtain ⟨w0, hw0⟩ : ∃ w0, w.alloc (.cells #[.int .i64 vo,.int .i64 lo,.int .i64 n,.string s,.slice ao k ca,.string d] 28) = w0:=⟨_, rfl⟩
 have B0 : Below w.heap.size w w0:=hw0 ▸ qalloc _ _
 have LA : Loc w0 w.heap.size #[.int .i64 vo,.int .i64 lo,.int .i64 n,.string s,.slice ao k ca,.string d]:=hw0 ▸ loc_at w _ _ rfl
 have HA:=hide LA
 have x0:=LA.cell 0 rfl
 have x1:=LA.cell 1 rfl
 have x2:=LA.cell 2 rfl
 have x3:=LA.cell 3 rfl
 have x4:=LA.cell 4 rfl
 have x5:=LA.cell 5 rfl
 clear LA
 go_enter Tryz.func20, Tryz.ntmps20
 go_wp2_with fail
 clear hw0
 refine (ZQ.out _).mono ?_
 rintro e w1 ⟨rfl, b1⟩
 have A1:=(HA.out.below b1 HA.out.lt).cell 5 rfl
 have B1:=bu B0 b1
 clear b1 x0 x1 x2 x3 x4 x5 HA
 go_wp2
 go_ret
 exact ⟨rfl, B1⟩
theorem szSafe_no2 (vo lo n : Int) (s : ByteArray) (ao : Option Addr) (k ca : Nat) (d : ByteArray) (left : Int) (w : World) (h0 : (s.size : Int) + k ≤ left) (h : left < s.size + k + d.size) (hd : d.size ≤ 9223372036854775807) (hl : left ≤ 1048576) :
 Calls Tryz.prog 20 #[sv vo lo n s (.slice ao k ca) d,.int .i64 left] w fun e w' => e = .returned (.int .i64 (-1)) ∧ Below w.heap.size w w' := by
 have h2 : decide ((left : Int) - (s.size : Int) - (k : Int) < 0) = false:=by simp; omega
 have h1 : decide ((left : Int) - (s.size : Int) - (k : Int) - (d.size : Int) < 0) = true:=by simp; omega
 have ZQ:=hide fun w => szQc_yes n s ao k ca left w (by omega) (by omega)
 obtain ⟨w0, hw0⟩ : ∃ w0, w.alloc (.cells #[.int .i64 vo,.int .i64 lo,.int .i64 n,.string s,.slice ao k ca,.string d] 28) = w0:=⟨_, rfl⟩
 have B0 : Below w.heap.size w w0:=hw0 ▸ qalloc _ _
 have LA : Loc w0 w.heap.size #[.int .i64 vo,.int .i64 lo,.int .i64 n,.string s,.slice ao k ca,.string d]:=hw0 ▸ loc_at w _ _ rfl
 have HA:=hide LA
 have x0:=LA.cell 0 rfl
 have x1:=LA.cell 1 rfl
 have x2:=LA.cell 2 rfl
 have x3:=LA.cell 3 rfl
 have x4:=LA.cell 4 rfl
 have x5:=LA.cell 5 rfl
 clear LA
 go_enter Tryz.func20, Tryz.ntmps20
 go_wp2_with fail
 clear hw0
 refine (ZQ.out _).mono ?_
 rintro e w1 ⟨rfl, b1⟩
 have A1:=(HA.out.below b1 HA.out.lt).cell 5 rfl
 have B1:=bu B0 b1
 clear b1 x0 x1 x2 x3 x4 x5 HA
 go_wp2
 go_ret
 exact ⟨rfl, B1⟩
theorem szSafe_no (vo lo n : Int) (s : ByteArray) (ao : Option Addr) (k ca : Nat) (d : ByteArray) (left : Int) (w : World) (h0 : 0 ≤ left) (h : left < s.size + k + d.size) (hs : s.size ≤ 9223372036854775807) (hk : k ≤ 9223372036854775807) (hd : d.size ≤ 9223372036854775807) (hl : left ≤ 1048576) :
 Calls Tryz.prog 20 #[sv vo lo n s (.slice ao k ca) d,.int .i64 left] w fun e w' => e = .returned (.int .i64 (-1)) ∧ Below w.heap.size w w' := by
 by_cases h1 : left < (s.size : Int) + k
 ·exact szSafe_no1 vo lo n s ao k ca d left w h0 h1 hs hk hl
 exact szSafe_no2 vo lo n s ao k ca d left w (by omega) h hd hl

abbrev zs6 : Array Value := #[.int .i64 0,.int .i64 0,.int .i64 0,.string ⟨#[]⟩,.slice none 0 0,.string ⟨#[]⟩]
theorem toSafe_any (vo lo n : Int) (s : ByteArray) (a : Value) (xs : List Int) (d : ByteArray) (w : World) (ha : RI w a xs) :
 Calls Tryz.prog 34 #[sv vo lo n s a d] w fun e w' => ∃ u, e = .returned (sv vo lo n s u d) ∧ OI w' w.heap.size u xs ∧ Below w.heap.size w w' := by
 obtain ⟨w0, hw0⟩ : ∃ w0, ((w.alloc (.cells #[.int .i64 vo,.int .i64 lo,.int .i64 n,.string s, a,.string d] 28)).alloc (.cells zs6 46)).alloc (.cells #[.int .i64 vo,.int .i64 lo,.int .i64 0,.string ⟨#[]⟩,.slice none 0 0,.string ⟨#[]⟩] 46) = w0:=⟨_, rfl⟩
 have B0 : Below w.heap.size w w0:=hw0 ▸ ((qalloc2 _ _ _).alloc (by simp; omega) _)
 have LZ : Loc w0 (w.heap.size + 1) zs6:=hw0 ▸ (loc_at (w.alloc _) _ _ (by simp)).alloc _
 have LO : Loc w0 (w.heap.size + 1 + 1) #[.int .i64 vo,.int .i64 lo,.int .i64 0,.string ⟨#[]⟩,.slice none 0 0,.string ⟨#[]⟩]:=hw0 ▸ loc_at ((w.alloc _).alloc _) _ _ (by simp)
 have s0 : w0.heap.size = w.heap.size + 1 + 1 + 1:=by rw [← hw0]; simp
 have LA : Loc w0 w.heap.size #[.int .i64 vo,.int .i64 lo,.int .i64 n,.string s, a,.string d]:=hw0 ▸ ((loc_at w _ _ rfl).alloc _).alloc _
 have p0:=LA.cell 0 rfl
 have p1:=LA.cell 1 rfl
 have p2:=LA.cell 2 rfl
 have p3:=LA.cell 3 rfl
 have p4:=LA.cell 4 rfl
 have p5:=LA.cell 5 rfl
 have TQ:=hide (toQc_any n s a xs w0 (ha.below B0))
 have HZ:=hide LZ
 have HO:=hide LO
 have HA:=hide LA
 clear ha LZ LO LA
 go_enter Tryz.func34, Tryz.ntmps34
 go_wp2_with fail
 clear hw0
 refine TQ.out.mono ?_
 rintro e w1 ⟨u, rfl, o1, b1⟩
 have B1 : Below w.heap.size w w1:=bu B0 b1
 have Z1:=HZ.out.below b1 HZ.out.lt
 have O1:=HO.out.below b1 HO.out.lt
 have A1:=HA.out.below b1 HA.out.lt
 have y0:=Z1.cell 0 rfl
 have y1:=Z1.cell 1 rfl
 have y2:=Z1.cell 2 rfl
 have y3:=Z1.cell 3 rfl
 have y4:=Z1.cell 4 rfl
 have y5:=Z1.cell 5 rfl
 have fy:=Z1.frozen
 have x0:=O1.cell 0 rfl
 have x1:=O1.cell 1 rfl
 have x2:=O1.cell 2 rfl
 have x3:=O1.cell 3 rfl
 have x4:=O1.cell 4 rfl
 have x5:=O1.cell 5 rfl
 have fx:=O1.frozen
 have a5:=A1.cell 5 rfl
 have lt1:=World.ownsRow.lt o1
 obtain ⟨ua, uc, rfl⟩:=o1.form
 have H1:=hide o1
 clear o1 b1 Z1 O1 A1 HZ HO HA TQ p0 p1 p2 p3 p4 p5
 go_wp2
 refine bodyPost_ret (v := sv vo lo n s (.slice ua xs.length uc) d) (by simp [results, Tryz.results34, go_sem, y0, y1, y2, y3, y4, y5]) rfl ?_
 have K : Kp w1 _ (fun k => k = w.heap.size + 1 ∨ k = w.heap.size + 1 + 1):=(((((((((((Kp.same w1 _).put (g:=w.heap.size + 1 + 1) (.inr rfl) 2 (.int .i64 n)).put (g:=w.heap.size + 1 + 1) (.inr rfl) 3 (.string s)).put (g:=w.heap.size + 1 + 1) (.inr rfl) 4 (.slice ua xs.length uc)).put (g:=w.heap.size + 1 + 1) (.inr rfl) 5 (.string d)).put (g:=w.heap.size + 1) (.inl rfl) 0 (.int .i64 vo)).put (g:=w.heap.size + 1) (.inl rfl) 1 (.int .i64 lo)).put (g:=w.heap.size + 1) (.inl rfl) 2 (.int .i64 n)).put (g:=w.heap.size + 1) (.inl rfl) 3 (.string s)).put (g:=w.heap.size + 1) (.inl rfl) 4 (.slice ua xs.length uc)).put (g:=w.heap.size + 1) (.inl rfl) 5 (.string d))
 exact ⟨_, rfl, (H1.out.kp K (fun k hk => by have := lt1 k hk; omega)).mono (by omega), Below.kp B1 K B1.size (fun k hk => by omega)⟩
theorem eq_yes (va vb : Value) (xs : List Int) (w : World) (ha : RB w va xs) (hb : RB w vb xs) :
 Calls Tryz.prog 109 #[va, vb] w fun e w' => e = .returned (.bool true) ∧ ∃ n, w' = w.drewN n := by
 obtain ⟨hl, ao, ca, rfl, _, ha⟩:=ha
 obtain ⟨_, bo, cb, rfl, _, hb⟩:=hb
 generalize hn : xs.length = n at *
 have Hn : Hid (xs.length = n):=hn
 clear hn
 go_enter Tryz.func109, Tryz.ntmps109
 go_wp2
 go_loopw [5] (fun i wr => ∃ k : Nat, k ≤ n ∧ i = .int .i64 k ∧ ∃ m, wr = w.drewN m) (fun i _ => n - (intOf i).toNat)
 case atStart => exact ⟨0, Nat.zero_le _, rfl, 0, rfl⟩
 case round =>
  obtain ⟨k, hk, rfl, m, rfl⟩:=hrel
  by_cases hlt : k < n
  ·rcases ha with ha | ⟨b, off, rfl, ha⟩
   ·subst ha; have := Hn.out; simp at this; omega
   rcases hb with hb | ⟨b', off', rfl, hb⟩
   ·subst hb; have := Hn.out; simp at this; omega
   have ha':=ha k hlt
   have hb':=hb k hlt
   clear ha hb
   go_wp2_with fail
   go_quiet (fail)
   go_wp2
   go_roundw
   case rel => exact ⟨k + 1, by omega, by go_num, _, rfl⟩
   case measure => simp [intOf]; omega
  clear ha hb
  go_wp2
  go_ret
  exact ⟨rfl, _, rfl⟩
def marks (k0 n : Nat) : List Int := (List.range n).map fun (i : Nat) => ((k0 : Int) + (i : Int)) % 256
theorem marks_len (k0 n : Nat) : (marks k0 n).length = n := by simp [marks]
theorem marks_succ (k0 n : Nat) : marks k0 (n + 1) = marks k0 n ++ [((k0 : Int) + (n : Int)) % 256] := by simp [marks, List.range_succ]

def mixed (k0 k : Nat) (vs : List Value) : List Value := (marks k0 k).map (Value.int .u8) ++ vs.drop k
theorem mixed_zero (k0 : Nat) (vs : List Value) : mixed k0 0 vs = vs := by simp [mixed, marks]
theorem mixed_all (k0 : Nat) (vs : List Value) : mixed k0 vs.length vs = (marks k0 vs.length).map (Value.int .u8) := by simp [mixed]
theorem mixed_get (k0 k : Nat) (vs : List Value) (h : k < vs.length) : (mixed k0 k vs)[k]? = some (vs[k]) := by
 simp [mixed, List.getElem?_append, marks_len, h]
theorem mixed_set (k0 k : Nat) (vs : List Value) (h : k < vs.length) : (mixed k0 k vs).set k (.int .u8 (((k0 : Int) + (k : Int)) % 256)) = mixed k0 (k + 1) vs := by
 unfold mixed
 rw [marks_succ, List.set_append_right _ _ (by simp [marks_len]), List.length_map, marks_len, Nat.sub_self, List.drop_eq_getElem_cons h, List.set_cons_zero]
 simp

theorem mark_row (base g n cap k0 : Nat) (vs : List Value) (w : World) (hn : n ≤ 140737488355328) (hk0 : k0 ≤ 100000000) (h : w.ownsRow base 5 1 (.slice (some ⟨g, 0, none⟩) n cap) n vs) :
 Calls Tryz.prog 112 #[.slice (some ⟨g, 0, none⟩) n cap,.int .i64 k0] w fun e w' => e = .returned (.int .i64 (k0 + n)) ∧
  w'.ownsRow base 5 1 (.slice (some ⟨g, 0, none⟩) n cap) n ((marks k0 n).map (Value.int .u8)) ∧ w.grownBy w' (some g) := by
 have hv0 : vs.length = n:=by simpa using h.1
 have Hv : Hid (vs.length = n):=hv0
 clear hv0
 go_enter Tryz.func112, Tryz.ntmps112
 go_wp2
 go_loopw [1, 5] (fun c i wr => ∃ k : Nat, k ≤ n ∧ i = .int .i64 k ∧ c = .int .i64 (k0 + k) ∧ wr.ownsRow base 5 1 (.slice (some ⟨g, 0, none⟩) n cap) n (mixed k0 k vs) ∧ w.grownBy wr (some g)) (fun _ i _ => n - (intOf i).toNat)
 case atStart => exact ⟨0, Nat.zero_le _, rfl, by go_num, by rw [mixed_zero]; exact h, grown_refl _ _⟩
 case round =>
  obtain ⟨k, hk, rfl, rfl, ho, hg⟩:=hrel
  by_cases hlt : k < n
  ·have hkv : k < vs.length:=by rw [Hv.out]; exact hlt
   obtain ⟨u, hu⟩ : ∃ u, wr.cell? ⟨g, k, none⟩ = some u:=⟨_, (ho.cellAt k (by omega)).trans (mixed_get k0 k vs hkv)⟩
   have hfr:=ho.frozenAt k
   have hs:=ho.stored k (.int .u8 (((k0 : Int) + (k : Int)) % 256))
   have HS : Hid ((wr.setCell ⟨g, k, none⟩ (.int .u8 (((k0 : Int) + (k : Int)) % 256))).ownsRow base 5 1 (.slice (some ⟨g, 0, none⟩) n cap) n (mixed k0 (k + 1) vs)):=by
    rw [← mixed_set k0 k vs hkv]; exact hs.1
   have HG : Hid (w.grownBy (wr.setCell ⟨g, k, none⟩ (.int .u8 (((k0 : Int) + (k : Int)) % 256))) (some g)):=grown_trans hg hs.2
   clear hs ho hg
   go_wp2
   go_roundw
   case rel => exact ⟨k + 1, by omega, by go_num, by go_num, HS.out, HG.out⟩
   case measure => simp [intOf]; omega
  have hkn : k = n:=by omega
  have HO : Hid (wr.ownsRow base 5 1 (.slice (some ⟨g, 0, none⟩) n cap) n ((marks k0 n).map (Value.int .u8))):=by
   have:=mixed_all k0 vs; rw [Hv.out] at this; rw [← this, ← hkn]; rw [← hkn] at ho; exact ho
  clear ho
  subst hkn
  go_wp2
  go_ret
  exact ⟨rfl, HO.out, hg⟩

theorem mark_none (w : World) (k0 : Nat) : Calls Tryz.prog 112 #[.slice none 0 0,.int .i64 k0] w fun e w' => e = .returned (.int .i64 k0) ∧ w' = w := by
 go_enter Tryz.func112, Tryz.ntmps112
 go_wp2
 refine wp_loop_rounds 1 ?_
 rw [rounds_succ]
 go_wp2
 go_ret
 exact ⟨rfl, rfl⟩

theorem mark_any (base k0 : Nat) (v : Value) (xs : List Int) (w : World) (hl : xs.length ≤ 140737488355328) (hk0 : k0 ≤ 100000000) (h : OB w base v xs) :
 Calls Tryz.prog 112 #[v,.int .i64 k0] w fun e w' => e = .returned (.int .i64 (k0 + xs.length)) ∧ OB w' base v (marks k0 xs.length) ∧ w.grownBy w' v.ownBlock := by
 have h':=h
 rcases h.2 with ⟨rfl, h0⟩ | ⟨g, cap, cur, rfl, _⟩
 ·refine (mark_none w k0).mono ?_
  rintro e w' ⟨rfl, rfl⟩
  have hx : xs = []:=List.length_eq_zero_iff.1 h0
  subst hx
  exact ⟨by simp, World.ownsRow_nil _ _ _ _, grown_refl _ _⟩
 refine (mark_row base g xs.length cap k0 _ w hl hk0 h').mono ?_
 rintro e w' ⟨rfl, ho, hg⟩
 refine ⟨rfl, ?_, hg⟩
 unfold OB
 rw [marks_len]
 exact ho
def half (xs : List Int) (k : Nat) : List Value := ((xs.take k) ++ List.replicate (xs.length - k) 0).map (Value.int .u8)
theorem half_zero (xs : List Int) : half xs 0 = List.replicate xs.length (.int .u8 0) := by simp [half]
theorem half_all (xs : List Int) : half xs xs.length = xs.map (Value.int .u8) := by simp [half]
theorem half_len (xs : List Int) (k : Nat) (h : k ≤ xs.length) : (half xs k).length = xs.length := by simp [half]; omega
theorem half_set (xs : List Int) (k : Nat) (h : k < xs.length) : (half xs k).set k (.int .u8 (xs.getD k 0)) = half xs (k + 1) := by
 have e : xs.length - k = (xs.length - (k + 1)) + 1:=by omega
 have hk : (xs.take k).length = k:=by simp; omega
 unfold half
 rw [List.take_succ_eq_append_getElem h, e, List.replicate_succ, List.map_append, List.map_append, List.map_append, List.set_append_right _ _ (by simp; omega), List.length_map, hk, Nat.sub_self]
 simp [List.getElem?_eq_getElem h]

theorem toByte_any (v : Value) (xs : List Int) (w : World) (h : RB w v xs) :
 Calls Tryz.prog 84 #[v] w fun e w' => ∃ u, e = .returned u ∧ OB w' w.heap.size u xs ∧ Below w.heap.size w w' := by
 obtain ⟨i0, hi, hz0, hz1, hz2⟩:=info_parts Tryz.info5
 obtain ⟨hl, ao, ca, rfl, _, ha⟩:=h
 obtain ⟨n, hn⟩ : ∃ n, xs.length = n:=⟨_, rfl⟩
 have Hn : Hid (xs.length = n):=hn
 rw [hn] at hl ⊢
 rw [hn] at ha
 clear hn
 go_enter Tryz.func84, Tryz.ntmps84
 go_wp2_with (first | (at_make; refine wpList_make_full _ rfl _ _ 31 rfl w.heap.size 5 i0 (.int .u8 0) 1 Tryz.underlying31 hi hz0 hz1 .i64 .i64 n n n rfl rfl rfl rfl (by rw [hz2]; omega) (by unfold maxLen; omega) (Nat.le_refl _) ?_; intro w0 ho0 hg0))
 have hstart : w0.ownsRow w.heap.size 5 1 (.slice (some ⟨w.heap.size, 0, none⟩) n n) n (half xs 0):=by
  have e : (madeCells (Value.int IntKind.u8 0).cells (n * 1)).toList = half xs 0:=by
   rw [half_zero, Hn.out, Nat.mul_one]; exact toList_madeCells_one _ _
  rw [← e]; exact ho0
 have HB : Hid (Below w.heap.size w w0):=(Below.refl _ _).grown hg0 (Nat.le_refl _) (by simp)
 clear ho0 hg0
 go_loopw [4] (fun i wr => ∃ k : Nat, k ≤ n ∧ i = .int .i64 k ∧ wr.ownsRow w.heap.size 5 1 (.slice (some ⟨w.heap.size, 0, none⟩) n n) n (half xs k) ∧ Below w.heap.size w wr) (fun i _ => n - (intOf i).toNat)
 case atStart => exact ⟨0, Nat.zero_le _, rfl, hstart, HB.out⟩
 case round =>
  clear hstart
  obtain ⟨k, hk, rfl, ho, hbel⟩:=hrel
  by_cases hlt : k < n
  ·rcases ha with ha | ⟨b, off, rfl, ha⟩
   ·subst ha; have := Hn.out; simp at this; omega
   have hkx : k < xs.length:=by rw [Hn.out]; exact hlt
   have hc0:=ha k hlt
   have hc : wr.cell? ⟨b, off + k, none⟩ = some (.int .u8 (xs.getD k 0)):=(hbel.cell (cell_lt hc0)).trans hc0
   obtain ⟨u, hu⟩ : ∃ u, wr.cell? ⟨w.heap.size, k, none⟩ = some u:=by
    have h1:=ho.cellAt k (by omega)
    have h2 : k < (half xs k).length:=by rw [half_len xs k (by omega)]; exact hkx
    exact ⟨_, h1.trans (List.getElem?_eq_getElem h2)⟩
   have hfr:=ho.frozenAt k
   have HS : Hid ((wr.setCell ⟨w.heap.size, k, none⟩ (.int .u8 (xs.getD k 0))).ownsRow w.heap.size 5 1 (.slice (some ⟨w.heap.size, 0, none⟩) n n) n (half xs (k + 1))):=by
    rw [← half_set xs k hkx]; exact (ho.stored k _).1
   have HG : Hid (Below w.heap.size w (wr.setCell ⟨w.heap.size, k, none⟩ (.int .u8 (xs.getD k 0)))):=hbel.setCell (Nat.le_refl _) _
   clear ha ho hbel hc0
   generalize xs.getD k 0 = d at *
   go_wp2
   go_roundw
   case rel => exact ⟨k + 1, by omega, by go_num, HS.out, HG.out⟩
   case measure => simp [intOf]; omega
  have hkn : k = n:=by omega
  have HO : Hid (OB wr w.heap.size (.slice (some ⟨w.heap.size, 0, none⟩) n n) xs):=by
   have h1:=half_all xs
   rw [Hn.out] at h1
   unfold OB Hid
   rw [Hn.out, ← h1, ← hkn]; rw [← hkn] at ho; exact ho
  clear ha ho
  go_wp2
  go_ret
  exact ⟨_, rfl, HO.out, hbel⟩
structure DCode (w : World) (ao : Option Addr) (xs : List Int) : Prop where
 len : xs.length ≤ 1048576
 code : xs = [] ∨ ∃ b off, ao = some ⟨b, off, none⟩ ∧ ∀ k, k < xs.length → w.cell? ⟨b, off + k, none⟩ = some (.int .u8 (xs.getD k 0))
 fit : ∀ k, k < xs.length → 0 ≤ xs.getD k 0 ∧ xs.getD k 0 ≤ 255
theorem DCode.below {w w' : World} {B : Nat} {ao : Option Addr} {xs : List Int} (h : DCode w ao xs) (hb : Below B w w') (hB : w.heap.size ≤ B := by exact Nat.le_refl _) : DCode w' ao xs := by
 refine ⟨h.len, ?_, h.fit⟩
 rcases h.code with h' | ⟨b, off, ha, hx⟩
 ·exact .inl h'
 exact .inr ⟨b, off, ha, fun k hk => (hb.cell (Nat.lt_of_lt_of_le (cell_lt (hx k hk)) hB)).trans (hx k hk)⟩
def BytesL (ys : List Int) : Prop := ∀ y ∈ ys, 0 ≤ y ∧ y ≤ 255
theorem BytesL.append {a b : List Int} (ha : BytesL a) (hb : BytesL b) : BytesL (a ++ b) := fun y hy => by
 rcases List.mem_append.1 hy with h | h
 ·exact ha y h
 exact hb y h
theorem OB.grown {w w' : World} {base g : Nat} {v : Value} {xs : List Int} (h : OB w base v xs) (hg : w.grownBy w' (some g)) (hlt : g < base) : OB w' base v xs :=
 World.ownsRow.kept h hg (by
  cases hv : v.ownBlock with
  | none => exact .inl rfl
  | some k => exact .inr fun e => by have := (World.ownsRow.lt h k hv).1; simp at e; omega)
theorem OB.kp {w w' : World} {base : Nat} {X : Nat → Prop} {v : Value} {xs : List Int} (h : OB w base v xs) (k : Kp w w' X) (hv : ∀ k, v.ownBlock = some k → ¬ X k) : OB w' base v xs := by
 refine ⟨h.1, ?_⟩
 rcases h.2 with hn | ⟨g, cap, cur, rfl, hb, hgg, rest⟩
 ·exact .inl hn
 refine .inr ⟨g, cap, cur, rfl, hb, ?_, rest⟩
 rw [k.block g (Array.getElem?_eq_some_iff.1 hgg).1 (hv g rfl)]
 exact hgg

theorem OB.mono {w : World} {base base' : Nat} {v : Value} {xs : List Int} (h : OB w base v xs) (hb : base' ≤ base) : OB w base' v xs := by
 refine ⟨h.1, ?_⟩
 rcases h.2 with hn | ⟨g, cap, cur, rfl, hg, rest⟩
 ·exact .inl hn
 exact .inr ⟨g, cap, cur, rfl, Nat.le_trans hb hg, rest⟩

theorem OB.form {w : World} {base : Nat} {v : Value} {xs : List Int} (h : OB w base v xs) : ∃ ao ca, v = .slice ao xs.length ca := by
 rcases h.2 with ⟨rfl, h0⟩ | ⟨g, cap, cur, rfl, _⟩
 ·exact ⟨none, 0, by rw [h0]⟩
 exact ⟨_, _, rfl⟩

theorem bnews_cells {w : World} {g off : Nat} {xs : List Int} (h : ∀ k, k < xs.length → w.cell? ⟨g, off + k, none⟩ = some (.int .u8 (xs.getD k 0))) :
 ∀ j u, (xs.map (Value.int .u8))[j]? = some u → w.cell? ((⟨g, off, none⟩ : Addr).add j) = some u := by
 intro j u hj
 rw [List.getElem?_map] at hj
 obtain ⟨x, hx, rfl⟩:=Option.map_eq_some_iff.1 hj
 have hlt:=(List.getElem?_eq_some_iff.1 hx).1
 have e : ((⟨g, off, none⟩ : Addr).add j) = ⟨g, off + j, none⟩:=by unfold Addr.add; split <;> simp_all
 rw [e, h j hlt]
 simp [List.getD_eq_getElem?_getD, hx]

def PB (w : World) (v : Value) (xs : List Int) : Prop :=
 ∃ ao cap, v = .slice ao xs.length cap ∧ (xs = [] ∨ ∃ ad : Addr, ao = some ad ∧ ∀ j u, (xs.map (Value.int .u8))[j]? = some u → w.cell? (ad.add j) = some u)
theorem PB.below {w w' : World} {v : Value} {xs : List Int} (h : PB w v xs) (hb : Below w.heap.size w w') : PB w' v xs := by
 obtain ⟨ao, cap, rfl, h⟩:=h
 refine ⟨ao, cap, rfl, ?_⟩
 rcases h with h | ⟨ad, rfl, h⟩
 ·exact .inl h
 exact .inr ⟨ad, rfl, fun j u hj => (hb.cell (cell_lt (h j u hj))).trans (h j u hj)⟩
theorem RB.pb {w : World} {v : Value} {xs : List Int} (h : RB w v xs) : PB w v xs := by
 obtain ⟨hl, ao, cap, rfl, _, h⟩:=h
 refine ⟨ao, cap, rfl, ?_⟩
 rcases h with h | ⟨b, off, rfl, h⟩
 ·exact .inl h
 exact .inr ⟨_, rfl, bnews_cells h⟩
theorem OB.pb {w : World} {base : Nat} {v : Value} {xs : List Int} (h : OB w base v xs) (hl : xs.length ≤ 140737488355328) : PB w v xs := (h.rb hl).pb
theorem OB.lt {w : World} {base : Nat} {v : Value} {xs : List Int} (h : OB w base v xs) : ∀ j, v.ownBlock = some j → base ≤ j ∧ j < w.heap.size := World.ownsRow.lt h
end
end Go.Proofs.YtmpffkpilbbclaaGreatDoor
