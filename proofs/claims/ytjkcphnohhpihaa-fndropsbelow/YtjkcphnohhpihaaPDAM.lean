/- Lemmas; their conditions stand in each statement. -/
import Derived.Test.YtjkcphnohhpihaaPDAL
set_option maxRecDepth 100000
set_option maxHeartbeats 8000000
set_option linter.unusedSectionVars false
namespace Go.Proofs.Ytjkcphnohhpihaa
section
open Go.RowKit
theorem opt_more2 {w w' : World} {base : Nat} {v v' : Value} {ps : List Pt} {vs : List Value} {n : Int} {s : ByteArray} {u : Value} {xs : List Int} (h : OPtV w base v ps vs) (hu : OI w base u xs) (hap : ∀ k, k < ps.length → ∀ b, (vs.getD k (.slice none 0 0)).ownBlock = some b → u.ownBlock ≠ some b)
 (hr : w'.ownsRow base 36 3 v' (ps.length + 1) (pcells ((ps.map phd).zip vs) ++ pcell ((n, s), u))) (hg : w.grownBy w' v.ownBlock) : OPtV w' base v' (ps ++ [(n, s, xs)]) (vs ++ [u]) := by
 have keep : ∀ (x : Value) (zs : List Int) (B : Nat), OI w B x zs → OI w' B x zs:=fun x zs B hx => World.ownsRow.kept hx hg (by
  cases hxo : x.ownBlock with
  | none => exact .inl rfl
  | some b => exact .inr fun e => pt_oi h.row hx b e.symm hxo)
 refine ⟨by simp [h.len], ?_, fun k hk => ?_, fun i j hij hj b hb => ?_⟩
 ·have e : ((ps ++ [(n, s, xs)]).map phd).zip (vs ++ [u]) = (ps.map phd).zip vs ++ [((n, s), u)]:=by
   rw [List.map_append, List.zip_append (by simp [h.len])]; rfl
  rw [e, pcells_append, List.length_append]
  simpa [pcells] using hr
 ·rw [List.length_append, List.length_singleton] at hk
  by_cases e : k < ps.length
  ·rw [List.getD_eq_getElem?_getD, List.getElem?_append_left (by rw [h.len]; exact e), ← List.getD_eq_getElem?_getD, List.getD_eq_getElem?_getD (l := ps ++ _), List.getElem?_append_left e, ← List.getD_eq_getElem?_getD]
   exact keep _ _ _ (h.each k e)
  obtain rfl : k = ps.length:=by omega
  have e1 : (vs ++ [u]).getD ps.length (.slice none 0 0) = u:=by rw [← h.len]; simp
  have e2 : (ps ++ [(n, s, xs)]).getD ps.length zpt = (n, s, xs):=by simp
  rw [e1, e2]
  exact keep _ _ _ hu
 rw [List.length_append, List.length_singleton] at hj
 have hi : i < ps.length:=by omega
 rw [List.getD_eq_getElem?_getD, List.getElem?_append_left (by rw [h.len]; exact hi), ← List.getD_eq_getElem?_getD] at hb
 by_cases e : j < ps.length
 ·rw [List.getD_eq_getElem?_getD, List.getElem?_append_left (by rw [h.len]; exact e), ← List.getD_eq_getElem?_getD]
  exact h.apart i j hij e b hb
 obtain rfl : j = ps.length:=by omega
 have e1 : (vs ++ [u]).getD ps.length (.slice none 0 0) = u:=by rw [← h.len]; simp
 rw [e1]
 exact hap i hi b hb
theorem append_part2 {ops : Array Oper} {rest : List Oper} {o : Oper} {a : Act} {Q : Exit → Act → World → Prop} {w : World} (hgd : o.guard = none) (s x : Operand)
 (ho : o.op = .call { callee := .builtin .append, args := #[s, x], argTypes := #[24, 24] }) (base : Nat) (v : Value) (ps : List Pt) (vs : List Value) (g cp : Nat) (m : Int) (nm : ByteArray) (u : Value) (xs : List Int) (hs : a.eval s = v) (hx : a.eval x = .slice (some ⟨g, 0, none⟩) 1 cp)
 (htab : OPtV w base v ps vs) (c0 : w.cell? ⟨g, 0, none⟩ = some (.int .i64 m)) (c1 : w.cell? ⟨g, 1, none⟩ = some (.string nm)) (c2 : w.cell? ⟨g, 2, none⟩ = some u) (hu : OI w base u xs)
 (hap : ∀ k, k < ps.length → ∀ b, (vs.getD k (.slice none 0 0)).ownBlock = some b → u.ownBlock ≠ some b) (hl : ps.length ≤ 4194304) (hbase : base ≤ w.heap.size)
 (h : ∀ v' w', OPtV w' base v' (ps ++ [(m, nm, xs)]) (vs ++ [u]) → w.grownBy w' v.ownBlock → (v'.ownBlock = v.ownBlock ∨ v'.ownBlock = some w.heap.size) → wpList Try.prog ops Q rest (a.put o.dst v') w') :
 wpList Try.prog ops Q (o :: rest) a w := by
 obtain ⟨i0, hi, hz0, hz1, hz2⟩:=info_parts Try.infoPt
 have hn : ∀ j y, (pcell ((m, nm), u))[j]? = some y → w.cell? ((⟨g, 0, none⟩ : Addr).add j) = some y:=by
  intro j y hj
  match j, hj with
  | 0, hj => simp [pcell] at hj; subst hj; simpa [Addr.add] using c0
  | 1, hj => simp [pcell] at hj; subst hj; simpa [Addr.add] using c1
  | 2, hj => simp [pcell] at hj; subst hj; simpa [Addr.add] using c2
  | j + 3, hj => simp [pcell] at hj
 have hp : ∀ y ∈ pcell ((m, nm), u), y.oneCell' = true:=by
  intro y hy
  simp [pcell] at hy
  rcases hy with rfl | rfl | rfl
  ·rfl
  ·rfl
  exact hu.one
 refine wpList_append_own_at _ hgd s x 24 ho base 36 i0 (qv 0 ⟨#[]⟩ (.slice none 0 0)) 3 48 Try.underlying24 hi hz0 hz1 hz2 rfl (by decide) v ps.length (pcells ((ps.map phd).zip vs)) hs htab.row ⟨g, 0, none⟩ 1 cp (pcell ((m, nm), u)) hx (by simp [pcell]) hn hp (by unfold maxLen; omega) (by omega) hbase ?_
 intro v' w' ho' hg' _ hb'
 exact h v' w' (opt_more2 htab hu hap ho' hg') hg' hb'
end
section
open Go.RowKit
variable [∀ (a b c d : Int), Decidable (Ok4 a b c d)]
variable [∀ (n f : Int), Decidable (COk n f)]
variable [∀ (n : Int) (s : List Int), Decidable (OkL n s)]
variable [∀ (a b c d : Nat), Decidable (okN a b c d)]
variable [∀ (last : Int) (s : St), Decidable (GoodSt last s)]
variable [∀ (x : T4), Decidable (OkT x)]
theorem drop_at {ps : List Pt} {k : Nat} (hk : k < ps.length) : ps.drop k = ps.getD k zpt :: ps.drop (k + 1) := by
 rw [List.drop_eq_getElem_cons hk]; simp [List.getElem?_eq_getElem hk]
theorem join_size (a b : List Int) : (joinL a b).length ≤ a.length + b.length := by
 have:=fold_len (a ++ b) []
 rw [List.length_append, List.length_nil] at this
 unfold joinL
 omega
theorem addP_mem {ps : List Pt} {p q : Pt} (h : q ∈ addP ps p) : q ∈ ps ∨ q = p ∨ ∃ x ∈ ps, q = joinP x p := by
 induction ps with
 | nil => simp [addP] at h; exact .inr (.inl h)
 | cons x ps ih =>
  unfold addP at h
  split at h
  ·rcases List.mem_cons.1 h with rfl | h
   ·exact .inl (by simp)
   rcases ih h with h | h | ⟨y, hy, h⟩
   ·exact .inl (by simp [h])
   ·exact .inr (.inl h)
   exact .inr (.inr ⟨y, by simp [hy], h⟩)
  split at h
  ·rcases List.mem_cons.1 h with rfl | h
   ·exact .inr (.inr ⟨x, by simp, rfl⟩)
   exact .inl (by simp [h])
  rcases List.mem_cons.1 h with rfl | h
  ·exact .inr (.inl rfl)
  exact .inl h
theorem addP_small {ps : List Pt} {m : Int} {s : ByteArray} {xs : List Int} (hw : ∀ q ∈ ps, q.2.1.size ≤ 1048576 ∧ q.2.2.length ≤ 1048576) (hs : s.size ≤ 1048576) (hx : xs.length ≤ 1048576) (qs : List Pt) (hq : ∀ q ∈ qs, q ∈ ps) : ∀ q ∈ addP qs (m, s, xs), q.2.1.size ≤ 1048576 ∧ q.2.2.length ≤ 4194304 := by
 intro q h
 rcases addP_mem h with h | rfl | ⟨x, hx', rfl⟩
 ·have:=hw q (hq q h); omega
 ·exact ⟨hs, by show xs.length ≤ _; omega⟩
 have h1:=hw x (hq x hx')
 have h2:=join_size x.2.2 xs
 exact ⟨h1.1, by show (joinL x.2.2 xs).length ≤ _; omega⟩
theorem snoc_apart {ds : List Pt} {vs : List Value} {x : Pt} {u v : Value} (hl : vs.length = ds.length) (h1 : ∀ j, j < ds.length → ∀ b, (vs.getD j (.slice none 0 0)).ownBlock = some b → v.ownBlock ≠ some b) (h2 : ∀ b, u.ownBlock = some b → v.ownBlock ≠ some b) : ∀ j, j < (ds ++ [x]).length → ∀ b, ((vs ++ [u]).getD j (.slice none 0 0)).ownBlock = some b → v.ownBlock ≠ some b := by
 intro j hj b hb
 rw [List.length_append, List.length_singleton] at hj
 by_cases e : j < ds.length
 ·rw [List.getD_eq_getElem?_getD, List.getElem?_append_left (by omega), ← List.getD_eq_getElem?_getD] at hb
  exact h1 j e b hb
 obtain rfl : j = ds.length:=by omega
 have e1 : (vs ++ [u]).getD ds.length (.slice none 0 0) = u:=by rw [← hl]; simp
 rw [e1] at hb
 exact h2 b hb

theorem specTableAdd (n f : Int) (v : Value) (ps : List Pt) (m : Int) (s : ByteArray) (pu : Value) (xs : List Int) (w : World) (hl : ps.length ≤ 1048576) (hs : s.size ≤ 1048576) (hx : xs.length ≤ 1048576) (hw : ∀ q ∈ ps, q.2.1.size ≤ 1048576 ∧ q.2.2.length ≤ 1048576) (h : RPt w v ps) (hp : RI w pu xs) :
 Calls Try.prog 36 #[cv n f, v, qv m s pu] w fun e w' => ∃ t, e = .returned (.tuple #[t,.bool (tokB n f (addP ps (m, s, xs)) && pokB n f m s xs)]) ∧ OPt w' w.heap.size t (if (tokB n f (addP ps (m, s, xs)) && pokB n f m s xs) then addP ps (m, s, xs) else ps) ∧ Below w.heap.size w w' := by
 obtain ⟨ao, ca, rfl⟩:=h.form
 obtain ⟨pa, pc, rfl⟩:=hp.form
 obtain ⟨len, hn⟩ : ∃ len, ps.length = len:=⟨_, rfl⟩
 have Hn:=hide hn
 have HW:=hide hw
 obtain ⟨w0, hw0⟩ : ∃ y, (w.alloc (.cells #[.int .i64 n,.int .i64 f] 55)).alloc (.cells #[.int .i64 m,.string s,.slice pa xs.length pc] 36) = y:=⟨_, rfl⟩
 have B0x : Below w.heap.size w w0:=hw0 ▸ qalloc2 _ _ _
 have LC : Loc w0 w.heap.size #[.int .i64 n,.int .i64 f]:=hw0 ▸ (loc_at w _ _ rfl).alloc _
 have LP : Loc w0 (w.heap.size + 1) #[.int .i64 m,.string s,.slice pa xs.length pc]:=hw0 ▸ loc_at (w.alloc _) _ _ (by simp)
 have s0 : w0.heap.size = w.heap.size + 2:=by rw [← hw0]; simp
 have H:=hide (h.below B0x)
 have HP:=hide hp
 obtain ⟨pp, hpp⟩ : ∃ pp : Pt, (m, s, xs) = pp:=⟨_, rfl⟩
 have HPP : Hid (pp = (m, s, xs)):=hide hpp.symm
 obtain ⟨w1, hw1⟩ : ∃ y, w0.alloc (.cells #[] 36) = y:=⟨_, rfl⟩
 have b1 : Below w0.heap.size w0 w1:=hw1 ▸ qalloc _ _
 have T1 : OPtV w1 w0.heap.size (.slice (some ⟨w.heap.size + 2, 0, none⟩) 0 0) [] []:=by
  have h1 : OPtV w1 w0.heap.size (.slice (some ⟨w0.heap.size, 0, none⟩) 0 0) [] []:=hw1 ▸ opt_empty w0
  rwa [s0] at h1 ⊢
 have hx0:=hx
 obtain ⟨pl, hpl⟩ : ∃ l, xs.length = l:=⟨_, rfl⟩
 have HPL:=hide hpl
 rw [hpl] at hw0 LP HP hx ⊢
 rw [hn] at hl H ⊢
 rw [hpp]
 obtain ⟨rb, hrb⟩ : ∃ b, (tokB n f (addP ps pp) && pokB n f m s xs) = b:=⟨_, rfl⟩
 rw [hrb]
 obtain ⟨rl, hrl⟩ : ∃ l, (if rb = true then addP ps pp else ps) = l:=⟨_, rfl⟩
 rw [hrl]
 have HRB:=hide hrb
 have HRL:=hide hrl
 clear h hn hw hp hpp hpl hrb hrl
 go_enter Try.func36, Try.ntmps36
 go_wp2
 clear hw0 hw1
 go_loopw [8, 9, 10] (fun t b i wr => ∃ (k : Nat) (pt : Bool) (ds : List Pt) (vs : List Value) (ta : Option Addr) (tc : Nat), k ≤ len ∧ i = .int .i64 k ∧ b = .bool pt ∧ t = .slice ta ds.length tc ∧ ds.length ≤ k + (if pt then 1 else 0) ∧ Hid (addP ps pp = ds ++ (if pt then ps.drop k else addP (ps.drop k) pp)) ∧ OPtV wr w0.heap.size (.slice ta ds.length tc) ds vs ∧ Below w0.heap.size w0 wr) (fun _ _ i _ => len - (intOf i).toNat)
 case atStart => exact ⟨0, false, [], _, _, _, Nat.zero_le _, rfl, rfl, rfl, by simp, hide (by simp), T1, b1⟩
 case round =>
  clear T1 b1
  obtain ⟨k, pt, ds, vs, ta, tc, hk, rfl, rfl, rfl, hdl, HS, T, Br⟩:=hrel
  replace LC:=LC.up Br
  replace LP:=LP.up Br
  by_cases hlt : k < len
  ·have hkx : k < ps.length:=by have:=Hn.out; omega
   have HDR:=hide (drop_at hkx)
   obtain ⟨g, off, u, hao, c0, c1, c2, ru⟩:=(RPt.below H.out Br (Nat.le_refl _)).at k hkx
   subst hao
   have hszk:=HW.out _ (pt_mem hkx)
   obtain ⟨x, hx⟩ : ∃ x, ps.getD k zpt = x:=⟨_, rfl⟩
   rw [hx] at c0 c1 ru HDR hszk
   clear hx
   obtain ⟨xm, xn, xw⟩:=x
   simp only at c0 c1 ru hszk
   have CP:=hide fun w h => l10Copy_any xm xn u xw w h
   have RU:=hide ru
   obtain ⟨ua, uc, rfl⟩:=ru.form
   have HNW : Hid (∀ j, j < ds.length → ∀ b, (vs.getD j (.slice none 0 0)).ownBlock = some b → b < wr.heap.size):=hide fun j hj b hb => (World.ownsRow.lt (T.each j hj) b hb).2
   have HRW : Hid (∀ b, (Value.slice ta ds.length tc).ownBlock = some b → b < wr.heap.size):=hide fun b hb => (World.ownsRow.lt T.row b hb).2
   clear ru
   have swr:=Br.size
   have hxl : xw.length ≤ 4194304:=by omega
   have HT:=hide T
   clear T
   go_wp2_with fail
   have T:=HT.out
   clear HT c0 c1 c2
   refine (CP.out _ RU.out).mono ?_
   rintro _ w2 ⟨u2, rfl, o2, bb⟩
   replace Br:=bu Br bb
   replace LC:=LC.up bb
   replace LP:=LP.up bb
   replace T:=T.below bb
   have sw2:=bb.size
   have t2:=World.ownsRow.lt o2
   replace o2:=OI.mono o2 swr
   obtain ⟨ua2, uc2, rfl⟩:=o2.form
   clear bb CP RU
   generalize hxlen : xw.length = xl at o2 t2 ⊢
   obtain ⟨w3, hw3⟩ : ∃ y, w2.alloc (.cells #[.int .i64 xm,.string xn,.slice ua2 xl uc2] 36) = y:=⟨_, rfl⟩
   have bb : Below w2.heap.size w2 w3:=hw3 ▸ qalloc _ _
   have X : Loc w3 w2.heap.size #[.int .i64 xm,.string xn,.slice ua2 xl uc2]:=hw3 ▸ loc_at w2 _ _ rfl
   have sw3:=bb.size
   replace Br:=bu Br bb
   replace LC:=LC.up bb
   replace LP:=LP.up bb
   replace T:=T.below bb
   replace o2:=o2.below bb
   clear bb
   have HVL:=hide T.len
   cases pt
   ·simp only [Bool.false_eq_true, if_false, Nat.add_zero] at hdl
    have BE:=hide fun w => l10Before_any xm m xn s (.slice ua2 xl uc2) (.slice pa pl pc) xw xs w
    have JN:=hide fun w h h' => specPartJoin xm m xn s (.slice ua2 xl uc2) (.slice pa pl pc) xw xs w (by omega) h h'
    have HST : Hid (addP ps pp = ds ++ addP ((xm, xn, xw) :: ps.drop (k + 1)) pp):=hide (by rw [HS.out, HDR.out]; simp)
    clear HS HDR
    obtain ⟨be, hbe⟩ : ∃ b, befP (xm, xn, xw) (m, s, xs) = b:=⟨_, rfl⟩
    rw [hbe] at BE
    obtain ⟨cX0,cX1,cX2⟩:=cc3 X 0 1 2
    obtain ⟨cLP0,cLP1,cLP2⟩:=cc3 LP 0 1 2
    have HT:=hide T
    clear T
    have Ho2:=hide o2
    clear o2
    go_wp2_with fail
    have T:=HT.out
    clear HT
    have o2:=Ho2.out
    clear Ho2 cX0 cX1 cX2 cLP0 cLP1 cLP2
    refine (BE.out _).mono ?_
    rintro _ w4 ⟨rfl, bb⟩
    replace Br:=bu Br bb
    replace LC:=LC.up bb
    replace LP:=LP.up bb
    replace X:=X.up bb
    replace T:=T.below bb
    replace o2:=o2.below bb
    have sw4:=bb.size
    clear bb BE
    cases be
    ·obtain ⟨sm, hsm⟩ : ∃ b, samP (xm, xn, xw) (m, s, xs) = b:=⟨_, rfl⟩
     rw [hsm] at JN
     have RX : RI w4 (.slice ua2 xl uc2) xw:=o2.ri hxl
     have RP:=HP.out.below (bu B0x Br)
     cases sm
     ·simp only [Bool.false_eq_true, if_false] at JN
      have HF : Hid (addP ps pp = ((ds ++ [(m, s, xs)]) ++ [(xm, xn, xw)]) ++ (if true then ps.drop (k + 1) else addP (ps.drop (k + 1)) pp)):=hide (by rw [HST.out, HPP.out, addP, hbe, hsm]; simp)
      clear HST hbe hsm
      obtain ⟨cX0,cX1,cX2⟩:=cc3 X 0 1 2
      obtain ⟨cLP0,cLP1,cLP2⟩:=cc3 LP 0 1 2
      have HT:=hide T
      clear T
      have Ho2:=hide o2
      clear o2
      go_wp2_with fail
      have T:=HT.out
      clear HT
      have o2:=Ho2.out
      clear Ho2 cX0 cX1 cX2 cLP0 cLP1 cLP2
      refine (JN.out _ RX RP).mono ?_
      rintro _ w6 ⟨r, rfl, o3, bb⟩
      replace Br:=bu Br bb
      replace LC:=LC.up bb
      replace LP:=LP.up bb
      replace X:=X.up bb
      replace T:=T.below bb
      replace o2:=o2.below bb
      have sw6:=bb.size
      clear bb JN RX RP
      obtain ⟨ra, rc, hr0⟩:=o3.form
      simp only [List.length_nil] at hr0
      subst hr0
      clear o3
      obtain ⟨w7, hw7⟩ : ∃ y, w6.alloc (.cells #[.int .i64 0,.string ⟨#[]⟩,.slice ra 0 rc] 36) = y:=⟨_, rfl⟩
      have bb : Below w6.heap.size w6 w7:=hw7 ▸ qalloc _ _
      have Y : Loc w7 w6.heap.size #[.int .i64 0,.string ⟨#[]⟩,.slice ra 0 rc]:=hw7 ▸ loc_at w6 _ _ rfl
      have sw7:=bb.size
      replace Br:=bu Br bb
      replace LC:=LC.up bb
      replace LP:=LP.up bb
      replace X:=X.up bb
      replace T:=T.below bb
      replace o2:=o2.below bb
      clear bb
      have RP:=HP.out.below (bu B0x Br)
      have CP:=hide fun w h => l10Copy_any m s (.slice pa pl pc) xs w h
      have HNX : Hid (∀ j, j < ds.length → ∀ b, (vs.getD j (.slice none 0 0)).ownBlock = some b → b < w7.heap.size):=hide fun j hj b hb => (World.ownsRow.lt (T.each j hj) b hb).2
      obtain ⟨cLP0,cLP1,cLP2⟩:=cc3 LP 0 1 2
      have HT:=hide T
      clear T
      have Ho2:=hide o2
      clear o2
      go_wp2_with fail
      have T:=HT.out
      clear HT
      have o2:=Ho2.out
      clear Ho2 cLP0 cLP1 cLP2
      refine (CP.out _ RP).mono ?_
      rintro _ w8 ⟨u5, rfl, o5, bb⟩
      replace Br:=bu Br bb
      replace LC:=LC.up bb
      replace LP:=LP.up bb
      replace X:=X.up bb
      replace Y:=Y.up bb
      replace T:=T.below bb
      replace o2:=o2.below bb
      have sw8:=bb.size
      clear bb
      have t5:=World.ownsRow.lt o5
      replace o5:=OI.mono o5 (show w0.heap.size ≤ w7.heap.size by omega)
      obtain ⟨ua5, uc5, rfl⟩:=o5.form
      clear CP RP
      rw [HPL.out] at o5 t5 ⊢
      have HAP : Hid (∀ j, j < (ds).length → ∀ b, ((vs).getD j (.slice none 0 0)).ownBlock = some b → (Value.slice ua5 pl uc5).ownBlock ≠ some b):=hide (fun j hj b hb e => by have h1:=HNX.out j hj b hb; have h2:=t5 b e; omega)
      obtain ⟨w9x, hw9x⟩ : ∃ y, w8.alloc (.cells #[.int .i64 m,.string s,.slice ua5 pl uc5] 36) = y:=⟨_, rfl⟩
      have bb : Below w8.heap.size w8 w9x:=hw9x ▸ qalloc _ _
      have LN : Loc w9x w8.heap.size #[.int .i64 m,.string s,.slice ua5 pl uc5]:=hw9x ▸ loc_at w8 _ _ rfl
      have sw9x:=bb.size
      replace Br:=bu Br bb
      replace LC:=LC.up bb
      replace LP:=LP.up bb
      replace X:=X.up bb
      replace Y:=Y.up bb
      replace T:=T.below bb
      replace o2:=o2.below bb
      replace o5:=o5.below bb
      clear bb
      have d0:=LN.cell 0 rfl
      have d1:=LN.cell 1 rfl
      have d2:=LN.cell 2 rfl
      have HT:=hide T
      clear T
      have Ho2:=hide o2
      clear o2
      have Ho5:=hide o5
      clear o5
      go_wp2_with (first
       | (at_builtin; clear hw9x; refine append_part2 rfl _ _ rfl w0.heap.size (.slice ta (ds).length tc) (ds) (vs) w8.heap.size 1 m s _ xs rfl rfl HT.out d0 d1 d2 Ho5.out HAP.out (by first | omega | (simp; omega)) (by omega) ?_; intro v4 w9 ho4 hg4 _
          have T:=ho4
          have kk:=kp_grown hg4
          have rl:=World.ownsRow.lt HT.out.row
          replace Br:=Br.grown hg4 Br.size (fun j e => (rl j e).1)
          replace LC:=LC.kp kk (fun e => by have:=(rl _ e).1; omega)
          replace LP:=LP.kp kk (fun e => by have:=(rl _ e).1; omega)
          replace X:=X.kp kk (fun e => by have:=HRW.out _ e; omega)
          obtain ⟨cX0,cX1,cX2⟩:=cc3 X 0 1 2
          clear Y
          have Ko2:=Ho2.out
          have Ho2:=hide (Ko2.kp kk (fun j hj e => pt_oi HT.out.row Ko2 j e hj))
          clear Ko2
          obtain ⟨a4p, c4p, hv4⟩:=OPt.form ⟨_, ho4⟩
          simp only [List.length_append, List.length_singleton] at hv4
          subst hv4
          have HT:=hide T
          have sw9:=hg4.size
          clear ho4 hg4 kk rl T HAP d0 d1 d2 LN)
       | (at_builtin; obtain ⟨w10x, hw10x⟩ : ∃ y, w9.alloc (.cells #[.int .i64 xm,.string xn,.slice ua2 xl uc2] 36) = y := ⟨_, rfl⟩
          have bb : Below w9.heap.size w9 w10x:=hw10x ▸ qalloc _ _
          have LN : Loc w10x w9.heap.size #[.int .i64 xm,.string xn,.slice ua2 xl uc2]:=hw10x ▸ loc_at w9 _ _ rfl
          rw [hw10x]
          clear hw10x
          have sw10x:=bb.size
          replace Br:=bu Br bb
          replace LC:=LC.up bb
          replace LP:=LP.up bb
          have T2:=HT.out.below bb
          have q2:=Ho2.out.below bb
          clear HT Ho2 bb X cX0 cX1 cX2
          have d0:=LN.cell 0 rfl
          have d1:=LN.cell 1 rfl
          have d2:=LN.cell 2 rfl
          refine append_part2 rfl _ _ rfl w0.heap.size (.slice a4p (ds.length + 1) c4p) (ds ++ [(m, s, xs)]) (vs ++ [Value.slice ua5 pl uc5]) w9.heap.size 1 xm xn _ xw rfl rfl T2 d0 d1 d2 q2 (snoc_apart HVL.out (fun j hj b hb e => by have h1 := HNW.out j hj b hb; have h2 := t2 b e; omega) (fun b hb e => by have h1 := t5 b hb; have h2 := t2 b e; omega)) (by first | omega | (simp; omega)) (by omega) ?_; intro v4 w10 ho4 hg4 _
          have kk:=kp_grown hg4
          have rl:=World.ownsRow.lt T2.row
          replace Br:=Br.grown hg4 Br.size (fun j e => (rl j e).1)
          replace LC:=LC.kp kk (fun e => by have:=(rl _ e).1; omega)
          replace LP:=LP.kp kk (fun e => by have:=(rl _ e).1; omega)
          obtain ⟨a4, c4, hv4⟩:=OPt.form ⟨_, ho4⟩
          simp only [List.length_append, List.length_singleton] at hv4
          subst hv4
          have HT:=hide ho4
          have sw10:=hg4.size
          clear ho4 hg4 kk rl T2 q2 d0 d1 d2 LN))
      have T:=HT.out
      clear HT
      have TT:=hide T
      clear T
      go_wp2
      go_roundw
      case rel => exact ⟨k + 1, true, (ds ++ [(m, s, xs)]) ++ [(xm, xn, xw)], _, a4, c4, by omega, by go_num, rfl, by simp, by simp; omega, HF, by simp only [List.length_append, List.length_singleton]; exact TT.out, Br⟩
      case measure => simp [intOf]; omega
     simp only [if_true] at JN
     have HF : Hid (addP ps pp = (ds ++ [(xm, xn, joinL xw xs)]) ++ (if true then ps.drop (k + 1) else addP (ps.drop (k + 1)) pp)):=hide (by rw [HST.out, HPP.out, addP, hbe, hsm]; simp [joinP])
     clear HST hbe hsm
     have hjl : (joinL xw xs).length ≤ 4194304:=by have:=join_size xw xs; omega
     generalize joinL xw xs = jw at *
     have HNX : Hid (∀ j, j < ds.length → ∀ b, (vs.getD j (.slice none 0 0)).ownBlock = some b → b < w4.heap.size):=hide fun j hj b hb => (World.ownsRow.lt (T.each j hj) b hb).2
     obtain ⟨cX0,cX1,cX2⟩:=cc3 X 0 1 2
     obtain ⟨cLP0,cLP1,cLP2⟩:=cc3 LP 0 1 2
     have HT:=hide T
     clear T
     have Ho2:=hide o2
     clear o2
     go_wp2_with fail
     have T:=HT.out
     clear HT
     have o2:=Ho2.out
     clear Ho2 cX0 cX1 cX2 cLP0 cLP1 cLP2
     refine (JN.out _ RX RP).mono ?_
     rintro _ w6 ⟨r, rfl, o3, bb⟩
     replace Br:=bu Br bb
     replace LC:=LC.up bb
     replace LP:=LP.up bb
     replace X:=X.up bb
     replace T:=T.below bb
     replace o2:=o2.below bb
     have sw6:=bb.size
     clear bb
     have t3:=World.ownsRow.lt o3
     replace o3:=OI.mono o3 (show w0.heap.size ≤ w4.heap.size by omega)
     obtain ⟨ra, rc, rfl⟩:=o3.form
     generalize jw.length = jl at *
     clear JN RX RP
     obtain ⟨w7, hw7⟩ : ∃ y, w6.alloc (.cells #[.int .i64 xm,.string xn,.slice ra jl rc] 36) = y:=⟨_, rfl⟩
     have bb : Below w6.heap.size w6 w7:=hw7 ▸ qalloc _ _
     have Y : Loc w7 w6.heap.size #[.int .i64 xm,.string xn,.slice ra jl rc]:=hw7 ▸ loc_at w6 _ _ rfl
     have sw7:=bb.size
     replace Br:=bu Br bb
     replace LC:=LC.up bb
     replace LP:=LP.up bb
     replace X:=X.up bb
     replace T:=T.below bb
     replace o3:=o3.below bb
     clear bb
     have HAP : Hid (∀ j, j < (ds).length → ∀ b, ((vs).getD j (.slice none 0 0)).ownBlock = some b → (Value.slice ra jl rc).ownBlock ≠ some b):=hide (fun j hj b hb e => by have h1:=HNX.out j hj b hb; have h2:=t3 b e; omega)
     obtain ⟨cY0,cY1,cY2⟩:=cc3 Y 0 1 2
     obtain ⟨w8x, hw8x⟩ : ∃ y, w7.alloc (.cells #[.int .i64 xm,.string xn,.slice ra jl rc] 36) = y:=⟨_, rfl⟩
     have bb : Below w7.heap.size w7 w8x:=hw8x ▸ qalloc _ _
     have LN : Loc w8x w7.heap.size #[.int .i64 xm,.string xn,.slice ra jl rc]:=hw8x ▸ loc_at w7 _ _ rfl
     have sw8x:=bb.size
     replace Br:=bu Br bb
     replace LC:=LC.up bb
     replace LP:=LP.up bb
     replace X:=X.up bb
     replace Y:=Y.up bb
     replace T:=T.below bb
     replace o3:=o3.below bb
     clear bb
     have d0:=LN.cell 0 rfl
     have d1:=LN.cell 1 rfl
     have d2:=LN.cell 2 rfl
     have HT:=hide T
     clear T
     have Ho3:=hide o3
     clear o3
     go_wp2_with (first
      | (at_builtin; clear hw8x; refine append_part2 rfl _ _ rfl w0.heap.size (.slice ta (ds).length tc) (ds) (vs) w7.heap.size 1 xm xn _ jw rfl rfl HT.out d0 d1 d2 Ho3.out HAP.out (by first | omega | (simp; omega)) (by omega) ?_; intro v4 w8 ho4 hg4 _
         have T:=ho4
         have kk:=kp_grown hg4
         have rl:=World.ownsRow.lt HT.out.row
         replace Br:=Br.grown hg4 Br.size (fun j e => (rl j e).1)
         replace LC:=LC.kp kk (fun e => by have:=(rl _ e).1; omega)
         replace LP:=LP.kp kk (fun e => by have:=(rl _ e).1; omega)
         clear X Y
         obtain ⟨a4, c4, hv4⟩:=OPt.form ⟨_, ho4⟩
         simp only [List.length_append, List.length_singleton] at hv4
         subst hv4
         have HT:=hide T
         have sw8:=hg4.size
         clear ho4 hg4 kk rl T HAP d0 d1 d2 LN))
     have T:=HT.out
     clear HT cY0 cY1 cY2
     have TT:=hide T
     clear T
     go_wp2
     go_roundw
     case rel => exact ⟨k + 1, true, ds ++ [(xm, xn, jw)], _, a4, c4, by omega, by go_num, rfl, by simp, by simp; omega, HF, by simp only [List.length_append, List.length_singleton]; exact TT.out, Br⟩
     case measure => simp [intOf]; omega
    have HF : Hid (addP ps pp = (ds ++ [(xm, xn, xw)]) ++ (if false then ps.drop (k + 1) else addP (ps.drop (k + 1)) pp)):=hide (by rw [HST.out, HPP.out, addP, hbe]; simp)
    clear HST hbe JN
    have HAP : Hid (∀ j, j < (ds).length → ∀ b, ((vs).getD j (.slice none 0 0)).ownBlock = some b → (Value.slice ua2 xl uc2).ownBlock ≠ some b):=hide (fun j hj b hb e => by have h1:=HNW.out j hj b hb; have h2:=t2 b e; omega)
    obtain ⟨cX0,cX1,cX2⟩:=cc3 X 0 1 2
    obtain ⟨w5x, hw5x⟩ : ∃ y, w4.alloc (.cells #[.int .i64 xm,.string xn,.slice ua2 xl uc2] 36) = y:=⟨_, rfl⟩
    have bb : Below w4.heap.size w4 w5x:=hw5x ▸ qalloc _ _
    have LN : Loc w5x w4.heap.size #[.int .i64 xm,.string xn,.slice ua2 xl uc2]:=hw5x ▸ loc_at w4 _ _ rfl
    have sw5x:=bb.size
    replace Br:=bu Br bb
    replace LC:=LC.up bb
    replace LP:=LP.up bb
    replace X:=X.up bb
    replace T:=T.below bb
    replace o2:=o2.below bb
    clear bb
    have d0:=LN.cell 0 rfl
    have d1:=LN.cell 1 rfl
    have d2:=LN.cell 2 rfl
    have HT:=hide T
    clear T
    have Ho2:=hide o2
    clear o2
    go_wp2_with (first
     | (at_builtin; clear hw5x; refine append_part2 rfl _ _ rfl w0.heap.size (.slice ta (ds).length tc) (ds) (vs) w4.heap.size 1 xm xn _ xw rfl rfl HT.out d0 d1 d2 Ho2.out HAP.out (by first | omega | (simp; omega)) (by omega) ?_; intro v4 w5 ho4 hg4 _
        have T:=ho4
        have kk:=kp_grown hg4
        have rl:=World.ownsRow.lt HT.out.row
        replace Br:=Br.grown hg4 Br.size (fun j e => (rl j e).1)
        replace LC:=LC.kp kk (fun e => by have:=(rl _ e).1; omega)
        replace LP:=LP.kp kk (fun e => by have:=(rl _ e).1; omega)
        clear X
        obtain ⟨a4, c4, hv4⟩:=OPt.form ⟨_, ho4⟩
        simp only [List.length_append, List.length_singleton] at hv4
        subst hv4
        have HT:=hide T
        have sw5:=hg4.size
        clear ho4 hg4 kk rl T HAP d0 d1 d2 LN))
    have T:=HT.out
    clear HT cX0 cX1 cX2
    have TT:=hide T
    clear T
    go_wp2
    go_roundw
    case rel => exact ⟨k + 1, false, ds ++ [(xm, xn, xw)], _, a4, c4, by omega, by go_num, rfl, by simp, by simp; omega, HF, by simp only [List.length_append, List.length_singleton]; exact TT.out, Br⟩
    case measure => simp [intOf]; omega
   simp only [if_true] at hdl
   have HF : Hid (addP ps pp = (ds ++ [(xm, xn, xw)]) ++ (if true then ps.drop (k + 1) else addP (ps.drop (k + 1)) pp)):=hide (by rw [HS.out, HDR.out]; simp)
   clear HS HDR
   have HAP : Hid (∀ j, j < (ds).length → ∀ b, ((vs).getD j (.slice none 0 0)).ownBlock = some b → (Value.slice ua2 xl uc2).ownBlock ≠ some b):=hide (fun j hj b hb e => by have h1:=HNW.out j hj b hb; have h2:=t2 b e; omega)
   obtain ⟨cX0,cX1,cX2⟩:=cc3 X 0 1 2
   obtain ⟨w5x, hw5x⟩ : ∃ y, w3.alloc (.cells #[.int .i64 xm,.string xn,.slice ua2 xl uc2] 36) = y:=⟨_, rfl⟩
   have bb : Below w3.heap.size w3 w5x:=hw5x ▸ qalloc _ _
   have LN : Loc w5x w3.heap.size #[.int .i64 xm,.string xn,.slice ua2 xl uc2]:=hw5x ▸ loc_at w3 _ _ rfl
   have sw5x:=bb.size
   replace Br:=bu Br bb
   replace LC:=LC.up bb
   replace LP:=LP.up bb
   replace X:=X.up bb
   replace T:=T.below bb
   replace o2:=o2.below bb
   clear bb
   have d0:=LN.cell 0 rfl
   have d1:=LN.cell 1 rfl
   have d2:=LN.cell 2 rfl
   have HT:=hide T
   clear T
   have Ho2:=hide o2
   clear o2
   go_wp2_with (first
    | (at_builtin; clear hw5x; refine append_part2 rfl _ _ rfl w0.heap.size (.slice ta (ds).length tc) (ds) (vs) w3.heap.size 1 xm xn _ xw rfl rfl HT.out d0 d1 d2 Ho2.out HAP.out (by first | omega | (simp; omega)) (by omega) ?_; intro v4 w5 ho4 hg4 _
       have T:=ho4
       have kk:=kp_grown hg4
       have rl:=World.ownsRow.lt HT.out.row
       replace Br:=Br.grown hg4 Br.size (fun j e => (rl j e).1)
       replace LC:=LC.kp kk (fun e => by have:=(rl _ e).1; omega)
       replace LP:=LP.kp kk (fun e => by have:=(rl _ e).1; omega)
       clear X
       obtain ⟨a4, c4, hv4⟩:=OPt.form ⟨_, ho4⟩
       simp only [List.length_append, List.length_singleton] at hv4
       subst hv4
       have HT:=hide T
       have sw5:=hg4.size
       clear ho4 hg4 kk rl T HAP d0 d1 d2 LN))
   have T:=HT.out
   clear HT cX0 cX1 cX2
   have TT:=hide T
   clear T
   go_wp2
   go_roundw
   case rel => exact ⟨k + 1, true, ds ++ [(xm, xn, xw)], _, a4, c4, by omega, by go_num, rfl, by simp, by simp; omega, HF, by simp only [List.length_append, List.length_singleton]; exact TT.out, Br⟩
   case measure => simp [intOf]; omega
  have hke : ps.drop k = []:=List.drop_of_length_le (by have:=Hn.out; omega)
  have swr:=Br.size
  have HVL:=hide T.len
  rw [hke] at HS
  clear hke
  cases pt
  ·simp only [Bool.false_eq_true, if_false, Nat.add_zero] at hdl
   have HE : Hid (addP ps pp = ds ++ [(m, s, xs)]):=hide (by rw [HS.out, HPP.out]; simp [addP])
   clear HS
   have RP:=HP.out.below (bu B0x Br)
   have CP:=hide fun w h => l10Copy_any m s (.slice pa pl pc) xs w h
   have HNX : Hid (∀ j, j < ds.length → ∀ b, (vs.getD j (.slice none 0 0)).ownBlock = some b → b < wr.heap.size):=hide fun j hj b hb => (World.ownsRow.lt (T.each j hj) b hb).2
   obtain ⟨cLP0,cLP1,cLP2⟩:=cc3 LP 0 1 2
   have HT:=hide T
   clear T
   go_wp2_with fail
   have T:=HT.out
   clear HT cLP0 cLP1 cLP2
   refine (CP.out _ RP).mono ?_
   rintro _ w8 ⟨u5, rfl, o5, bb⟩
   replace Br:=bu Br bb
   replace LC:=LC.up bb
   replace LP:=LP.up bb
   replace T:=T.below bb
   have sw8:=bb.size
   clear bb
   have t5:=World.ownsRow.lt o5
   replace o5:=OI.mono o5 swr
   obtain ⟨ua5, uc5, rfl⟩:=o5.form
   clear CP RP
   rw [HPL.out] at o5 t5 ⊢
   have HAP : Hid (∀ j, j < (ds).length → ∀ b, ((vs).getD j (.slice none 0 0)).ownBlock = some b → (Value.slice ua5 pl uc5).ownBlock ≠ some b):=hide (fun j hj b hb e => by have h1:=HNX.out j hj b hb; have h2:=t5 b e; omega)
   obtain ⟨w9x, hw9x⟩ : ∃ y, w8.alloc (.cells #[.int .i64 m,.string s,.slice ua5 pl uc5] 36) = y:=⟨_, rfl⟩
   have bb : Below w8.heap.size w8 w9x:=hw9x ▸ qalloc _ _
   have LN : Loc w9x w8.heap.size #[.int .i64 m,.string s,.slice ua5 pl uc5]:=hw9x ▸ loc_at w8 _ _ rfl
   have sw9x:=bb.size
   replace Br:=bu Br bb
   replace LC:=LC.up bb
   replace LP:=LP.up bb
   replace T:=T.below bb
   replace o5:=o5.below bb
   clear bb
   have d0:=LN.cell 0 rfl
   have d1:=LN.cell 1 rfl
   have d2:=LN.cell 2 rfl
   have HT:=hide T
   clear T
   have Ho5:=hide o5
   clear o5
   go_wp2_with (first
    | (at_builtin; clear hw9x; refine append_part2 rfl _ _ rfl w0.heap.size (.slice ta (ds).length tc) (ds) (vs) w8.heap.size 1 m s _ xs rfl rfl HT.out d0 d1 d2 Ho5.out HAP.out (by first | omega | (simp; omega)) (by omega) ?_; intro v4 w9 ho4 hg4 _
       have T:=ho4
       have kk:=kp_grown hg4
       have rl:=World.ownsRow.lt HT.out.row
       replace Br:=Br.grown hg4 Br.size (fun j e => (rl j e).1)
       replace LC:=LC.kp kk (fun e => by have:=(rl _ e).1; omega)
       replace LP:=LP.kp kk (fun e => by have:=(rl _ e).1; omega)
       obtain ⟨a4, c4, hv4⟩:=OPt.form ⟨_, ho4⟩
       simp only [List.length_append, List.length_singleton] at hv4
       subst hv4
       have HT:=hide T
       have sw9:=hg4.size
       obtain ⟨cLC0,cLC1⟩:=cc2 LC 0 1
       clear ho4 hg4 kk rl T HAP d0 d1 d2 LN))
   have T:=HT.out
   clear HT
   have hmem:=addP_small (m:=m) HW.out hs hx0 ps (fun q hq => hq)
   rw [← HPP.out, HE.out] at hmem
   have hal:=addP_len ps pp
   rw [HE.out] at hal
   have TK:=hide fun w h => specTableOk n f (.slice a4 (ds.length + 1) c4) (ds ++ [(m, s, xs)]) w (by have:=Hn.out; omega) (fun q hq => (hmem q hq).1) h
   have PO:=hide fun w h => specPartOk n f m s (.slice pa pl pc) xs w hs h
   have LT:=hide fun w h => l10Table_any (.slice ao len ca) ps w (by have:=Hn.out; omega) h
   obtain ⟨tk, htk⟩ : ∃ b, tokB n f (ds ++ [(m, s, xs)]) = b:=⟨_, rfl⟩
   obtain ⟨pk, hpk⟩ : ∃ b, pokB n f m s xs = b:=⟨_, rfl⟩
   rw [htk] at TK
   rw [hpk] at PO
   have HTK:=hide htk
   have HPK:=hide hpk
   clear htk hpk
   have RT : RPt w9 (.slice a4 (ds.length + 1) c4) (ds ++ [(m, s, xs)]):=OPt.rpt ⟨_, T⟩ (fun q hq => (hmem q hq).2)
   clear hmem hal
   obtain ⟨cLC0,cLC1⟩:=cc2 LC 0 1
   have HT:=hide T
   clear T
   go_wp2_with fail
   have T:=HT.out
   clear HT cLC0 cLC1
   refine (TK.out _ RT).mono ?_
   rintro _ wt ⟨rfl, bb⟩
   replace Br:=bu Br bb
   replace LC:=LC.up bb
   replace LP:=LP.up bb
   replace T:=T.below bb
   have swt:=bb.size
   clear bb TK RT
   cases tk
   ·have RL:=RPt.below H.out Br (Nat.le_refl _)
    have HT:=hide T
    clear T
    go_wp2_with fail
    have T:=HT.out
    clear HT
    refine (LT.out _ RL).mono ?_
    rintro _ wl ⟨u9, rfl, o9, bb⟩
    replace Br:=bu Br bb
    replace LC:=LC.up bb
    replace LP:=LP.up bb
    replace T:=T.below bb
    have swl:=bb.size
    clear bb
    obtain ⟨a9, c9, rfl⟩:=OPt.form o9
    rw [Hn.out]
    have O9:=hide (OPt.mono o9 (show w.heap.size ≤ wt.heap.size by have:=Br.size; omega))
    clear o9 T RL LT LC LP
    go_wp2
    refine bodyPost_ret (v := .tuple #[.slice a9 len c9,.bool false]) (by simp [results, Try.results36, go_sem]) rfl ?_
    have e1 : rb = false:=by rw [← HRB.out, HE.out, HTK.out, HPK.out]; simp
    have e2 : rl = ps:=by rw [← HRL.out, e1]; simp
    rw [e1, e2]
    refine ⟨_, rfl, ?_, bu B0x Br⟩
    have:=O9.out
    rwa [Hn.out] at this
   have RP:=HP.out.below (bu B0x Br)
   obtain ⟨cLC0,cLC1⟩:=cc2 LC 0 1
   obtain ⟨cLP0,cLP1,cLP2⟩:=cc3 LP 0 1 2
   have HT:=hide T
   clear T
   go_wp2_with fail
   have T:=HT.out
   clear HT cLC0 cLC1 cLP0 cLP1 cLP2
   refine (PO.out _ RP).mono ?_
   rintro _ wp ⟨rfl, bb⟩
   replace Br:=bu Br bb
   replace LC:=LC.up bb
   replace LP:=LP.up bb
   replace T:=T.below bb
   have swp:=bb.size
   clear bb PO RP
   cases pk
   ·have RL:=RPt.below H.out Br (Nat.le_refl _)
    have HT:=hide T
    clear T
    go_wp2_with fail
    have T:=HT.out
    clear HT
    refine (LT.out _ RL).mono ?_
    rintro _ wl ⟨u9, rfl, o9, bb⟩
    replace Br:=bu Br bb
    replace LC:=LC.up bb
    replace LP:=LP.up bb
    replace T:=T.below bb
    have swl:=bb.size
    clear bb
    obtain ⟨a9, c9, rfl⟩:=OPt.form o9
    rw [Hn.out]
    have O9:=hide (OPt.mono o9 (show w.heap.size ≤ wp.heap.size by have:=Br.size; omega))
    clear o9 T RL LT LC LP
    go_wp2
    refine bodyPost_ret (v := .tuple #[.slice a9 len c9,.bool false]) (by simp [results, Try.results36, go_sem]) rfl ?_
    have e1 : rb = false:=by rw [← HRB.out, HE.out, HTK.out, HPK.out]; simp
    have e2 : rl = ps:=by rw [← HRL.out, e1]; simp
    rw [e1, e2]
    refine ⟨_, rfl, ?_, bu B0x Br⟩
    have:=O9.out
    rwa [Hn.out] at this
   have TT:=hide (OPtV.mono T (show w.heap.size ≤ w0.heap.size by omega))
   clear T LT LC LP
   go_wp2
   refine bodyPost_ret (v := .tuple #[.slice a4 (ds.length + 1) c4,.bool true]) (by simp [results, Try.results36, go_sem]) rfl ?_
   have e1 : rb = true:=by rw [← HRB.out, HE.out, HTK.out, HPK.out]; simp
   have e2 : rl = ds ++ [(m, s, xs)]:=by rw [← HRL.out, e1, HE.out]; simp
   rw [e1, e2]
   exact ⟨_, rfl, ⟨_, TT.out⟩, bu B0x Br⟩
  simp only [if_true] at hdl
  have HE : Hid (addP ps pp = ds):=hide (by rw [HS.out]; simp)
  clear HS
  have hmem:=addP_small (m:=m) HW.out hs hx0 ps (fun q hq => hq)
  rw [← HPP.out, HE.out] at hmem
  have hal:=addP_len ps pp
  rw [HE.out] at hal
  have TK:=hide fun w h => specTableOk n f (.slice ta ds.length tc) (ds) w (by have:=Hn.out; omega) (fun q hq => (hmem q hq).1) h
  have PO:=hide fun w h => specPartOk n f m s (.slice pa pl pc) xs w hs h
  have LT:=hide fun w h => l10Table_any (.slice ao len ca) ps w (by have:=Hn.out; omega) h
  obtain ⟨tk, htk⟩ : ∃ b, tokB n f (ds) = b:=⟨_, rfl⟩
  obtain ⟨pk, hpk⟩ : ∃ b, pokB n f m s xs = b:=⟨_, rfl⟩
  rw [htk] at TK
  rw [hpk] at PO
  have HTK:=hide htk
  have HPK:=hide hpk
  clear htk hpk
  have RT : RPt wr (.slice ta ds.length tc) (ds):=OPt.rpt ⟨_, T⟩ (fun q hq => (hmem q hq).2)
  clear hmem hal
  obtain ⟨cLC0,cLC1⟩:=cc2 LC 0 1
  have HT:=hide T
  clear T
  go_wp2_with fail
  have T:=HT.out
  clear HT cLC0 cLC1
  refine (TK.out _ RT).mono ?_
  rintro _ wt ⟨rfl, bb⟩
  replace Br:=bu Br bb
  replace LC:=LC.up bb
  replace LP:=LP.up bb
  replace T:=T.below bb
  have swt:=bb.size
  clear bb TK RT
  cases tk
  ·have RL:=RPt.below H.out Br (Nat.le_refl _)
   have HT:=hide T
   clear T
   go_wp2_with fail
   have T:=HT.out
   clear HT
   refine (LT.out _ RL).mono ?_
   rintro _ wl ⟨u9, rfl, o9, bb⟩
   replace Br:=bu Br bb
   replace LC:=LC.up bb
   replace LP:=LP.up bb
   replace T:=T.below bb
   have swl:=bb.size
   clear bb
   obtain ⟨a9, c9, rfl⟩:=OPt.form o9
   rw [Hn.out]
   have O9:=hide (OPt.mono o9 (show w.heap.size ≤ wt.heap.size by have:=Br.size; omega))
   clear o9 T RL LT LC LP
   go_wp2
   refine bodyPost_ret (v := .tuple #[.slice a9 len c9,.bool false]) (by simp [results, Try.results36, go_sem]) rfl ?_
   have e1 : rb = false:=by rw [← HRB.out, HE.out, HTK.out, HPK.out]; simp
   have e2 : rl = ps:=by rw [← HRL.out, e1]; simp
   rw [e1, e2]
   refine ⟨_, rfl, ?_, bu B0x Br⟩
   have:=O9.out
   rwa [Hn.out] at this
  have RP:=HP.out.below (bu B0x Br)
  obtain ⟨cLC0,cLC1⟩:=cc2 LC 0 1
  obtain ⟨cLP0,cLP1,cLP2⟩:=cc3 LP 0 1 2
  have HT:=hide T
  clear T
  go_wp2_with fail
  have T:=HT.out
  clear HT cLC0 cLC1 cLP0 cLP1 cLP2
  refine (PO.out _ RP).mono ?_
  rintro _ wp ⟨rfl, bb⟩
  replace Br:=bu Br bb
  replace LC:=LC.up bb
  replace LP:=LP.up bb
  replace T:=T.below bb
  have swp:=bb.size
  clear bb PO RP
  cases pk
  ·have RL:=RPt.below H.out Br (Nat.le_refl _)
   have HT:=hide T
   clear T
   go_wp2_with fail
   have T:=HT.out
   clear HT
   refine (LT.out _ RL).mono ?_
   rintro _ wl ⟨u9, rfl, o9, bb⟩
   replace Br:=bu Br bb
   replace LC:=LC.up bb
   replace LP:=LP.up bb
   replace T:=T.below bb
   have swl:=bb.size
   clear bb
   obtain ⟨a9, c9, rfl⟩:=OPt.form o9
   rw [Hn.out]
   have O9:=hide (OPt.mono o9 (show w.heap.size ≤ wp.heap.size by have:=Br.size; omega))
   clear o9 T RL LT LC LP
   go_wp2
   refine bodyPost_ret (v := .tuple #[.slice a9 len c9,.bool false]) (by simp [results, Try.results36, go_sem]) rfl ?_
   have e1 : rb = false:=by rw [← HRB.out, HE.out, HTK.out, HPK.out]; simp
   have e2 : rl = ps:=by rw [← HRL.out, e1]; simp
   rw [e1, e2]
   refine ⟨_, rfl, ?_, bu B0x Br⟩
   have:=O9.out
   rwa [Hn.out] at this
  have TT:=hide (OPtV.mono T (show w.heap.size ≤ w0.heap.size by omega))
  clear T LT LC LP
  go_wp2
  refine bodyPost_ret (v := .tuple #[.slice ta ds.length tc,.bool true]) (by simp [results, Try.results36, go_sem]) rfl ?_
  have e1 : rb = true:=by rw [← HRB.out, HE.out, HTK.out, HPK.out]; simp
  have e2 : rl = ds:=by rw [← HRL.out, e1, HE.out]; simp
  rw [e1, e2]
  exact ⟨_, rfl, ⟨_, TT.out⟩, bu B0x Br⟩
end
section
open Go.RowKit
variable [∀ (a b c d : Int), Decidable (Ok4 a b c d)]
variable [∀ (a b c d : Nat), Decidable (okN a b c d)]
variable [∀ (x : T4), Decidable (OkT x)]
variable [∀ (last : Int) (s : St), Decidable (GoodSt last s)]
variable [∀ (n f : Int), Decidable (COk n f)]
variable [∀ (n : Int) (s : List Int), Decidable (OkL n s)]
def SmP (b : Nat) (ps : List Pt) : Prop := ∀ q ∈ ps, q.2.1.size ≤ 8001 ∧ q.2.2.length ≤ b ∧ WfL q.2.2
theorem wf_join {a b : List Int} (ha : WfL a) (hb : WfL b) : WfL (joinL a b) := fun x hx => by
 rcases (mem_join a b x).1 hx with h | h
 ·exact ha x h
 exact hb x h
theorem smp_add (rb : Bool) {b : Nat} {ps : List Pt} {v : Int} {s : ByteArray} {xs : List Int} (h : SmP b ps) (hs : s.size ≤ 8001) (hx : xs.length ≤ 7) (wx : WfL xs) : SmP (b + 7) (if rb = true then addP ps (v, s, xs) else ps) := by
 intro q hq
 split at hq
 ·rcases addP_mem hq with h1 | rfl | ⟨x, h1, rfl⟩
  ·have:=h q h1; exact ⟨this.1, by omega, this.2.2⟩
  ·exact ⟨hs, by simp only; omega, wx⟩
  have h2:=h x h1
  have:=join_size x.2.2 xs
  exact ⟨h2.1, by simp only [joinP]; omega, wf_join h2.2.2 wx⟩
 have:=h q hq; exact ⟨this.1, by omega, this.2.2⟩
theorem add_len_if (rb : Bool) (ps : List Pt) (p : Pt) : (if rb = true then addP ps p else ps).length ≤ ps.length + 1 := by
 split
 ·exact addP_len ps p
 omega

theorem drawTab (base g ca : Nat) (ao : Option Addr) (zs : List Int) (n f : Int) (w : World) (hB : base ≤ w.heap.size) (hn8 : n ≤ 8) (h : Cur w base g ao ca zs) :
 Calls Try.prog 28 #[.pointer (some ⟨g, 0, none⟩), cv n f] w fun e w' => ∃ (t : Value) (ps : List Pt), e = .returned t ∧ ps.length ≤ 5 ∧ Hid (SmP 40 ps) ∧ OPt w' w.heap.size t ps ∧ Cur w' base g ao ca zs ∧ w.grownBy w' (some g) := by
 have hlt:=h.lt
 obtain ⟨w0, hw0⟩ : ∃ y, w.alloc (.cells #[.int .i64 n,.int .i64 f] 55) = y:=⟨_, rfl⟩
 have b0 : Below w.heap.size w w0:=hw0 ▸ qalloc _ _
 have LC : Loc w0 w.heap.size #[.int .i64 n,.int .i64 f]:=hw0 ▸ loc_at w _ _ rfl
 have s0 : w0.heap.size = w.heap.size + 1:=by rw [← hw0]; simp
 have C:=h.below hB b0
 have K : Kp w w0 (fun k => k = g):=Below.kpOf b0 _
 clear h b0
 obtain ⟨w1, hw1⟩ : ∃ y, w0.alloc (.cells #[] 36) = y:=⟨_, rfl⟩
 have b1 : Below w0.heap.size w0 w1:=hw1 ▸ qalloc _ _
 have TB : OPt w1 (w.heap.size + 1) (.slice (some ⟨w.heap.size + 1, 0, none⟩) 0 0) []:=by
  have:=opt_empty w0
  rw [hw1, s0] at this
  exact ⟨_, this⟩
 replace LC:=LC.up b1
 replace K:=K.trans (Below.kpOf b1 _)
 replace C:=C.below (by omega) b1
 have s1:=b1.size
 clear b1
 go_enter Try.func28, Try.ntmps28
 go_wp2
 clear hw0 hw1
 go_loopw [5, 6] (fun out j wr => ∃ (k : Nat) (ps : List Pt) (ta : Option Addr) (pl tc : Nat), k ≤ 4 ∧ j = .int .i64 k ∧ out = .slice ta pl tc ∧ pl ≤ k ∧ Hid (ps.length = pl) ∧ Hid (SmP (7 * k) ps) ∧ OPt wr (w.heap.size + 1) (.slice ta pl tc) ps ∧ Loc wr w.heap.size #[.int .i64 n,.int .i64 f] ∧ Cur wr base g ao ca zs ∧ Kp w wr (fun k => k = g)) (fun _ j _ => 4 - (intOf j).toNat)
 case atStart => exact ⟨0, [], _, 0, 0, by omega, rfl, rfl, by omega, hide rfl, hide (fun q hq => by simp at hq), TB, LC, C, K⟩
 case round =>
  clear TB LC C K
  obtain ⟨k, ps, ta, pl, tc, hk, rfl, rfl, hpk0, HL, SM, TB, LC, C, K⟩:=hrel
  have sK:=K.size
  have hll:=LC.lt
  go_wp2_with fail
  refine (below_any base g ca ao zs 5 _ (by omega) (by omega) (by omega) C).mono ?_
  rintro e w7 ⟨r, rfl, r0, r1, c7, g7⟩
  replace C:=c7
  clear c7
  have kk:=kp_of g7
  have sk:=kk.size
  replace LC:=LC.kp kk (by omega)
  replace TB:=TB.kp kk (fun j h1 h2 => by omega)
  replace K:=K.trans kk
  clear kk g7
  by_cases hlt2 : (k : Int) < r
  ·have hd : decide ((k : Int) < r) = true:=by simpa using hlt2
   go_upto_region 5 with fail
   refine wp_region_noPanic ?_
   refine wp_region_held_drew (S := (fun w' => w'.cell? ⟨w.heap.size, 0, none⟩ = some (.int .i64 n) ∧ w'.cell? ⟨w.heap.size, 1, none⟩ = some (.int .i64 f))) (by kernel_rfl) ⟨LC.cell 0 rfl, LC.cell 1 rfl⟩ (fun hHeld => ?_)
   obtain ⟨wd, hd'⟩ : ∃ y, w7.drew = y:=⟨_, rfl⟩
   have bd : Below w7.heap.size w7 wd:=hd' ▸ Below.drew (Below.refl _ _)
   have sk:=bd.size
   replace LC:=LC.up bd
   replace TB:=TB.below bd
   replace K:=K.trans (Below.kpOf bd _)
   replace C:=C.below (by omega) bd
   rw [hd'] at hHeld ⊢
   clear hd' bd
   refine tx 0 15 ?_
   refine tx 1 16 ?_
   refine tx 2 17 ?_
   refine tx 3 18 ?_
   refine rd 4 rfl (fun KK hKK => ?_)
   go_simp
   refine (drawPartR base g ca ao zs n f _ (by omega) hn8 C).mono ?_
   rintro e wb ⟨v, s, u, xs, rfl, hv, hs, hl, WX, O, c4, g4⟩
   replace C:=c4
   clear c4
   have kk:=kp_of g4
   have sk:=kk.size
   replace LC:=LC.kp kk (by omega)
   replace TB:=TB.kp kk (fun j h1 h2 => by omega)
   replace K:=K.trans kk
   clear kk g4
   have TA:=hide (specTableAdd n f (.slice ta pl tc) ps v s u xs wb (by rw [HL.out]; omega) (by omega) (by omega) (fun q hq => by have:=SM.out q hq; omega) (by have:=TB.rpt (fun q hq => by have:=SM.out q hq; omega); exact this) (O.ri (by omega)))
   obtain ⟨ua, uc, hu⟩:=O.form
   subst hu
   clear hHeld
   refine hKK.out _ _ ⟨LC.cell 0 rfl, LC.cell 1 rfl⟩ (fun hHeld => ?_)
   clear hKK KK
   refine rd 5 rfl (fun KK hKK => ?_)
   go_simp
   refine TA.out.mono ?_
   rintro e wc ⟨t, rfl, o5, b5⟩
   have sk:=b5.size
   replace LC:=LC.up b5
   replace K:=K.trans (Below.kpOf b5 _)
   replace C:=C.below (by omega) b5
   have SM2:=hide (smp_add (tokB n f (addP ps (v, s, xs)) && pokB n f v s xs) (b:=7 * k) (v:=v) (s:=s) SM.out (by omega) hl WX.out)
   have HL2:=add_len_if (tokB n f (addP ps (v, s, xs)) && pokB n f v s xs) ps (v, s, xs)
   generalize (tokB n f (addP ps (v, s, xs)) && pokB n f v s xs) = rb at *
   generalize (if rb = true then addP ps (v, s, xs) else ps) = ps2 at *
   replace o5:=o5.mono (show w.heap.size + 1 ≤ wb.heap.size by omega)
   obtain ⟨t5, c5, ht5⟩:=o5.form
   obtain ⟨pl2, hpl2⟩ : ∃ l, ps2.length = l:=⟨_, rfl⟩
   rw [hpl2] at ht5
   subst ht5
   have HL3:=hide hpl2
   have hpk : pl2 ≤ k + 1:=by have:=HL.out; omega
   clear HL2 hpl2 b5 TB TA SM O hHeld
   refine hKK.out _ _ ⟨LC.cell 0 rfl, LC.cell 1 rfl⟩ (fun hHeld => ?_)
   clear hKK KK
   refine tx 6 14 ?_
   refine tx 7 21 ?_
   refine tx 8 22 ?_
   refine tx 9 5 ?_
   clear hHeld
   refine wdn ?_
   go_wp2
   go_roundw
   case rel => exact ⟨k + 1, ps2, t5, pl2, c5, by omega, by go_num, rfl, by omega, HL3, hide (fun q hq => by have := SM2.out q hq; exact ⟨this.1, by omega, this.2.2⟩), o5, LC, C, K⟩
   case measure => simp [intOf]; omega
  have hd : decide ((k : Int) < r) = false:=by simpa using hlt2
  go_wp2_with fail
  refine (once_any base g ca ao zs 8 _ (by omega) (by omega) (by omega) C).mono ?_
  rintro e w8 ⟨b, rfl, c8, g8⟩
  replace C:=c8
  clear c8
  have kk:=kp_of g8
  have sk:=kk.size
  replace LC:=LC.kp kk (by omega)
  replace TB:=TB.kp kk (fun j h1 h2 => by omega)
  replace K:=K.trans kk
  clear kk g8
  cases b with
  | false =>
   have TB':=hide (TB.mono (show w.heap.size ≤ w.heap.size + 1 by omega))
   clear TB LC
   go_wp2
   go_ret
   exact ⟨_, ps, rfl, by have := HL.out; omega, hide (fun q hq => by have := SM.out q hq; exact ⟨this.1, by omega, this.2.2⟩), TB'.out, C, kp_to K⟩
  | true =>
   have n0:=LC.cell 0 rfl
   have n1:=LC.cell 1 rfl
   go_wp2_with fail
   clear n0 n1
   refine (drawPart base g ca ao zs n f _ (by omega) hn8 C).mono ?_
   rintro e w9 ⟨v, s, u, xs, rfl, hv, hs, hl, WX, O, c9, g9⟩
   replace C:=c9
   clear c9
   have sz8:=K.size
   obtain ⟨vs, TV⟩:=TB
   have hN : Hid (∀ j, j < ps.length → ∀ b, (vs.getD j (.slice none 0 0)).ownBlock = some b → b < w8.heap.size):=hide fun j hj b hb => (World.ownsRow.lt (TV.each j hj) b hb).2
   have kk:=kp_of g9
   have sk9:=kk.size
   replace TV:=TV.kp kk (fun j h1 h2 => by omega)
   replace K:=K.trans kk
   clear kk g9 LC
   obtain ⟨ua, uc, hu⟩:=O.form
   obtain ⟨ul, hul⟩ : ∃ l, xs.length = l:=⟨_, rfl⟩
   rw [hul] at hu hl
   subst hu
   replace hul:=hide hul
   obtain ⟨wa, hwa⟩ : ∃ y, w9.alloc (.cells #[.int .i64 v,.string s,.slice ua ul uc] 36) = y:=⟨_, rfl⟩
   have ba : Below w9.heap.size w9 wa:=hwa ▸ qalloc _ _
   have La : Loc wa w9.heap.size #[.int .i64 v,.string s,.slice ua ul uc]:=hwa ▸ loc_at w9 _ _ rfl
   have d0:=La.cell 0 rfl
   have d1:=La.cell 1 rfl
   have d2:=La.cell 2 rfl
   have Ta:=hide (TV.below ba)
   have Oa:=hide (O.below ba)
   have sa:=ba.size
   replace K:=K.trans (Below.kpOf ba _)
   replace C:=C.below (by omega) ba
   clear TV O ba La
   go_wp2_with (first
    | (at_builtin; clear hwa; refine append_part rfl _ _ rfl (w.heap.size + 1) w8.heap.size (.slice ta pl tc) ps vs w9.heap.size 1 v s _ xs rfl rfl Ta.out d0 d1 d2 Oa.out hN.out (by omega) (by rw [HL.out]; omega) (by omega) ?_; intro v4 w4 ho4 hg4 _
       have r4:=World.ownsRow.lt Ta.out.row
       have kx : Kp w w4 (fun k => k = g):=⟨hg4.os.trans K.os, hg4.tape.trans K.tape, hg4.output.trans K.output, Nat.le_trans K.size hg4.size, fun k hk hg => (hg4.block k (Nat.lt_of_lt_of_le hk K.size) (fun e => by have:=r4 k e.symm; omega)).trans (K.block k hk hg)⟩
       have cx:=C.grownNew hg4 (fun j e => by have:=r4 j e; omega)
       obtain ⟨a4, c4, hv4⟩:=OPt.form ⟨_, ho4⟩
       have HL4:=hide (show (ps ++ [(v, s, xs)]).length ≤ 5 by have:=HL.out; simp; omega)
       have SM4 : Hid (SmP 40 (ps ++ [(v, s, xs)])):=hide (fun q hq => by rcases List.mem_append.1 hq with h | h; exact (by have:=SM.out q h; exact ⟨this.1, by omega, this.2.2⟩); simp at h; subst h; exact ⟨hs, by simp only; rw [hul.out]; omega, WX.out⟩)
       generalize ps ++ [(v, s, xs)] = es at *
       subst hv4
       have T4:=hide (show OPt w4 w.heap.size _ es from OPt.mono ⟨_, ho4⟩ (by omega))
       clear Ta Oa hN ho4 hg4 r4 d0 d1 d2 K C SM))
   go_ret
   exact ⟨_, es, rfl, HL4.out, SM4, T4.out, cx, kp_to kx⟩
end
section
open Go.RowKit
variable [∀ (a b c d : Int), Decidable (Ok4 a b c d)]
variable [∀ (a b c d : Nat), Decidable (okN a b c d)]
variable [∀ (x : T4), Decidable (OkT x)]
variable [∀ (n f : Int), Decidable (COk n f)]
abbrev zc : Obj := .cells #[.int .i64 0,.int .i64 0] 55
theorem drawConfB (base g ca : Nat) (ao : Option Addr) (zs : List Int) (w : World) (hB : base ≤ w.heap.size) (h : Cur w base g ao ca zs) :
 Calls Try.prog 29 #[.pointer (some ⟨g, 0, none⟩)] w fun e w' => ∃ n f : Int, e = .returned (cv n f) ∧ (4 ≤ n ∧ n ≤ 7) ∧ (1 ≤ f ∧ f ≤ 3) ∧ Cur w' base g ao ca zs ∧ w.grownBy w' (some g) := by
 have hlt:=h.lt
 obtain ⟨w0, hw0⟩ : ∃ w0, w.alloc zc = w0:=⟨_, rfl⟩
 have C0 : Cur w0 base g ao ca zs:=hw0 ▸ h.alloc hB _
 have G0 : w.grownBy w0 (some g):=hw0 ▸ World.grownBy_alloc w _ _
 have Z0 : Loc w0 w.heap.size #[.int .i64 0,.int .i64 0]:=hw0 ▸ loc_at w _ _ rfl
 have s0 : w0.heap.size = w.heap.size + 1:=by rw [← hw0]; simp
 clear h
 go_enter Try.func29, Try.ntmps29
 go_wp2_with fail
 clear hw0
 refine (below_any base g ca ao zs 4 _ (by omega) (by omega) (by omega) C0).mono ?_
 rintro e w1 ⟨x, rfl, x0, x1, c1, e1⟩
 have Z1:=Z0.grown e1 (by omega)
 have G1:=grown_trans G0 e1
 have s1:=e1.size
 clear Z0 G0 C0 e1
 go_wp2_with fail
 refine (below_any base g ca ao zs 3 _ (by omega) (by omega) (by omega) c1).mono ?_
 rintro e w2 ⟨y, rfl, y0, y1, c2, e2⟩
 have Z2:=Z1.grown e2 (by omega)
 have G2:=grown_trans G1 e2
 have p0:=Z2.cell 0 rfl
 have p1:=Z2.cell 1 rfl
 have fp:=Z2.frozen
 have HC:=hide c2
 clear Z1 G1 c1 e2 c2
 go_wp2
 refine bodyPost_ret (v := cv (4 + x) (1 + y)) (by simp [results, Try.results29, go_sem, p0, p1]) rfl ?_
 exact ⟨_, _, rfl, ⟨by omega, by omega⟩, ⟨by omega, by omega⟩, (HC.out.set (by omega) _ _).set (by omega) _ _, grown_set (grown_set G2 (Nat.le_refl _) _ _) (Nat.le_refl _) _ _⟩

theorem drawConf (base g ca : Nat) (ao : Option Addr) (zs : List Int) (w : World) (hB : base ≤ w.heap.size) (h : Cur w base g ao ca zs) :
 Calls Try.prog 29 #[.pointer (some ⟨g, 0, none⟩)] w fun e w' => ∃ n f : Int, e = .returned (cv n f) ∧ (4 ≤ n ∧ n ≤ 7) ∧ Cur w' base g ao ca zs ∧ w.grownBy w' (some g) :=
 (drawConfB base g ca ao zs w hB h).mono fun _ _ ⟨n, f, he, hn, _, hr⟩ => ⟨n, f, he, hn, hr⟩
end
section
open Go.RowKit
variable [∀ (a b c d : Int), Decidable (Ok4 a b c d)]
variable [∀ (a b c d : Nat), Decidable (okN a b c d)]
variable [∀ (x : T4), Decidable (OkT x)]
variable [∀ (last : Int) (s : St), Decidable (GoodSt last s)]
variable [∀ (n f : Int), Decidable (COk n f)]
variable [∀ (n : Int) (s : List Int), Decidable (OkL n s)]
theorem drawTableDrop (ao : Option Addr) (ca : Nat) (zs : List Int) (w : World) (h : DCode w ao zs) :
 Calls Try.prog 13 #[.slice ao zs.length ca] w fun e w' => ∃ (t : Value) (ps : List Pt) (x : Int), e = .returned (.tuple #[t,.int .i64 x]) ∧ ps.length ≤ 5 ∧ Hid (SmP 40 ps) ∧ OPt w' w.heap.size t ps ∧ Below w.heap.size w w' := by
 have NW:=hide (new_any ao ca zs w h.len h.code h.fit)
 clear h
 go_enter Try.func13, Try.ntmps13
 go_wp2_with fail
 refine NW.out.mono ?_
 rintro e w1 ⟨rfl, C, B⟩
 have s1:=C.lt
 clear NW
 go_wp2_with fail
 refine (drawConf w.heap.size w.heap.size ca ao zs _ (by omega) C).mono ?_
 rintro e w2 ⟨n, f, rfl, ⟨hn0, hn1⟩, c2, g2⟩
 have s2:=g2.size
 replace B:=cur_below g2 B (by omega) (by omega)
 replace C:=c2
 clear c2 g2
 go_wp2_with fail
 refine (drawTab w.heap.size w.heap.size ca ao zs n f _ (by omega) (by omega) C).mono ?_
 rintro e w3 ⟨t, ps, rfl, hl, SM, TB, c3, g3⟩
 have s3:=g3.size
 replace B:=cur_below g3 B (by omega) (by omega)
 replace C:=c3
 obtain ⟨ta, tc, ht⟩:=TB.form
 obtain ⟨pl, hpl⟩ : ∃ l, ps.length = l:=⟨_, rfl⟩
 rw [hpl] at ht hl
 subst ht
 replace hpl:=hide hpl
 clear c3 g3
 go_wp2_with fail
 refine (below_any w.heap.size w.heap.size ca ao zs 6 _ (by omega) (by omega) (by omega) C).mono ?_
 rintro e w4 ⟨x, rfl, x0, x1, c4, g4⟩
 have kk:=kp_of g4
 have T4:=hide ((TB.kp kk (fun j h1 h2 => by omega)).mono (show w.heap.size ≤ w2.heap.size by omega))
 replace B:=cur_below g4 B (by omega) (by omega)
 clear C TB kk g4 c4
 go_wp2
 go_ret2
 exact ⟨_, ps, _, rfl, by rw [hpl.out]; exact hl, SM, T4.out, B⟩
end
section
open Go.RowKit
theorem sameInts_yes (va vb : Value) (xs : List Int) (w : World) (ha : RI w va xs) (hb : RI w vb xs) :
 Calls Try.prog 31 #[va, vb] w fun e w' => e = .returned (.bool true) ∧ ∃ n, w' = w.drewN n := by
 obtain ⟨hl, ao, ca, rfl, ha⟩:=ha
 obtain ⟨_, bo, cb, rfl, hb⟩:=hb
 generalize hn : xs.length = n at *
 have Hn : Hid (xs.length = n):=hn
 clear hn
 go_enter Try.func31, Try.ntmps31
 go_wp2
 go_loopw [5] (fun i wr => ∃ k : Nat, k ≤ n ∧ i = .int .i64 k ∧ ∃ m, wr = w.drewN m) (fun i _ => n - (intOf i).toNat)
 case atStart => exact ⟨0, Nat.zero_le _, rfl, 0, rfl⟩
 case round =>
  obtain ⟨k, hk, rfl, m, rfl⟩:=hrel
  by_cases hlt : k < n
  ·rcases ha with ha | ⟨b, off, rfl, ha⟩
   ·subst ha; have := Hn.out; simp at this; omega
   rcases hb with hb | ⟨b', off', rfl, hb⟩
   ·subst hb; have := Hn.out; simp at this; omega
   have ha':=ha k hlt
   have hb':=hb k hlt
   clear ha hb
   generalize xs.getD k 0 = d at *
   go_wp2_with fail
   go_quiet (fail)
   go_wp2
   go_roundw
   case rel => exact ⟨k + 1, by omega, by go_num, _, rfl⟩
   case measure => simp [intOf]; omega
  clear ha hb
  go_wp2
  go_ret
  exact ⟨rfl, _, rfl⟩

theorem big_any (ao : Option Addr) (n ca : Nat) (w : World) (hn : n ≤ 9223372036854775807) :
 Calls Try.prog 12 #[.slice ao n ca] w fun e w' => e = .returned (.bool (decide (1048576 < n))) ∧ Below w.heap.size w w' := by
 have hd : decide ((1048576 : Int) < (n : Int)) = decide (1048576 < n):=by simp; omega
 go_enter Try.func12, Try.ntmps12
 go_wp2
 go_ret
 refine ⟨?_, Below.refl _ _⟩
 simp
 try omega
end
end Go.Proofs.Ytjkcphnohhpihaa
