/- TableAdds: TableAdd of the specification: its loop. -/
import Derived.Test.YtjkcphnohhpihaaGreatDoorPPAO
set_option linter.unusedSectionVars false
namespace Go.Proofs.YtjkcphnohhpihaaGreatDoor
section
open Go.RowKit
variable [∀ (a b c d : Int), Decidable (Ok4 a b c d)]
variable [∀ (n f : Int), Decidable (COk n f)]
variable [∀ (n : Int) (s : List Int), Decidable (OkL n s)]
variable [∀ (a b c d : Nat), Decidable (okN a b c d)]
variable [∀ (last : Int) (s : St), Decidable (GoodSt last s)]
variable [∀ (x : T4), Decidable (OkT x)]
theorem drop_at {ps : List Pt} {k : Nat} (hk : k < ps.length) : ps.drop k = ps.getD k zpt :: ps.drop (k + 1) := by
 rw [List.drop_eq_getElem_cons hk]; simp [List.getElem?_eq_getElem hk]
theorem join_size (a b : List Int) : (joinL a b).length ≤ a.length + b.length := by
 have:=fold_len (a ++ b) []
 rw [List.length_append, List.length_nil] at this
 unfold joinL
 omega
theorem addP_mem {ps : List Pt} {p q : Pt} (h : q ∈ addP ps p) : q ∈ ps ∨ q = p ∨ ∃ x ∈ ps, q = joinP x p := by
 induction ps with
 | nil => simp [addP] at h; exact .inr (.inl h)
 | cons x ps ih =>
  unfold addP at h
  split at h
  ·rcases List.mem_cons.1 h with rfl | h
   ·exact .inl (by simp)
   rcases ih h with h | h | ⟨y, hy, h⟩
   ·exact .inl (by simp [h])
   ·exact .inr (.inl h)
   exact .inr (.inr ⟨y, by simp [hy], h⟩)
  split at h
  ·rcases List.mem_cons.1 h with rfl | h
   ·exact .inr (.inr ⟨x, by simp, rfl⟩)
   exact .inl (by simp [h])
  rcases List.mem_cons.1 h with rfl | h
  ·exact .inr (.inl rfl)
  exact .inl h
theorem addP_small {ps : List Pt} {m : Int} {s : ByteArray} {xs : List Int} (hw : ∀ q ∈ ps, q.2.1.size ≤ 1048576 ∧ q.2.2.length ≤ 1048576) (hs : s.size ≤ 1048576) (hx : xs.length ≤ 1048576) (qs : List Pt) (hq : ∀ q ∈ qs, q ∈ ps) : ∀ q ∈ addP qs (m, s, xs), q.2.1.size ≤ 1048576 ∧ q.2.2.length ≤ 4194304 := by
 intro q h
 rcases addP_mem h with h | rfl | ⟨x, hx', rfl⟩
 ·have:=hw q (hq q h); omega
 ·exact ⟨hs, by show xs.length ≤ _; omega⟩
 have h1:=hw x (hq x hx')
 have h2:=join_size x.2.2 xs
 exact ⟨h1.1, by show (joinL x.2.2 xs).length ≤ _; omega⟩
theorem snoc_apart {ds : List Pt} {vs : List Value} {x : Pt} {u v : Value} (hl : vs.length = ds.length) (h1 : ∀ j, j < ds.length → ∀ b, (vs.getD j (.slice none 0 0)).ownBlock = some b → v.ownBlock ≠ some b) (h2 : ∀ b, u.ownBlock = some b → v.ownBlock ≠ some b) : ∀ j, j < (ds ++ [x]).length → ∀ b, ((vs ++ [u]).getD j (.slice none 0 0)).ownBlock = some b → v.ownBlock ≠ some b := by
 intro j hj b hb
 rw [List.length_append, List.length_singleton] at hj
 by_cases e : j < ds.length
 ·rw [List.getD_eq_getElem?_getD, List.getElem?_append_left (by omega), ← List.getD_eq_getElem?_getD] at hb
  exact h1 j e b hb
 obtain rfl : j = ds.length:=by omega
 have e1 : (vs ++ [u]).getD ds.length (.slice none 0 0) = u:=by rw [← hl]; simp
 rw [e1] at hb
 exact h2 b hb

set_option maxHeartbeats 8000000 in
set_option maxRecDepth 100000 in
theorem specTableAdd (n f : Int) (v : Value) (ps : List Pt) (m : Int) (s : ByteArray) (pu : Value) (xs : List Int) (w : World) (hl : ps.length ≤ 1048576) (hs : s.size ≤ 1048576) (hx : xs.length ≤ 1048576) (hw : ∀ q ∈ ps, q.2.1.size ≤ 1048576 ∧ q.2.2.length ≤ 1048576) (h : RPt w v ps) (hp : RI w pu xs) :
 Calls Tryz.prog 7 #[cv n f, v, qv m s pu] w fun e w' => ∃ t, e = .returned (.tuple #[t,.bool (tokB n f (addP ps (m, s, xs)) && pokB n f m s xs)]) ∧ OPt w' w.heap.size t (if (tokB n f (addP ps (m, s, xs)) && pokB n f m s xs) then addP ps (m, s, xs) else ps) ∧ Below w.heap.size w w' := by
 obtain ⟨ao, ca, rfl⟩:=h.form
 obtain ⟨pa, pc, rfl⟩:=hp.form
 obtain ⟨len, hn⟩ : ∃ len, ps.length = len:=⟨_, rfl⟩
 have Hn:=hide hn
 have HW:=hide hw
 obtain ⟨w0, hw0⟩ : ∃ y, (w.alloc (.cells #[.int .i64 n,.int .i64 f] 33)).alloc (.cells #[.int .i64 m,.string s,.slice pa xs.length pc] 36) = y:=⟨_, rfl⟩
 have B0x : Below w.heap.size w w0:=hw0 ▸ qalloc2 _ _ _
 have LC : Loc w0 w.heap.size #[.int .i64 n,.int .i64 f]:=hw0 ▸ (loc_at w _ _ rfl).alloc _
 have LP : Loc w0 (w.heap.size + 1) #[.int .i64 m,.string s,.slice pa xs.length pc]:=hw0 ▸ loc_at (w.alloc _) _ _ (by simp)
 have s0 : w0.heap.size = w.heap.size + 2:=by rw [← hw0]; simp
 have H:=hide (h.below B0x)
 have HP:=hide hp
 obtain ⟨pp, hpp⟩ : ∃ pp : Pt, (m, s, xs) = pp:=⟨_, rfl⟩
 have HPP : Hid (pp = (m, s, xs)):=hide hpp.symm
 obtain ⟨w1, hw1⟩ : ∃ y, w0.alloc (.cells #[] 36) = y:=⟨_, rfl⟩
 have b1 : Below w0.heap.size w0 w1:=hw1 ▸ qalloc _ _
 have T1 : OPtV w1 w0.heap.size (.slice (some ⟨w.heap.size + 2, 0, none⟩) 0 0) [] []:=by
  have h1 : OPtV w1 w0.heap.size (.slice (some ⟨w0.heap.size, 0, none⟩) 0 0) [] []:=hw1 ▸ opt_empty w0
  rwa [s0] at h1 ⊢
 have hx0:=hx
 obtain ⟨pl, hpl⟩ : ∃ l, xs.length = l:=⟨_, rfl⟩
 have HPL:=hide hpl
 rw [hpl] at hw0 LP HP hx ⊢
 rw [hn] at hl H ⊢
 rw [hpp]
 obtain ⟨rb, hrb⟩ : ∃ b, (tokB n f (addP ps pp) && pokB n f m s xs) = b:=⟨_, rfl⟩
 rw [hrb]
 obtain ⟨rl, hrl⟩ : ∃ l, (if rb = true then addP ps pp else ps) = l:=⟨_, rfl⟩
 rw [hrl]
 have HRB:=hide hrb
 have HRL:=hide hrl
 clear h hn hw hp hpp hpl hrb hrl
 go_enter Tryz.func7, Tryz.ntmps7
 go_wp2
 clear hw0 hw1
 go_loopw [8, 9, 10] (fun t b i wr => ∃ (k : Nat) (pt : Bool) (ds : List Pt) (vs : List Value) (ta : Option Addr) (tc : Nat), k ≤ len ∧ i = .int .i64 k ∧ b = .bool pt ∧ t = .slice ta ds.length tc ∧ ds.length ≤ k + (if pt then 1 else 0) ∧ Hid (addP ps pp = ds ++ (if pt then ps.drop k else addP (ps.drop k) pp)) ∧ OPtV wr w0.heap.size (.slice ta ds.length tc) ds vs ∧ Below w0.heap.size w0 wr) (fun _ _ i _ => len - (intOf i).toNat)
 case atStart => exact ⟨0, false, [], _, _, _, Nat.zero_le _, rfl, rfl, rfl, by simp, hide (by simp), T1, b1⟩
 case round =>
  clear T1 b1
  obtain ⟨k, pt, ds, vs, ta, tc, hk, rfl, rfl, rfl, hdl, HS, T, Br⟩:=hrel
  replace LC:=LC.up Br
  replace LP:=LP.up Br
  by_cases hlt : k < len
  ·have hkx : k < ps.length:=by have:=Hn.out; omega
   have HDR:=hide (drop_at hkx)
   obtain ⟨g, off, u, hao, c0, c1, c2, ru⟩:=(RPt.below H.out Br (Nat.le_refl _)).at k hkx
   subst hao
   have hszk:=HW.out _ (pt_mem hkx)
   obtain ⟨x, hx⟩ : ∃ x, ps.getD k zpt = x:=⟨_, rfl⟩
   rw [hx] at c0 c1 ru HDR hszk
   clear hx
   obtain ⟨xm, xn, xw⟩:=x
   simp only at c0 c1 ru hszk
   have CP:=hide fun w h => l10Copy_any xm xn u xw w h
   have RU:=hide ru
   obtain ⟨ua, uc, rfl⟩:=ru.form
   have HNW : Hid (∀ j, j < ds.length → ∀ b, (vs.getD j (.slice none 0 0)).ownBlock = some b → b < wr.heap.size):=hide fun j hj b hb => (World.ownsRow.lt (T.each j hj) b hb).2
   have HRW : Hid (∀ b, (Value.slice ta ds.length tc).ownBlock = some b → b < wr.heap.size):=hide fun b hb => (World.ownsRow.lt T.row b hb).2
   clear ru
   have swr:=Br.size
   have hxl : xw.length ≤ 4194304:=by omega
   have HT:=hide T
   clear T
   go_wp2_with fail
   have T:=HT.out
   clear HT c0 c1 c2
   refine (CP.out _ RU.out).mono ?_
   rintro _ w2 ⟨u2, rfl, o2, bb⟩
   replace Br:=bu Br bb
   replace LC:=LC.up bb
   replace LP:=LP.up bb
   replace T:=T.below bb
   have sw2:=bb.size
   have t2:=World.ownsRow.lt o2
   replace o2:=OI.mono o2 swr
   obtain ⟨ua2, uc2, rfl⟩:=o2.form
   clear bb CP RU
   generalize hxlen : xw.length = xl at o2 t2 ⊢
   obtain ⟨w3, hw3⟩ : ∃ y, w2.alloc (.cells #[.int .i64 xm,.string xn,.slice ua2 xl uc2] 36) = y:=⟨_, rfl⟩
   have bb : Below w2.heap.size w2 w3:=hw3 ▸ qalloc _ _
   have X : Loc w3 w2.heap.size #[.int .i64 xm,.string xn,.slice ua2 xl uc2]:=hw3 ▸ loc_at w2 _ _ rfl
   have sw3:=bb.size
   replace Br:=bu Br bb
   replace LC:=LC.up bb
   replace LP:=LP.up bb
   replace T:=T.below bb
   replace o2:=o2.below bb
   clear bb
   have HVL:=hide T.len
   cases pt
   ·simp only [Bool.false_eq_true, if_false, Nat.add_zero] at hdl
    have BE:=hide fun w => l10Before_any xm m xn s (.slice ua2 xl uc2) (.slice pa pl pc) xw xs w
    have JN:=hide fun w h h' => specPartJoin xm m xn s (.slice ua2 xl uc2) (.slice pa pl pc) xw xs w (by omega) h h'
    have HST : Hid (addP ps pp = ds ++ addP ((xm, xn, xw) :: ps.drop (k + 1)) pp):=hide (by rw [HS.out, HDR.out]; simp)
    clear HS HDR
    obtain ⟨be, hbe⟩ : ∃ b, befP (xm, xn, xw) (m, s, xs) = b:=⟨_, rfl⟩
    rw [hbe] at BE
    obtain ⟨cX0,cX1,cX2⟩:=cc3 X 0 1 2
    obtain ⟨cLP0,cLP1,cLP2⟩:=cc3 LP 0 1 2
    have HT:=hide T
    clear T
    have Ho2:=hide o2
    clear o2
    go_wp2_with fail
    have T:=HT.out
    clear HT
    have o2:=Ho2.out
    clear Ho2 cX0 cX1 cX2 cLP0 cLP1 cLP2
    refine (BE.out _).mono ?_
    rintro _ w4 ⟨rfl, bb⟩
    replace Br:=bu Br bb
    replace LC:=LC.up bb
    replace LP:=LP.up bb
    replace X:=X.up bb
    replace T:=T.below bb
    replace o2:=o2.below bb
    have sw4:=bb.size
    clear bb BE
    cases be
    ·obtain ⟨sm, hsm⟩ : ∃ b, samP (xm, xn, xw) (m, s, xs) = b:=⟨_, rfl⟩
     rw [hsm] at JN
     have RX : RI w4 (.slice ua2 xl uc2) xw:=o2.ri hxl
     have RP:=HP.out.below (bu B0x Br)
     cases sm
     ·simp only [Bool.false_eq_true, if_false] at JN
      have HF : Hid (addP ps pp = ((ds ++ [(m, s, xs)]) ++ [(xm, xn, xw)]) ++ (if true then ps.drop (k + 1) else addP (ps.drop (k + 1)) pp)):=hide (by rw [HST.out, HPP.out, addP, hbe, hsm]; simp)
      clear HST hbe hsm
      obtain ⟨cX0,cX1,cX2⟩:=cc3 X 0 1 2
      obtain ⟨cLP0,cLP1,cLP2⟩:=cc3 LP 0 1 2
      have HT:=hide T
      clear T
      have Ho2:=hide o2
      clear o2
      go_wp2_with fail
      have T:=HT.out
      clear HT
      have o2:=Ho2.out
      clear Ho2 cX0 cX1 cX2 cLP0 cLP1 cLP2
      refine (JN.out _ RX RP).mono ?_
      rintro _ w6 ⟨r, rfl, o3, bb⟩
      replace Br:=bu Br bb
      replace LC:=LC.up bb
      replace LP:=LP.up bb
      replace X:=X.up bb
      replace T:=T.below bb
      replace o2:=o2.below bb
      have sw6:=bb.size
      clear bb JN RX RP
      obtain ⟨ra, rc, hr0⟩:=o3.form
      simp only [List.length_nil] at hr0
      subst hr0
      clear o3
      obtain ⟨w7, hw7⟩ : ∃ y, w6.alloc (.cells #[.int .i64 0,.string ⟨#[]⟩,.slice ra 0 rc] 36) = y:=⟨_, rfl⟩
      have bb : Below w6.heap.size w6 w7:=hw7 ▸ qalloc _ _
      have Y : Loc w7 w6.heap.size #[.int .i64 0,.string ⟨#[]⟩,.slice ra 0 rc]:=hw7 ▸ loc_at w6 _ _ rfl
      have sw7:=bb.size
      replace Br:=bu Br bb
      replace LC:=LC.up bb
      replace LP:=LP.up bb
      replace X:=X.up bb
      replace T:=T.below bb
      replace o2:=o2.below bb
      clear bb
      have RP:=HP.out.below (bu B0x Br)
      have CP:=hide fun w h => l10Copy_any m s (.slice pa pl pc) xs w h
      have HNX : Hid (∀ j, j < ds.length → ∀ b, (vs.getD j (.slice none 0 0)).ownBlock = some b → b < w7.heap.size):=hide fun j hj b hb => (World.ownsRow.lt (T.each j hj) b hb).2
      obtain ⟨cLP0,cLP1,cLP2⟩:=cc3 LP 0 1 2
      have HT:=hide T
      clear T
      have Ho2:=hide o2
      clear o2
      go_wp2_with fail
      have T:=HT.out
      clear HT
      have o2:=Ho2.out
      clear Ho2 cLP0 cLP1 cLP2
      refine (CP.out _ RP).mono ?_
      rintro _ w8 ⟨u5, rfl, o5, bb⟩
      replace Br:=bu Br bb
      replace LC:=LC.up bb
      replace LP:=LP.up bb
      replace X:=X.up bb
      replace Y:=Y.up bb
      replace T:=T.below bb
      replace o2:=o2.below bb
      have sw8:=bb.size
      clear bb
      have t5:=World.ownsRow.lt o5
      replace o5:=OI.mono o5 (show w0.heap.size ≤ w7.heap.size by omega)
      obtain ⟨ua5, uc5, rfl⟩:=o5.form
      clear CP RP
      rw [HPL.out] at o5 t5 ⊢
      have HAP : Hid (∀ j, j < (ds).length → ∀ b, ((vs).getD j (.slice none 0 0)).ownBlock = some b → (Value.slice ua5 pl uc5).ownBlock ≠ some b):=hide (fun j hj b hb e => by have h1:=HNX.out j hj b hb; have h2:=t5 b e; omega)
      obtain ⟨w9x, hw9x⟩ : ∃ y, w8.alloc (.cells #[.int .i64 m,.string s,.slice ua5 pl uc5] 36) = y:=⟨_, rfl⟩
      have bb : Below w8.heap.size w8 w9x:=hw9x ▸ qalloc _ _
      have LN : Loc w9x w8.heap.size #[.int .i64 m,.string s,.slice ua5 pl uc5]:=hw9x ▸ loc_at w8 _ _ rfl
      have sw9x:=bb.size
      replace Br:=bu Br bb
      replace LC:=LC.up bb
      replace LP:=LP.up bb
      replace X:=X.up bb
      replace Y:=Y.up bb
      replace T:=T.below bb
      replace o2:=o2.below bb
      replace o5:=o5.below bb
      clear bb
      have d0:=LN.cell 0 rfl
      have d1:=LN.cell 1 rfl
      have d2:=LN.cell 2 rfl
      have HT:=hide T
      clear T
      have Ho2:=hide o2
      clear o2
      have Ho5:=hide o5
      clear o5
      go_wp2_with (first
       | (at_builtin; clear hw9x; refine append_part2 rfl _ _ rfl w0.heap.size (.slice ta (ds).length tc) (ds) (vs) w8.heap.size 1 m s _ xs rfl rfl HT.out d0 d1 d2 Ho5.out HAP.out (by first | omega | (simp; omega)) (by omega) ?_; intro v4 w9 ho4 hg4 _
          have T:=ho4
          have kk:=kp_grown hg4
          have rl:=World.ownsRow.lt HT.out.row
          replace Br:=Br.grown hg4 Br.size (fun j e => (rl j e).1)
          replace LC:=LC.kp kk (fun e => by have:=(rl _ e).1; omega)
          replace LP:=LP.kp kk (fun e => by have:=(rl _ e).1; omega)
          replace X:=X.kp kk (fun e => by have:=HRW.out _ e; omega)
          obtain ⟨cX0,cX1,cX2⟩:=cc3 X 0 1 2
          clear Y
          have Ko2:=Ho2.out
          have Ho2:=hide (Ko2.kp kk (fun j hj e => pt_oi HT.out.row Ko2 j e hj))
          clear Ko2
          obtain ⟨a4p, c4p, hv4⟩:=OPt.form ⟨_, ho4⟩
          simp only [List.length_append, List.length_singleton] at hv4
          subst hv4
          have HT:=hide T
          have sw9:=hg4.size
          clear ho4 hg4 kk rl T HAP d0 d1 d2 LN)
       | (at_builtin; obtain ⟨w10x, hw10x⟩ : ∃ y, w9.alloc (.cells #[.int .i64 xm,.string xn,.slice ua2 xl uc2] 36) = y := ⟨_, rfl⟩
          have bb : Below w9.heap.size w9 w10x:=hw10x ▸ qalloc _ _
          have LN : Loc w10x w9.heap.size #[.int .i64 xm,.string xn,.slice ua2 xl uc2]:=hw10x ▸ loc_at w9 _ _ rfl
          rw [hw10x]
          clear hw10x
          have sw10x:=bb.size
          replace Br:=bu Br bb
          replace LC:=LC.up bb
          replace LP:=LP.up bb
          have T2:=HT.out.below bb
          have q2:=Ho2.out.below bb
          clear HT Ho2 bb X cX0 cX1 cX2
          have d0:=LN.cell 0 rfl
          have d1:=LN.cell 1 rfl
          have d2:=LN.cell 2 rfl
          refine append_part2 rfl _ _ rfl w0.heap.size (.slice a4p (ds.length + 1) c4p) (ds ++ [(m, s, xs)]) (vs ++ [Value.slice ua5 pl uc5]) w9.heap.size 1 xm xn _ xw rfl rfl T2 d0 d1 d2 q2 (snoc_apart HVL.out (fun j hj b hb e => by have h1 := HNW.out j hj b hb; have h2 := t2 b e; omega) (fun b hb e => by have h1 := t5 b hb; have h2 := t2 b e; omega)) (by first | omega | (simp; omega)) (by omega) ?_; intro v4 w10 ho4 hg4 _
          have kk:=kp_grown hg4
          have rl:=World.ownsRow.lt T2.row
          replace Br:=Br.grown hg4 Br.size (fun j e => (rl j e).1)
          replace LC:=LC.kp kk (fun e => by have:=(rl _ e).1; omega)
          replace LP:=LP.kp kk (fun e => by have:=(rl _ e).1; omega)
          obtain ⟨a4, c4, hv4⟩:=OPt.form ⟨_, ho4⟩
          simp only [List.length_append, List.length_singleton] at hv4
          subst hv4
          have HT:=hide ho4
          have sw10:=hg4.size
          clear ho4 hg4 kk rl T2 q2 d0 d1 d2 LN))
      have T:=HT.out
      clear HT
      have TT:=hide T
      clear T
      go_wp2
      go_roundw
      case rel => exact ⟨k + 1, true, (ds ++ [(m, s, xs)]) ++ [(xm, xn, xw)], _, a4, c4, by omega, by go_num, rfl, by simp, by simp; omega, HF, by simp only [List.length_append, List.length_singleton]; exact TT.out, Br⟩
      case measure => simp [intOf]; omega
     simp only [if_true] at JN
     have HF : Hid (addP ps pp = (ds ++ [(xm, xn, joinL xw xs)]) ++ (if true then ps.drop (k + 1) else addP (ps.drop (k + 1)) pp)):=hide (by rw [HST.out, HPP.out, addP, hbe, hsm]; simp [joinP])
     clear HST hbe hsm
     have hjl : (joinL xw xs).length ≤ 4194304:=by have:=join_size xw xs; omega
     generalize joinL xw xs = jw at *
     have HNX : Hid (∀ j, j < ds.length → ∀ b, (vs.getD j (.slice none 0 0)).ownBlock = some b → b < w4.heap.size):=hide fun j hj b hb => (World.ownsRow.lt (T.each j hj) b hb).2
     obtain ⟨cX0,cX1,cX2⟩:=cc3 X 0 1 2
     obtain ⟨cLP0,cLP1,cLP2⟩:=cc3 LP 0 1 2
     have HT:=hide T
     clear T
     have Ho2:=hide o2
     clear o2
     go_wp2_with fail
     have T:=HT.out
     clear HT
     have o2:=Ho2.out
     clear Ho2 cX0 cX1 cX2 cLP0 cLP1 cLP2
     refine (JN.out _ RX RP).mono ?_
     rintro _ w6 ⟨r, rfl, o3, bb⟩
     replace Br:=bu Br bb
     replace LC:=LC.up bb
     replace LP:=LP.up bb
     replace X:=X.up bb
     replace T:=T.below bb
     replace o2:=o2.below bb
     have sw6:=bb.size
     clear bb
     have t3:=World.ownsRow.lt o3
     replace o3:=OI.mono o3 (show w0.heap.size ≤ w4.heap.size by omega)
     obtain ⟨ra, rc, rfl⟩:=o3.form
     generalize jw.length = jl at *
     clear JN RX RP
     obtain ⟨w7, hw7⟩ : ∃ y, w6.alloc (.cells #[.int .i64 xm,.string xn,.slice ra jl rc] 36) = y:=⟨_, rfl⟩
     have bb : Below w6.heap.size w6 w7:=hw7 ▸ qalloc _ _
     have Y : Loc w7 w6.heap.size #[.int .i64 xm,.string xn,.slice ra jl rc]:=hw7 ▸ loc_at w6 _ _ rfl
     have sw7:=bb.size
     replace Br:=bu Br bb
     replace LC:=LC.up bb
     replace LP:=LP.up bb
     replace X:=X.up bb
     replace T:=T.below bb
     replace o3:=o3.below bb
     clear bb
     have HAP : Hid (∀ j, j < (ds).length → ∀ b, ((vs).getD j (.slice none 0 0)).ownBlock = some b → (Value.slice ra jl rc).ownBlock ≠ some b):=hide (fun j hj b hb e => by have h1:=HNX.out j hj b hb; have h2:=t3 b e; omega)
     obtain ⟨cY0,cY1,cY2⟩:=cc3 Y 0 1 2
     obtain ⟨w8x, hw8x⟩ : ∃ y, w7.alloc (.cells #[.int .i64 xm,.string xn,.slice ra jl rc] 36) = y:=⟨_, rfl⟩
     have bb : Below w7.heap.size w7 w8x:=hw8x ▸ qalloc _ _
     have LN : Loc w8x w7.heap.size #[.int .i64 xm,.string xn,.slice ra jl rc]:=hw8x ▸ loc_at w7 _ _ rfl
     have sw8x:=bb.size
     replace Br:=bu Br bb
     replace LC:=LC.up bb
     replace LP:=LP.up bb
     replace X:=X.up bb
     replace Y:=Y.up bb
     replace T:=T.below bb
     replace o3:=o3.below bb
     clear bb
     have d0:=LN.cell 0 rfl
     have d1:=LN.cell 1 rfl
     have d2:=LN.cell 2 rfl
     have HT:=hide T
     clear T
     have Ho3:=hide o3
     clear o3
     go_wp2_with (first
      | (at_builtin; clear hw8x; refine append_part2 rfl _ _ rfl w0.heap.size (.slice ta (ds).length tc) (ds) (vs) w7.heap.size 1 xm xn _ jw rfl rfl HT.out d0 d1 d2 Ho3.out HAP.out (by first | omega | (simp; omega)) (by omega) ?_; intro v4 w8 ho4 hg4 _
         have T:=ho4
         have kk:=kp_grown hg4
         have rl:=World.ownsRow.lt HT.out.row
         replace Br:=Br.grown hg4 Br.size (fun j e => (rl j e).1)
         replace LC:=LC.kp kk (fun e => by have:=(rl _ e).1; omega)
         replace LP:=LP.kp kk (fun e => by have:=(rl _ e).1; omega)
         clear X Y
         obtain ⟨a4, c4, hv4⟩:=OPt.form ⟨_, ho4⟩
         simp only [List.length_append, List.length_singleton] at hv4
         subst hv4
         have HT:=hide T
         have sw8:=hg4.size
         clear ho4 hg4 kk rl T HAP d0 d1 d2 LN))
     have T:=HT.out
     clear HT cY0 cY1 cY2
     have TT:=hide T
     clear T
     go_wp2
     go_roundw
     case rel => exact ⟨k + 1, true, ds ++ [(xm, xn, jw)], _, a4, c4, by omega, by go_num, rfl, by simp, by simp; omega, HF, by simp only [List.length_append, List.length_singleton]; exact TT.out, Br⟩
     case measure => simp [intOf]; omega
    have HF : Hid (addP ps pp = (ds ++ [(xm, xn, xw)]) ++ (if false then ps.drop (k + 1) else addP (ps.drop (k + 1)) pp)):=hide (by rw [HST.out, HPP.out, addP, hbe]; simp)
    clear HST hbe JN
    have HAP : Hid (∀ j, j < (ds).length → ∀ b, ((vs).getD j (.slice none 0 0)).ownBlock = some b → (Value.slice ua2 xl uc2).ownBlock ≠ some b):=hide (fun j hj b hb e => by have h1:=HNW.out j hj b hb; have h2:=t2 b e; omega)
    obtain ⟨cX0,cX1,cX2⟩:=cc3 X 0 1 2
    obtain ⟨w5x, hw5x⟩ : ∃ y, w4.alloc (.cells #[.int .i64 xm,.string xn,.slice ua2 xl uc2] 36) = y:=⟨_, rfl⟩
    have bb : Below w4.heap.size w4 w5x:=hw5x ▸ qalloc _ _
    have LN : Loc w5x w4.heap.size #[.int .i64 xm,.string xn,.slice ua2 xl uc2]:=hw5x ▸ loc_at w4 _ _ rfl
    have sw5x:=bb.size
    replace Br:=bu Br bb
    replace LC:=LC.up bb
    replace LP:=LP.up bb
    replace X:=X.up bb
    replace T:=T.below bb
    replace o2:=o2.below bb
    clear bb
    have d0:=LN.cell 0 rfl
    have d1:=LN.cell 1 rfl
    have d2:=LN.cell 2 rfl
    have HT:=hide T
    clear T
    have Ho2:=hide o2
    clear o2
    go_wp2_with (first
     | (at_builtin; clear hw5x; refine append_part2 rfl _ _ rfl w0.heap.size (.slice ta (ds).length tc) (ds) (vs) w4.heap.size 1 xm xn _ xw rfl rfl HT.out d0 d1 d2 Ho2.out HAP.out (by first | omega | (simp; omega)) (by omega) ?_; intro v4 w5 ho4 hg4 _
        have T:=ho4
        have kk:=kp_grown hg4
        have rl:=World.ownsRow.lt HT.out.row
        replace Br:=Br.grown hg4 Br.size (fun j e => (rl j e).1)
        replace LC:=LC.kp kk (fun e => by have:=(rl _ e).1; omega)
        replace LP:=LP.kp kk (fun e => by have:=(rl _ e).1; omega)
        clear X
        obtain ⟨a4, c4, hv4⟩:=OPt.form ⟨_, ho4⟩
        simp only [List.length_append, List.length_singleton] at hv4
        subst hv4
        have HT:=hide T
        have sw5:=hg4.size
        clear ho4 hg4 kk rl T HAP d0 d1 d2 LN))
    have T:=HT.out
    clear HT cX0 cX1 cX2
    have TT:=hide T
    clear T
    go_wp2
    go_roundw
    case rel => exact ⟨k + 1, false, ds ++ [(xm, xn, xw)], _, a4, c4, by omega, by go_num, rfl, by simp, by simp; omega, HF, by simp only [List.length_append, List.length_singleton]; exact TT.out, Br⟩
    case measure => simp [intOf]; omega
   simp only [if_true] at hdl
   have HF : Hid (addP ps pp = (ds ++ [(xm, xn, xw)]) ++ (if true then ps.drop (k + 1) else addP (ps.drop (k + 1)) pp)):=hide (by rw [HS.out, HDR.out]; simp)
   clear HS HDR
   have HAP : Hid (∀ j, j < (ds).length → ∀ b, ((vs).getD j (.slice none 0 0)).ownBlock = some b → (Value.slice ua2 xl uc2).ownBlock ≠ some b):=hide (fun j hj b hb e => by have h1:=HNW.out j hj b hb; have h2:=t2 b e; omega)
   obtain ⟨cX0,cX1,cX2⟩:=cc3 X 0 1 2
   obtain ⟨w5x, hw5x⟩ : ∃ y, w3.alloc (.cells #[.int .i64 xm,.string xn,.slice ua2 xl uc2] 36) = y:=⟨_, rfl⟩
   have bb : Below w3.heap.size w3 w5x:=hw5x ▸ qalloc _ _
   have LN : Loc w5x w3.heap.size #[.int .i64 xm,.string xn,.slice ua2 xl uc2]:=hw5x ▸ loc_at w3 _ _ rfl
   have sw5x:=bb.size
   replace Br:=bu Br bb
   replace LC:=LC.up bb
   replace LP:=LP.up bb
   replace X:=X.up bb
   replace T:=T.below bb
   replace o2:=o2.below bb
   clear bb
   have d0:=LN.cell 0 rfl
   have d1:=LN.cell 1 rfl
   have d2:=LN.cell 2 rfl
   have HT:=hide T
   clear T
   have Ho2:=hide o2
   clear o2
   go_wp2_with (first
    | (at_builtin; clear hw5x; refine append_part2 rfl _ _ rfl w0.heap.size (.slice ta (ds).length tc) (ds) (vs) w3.heap.size 1 xm xn _ xw rfl rfl HT.out d0 d1 d2 Ho2.out HAP.out (by first | omega | (simp; omega)) (by omega) ?_; intro v4 w5 ho4 hg4 _
       have T:=ho4
       have kk:=kp_grown hg4
       have rl:=World.ownsRow.lt HT.out.row
       replace Br:=Br.grown hg4 Br.size (fun j e => (rl j e).1)
       replace LC:=LC.kp kk (fun e => by have:=(rl _ e).1; omega)
       replace LP:=LP.kp kk (fun e => by have:=(rl _ e).1; omega)
       clear X
       obtain ⟨a4, c4, hv4⟩:=OPt.form ⟨_, ho4⟩
       simp only [List.length_append, List.length_singleton] at hv4
       subst hv4
       have HT:=hide T
       have sw5:=hg4.size
       clear ho4 hg4 kk rl T HAP d0 d1 d2 LN))
   have T:=HT.out
   clear HT cX0 cX1 cX2
   have TT:=hide T
   clear T
   go_wp2
   go_roundw
   case rel => exact ⟨k + 1, true, ds ++ [(xm, xn, xw)], _, a4, c4, by omega, by go_num, rfl, by simp, by simp; omega, HF, by simp only [List.length_append, List.length_singleton]; exact TT.out, Br⟩
   case measure => simp [intOf]; omega
  have hke : ps.drop k = []:=List.drop_of_length_le (by have:=Hn.out; omega)
  have swr:=Br.size
  have HVL:=hide T.len
  rw [hke] at HS
  clear hke
  cases pt
  ·simp only [Bool.false_eq_true, if_false, Nat.add_zero] at hdl
   have HE : Hid (addP ps pp = ds ++ [(m, s, xs)]):=hide (by rw [HS.out, HPP.out]; simp [addP])
   clear HS
   have RP:=HP.out.below (bu B0x Br)
   have CP:=hide fun w h => l10Copy_any m s (.slice pa pl pc) xs w h
   have HNX : Hid (∀ j, j < ds.length → ∀ b, (vs.getD j (.slice none 0 0)).ownBlock = some b → b < wr.heap.size):=hide fun j hj b hb => (World.ownsRow.lt (T.each j hj) b hb).2
   obtain ⟨cLP0,cLP1,cLP2⟩:=cc3 LP 0 1 2
   have HT:=hide T
   clear T
   go_wp2_with fail
   have T:=HT.out
   clear HT cLP0 cLP1 cLP2
   refine (CP.out _ RP).mono ?_
   rintro _ w8 ⟨u5, rfl, o5, bb⟩
   replace Br:=bu Br bb
   replace LC:=LC.up bb
   replace LP:=LP.up bb
   replace T:=T.below bb
   have sw8:=bb.size
   clear bb
   have t5:=World.ownsRow.lt o5
   replace o5:=OI.mono o5 swr
   obtain ⟨ua5, uc5, rfl⟩:=o5.form
   clear CP RP
   rw [HPL.out] at o5 t5 ⊢
   have HAP : Hid (∀ j, j < (ds).length → ∀ b, ((vs).getD j (.slice none 0 0)).ownBlock = some b → (Value.slice ua5 pl uc5).ownBlock ≠ some b):=hide (fun j hj b hb e => by have h1:=HNX.out j hj b hb; have h2:=t5 b e; omega)
   obtain ⟨w9x, hw9x⟩ : ∃ y, w8.alloc (.cells #[.int .i64 m,.string s,.slice ua5 pl uc5] 36) = y:=⟨_, rfl⟩
   have bb : Below w8.heap.size w8 w9x:=hw9x ▸ qalloc _ _
   have LN : Loc w9x w8.heap.size #[.int .i64 m,.string s,.slice ua5 pl uc5]:=hw9x ▸ loc_at w8 _ _ rfl
   have sw9x:=bb.size
   replace Br:=bu Br bb
   replace LC:=LC.up bb
   replace LP:=LP.up bb
   replace T:=T.below bb
   replace o5:=o5.below bb
   clear bb
   have d0:=LN.cell 0 rfl
   have d1:=LN.cell 1 rfl
   have d2:=LN.cell 2 rfl
   have HT:=hide T
   clear T
   have Ho5:=hide o5
   clear o5
   go_wp2_with (first
    | (at_builtin; clear hw9x; refine append_part2 rfl _ _ rfl w0.heap.size (.slice ta (ds).length tc) (ds) (vs) w8.heap.size 1 m s _ xs rfl rfl HT.out d0 d1 d2 Ho5.out HAP.out (by first | omega | (simp; omega)) (by omega) ?_; intro v4 w9 ho4 hg4 _
       have T:=ho4
       have kk:=kp_grown hg4
       have rl:=World.ownsRow.lt HT.out.row
       replace Br:=Br.grown hg4 Br.size (fun j e => (rl j e).1)
       replace LC:=LC.kp kk (fun e => by have:=(rl _ e).1; omega)
       replace LP:=LP.kp kk (fun e => by have:=(rl _ e).1; omega)
       obtain ⟨a4, c4, hv4⟩:=OPt.form ⟨_, ho4⟩
       simp only [List.length_append, List.length_singleton] at hv4
       subst hv4
       have HT:=hide T
       have sw9:=hg4.size
       obtain ⟨cLC0,cLC1⟩:=cc2 LC 0 1
       clear ho4 hg4 kk rl T HAP d0 d1 d2 LN))
   have T:=HT.out
   clear HT
   have hmem:=addP_small (m:=m) HW.out hs hx0 ps (fun q hq => hq)
   rw [← HPP.out, HE.out] at hmem
   have hal:=addP_len ps pp
   rw [HE.out] at hal
   have TK:=hide fun w h => specTableOk n f (.slice a4 (ds.length + 1) c4) (ds ++ [(m, s, xs)]) w (by have:=Hn.out; omega) (fun q hq => (hmem q hq).1) h
   have PO:=hide fun w h => specPartOk n f m s (.slice pa pl pc) xs w hs h
   have LT:=hide fun w h => l10Table_any (.slice ao len ca) ps w (by have:=Hn.out; omega) h
   obtain ⟨tk, htk⟩ : ∃ b, tokB n f (ds ++ [(m, s, xs)]) = b:=⟨_, rfl⟩
   obtain ⟨pk, hpk⟩ : ∃ b, pokB n f m s xs = b:=⟨_, rfl⟩
   rw [htk] at TK
   rw [hpk] at PO
   have HTK:=hide htk
   have HPK:=hide hpk
   clear htk hpk
   have RT : RPt w9 (.slice a4 (ds.length + 1) c4) (ds ++ [(m, s, xs)]):=OPt.rpt ⟨_, T⟩ (fun q hq => (hmem q hq).2)
   clear hmem hal
   obtain ⟨cLC0,cLC1⟩:=cc2 LC 0 1
   have HT:=hide T
   clear T
   go_wp2_with fail
   have T:=HT.out
   clear HT cLC0 cLC1
   refine (TK.out _ RT).mono ?_
   rintro _ wt ⟨rfl, bb⟩
   replace Br:=bu Br bb
   replace LC:=LC.up bb
   replace LP:=LP.up bb
   replace T:=T.below bb
   have swt:=bb.size
   clear bb TK RT
   cases tk
   ·have RL:=RPt.below H.out Br (Nat.le_refl _)
    have HT:=hide T
    clear T
    go_wp2_with fail
    have T:=HT.out
    clear HT
    refine (LT.out _ RL).mono ?_
    rintro _ wl ⟨u9, rfl, o9, bb⟩
    replace Br:=bu Br bb
    replace LC:=LC.up bb
    replace LP:=LP.up bb
    replace T:=T.below bb
    have swl:=bb.size
    clear bb
    obtain ⟨a9, c9, rfl⟩:=OPt.form o9
    rw [Hn.out]
    have O9:=hide (OPt.mono o9 (show w.heap.size ≤ wt.heap.size by have:=Br.size; omega))
    clear o9 T RL LT LC LP
    go_wp2
    refine bodyPost_ret (v := .tuple #[.slice a9 len c9,.bool false]) (by simp [results, Tryz.results7, go_sem]) rfl ?_
    have e1 : rb = false:=by rw [← HRB.out, HE.out, HTK.out, HPK.out]; simp
    have e2 : rl = ps:=by rw [← HRL.out, e1]; simp
    rw [e1, e2]
    refine ⟨_, rfl, ?_, bu B0x Br⟩
    have:=O9.out
    rwa [Hn.out] at this
   have RP:=HP.out.below (bu B0x Br)
   obtain ⟨cLC0,cLC1⟩:=cc2 LC 0 1
   obtain ⟨cLP0,cLP1,cLP2⟩:=cc3 LP 0 1 2
   have HT:=hide T
   clear T
   go_wp2_with fail
   have T:=HT.out
   clear HT cLC0 cLC1 cLP0 cLP1 cLP2
   refine (PO.out _ RP).mono ?_
   rintro _ wp ⟨rfl, bb⟩
   replace Br:=bu Br bb
   replace LC:=LC.up bb
   replace LP:=LP.up bb
   replace T:=T.below bb
   have swp:=bb.size
   clear bb PO RP
   cases pk
   ·have RL:=RPt.below H.out Br (Nat.le_refl _)
    have HT:=hide T
    clear T
    go_wp2_with fail
    have T:=HT.out
    clear HT
    refine (LT.out _ RL).mono ?_
    rintro _ wl ⟨u9, rfl, o9, bb⟩
    replace Br:=bu Br bb
    replace LC:=LC.up bb
    replace LP:=LP.up bb
    replace T:=T.below bb
    have swl:=bb.size
    clear bb
    obtain ⟨a9, c9, rfl⟩:=OPt.form o9
    rw [Hn.out]
    have O9:=hide (OPt.mono o9 (show w.heap.size ≤ wp.heap.size by have:=Br.size; omega))
    clear o9 T RL LT LC LP
    go_wp2
    refine bodyPost_ret (v := .tuple #[.slice a9 len c9,.bool false]) (by simp [results, Tryz.results7, go_sem]) rfl ?_
    have e1 : rb = false:=by rw [← HRB.out, HE.out, HTK.out, HPK.out]; simp
    have e2 : rl = ps:=by rw [← HRL.out, e1]; simp
    rw [e1, e2]
    refine ⟨_, rfl, ?_, bu B0x Br⟩
    have:=O9.out
    rwa [Hn.out] at this
   have TT:=hide (OPtV.mono T (show w.heap.size ≤ w0.heap.size by omega))
   clear T LT LC LP
   go_wp2
   refine bodyPost_ret (v := .tuple #[.slice a4 (ds.length + 1) c4,.bool true]) (by simp [results, Tryz.results7, go_sem]) rfl ?_
   have e1 : rb = true:=by rw [← HRB.out, HE.out, HTK.out, HPK.out]; simp
   have e2 : rl = ds ++ [(m, s, xs)]:=by rw [← HRL.out, e1, HE.out]; simp
   rw [e1, e2]
   exact ⟨_, rfl, ⟨_, TT.out⟩, bu B0x Br⟩
  simp only [if_true] at hdl
  have HE : Hid (addP ps pp = ds):=hide (by rw [HS.out]; simp)
  clear HS
  have hmem:=addP_small (m:=m) HW.out hs hx0 ps (fun q hq => hq)
  rw [← HPP.out, HE.out] at hmem
  have hal:=addP_len ps pp
  rw [HE.out] at hal
  have TK:=hide fun w h => specTableOk n f (.slice ta ds.length tc) (ds) w (by have:=Hn.out; omega) (fun q hq => (hmem q hq).1) h
  have PO:=hide fun w h => specPartOk n f m s (.slice pa pl pc) xs w hs h
  have LT:=hide fun w h => l10Table_any (.slice ao len ca) ps w (by have:=Hn.out; omega) h
  obtain ⟨tk, htk⟩ : ∃ b, tokB n f (ds) = b:=⟨_, rfl⟩
  obtain ⟨pk, hpk⟩ : ∃ b, pokB n f m s xs = b:=⟨_, rfl⟩
  rw [htk] at TK
  rw [hpk] at PO
  have HTK:=hide htk
  have HPK:=hide hpk
  clear htk hpk
  have RT : RPt wr (.slice ta ds.length tc) (ds):=OPt.rpt ⟨_, T⟩ (fun q hq => (hmem q hq).2)
  clear hmem hal
  obtain ⟨cLC0,cLC1⟩:=cc2 LC 0 1
  have HT:=hide T
  clear T
  go_wp2_with fail
  have T:=HT.out
  clear HT cLC0 cLC1
  refine (TK.out _ RT).mono ?_
  rintro _ wt ⟨rfl, bb⟩
  replace Br:=bu Br bb
  replace LC:=LC.up bb
  replace LP:=LP.up bb
  replace T:=T.below bb
  have swt:=bb.size
  clear bb TK RT
  cases tk
  ·have RL:=RPt.below H.out Br (Nat.le_refl _)
   have HT:=hide T
   clear T
   go_wp2_with fail
   have T:=HT.out
   clear HT
   refine (LT.out _ RL).mono ?_
   rintro _ wl ⟨u9, rfl, o9, bb⟩
   replace Br:=bu Br bb
   replace LC:=LC.up bb
   replace LP:=LP.up bb
   replace T:=T.below bb
   have swl:=bb.size
   clear bb
   obtain ⟨a9, c9, rfl⟩:=OPt.form o9
   rw [Hn.out]
   have O9:=hide (OPt.mono o9 (show w.heap.size ≤ wt.heap.size by have:=Br.size; omega))
   clear o9 T RL LT LC LP
   go_wp2
   refine bodyPost_ret (v := .tuple #[.slice a9 len c9,.bool false]) (by simp [results, Tryz.results7, go_sem]) rfl ?_
   have e1 : rb = false:=by rw [← HRB.out, HE.out, HTK.out, HPK.out]; simp
   have e2 : rl = ps:=by rw [← HRL.out, e1]; simp
   rw [e1, e2]
   refine ⟨_, rfl, ?_, bu B0x Br⟩
   have:=O9.out
   rwa [Hn.out] at this
  have RP:=HP.out.below (bu B0x Br)
  obtain ⟨cLC0,cLC1⟩:=cc2 LC 0 1
  obtain ⟨cLP0,cLP1,cLP2⟩:=cc3 LP 0 1 2
  have HT:=hide T
  clear T
  go_wp2_with fail
  have T:=HT.out
  clear HT cLC0 cLC1 cLP0 cLP1 cLP2
  refine (PO.out _ RP).mono ?_
  rintro _ wp ⟨rfl, bb⟩
  replace Br:=bu Br bb
  replace LC:=LC.up bb
  replace LP:=LP.up bb
  replace T:=T.below bb
  have swp:=bb.size
  clear bb PO RP
  cases pk
  ·have RL:=RPt.below H.out Br (Nat.le_refl _)
   have HT:=hide T
   clear T
   go_wp2_with fail
   have T:=HT.out
   clear HT
   refine (LT.out _ RL).mono ?_
   rintro _ wl ⟨u9, rfl, o9, bb⟩
   replace Br:=bu Br bb
   replace LC:=LC.up bb
   replace LP:=LP.up bb
   replace T:=T.below bb
   have swl:=bb.size
   clear bb
   obtain ⟨a9, c9, rfl⟩:=OPt.form o9
   rw [Hn.out]
   have O9:=hide (OPt.mono o9 (show w.heap.size ≤ wp.heap.size by have:=Br.size; omega))
   clear o9 T RL LT LC LP
   go_wp2
   refine bodyPost_ret (v := .tuple #[.slice a9 len c9,.bool false]) (by simp [results, Tryz.results7, go_sem]) rfl ?_
   have e1 : rb = false:=by rw [← HRB.out, HE.out, HTK.out, HPK.out]; simp
   have e2 : rl = ps:=by rw [← HRL.out, e1]; simp
   rw [e1, e2]
   refine ⟨_, rfl, ?_, bu B0x Br⟩
   have:=O9.out
   rwa [Hn.out] at this
  have TT:=hide (OPtV.mono T (show w.heap.size ≤ w0.heap.size by omega))
  clear T LT LC LP
  go_wp2
  refine bodyPost_ret (v := .tuple #[.slice ta ds.length tc,.bool true]) (by simp [results, Tryz.results7, go_sem]) rfl ?_
  have e1 : rb = true:=by rw [← HRB.out, HE.out, HTK.out, HPK.out]; simp
  have e2 : rl = ds:=by rw [← HRL.out, e1, HE.out]; simp
  rw [e1, e2]
  exact ⟨_, rfl, ⟨_, TT.out⟩, bu B0x Br⟩
end
end Go.Proofs.YtjkcphnohhpihaaGreatDoor
