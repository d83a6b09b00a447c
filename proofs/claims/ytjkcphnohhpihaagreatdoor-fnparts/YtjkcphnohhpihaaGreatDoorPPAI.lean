/- Lemmas; their conditions stand in each statement. -/
import Derived.Test.YtjkcphnohhpihaaGreatDoorPPAH
set_option maxRecDepth 100000
set_option maxHeartbeats 4000000
set_option linter.unusedSectionVars false
namespace Go.Proofs.YtjkcphnohhpihaaGreatDoor
section
open Go.RowKit
variable [∀ (a b c d : Int), Decidable (Ok4 a b c d)]
variable [∀ (a b c d : Nat), Decidable (okN a b c d)]
theorem drewN_below (w : World) (n : Nat) : Below w.heap.size w (w.drewN n) := ⟨rfl, rfl, rfl, Nat.le_refl _, fun _ _ => rfl⟩
def cutS (m : UInt8) (l : List UInt8) : List UInt8 × List UInt8 × Bool := if m ∈ l then (hd m l, tl m l, true) else ([], [], false)

theorem l2Cut_any (m : UInt8) (b : Int) (hb : (m.toNat : Int) = b) (s : ByteArray) (w : World) (hs : s.size ≤ 33554432) :
 Calls Tryz.prog 126 #[.string s,.int .u8 b] w fun e w' => e = .returned (.tuple #[.string (toB (cutS m s.data.toList).1),.string (toB (cutS m s.data.toList).2.1),.bool (cutS m s.data.toList).2.2]) ∧ Below w.heap.size w w' := by
 go_enter Tryz.func126, Tryz.ntmps126
 go_wp2
 go_loop [7] (fun i => ∃ k : Nat, k ≤ s.size ∧ i = .int .i64 k ∧ Hid (m ∉ s.data.toList.take k)) (fun i => s.size - (intOf i).toNat)
 case atStart => exact ⟨0, by omega, rfl, hide (by simp)⟩
 case round =>
  obtain ⟨k, hk, rfl, HN⟩:=hrel
  by_cases hlt : k < s.size
  ·by_cases hbk : s[k] = m
   ·have hbk' : ((s[k].toNat : Int) == b) = true:=by rw [hbk, hb]; simp
    have HA : Hid (cutS m s.data.toList = ((s.extract 0 k).data.toList, (s.extract (k + 1) s.size).data.toList, true)):=by
     have hj : s.data.toList[k]? = some m:=by rw [List.getElem?_eq_getElem (by simpa using hlt), ← hbk]; rfl
     obtain ⟨e1, e2⟩:=hit_hd HN.out hj
     have hm : m ∈ s.data.toList:=List.mem_of_getElem? hj
     show cutS m s.data.toList = _
     unfold cutS
     rw [if_pos hm, e1, e2, ext_list, ext_list, List.take_of_length_le (l := s.data.toList.drop (k + 1)) (by simp)]
     simp
    have hk1 : k + 1 ≤ s.size:=by omega
    clear hbk HN
    go_wp2
    go_quiet (fail)
    go_wp2
    go_ret3
    exact ⟨by rw [HA.out]; rfl, drewN_below _ _⟩
   have hbk' : ((s[k].toNat : Int) == b) = false:=by
    rw [← hb]; simp; intro e; exact hbk (UInt8.toNat_inj.1 (by omega))
   have HN' : Hid (m ∉ s.data.toList.take (k + 1)):=by
    show _ ∉ _
    rw [take_snoc s k hlt, List.mem_append]
    rintro (h | h)
    ·exact HN.out h
    simp at h; exact hbk h.symm
   clear hbk HN
   go_wp2
   go_round
   case rel => exact ⟨k + 1, by omega, by go_num, HN'⟩
   case measure => simp [intOf]; omega
  have hks : k = s.size:=by omega
  have HA : Hid (cutS m s.data.toList = ([], [], false)):=by
   have:=HN.out
   rw [hks, List.take_of_length_le (by rw [len_data]; omega)] at this
   show cutS m s.data.toList = _
   unfold cutS; rw [if_neg this]
  clear HN hks
  go_wp2
  go_ret3
  exact ⟨by rw [HA.out]; rfl, Below.refl _ _⟩

theorem cutS_len (m : UInt8) (l : List UInt8) : (cutS m l).1.length ≤ l.length ∧ (cutS m l).2.1.length ≤ l.length := by
 unfold cutS
 split
 ·exact ⟨hd_len m l, tl_len m l⟩
 simp
theorem dg_toB (n : Nat) : dg (n : Int) = toB (Lib.decDigits n) := by unfold dg toB; rw [itoa_nat]
theorem txs_toB (a b c d : Nat) : txs a b c d = toB (txl a b c d) := by
 unfold txs
 rw [dg_toB, dg_toB, dg_toB, dg_toB]
 apply ByteArray.ext
 apply Array.toList_inj.1
 simp [toB, txl]
theorem txl_ne (a b c d : Nat) : txl a b c d ≠ [] := by unfold txl; simp
theorem toB_data (s : ByteArray) : toB s.data.toList = s := by
 apply ByteArray.ext; apply Array.toList_inj.1; rfl
theorem isTx_txt {s : ByteArray} {a b c d : Nat} (h : IsTx s.data.toList a b c d) : txt (a : Int) b c d = s := by
 unfold txt
 rw [if_pos (ok_cast.2 h.1), txs_toB, h.2, toB_data]
theorem txt_isTx {s : ByteArray} {a b c d : Nat} (h : txt (a : Int) b c d = s) (hs : s ≠ ⟨#[]⟩) : IsTx s.data.toList a b c d := by
 unfold txt at h
 split at h
 ·rename_i hk
  refine ⟨ok_cast.1 hk, ?_⟩
  rw [txs_toB] at h
  rw [← h]; rfl
 exact absurd h.symm hs
theorem mem_of_tl {m : UInt8} {l : List UInt8} (h : tl m l ≠ []) : m ∈ l := by rw [hd_tl h]; simp
theorem cuts_of {l : List UInt8} {a b c d : Nat} (h : IsTx l a b c d) : (cutS 62 l).1 = f0 l ∧ (cutS 58 (cutS 62 l).2.1).1 = f1 l ∧ (cutS 35 (cutS 58 (cutS 62 l).2.1).2.1).1 = f2 l ∧ (cutS 35 (cutS 58 (cutS 62 l).2.1).2.1).2.1 = f3 l := by
 obtain ⟨e0, e1, e2, e3⟩:=fields_of h
 have n1:=digits_ne b
 have n2:=digits_ne c
 have n3:=digits_ne d
 rw [← e1] at n1; rw [← e2] at n2; rw [← e3] at n3
 unfold f0 f1 f2 f3 at *
 have t0 : tl 62 l ≠ []:=fun e => n1 (by rw [e, hd_nil])
 have t1 : tl 58 (tl 62 l) ≠ []:=fun e => n2 (by rw [e, hd_nil])
 have c0 : cutS 62 l = (hd 62 l, tl 62 l, true):=by unfold cutS; rw [if_pos (mem_of_tl t0)]
 have c1 : cutS 58 (tl 62 l) = (hd 58 (tl 62 l), tl 58 (tl 62 l), true):=by unfold cutS; rw [if_pos (mem_of_tl t1)]
 have c2 : cutS 35 (tl 58 (tl 62 l)) = (hd 35 (tl 58 (tl 62 l)), tl 35 (tl 58 (tl 62 l)), true):=by unfold cutS; rw [if_pos (mem_of_tl n3)]
 refine ⟨by rw [c0], by rw [c0]; exact congrArg Prod.fst c1, ?_, ?_⟩
 ·rw [c0]; show (cutS 35 (cutS 58 (tl 62 l)).2.1).1 = _; rw [c1]; exact congrArg Prod.fst c2
 rw [c0]; show (cutS 35 (cutS 58 (tl 62 l)).2.1).2.1 = _; rw [c1]; exact congrArg (fun x => x.2.1) c2
theorem l2Cut_B (m : UInt8) (b : Int) (hb : (m.toNat : Int) = b) (l : List UInt8) (w : World) (hs : l.length ≤ 33554432) :
 Calls Tryz.prog 126 #[.string (toB l),.int .u8 b] w fun e w' => e = .returned (.tuple #[.string (toB (cutS m l).1),.string (toB (cutS m l).2.1),.bool (cutS m l).2.2]) ∧ Below w.heap.size w w' := by
 have:=l2Cut_any m b hb (toB l) w (by rw [toB_size]; exact hs)
 rwa [toB_list] at this
def nn (x : List UInt8) : Nat := (numOf x).getD 0
theorem nans_nn (x : List UInt8) : nans (numOf x) = (nn x : Int) := by unfold nn nans; cases numOf x <;> rfl
theorem specNumber_B (x : List UInt8) (w : World) (hx : x.length ≤ 33554432) :
 Calls Tryz.prog 127 #[.string (toB x)] w fun e w' => e = .returned (.tuple #[.int .i64 (nn x),.bool (numOf x).isSome]) ∧ Below w.heap.size w w' := by
 have:=specNumber_any (toB x) w (by rw [toB_size]; unfold maxLen; omega)
 rwa [toB_list, nans_nn] at this

theorem c4_other {w : World} {g g' : Nat} {a b c d : Int} (h : Cells4 w g' a b c d) (hg : g' ≠ g) (j : Nat) (v : Value) : Cells4 (w.setCell ⟨g, j, none⟩ v) g' a b c d :=
 ⟨(World.cell?_setCell_other _ _ _ _ (fun e => hg (congrArg Addr.block e.symm))).trans h.1, (World.cell?_setCell_other _ _ _ _ (fun e => hg (congrArg Addr.block e.symm))).trans h.2.1, (World.cell?_setCell_other _ _ _ _ (fun e => hg (congrArg Addr.block e.symm))).trans h.2.2.1, (World.cell?_setCell_other _ _ _ _ (fun e => hg (congrArg Addr.block e.symm))).trans h.2.2.2⟩
theorem c4_set0 {w : World} {g : Nat} {a b c d : Int} (h : Cells4 w g a b c d) (p : Int) : Cells4 (w.setCell ⟨g, 0, none⟩ (.int .i64 p)) g p b c d :=
 ⟨World.cell?_setCell_same _ _ _ h.1, (World.cell?_setCell_other _ _ _ _ (by simp)).trans h.2.1, (World.cell?_setCell_other _ _ _ _ (by simp)).trans h.2.2.1, (World.cell?_setCell_other _ _ _ _ (by simp)).trans h.2.2.2⟩
theorem c4_set1 {w : World} {g : Nat} {a b c d : Int} (h : Cells4 w g a b c d) (p : Int) : Cells4 (w.setCell ⟨g, 1, none⟩ (.int .i64 p)) g a p c d :=
 ⟨(World.cell?_setCell_other _ _ _ _ (by simp)).trans h.1, World.cell?_setCell_same _ _ _ h.2.1, (World.cell?_setCell_other _ _ _ _ (by simp)).trans h.2.2.1, (World.cell?_setCell_other _ _ _ _ (by simp)).trans h.2.2.2⟩
theorem c4_set2 {w : World} {g : Nat} {a b c d : Int} (h : Cells4 w g a b c d) (p : Int) : Cells4 (w.setCell ⟨g, 2, none⟩ (.int .i64 p)) g a b p d :=
 ⟨(World.cell?_setCell_other _ _ _ _ (by simp)).trans h.1, (World.cell?_setCell_other _ _ _ _ (by simp)).trans h.2.1, World.cell?_setCell_same _ _ _ h.2.2.1, (World.cell?_setCell_other _ _ _ _ (by simp)).trans h.2.2.2⟩
theorem c4_set3 {w : World} {g : Nat} {a b c d : Int} (h : Cells4 w g a b c d) (p : Int) : Cells4 (w.setCell ⟨g, 3, none⟩ (.int .i64 p)) g a b c p :=
 ⟨(World.cell?_setCell_other _ _ _ _ (by simp)).trans h.1, (World.cell?_setCell_other _ _ _ _ (by simp)).trans h.2.1, (World.cell?_setCell_other _ _ _ _ (by simp)).trans h.2.2.1, World.cell?_setCell_same _ _ _ h.2.2.2⟩
theorem fr_set {w : World} {g g' j : Nat} {v : Value} (h : ∀ i, w.frozen? ⟨g', i, none⟩ = false) : ∀ i, (w.setCell ⟨g, j, none⟩ v).frozen? ⟨g', i, none⟩ = false := fun i => by rw [World.frozen?_setCell]; exact h i

theorem specTxOf (s : ByteArray) (w : World) (hs : s.size ≤ 33554432) :
 Calls Tryz.prog 134 #[.string s] w fun e w' => e = .returned (txval (txAns s.data.toList)) ∧ Below w.heap.size w w' := by
 obtain ⟨l, hl⟩ : ∃ l, s.data.toList = l:=⟨_, rfl⟩
 have hll : l.length ≤ 33554432:=by rw [← hl]; simpa using hs
 have hsl : s = toB l:=by rw [← hl, toB_data]
 obtain ⟨x0, e0⟩ : ∃ x, x = (cutS 62 l).1:=⟨_, rfl⟩
 obtain ⟨r0, g0⟩ : ∃ x, x = (cutS 62 l).2.1:=⟨_, rfl⟩
 obtain ⟨x1, e1⟩ : ∃ x, x = (cutS 58 r0).1:=⟨_, rfl⟩
 obtain ⟨r1, g1⟩ : ∃ x, x = (cutS 58 r0).2.1:=⟨_, rfl⟩
 obtain ⟨x2, e2⟩ : ∃ x, x = (cutS 35 r1).1:=⟨_, rfl⟩
 obtain ⟨x3, e3⟩ : ∃ x, x = (cutS 35 r1).2.1:=⟨_, rfl⟩
 have l0:=cutS_len 62 l
 rw [← e0, ← g0] at l0
 have l1:=cutS_len 58 r0
 rw [← e1, ← g1] at l1
 have l2:=cutS_len 35 r1
 rw [← e2, ← e3] at l2
 have K0:=hide fun w => l2Cut_B 62 62 rfl l w hll
 have K1:=hide fun w => l2Cut_B 58 58 rfl r0 w (by omega)
 have K2:=hide fun w => l2Cut_B 35 35 rfl r1 w (by omega)
 rw [← e0, ← g0, ← hsl] at K0
 rw [← e1, ← g1] at K1
 rw [← e2, ← e3] at K2
 have M0:=hide fun w => specNumber_B x0 w (by omega)
 have M1:=hide fun w => specNumber_B x1 w (by omega)
 have M2:=hide fun w => specNumber_B x2 w (by omega)
 have M3:=hide fun w => specNumber_B x3 w (by omega)
 have T:=hide fun w => specTxText (nn x0 : Int) (nn x1) (nn x2) (nn x3) w
 have HY : Hid (∀ a b c d, IsTx l a b c d → nn x0 = a ∧ nn x1 = b ∧ nn x2 = c ∧ nn x3 = d):=by
  intro a b c d h
  obtain ⟨c0, c1, c2, c3⟩:=cuts_of h
  obtain ⟨n0, n1, n2, n3⟩:=nums_of h
  rw [e3, e2, e1, e0, g1, g0, c0, c1, c2, c3]
  unfold nn
  rw [n0, n1, n2, n3]
  exact ⟨rfl, rfl, rfl, rfl⟩
 obtain ⟨t, ht⟩ : ∃ t, t = txt (nn x0 : Int) (nn x1) (nn x2) (nn x3):=⟨_, rfl⟩
 have HA : Hid ((s ≠ ⟨#[]⟩ ∧ t = s ∧ txAns l = some (nn x0, nn x1, nn x2, nn x3)) ∨ (txAns l = none ∧ (s = ⟨#[]⟩ ∨ (s ≠ ⟨#[]⟩ ∧ t ≠ s)))):=by
  show _ ∨ _
  cases hq : txAns l with
  | some q =>
   obtain ⟨a, b, c, d⟩:=q
   have h:=txAns_is hq
   obtain ⟨rfl, rfl, rfl, rfl⟩:=HY.out a b c d h
   rw [← hl] at h
   refine .inl ⟨?_, by rw [ht]; exact isTx_txt h, rfl⟩
   intro e
   have:=h.2
   rw [e] at this
   exact txl_ne _ _ _ _ this
  | none =>
   refine .inr ⟨rfl, ?_⟩
   by_cases hz : s = ⟨#[]⟩
   ·exact .inl hz
   refine .inr ⟨hz, fun e => ?_⟩
   rw [ht] at e
   have:=txAns_some (txt_isTx e hz)
   rw [hl, hq] at this
   cases this
 rw [← ht] at T
 rw [hl]
 clear ht HY e0 e1 e2 e3 g0 g1 l0 l1 l2 hl hsl hll
 obtain ⟨p0, hp0⟩ : ∃ p, p = nn x0:=⟨_, rfl⟩
 obtain ⟨p1, hp1⟩ : ∃ p, p = nn x1:=⟨_, rfl⟩
 obtain ⟨p2, hp2⟩ : ∃ p, p = nn x2:=⟨_, rfl⟩
 obtain ⟨p3, hp3⟩ : ∃ p, p = nn x3:=⟨_, rfl⟩
 rw [← hp0] at M0 T HA
 rw [← hp1] at M1 T HA
 rw [← hp2] at M2 T HA
 rw [← hp3] at M3 T HA
 clear hp0 hp1 hp2 hp3
 go_enter Tryz.func134, Tryz.ntmps134
 go_wp2_with fail
 refine (K0.out _).mono ?_
 rintro e w1 ⟨rfl, b1⟩
 have z1:=(cells4_new w 0 0 0 0 132).below b1 (by simp)
 have f1:=frozen_below b1 (g:=w.heap.size) (by simp) (fun j => by simp [go_sem])
 have c1 : Below w.heap.size w w1:=((Below.refl _ _).alloc (Nat.le_refl _) _).trans (b1.mono (by simp))
 have s1:=b1.size
 simp at s1
 clear b1
 go_wp2_with fail
 refine (K1.out _).mono ?_
 rintro e w2 ⟨rfl, b2⟩
 have z2:=z1.below b2 (by omega)
 have f2:=frozen_below b2 (g:=w.heap.size) (by omega) f1
 have c2:=c1.trans (b2.mono (by omega))
 have s2:=b2.size
 clear b2 z1 f1 c1
 go_wp2_with fail
 refine (K2.out _).mono ?_
 rintro e w3 ⟨rfl, b3⟩
 have z3:=z2.below b3 (by omega)
 have f3:=frozen_below b3 (g:=w.heap.size) (by omega) f2
 have c3:=c2.trans (b3.mono (by omega))
 have s3:=b3.size
 clear b3 z2 f2 c2
 have bn : Below w3.heap.size w3 (w3.alloc (.cells #[.int .i64 0,.int .i64 0,.int .i64 0,.int .i64 0] 132)):=(Below.refl _ _).alloc (Nat.le_refl _) _
 have X0:=cells4_new w3 0 0 0 0 132
 have Y0 : ∀ j, (w3.alloc (.cells #[.int .i64 0,.int .i64 0,.int .i64 0,.int .i64 0] 132)).frozen? ⟨w3.heap.size, j, none⟩ = false:=fun j => by simp [go_sem]
 have Z0:=z3.below bn (by omega)
 have F0:=frozen_below bn (g:=w.heap.size) (by omega) f3
 have C0:=c3.trans (bn.mono (by omega))
 have S0 : w3.heap.size + 1 ≤ (w3.alloc (.cells #[.int .i64 0,.int .i64 0,.int .i64 0,.int .i64 0] 132)).heap.size:=by simp
 clear bn z3 f3 c3
 have P:=hide (And.intro X0 (And.intro Y0 (And.intro Z0 (And.intro F0 (And.intro C0 S0)))))
 clear X0 Y0 Z0 F0 C0 S0
 go_wp2_with fail
 refine (M0.out _).mono ?_
 rintro e w4 ⟨rfl, b⟩
 obtain ⟨X, Y, Z, F, C, S⟩:=P.out
 clear P
 have S':=b.size
 have X':=X.below b (by omega)
 have Y':=frozen_below b (by omega) Y
 have Z':=Z.below b (by omega)
 have F':=frozen_below b (g:=w.heap.size) (by omega) F
 have C':=C.trans (b.mono (by omega))
 have P:=hide (And.intro (c4_set0 X' (p0 : Int)) (And.intro (fr_set (g:=w3.heap.size) (j:=0) (v:=.int .i64 (p0 : Int)) Y') (And.intro (c4_other (g:=w3.heap.size) Z' (by omega) 0 (.int .i64 (p0 : Int))) (And.intro (fr_set (g:=w3.heap.size) (j:=0) (v:=.int .i64 (p0 : Int)) F') (And.intro (C'.setCell (p:=⟨w3.heap.size, 0, none⟩) (by show w.heap.size ≤ w3.heap.size; omega) (.int .i64 (p0 : Int))) (show w3.heap.size + 1 ≤ (w4.setCell ⟨w3.heap.size, 0, none⟩ (.int .i64 (p0 : Int))).heap.size by simp; omega))))))
 obtain ⟨y0, y1, y2, y3⟩:=X'
 have yf:=Y' 0
 have S'' : w3.heap.size + 1 ≤ w4.heap.size:=by omega
 clear X Y Z F C S b Y' Z' F' C' S'
 go_wp2_with fail
 refine (M1.out _).mono ?_
 rintro e w5 ⟨rfl, b⟩
 obtain ⟨X, Y, Z, F, C, S⟩:=P.out
 clear P
 have S':=b.size
 have X':=X.below b (by omega)
 have Y':=frozen_below b (by omega) Y
 have Z':=Z.below b (by omega)
 have F':=frozen_below b (g:=w.heap.size) (by omega) F
 have C':=C.trans (b.mono (by omega))
 have P:=hide (And.intro (c4_set1 X' (p1 : Int)) (And.intro (fr_set (g:=w3.heap.size) (j:=1) (v:=.int .i64 (p1 : Int)) Y') (And.intro (c4_other (g:=w3.heap.size) Z' (by omega) 1 (.int .i64 (p1 : Int))) (And.intro (fr_set (g:=w3.heap.size) (j:=1) (v:=.int .i64 (p1 : Int)) F') (And.intro (C'.setCell (p:=⟨w3.heap.size, 1, none⟩) (by show w.heap.size ≤ w3.heap.size; omega) (.int .i64 (p1 : Int))) (show w3.heap.size + 1 ≤ (w5.setCell ⟨w3.heap.size, 1, none⟩ (.int .i64 (p1 : Int))).heap.size by simp; omega))))))
 obtain ⟨y0, y1, y2, y3⟩:=X'
 have yf:=Y' 1
 have S'' : w3.heap.size + 1 ≤ w5.heap.size:=by omega
 clear X Y Z F C S b Y' Z' F' C' S'
 go_wp2_with fail
 refine (M2.out _).mono ?_
 rintro e w6 ⟨rfl, b⟩
 obtain ⟨X, Y, Z, F, C, S⟩:=P.out
 clear P
 have S':=b.size
 have X':=X.below b (by omega)
 have Y':=frozen_below b (by omega) Y
 have Z':=Z.below b (by omega)
 have F':=frozen_below b (g:=w.heap.size) (by omega) F
 have C':=C.trans (b.mono (by omega))
 have P:=hide (And.intro (c4_set2 X' (p2 : Int)) (And.intro (fr_set (g:=w3.heap.size) (j:=2) (v:=.int .i64 (p2 : Int)) Y') (And.intro (c4_other (g:=w3.heap.size) Z' (by omega) 2 (.int .i64 (p2 : Int))) (And.intro (fr_set (g:=w3.heap.size) (j:=2) (v:=.int .i64 (p2 : Int)) F') (And.intro (C'.setCell (p:=⟨w3.heap.size, 2, none⟩) (by show w.heap.size ≤ w3.heap.size; omega) (.int .i64 (p2 : Int))) (show w3.heap.size + 1 ≤ (w6.setCell ⟨w3.heap.size, 2, none⟩ (.int .i64 (p2 : Int))).heap.size by simp; omega))))))
 obtain ⟨y0, y1, y2, y3⟩:=X'
 have yf:=Y' 2
 have S'' : w3.heap.size + 1 ≤ w6.heap.size:=by omega
 clear X Y Z F C S b Y' Z' F' C' S'
 go_wp2_with fail
 refine (M3.out _).mono ?_
 rintro e w7 ⟨rfl, b⟩
 obtain ⟨X, Y, Z, F, C, S⟩:=P.out
 clear P
 have S':=b.size
 have X':=X.below b (by omega)
 have Y':=frozen_below b (by omega) Y
 have Z':=Z.below b (by omega)
 have F':=frozen_below b (g:=w.heap.size) (by omega) F
 have C':=C.trans (b.mono (by omega))
 have P:=hide (And.intro (c4_set3 X' (p3 : Int)) (And.intro (fr_set (g:=w3.heap.size) (j:=3) (v:=.int .i64 (p3 : Int)) Y') (And.intro (c4_other (g:=w3.heap.size) Z' (by omega) 3 (.int .i64 (p3 : Int))) (And.intro (fr_set (g:=w3.heap.size) (j:=3) (v:=.int .i64 (p3 : Int)) F') (And.intro (C'.setCell (p:=⟨w3.heap.size, 3, none⟩) (by show w.heap.size ≤ w3.heap.size; omega) (.int .i64 (p3 : Int))) (show w3.heap.size + 1 ≤ (w7.setCell ⟨w3.heap.size, 3, none⟩ (.int .i64 (p3 : Int))).heap.size by simp; omega))))))
 obtain ⟨y0, y1, y2, y3⟩:=X'
 have yf:=Y' 3
 have S'' : w3.heap.size + 1 ≤ w7.heap.size:=by omega
 clear X Y Z F C S b Y' Z' F' C' S'
 rcases HA.out with ⟨hz, hts, hans⟩ | ⟨hans, hz | ⟨hz, hts⟩⟩
 ·have hne:=str_ne hz
  have hne2 : (s.toList == []) = false:=by
   rw [beq_eq_false_iff_ne]; intro e; apply hz; apply ByteArray.ext; apply Array.toList_inj.1; rw [ByteArray.toList_eq] at e; exact e
  obtain ⟨n0, n1, n2, n3⟩:=P.out.1
  rw [hts] at T
  go_wp2_with fail
  refine (T.out _).mono ?_
  rintro e w8 ⟨rfl, b8⟩
  obtain ⟨X, Y, Z, F, C, S⟩:=P.out
  obtain ⟨m0, m1, m2, m3⟩:=Z.below b8 (by omega)
  have mf:=frozen_below b8 (g:=w.heap.size) (by omega) F
  obtain ⟨k0, k1, k2, k3⟩:=X.below b8 (by omega)
  have C8:=C.trans (b8.mono (by omega))
  clear P X Y Z F C S b8 n0 n1 n2 n3
  go_wp2
  refine bodyPost_ret (v := .tuple #[txv p0 p1 p2 p3,.bool true]) (by simp [results, Tryz.results134, go_sem, m0, m1, m2, m3]) rfl ?_
  exact ⟨by rw [hans]; rfl, (((C8.setCell (Nat.le_refl _) _).setCell (Nat.le_refl _) _).setCell (Nat.le_refl _) _).setCell (Nat.le_refl _) _⟩
 ·subst hz
  obtain ⟨X, Y, Z, F, C, S⟩:=P.out
  obtain ⟨n0, n1, n2, n3⟩:=X
  obtain ⟨m0, m1, m2, m3⟩:=Z
  clear P
  go_wp2
  refine bodyPost_ret (v := .tuple #[txv 0 0 0 0,.bool false]) (by simp [results, Tryz.results134, go_sem, m0, m1, m2, m3]) rfl ?_
  exact ⟨by rw [hans]; rfl, (((C.setCell (Nat.le_refl _) _).setCell (Nat.le_refl _) _).setCell (Nat.le_refl _) _).setCell (Nat.le_refl _) _⟩
 have hne:=str_ne hz
 have hne2 : (s.toList == []) = false:=by
  rw [beq_eq_false_iff_ne]; intro e; apply hz; apply ByteArray.ext; apply Array.toList_inj.1; rw [ByteArray.toList_eq] at e; exact e
 have hnt:=str_ne hts
 obtain ⟨n0, n1, n2, n3⟩:=P.out.1
 go_wp2_with fail
 refine (T.out _).mono ?_
 rintro e w8 ⟨rfl, b8⟩
 obtain ⟨X, Y, Z, F, C, S⟩:=P.out
 obtain ⟨m0, m1, m2, m3⟩:=Z.below b8 (by omega)
 have mf:=frozen_below b8 (g:=w.heap.size) (by omega) F
 obtain ⟨k0, k1, k2, k3⟩:=X.below b8 (by omega)
 have C8:=C.trans (b8.mono (by omega))
 clear P X Y Z F C S b8 n0 n1 n2 n3
 go_wp2
 refine bodyPost_ret (v := .tuple #[txv 0 0 0 0,.bool false]) (by simp [results, Tryz.results134, go_sem, m0, m1, m2, m3]) rfl ?_
 exact ⟨by rw [hans]; rfl, (((C8.setCell (Nat.le_refl _) _).setCell (Nat.le_refl _) _).setCell (Nat.le_refl _) _).setCell (Nat.le_refl _) _⟩
end
end Go.Proofs.YtjkcphnohhpihaaGreatDoor
namespace Go.Proofs
open Go.Shelf
def Tryz.laysM316_ren : Go.Shelf.Ren := ⟨fun | 316 => 118 | n => n, fun | 9 => 9 | 3 => 3 | 4 => 4 | 37 => 43 | 0 => 0 | 127 => 169 | 5 => 5 | n => n, fun | n => n⟩
theorem Tryz.laysM316 : Go.Proofs.LaysM.n316 Tryz.prog Tryz.laysM316_ren := {
 mixed := by kernel_rfl
 f316 := Tryz.func118.trans (congrArg some (by kernel_rfl))
 t0 := Tryz.underlying0
 a0 := Tryz.isAgg0
 z0 := Tryz.sizeOf0
 v0 := Tryz.zeroValue0
 t3 := Tryz.underlying3
 a3 := Tryz.isAgg3
 z3 := Tryz.sizeOf3
 v3 := Tryz.zeroValue3
 t4 := Tryz.underlying4
 a4 := Tryz.isAgg4
 z4 := Tryz.sizeOf4
 v4 := Tryz.zeroValue4
 t9 := Tryz.underlying9
 a9 := Tryz.isAgg9
 z9 := Tryz.sizeOf9
 v9 := Tryz.zeroValue9
 t37 := Tryz.underlying43
 a37 := Tryz.isAgg43
 z37 := Tryz.sizeOf43
 v37 := Tryz.zeroValue43
 t127 := Tryz.underlying169
 a127 := Tryz.isAgg169
 z127 := Tryz.sizeOf169
 v127 := Tryz.zeroValue169
 t5 := Tryz.underlying5
 a5 := Tryz.isAgg5
 z5 := Tryz.sizeOf5
 v5 := Tryz.zeroValue5
 i0 := by kernel_rfl
 i3 := by kernel_rfl
 i4 := by kernel_rfl
 i5 := by kernel_rfl
 i9 := by kernel_rfl
 i37 := by kernel_rfl
 i127 := by kernel_rfl }
open Go.RowKit in
theorem Tryz.stringslite_Clone (s : ByteArray) (w : World) (hlim : s.size ≤ 281474976710656) :
 Calls Tryz.prog 118 #[.string s] w fun e w' => e = .returned (.string s) ∧ Below w.heap.size w w' := Any.stringslite_Clone Tryz.laysM316 s w hlim
end Go.Proofs
namespace Go.Proofs.YtjkcphnohhpihaaGreatDoor
section
open Go.RowKit
def OS (w : World) (base : Nat) (v : Value) (xs : List ByteArray) : Prop := w.ownsRow base 9 1 v xs.length (xs.map Value.string)
theorem OS.below {w w' : World} {base : Nat} {v : Value} {xs : List ByteArray} (h : OS w base v xs) (hb : Below w.heap.size w w') : OS w' base v xs :=
 World.ownsRow.kept (row := none) h ⟨hb.os, hb.tape, hb.output, hb.size, fun k hk _ => hb.block k hk⟩ (by cases v.ownBlock <;> simp)

theorem clone_any (s : ByteArray) (w : World) (hs : s.size ≤ 281474976710656) :
 Calls Tryz.prog 98 #[.string s] w fun e w' => e = .returned (.string s) ∧ Below w.heap.size w w' := by
 go_enter Tryz.func98, Tryz.ntmps98
 go_wp2_with fail
 refine (Tryz.stringslite_Clone s _ hs).mono ?_
 rintro e w' ⟨rfl, b⟩
 go_wp2
 go_ret
 exact ⟨rfl, b⟩
end
section

def pcs (s : ByteArray) (b : Int) : Nat → List ByteArray × Nat
 | 0 => ([], 0)
 | k + 1 => if ((s.data.toList.getD k 0).toNat : Int) = b then ((pcs s b k).1 ++ [s.extract (pcs s b k).2 k], k + 1) else pcs s b k
theorem pcs_le (s : ByteArray) (b : Int) (k : Nat) : (pcs s b k).2 ≤ k ∧ (pcs s b k).1.length ≤ k := by
 induction k with
 | zero => simp [pcs]
 | succ k ih =>
  rw [pcs]; split
  ·simp; omega
  omega
def splitAns (s : ByteArray) (b : Int) : List ByteArray := (pcs s b s.size).1 ++ [s.extract (pcs s b s.size).2 s.size]
theorem splitAns_len (s : ByteArray) (b : Int) : (splitAns s b).length ≤ s.size + 1 := by
 have:=(pcs_le s b s.size).2
 simp [splitAns]; omega
theorem pcs_hit (s : ByteArray) (b : Int) (k : Nat) (h : k < s.size) (hb : (s[k].toNat : Int) = b) : pcs s b (k + 1) = ((pcs s b k).1 ++ [s.extract (pcs s b k).2 k], k + 1) := by
 rw [pcs, if_pos]
 rw [← hb]
 have : s.data.toList.getD k 0 = s[k]:=by rw [List.getD_eq_getElem?_getD, List.getElem?_eq_getElem (by simpa using h)]; rfl
 rw [this]
theorem pcs_miss (s : ByteArray) (b : Int) (k : Nat) (h : k < s.size) (hb : (s[k].toNat : Int) ≠ b) : pcs s b (k + 1) = pcs s b k := by
 rw [pcs, if_neg]
 have : s.data.toList.getD k 0 = s[k]:=by rw [List.getD_eq_getElem?_getD, List.getElem?_eq_getElem (by simpa using h)]; rfl
 rw [this]; exact hb
end
section
open Go.RowKit
theorem os_more {B : Nat} {w wr w1 : World} {v v' : Value} {o : Obj} {xs : List ByteArray} {c : ByteArray} (hB : B ≤ wr.heap.size) (ho : OS wr B v xs) (hb : Below B w wr)
 (ho' : w1.ownsRow B 9 1 v' (xs.length + 1) (xs.map Value.string ++ [.string c])) (hg : (wr.alloc o).grownBy w1 v.ownBlock) :
 OS w1 B v' (xs ++ [c]) ∧ Below B w w1 :=
 ⟨by unfold OS; simpa using ho', (hb.alloc hB o).grown hg (by simp; omega) (fun j hj => (ho.lt j hj).1)⟩

theorem ext_size (s : ByteArray) (n k : Nat) : (s.extract n k).size ≤ s.size := by rw [ByteArray.size_extract]; omega

theorem split_any (s : ByteArray) (b : Int) (w : World) (hs : s.size ≤ 33554432) :
 Calls Tryz.prog 167 #[.string s,.int .u8 b] w fun e w' => ∃ v, e = .returned v ∧ OS w' w.heap.size v (splitAns s b) ∧ Below w.heap.size w w' := by
 obtain ⟨i0, hi, hz0, hz1, hz2⟩:=info_parts Tryz.info9
 go_enter Tryz.func167, Tryz.ntmps167
 go_wp2
 go_loopw [5, 6, 7] (fun v f i wr => ∃ k n : Nat, k ≤ s.size ∧ n ≤ k ∧ i = .int .i64 k ∧ f = .int .i64 n ∧ Hid (n = (pcs s b k).2) ∧ OS wr w.heap.size v (pcs s b k).1 ∧ Below w.heap.size w wr) (fun _ _ i _ => s.size - (intOf i).toNat)
 case atStart => exact ⟨0, 0, by omega, by omega, rfl, rfl, rfl, World.ownsRow_nil _ _ _ _, Below.refl _ _⟩
 case round =>
  obtain ⟨k, n, hk, hnk, rfl, rfl, HN, ho, hb⟩:=hrel
  have hsz:=hb.size
  have hpl:=(pcs_le s b k).2
  by_cases hlt : k < s.size
  ·by_cases hbk : (s[k].toNat : Int) = b
   ·have hbk' : ((s[k].toNat : Int) == b) = true:=by simp [hbk]
    have HP:=hide (pcs_hit s b k hlt hbk)
    clear hbk
    go_wp2_with fail
    refine (clone_any _ _ (by have := ext_size s n k; omega)).mono ?_
    rintro e w1 ⟨rfl, b1⟩
    have s1:=b1.size
    have ho1:=ho.below b1
    have hb1:=hb.trans (b1.mono hsz)
    clear ho hb
    go_wp2_with (first
     | (at_builtin; refine wpList_append_own _ rfl _ _ 161 rfl w.heap.size 9 i0 (.string ⟨#[]⟩) 1 16 Tryz.underlying161 hi hz0 hz1 hz2 rfl (by decide) _ _ _ rfl (World.ownsRow.alloc ho1 _) ⟨w1.heap.size, 0, none⟩ 1 1 [.string (s.extract n k)] rfl rfl (one_cell _ _ _) (one_text _) (by unfold maxLen; omega) (by omega) (by simp; omega) ?_; intro v' w2 ho' hg' _; have R := os_more (by omega) ho1 hb1 ho' hg'; clear ho1 ho' hg' hb1))
    go_roundw
    case rel => exact ⟨k + 1, k + 1, by omega, by omega, by go_num, by go_num, by rw [HP.out]; rfl, by rw [HP.out, ← HN.out]; exact R.1, R.2⟩
    case measure => simp [intOf]; omega
   have hbk' : ((s[k].toNat : Int) == b) = false:=by simp [hbk]
   have HP:=hide (pcs_miss s b k hlt hbk)
   clear hbk
   have HO:=hide ho
   clear ho
   go_wp2
   go_roundw
   case rel => exact ⟨k + 1, n, by omega, by omega, by go_num, rfl, by rw [HP.out]; exact HN, by rw [HP.out]; exact HO.out, hb⟩
   case measure => simp [intOf]; omega
  have hks : k = s.size:=by omega
  have HA : Hid (splitAns s b = (pcs s b k).1 ++ [s.extract n s.size]):=by unfold splitAns; rw [HN.out, hks]; rfl
  clear hks
  go_wp2_with fail
  refine (clone_any _ _ (by have := ext_size s n s.size; omega)).mono ?_
  rintro e w1 ⟨rfl, b1⟩
  have s1:=b1.size
  have ho1:=ho.below b1
  have hb1:=hb.trans (b1.mono hsz)
  clear ho hb
  go_wp2_with (first
   | (at_builtin; refine wpList_append_own _ rfl _ _ 161 rfl w.heap.size 9 i0 (.string ⟨#[]⟩) 1 16 Tryz.underlying161 hi hz0 hz1 hz2 rfl (by decide) _ _ _ rfl (World.ownsRow.alloc ho1 _) ⟨w1.heap.size, 0, none⟩ 1 1 [.string (s.extract n s.size)] rfl rfl (one_cell _ _ _) (one_text _) (by unfold maxLen; omega) (by omega) (by simp; omega) ?_; intro v' w2 ho' hg' _; have R := os_more (by omega) ho1 hb1 ho' hg'; clear ho1 ho' hg' hb1))
  go_ret
  exact ⟨_, rfl, by rw [HA.out]; exact R.1, R.2⟩
theorem specSplit_any (s : ByteArray) (b : Int) (w : World) (hs : s.size ≤ 33554432) :
 Calls Tryz.prog 125 #[.string s,.int .u8 b] w fun e w' => ∃ v, e = .returned v ∧ OS w' w.heap.size v (splitAns s b) ∧ Below w.heap.size w w' := by
 obtain ⟨i0, hi, hz0, hz1, hz2⟩:=info_parts Tryz.info9
 go_enter Tryz.func125, Tryz.ntmps125
 go_wp2
 go_loopw [5, 6, 7] (fun v f i wr => ∃ k : Nat, k ≤ s.size + 1 ∧ i = .int .i64 k ∧ Below w.heap.size w wr ∧ ((k ≤ s.size ∧ ∃ n : Nat, n ≤ k ∧ f = .int .i64 n ∧ Hid (n = (pcs s b k).2) ∧ OS wr w.heap.size v (pcs s b k).1) ∨ (k = s.size + 1 ∧ OS wr w.heap.size v (splitAns s b)))) (fun _ _ i _ => s.size + 1 - (intOf i).toNat)
 case atStart => exact ⟨0, by omega, rfl, (Below.refl _ _).alloc (Nat.le_refl _) _,.inl ⟨by omega, 0, by omega, rfl, rfl, World.ownsRow_lit w #[] 0 (Nat.le_refl _) (by unfold maxLen; omega) rfl⟩⟩
 case round =>
  obtain ⟨k, hk, rfl, hb, hcase⟩:=hrel
  have hsz:=hb.size
  rcases hcase with ⟨hks, n, hnk, rfl, HN, ho⟩ | ⟨rfl, ho⟩
  ·have hpl:=(pcs_le s b k).2
   by_cases hlt : k < s.size
   ·have hke : ((k : Int) == (s.size : Int)) = false:=by simp; omega
    by_cases hbk : (s[k].toNat : Int) = b
    ·have hbk' : ((s[k].toNat : Int) == b) = true:=by simp [hbk]
     have HP:=hide (pcs_hit s b k hlt hbk)
     clear hbk
     go_wp2_with (first
      | (at_builtin; refine wpList_append_own _ rfl _ _ 161 rfl w.heap.size 9 i0 (.string ⟨#[]⟩) 1 16 Tryz.underlying161 hi hz0 hz1 hz2 rfl (by decide) _ _ _ rfl (World.ownsRow.alloc ho _) ⟨wr.heap.size, 0, none⟩ 1 1 [.string (s.extract n k)] rfl rfl (one_cell _ _ _) (one_text _) (by unfold maxLen; omega) (by omega) (by simp; omega) ?_; intro v' w2 ho' hg' _; have R := os_more hsz ho hb ho' hg'; clear ho ho' hg' hb))
     go_roundw
     case rel => exact ⟨k + 1, by omega, by go_num, R.2, .inl ⟨by omega, k + 1, by omega, by go_num, by rw [HP.out]; rfl, by rw [HP.out, ← HN.out]; exact R.1⟩⟩
     case measure => simp [intOf]; omega
    have hbk' : ((s[k].toNat : Int) == b) = false:=by simp [hbk]
    have HP:=hide (pcs_miss s b k hlt hbk)
    clear hbk
    have HO:=hide ho
    clear ho
    go_wp2
    go_roundw
    case rel => exact ⟨k + 1, by omega, by go_num, hb, .inl ⟨by omega, n, by omega, rfl, by rw [HP.out]; exact HN, by rw [HP.out]; exact HO.out⟩⟩
    case measure => simp [intOf]; omega
   have hks' : k = s.size:=by omega
   have hke : ((k : Int) == (s.size : Int)) = true:=by simp; omega
   have HA : Hid (splitAns s b = (pcs s b k).1 ++ [s.extract n k]):=by unfold splitAns; rw [HN.out, hks']; rfl
   have HK:=hide hks'
   clear hks'
   go_wp2_with (first
    | (at_builtin; refine wpList_append_own _ rfl _ _ 161 rfl w.heap.size 9 i0 (.string ⟨#[]⟩) 1 16 Tryz.underlying161 hi hz0 hz1 hz2 rfl (by decide) _ _ _ rfl (World.ownsRow.alloc ho _) ⟨wr.heap.size, 0, none⟩ 1 1 [.string (s.extract n k)] rfl rfl (one_cell _ _ _) (one_text _) (by unfold maxLen; omega) (by omega) (by simp; omega) ?_; intro v' w2 ho' hg' _; have R := os_more hsz ho hb ho' hg'; clear ho ho' hg' hb))
   go_roundw
   case rel => exact ⟨k + 1, by omega, by go_num, R.2, .inr ⟨by rw [HK.out], by rw [HA.out]; exact R.1⟩⟩
   case measure => simp [intOf]; omega
  have HO:=hide ho
  clear ho
  go_wp2
  go_ret
  exact ⟨_, rfl, HO.out, hb⟩
end
end Go.Proofs.YtjkcphnohhpihaaGreatDoor
