/- Lemmas, as stated. -/
import Derived.Test.YtjdchloechcclaaGreatDoorSNAM
set_option maxRecDepth 100000
set_option maxHeartbeats 4000000
set_option linter.unusedSectionVars false
namespace Go.Proofs.YtjdchloechcclaaGreatDoor
section
open Go.RowKit
variable [∀ (a b c d : Int), Decidable (Ok4 a b c d)]
variable [∀ (a b c d : Nat), Decidable (okN a b c d)]
theorem drewN_below (w : World) (n : Nat) : Below w.heap.size w (w.drewN n) := ⟨rfl, rfl, rfl, Nat.le_refl _, fun _ _ => rfl⟩
def cutS (m : UInt8) (l : List UInt8) : List UInt8 × List UInt8 × Bool := if m ∈ l then (hd m l, tl m l, true) else ([], [], false)

theorem l2Cut_any (m : UInt8) (b : Int) (hb : (m.toNat : Int) = b) (s : ByteArray) (w : World) (hs : s.size ≤ 33554432) :
 Calls Tryz.prog 192 #[.string s,.int .u8 b] w fun e w' => e = .returned (.tuple #[.string (toB (cutS m s.data.toList).1),.string (toB (cutS m s.data.toList).2.1),.bool (cutS m s.data.toList).2.2]) ∧ Below w.heap.size w w' := by
 go_enter Tryz.func192, Tryz.ntmps192
 go_wp2
 go_loop [7] (fun i => ∃ k : Nat, k ≤ s.size ∧ i = .int .i64 k ∧ Hid (m ∉ s.data.toList.take k)) (fun i => s.size - (intOf i).toNat)
 case atStart => exact ⟨0, by omega, rfl, hide (by simp)⟩
 case round =>
  obtain ⟨k, hk, rfl, HN⟩:=hrel
  by_cases hlt : k < s.size
  ·by_cases hbk : s[k] = m
   ·have hbk' : ((s[k].toNat : Int) == b) = true:=by rw [hbk, hb]; simp
    have HA : Hid (cutS m s.data.toList = ((s.extract 0 k).data.toList, (s.extract (k + 1) s.size).data.toList, true)):=by
     have hj : s.data.toList[k]? = some m:=by rw [List.getElem?_eq_getElem (by simpa using hlt), ← hbk]; rfl
     obtain ⟨e1, e2⟩:=hit_hd HN.out hj
     have hm : m ∈ s.data.toList:=List.mem_of_getElem? hj
     show cutS m s.data.toList = _
     unfold cutS
     rw [if_pos hm, e1, e2, ext_list, ext_list, List.take_of_length_le (l := s.data.toList.drop (k + 1)) (by simp)]
     simp
    have hk1 : k + 1 ≤ s.size:=by omega
    clear hbk HN
    go_wp2
    go_quiet (fail)
    go_wp2
    go_ret3
    exact ⟨by rw [HA.out]; rfl, drewN_below _ _⟩
   have hbk' : ((s[k].toNat : Int) == b) = false:=by
    rw [← hb]; simp; intro e; exact hbk (UInt8.toNat_inj.1 (by omega))
   have HN' : Hid (m ∉ s.data.toList.take (k + 1)):=by
    show _ ∉ _
    rw [take_snoc s k hlt, List.mem_append]
    rintro (h | h)
    ·exact HN.out h
    simp at h; exact hbk h.symm
   clear hbk HN
   go_wp2
   go_round
   case rel => exact ⟨k + 1, by omega, by go_num, HN'⟩
   case measure => simp [intOf]; omega
  have hks : k = s.size:=by omega
  have HA : Hid (cutS m s.data.toList = ([], [], false)):=by
   have:=HN.out
   rw [hks, List.take_of_length_le (by rw [len_data]; omega)] at this
   show cutS m s.data.toList = _
   unfold cutS; rw [if_neg this]
  clear HN hks
  go_wp2
  go_ret3
  exact ⟨by rw [HA.out]; rfl, Below.refl _ _⟩

theorem cutS_len (m : UInt8) (l : List UInt8) : (cutS m l).1.length ≤ l.length ∧ (cutS m l).2.1.length ≤ l.length := by
 unfold cutS
 split
 ·exact ⟨hd_len m l, tl_len m l⟩
 simp
theorem dg_toB (n : Nat) : dg (n : Int) = toB (Lib.decDigits n) := by unfold dg toB; rw [itoa_nat]
theorem txs_toB (a b c d : Nat) : txs a b c d = toB (txl a b c d) := by
 unfold txs
 rw [dg_toB, dg_toB, dg_toB, dg_toB]
 apply ByteArray.ext
 apply Array.toList_inj.1
 simp [toB, txl]
theorem txl_ne (a b c d : Nat) : txl a b c d ≠ [] := by unfold txl; simp
theorem toB_data (s : ByteArray) : toB s.data.toList = s := by
 apply ByteArray.ext; apply Array.toList_inj.1; rfl
theorem isTx_txt {s : ByteArray} {a b c d : Nat} (h : IsTx s.data.toList a b c d) : txt (a : Int) b c d = s := by
 unfold txt
 rw [if_pos (ok_cast.2 h.1), txs_toB, h.2, toB_data]
theorem txt_isTx {s : ByteArray} {a b c d : Nat} (h : txt (a : Int) b c d = s) (hs : s ≠ ⟨#[]⟩) : IsTx s.data.toList a b c d := by
 unfold txt at h
 split at h
 ·rename_i hk
  refine ⟨ok_cast.1 hk, ?_⟩
  rw [txs_toB] at h
  rw [← h]; rfl
 exact absurd h.symm hs
theorem mem_of_tl {m : UInt8} {l : List UInt8} (h : tl m l ≠ []) : m ∈ l := by rw [hd_tl h]; simp
theorem cuts_of {l : List UInt8} {a b c d : Nat} (h : IsTx l a b c d) : (cutS 62 l).1 = f0 l ∧ (cutS 58 (cutS 62 l).2.1).1 = f1 l ∧ (cutS 35 (cutS 58 (cutS 62 l).2.1).2.1).1 = f2 l ∧ (cutS 35 (cutS 58 (cutS 62 l).2.1).2.1).2.1 = f3 l := by
 obtain ⟨e0, e1, e2, e3⟩:=fields_of h
 have n1:=digits_ne b
 have n2:=digits_ne c
 have n3:=digits_ne d
 rw [← e1] at n1; rw [← e2] at n2; rw [← e3] at n3
 unfold f0 f1 f2 f3 at *
 have t0 : tl 62 l ≠ []:=fun e => n1 (by rw [e, hd_nil])
 have t1 : tl 58 (tl 62 l) ≠ []:=fun e => n2 (by rw [e, hd_nil])
 have c0 : cutS 62 l = (hd 62 l, tl 62 l, true):=by unfold cutS; rw [if_pos (mem_of_tl t0)]
 have c1 : cutS 58 (tl 62 l) = (hd 58 (tl 62 l), tl 58 (tl 62 l), true):=by unfold cutS; rw [if_pos (mem_of_tl t1)]
 have c2 : cutS 35 (tl 58 (tl 62 l)) = (hd 35 (tl 58 (tl 62 l)), tl 35 (tl 58 (tl 62 l)), true):=by unfold cutS; rw [if_pos (mem_of_tl n3)]
 refine ⟨by rw [c0], by rw [c0]; exact congrArg Prod.fst c1, ?_, ?_⟩
 ·rw [c0]; show (cutS 35 (cutS 58 (tl 62 l)).2.1).1 = _; rw [c1]; exact congrArg Prod.fst c2
 rw [c0]; show (cutS 35 (cutS 58 (tl 62 l)).2.1).2.1 = _; rw [c1]; exact congrArg (fun x => x.2.1) c2
theorem l2Cut_B (m : UInt8) (b : Int) (hb : (m.toNat : Int) = b) (l : List UInt8) (w : World) (hs : l.length ≤ 33554432) :
 Calls Tryz.prog 192 #[.string (toB l),.int .u8 b] w fun e w' => e = .returned (.tuple #[.string (toB (cutS m l).1),.string (toB (cutS m l).2.1),.bool (cutS m l).2.2]) ∧ Below w.heap.size w w' := by
 have:=l2Cut_any m b hb (toB l) w (by rw [toB_size]; exact hs)
 rwa [toB_list] at this
def nn (x : List UInt8) : Nat := (numOf x).getD 0
theorem nans_nn (x : List UInt8) : nans (numOf x) = (nn x : Int) := by unfold nn nans; cases numOf x <;> rfl
theorem specNumber_B (x : List UInt8) (w : World) (hx : x.length ≤ 33554432) :
 Calls Tryz.prog 193 #[.string (toB x)] w fun e w' => e = .returned (.tuple #[.int .i64 (nn x),.bool (numOf x).isSome]) ∧ Below w.heap.size w w' := by
 have:=specNumber_any (toB x) w (by rw [toB_size]; unfold maxLen; omega)
 rwa [toB_list, nans_nn] at this

theorem c4_other {w : World} {g g' : Nat} {a b c d : Int} (h : Cells4 w g' a b c d) (hg : g' ≠ g) (j : Nat) (v : Value) : Cells4 (w.setCell ⟨g, j, none⟩ v) g' a b c d :=
 ⟨(World.cell?_setCell_other _ _ _ _ (fun e => hg (congrArg Addr.block e.symm))).trans h.1, (World.cell?_setCell_other _ _ _ _ (fun e => hg (congrArg Addr.block e.symm))).trans h.2.1, (World.cell?_setCell_other _ _ _ _ (fun e => hg (congrArg Addr.block e.symm))).trans h.2.2.1, (World.cell?_setCell_other _ _ _ _ (fun e => hg (congrArg Addr.block e.symm))).trans h.2.2.2⟩
theorem c4_set0 {w : World} {g : Nat} {a b c d : Int} (h : Cells4 w g a b c d) (p : Int) : Cells4 (w.setCell ⟨g, 0, none⟩ (.int .i64 p)) g p b c d :=
 ⟨World.cell?_setCell_same _ _ _ h.1, (World.cell?_setCell_other _ _ _ _ (by simp)).trans h.2.1, (World.cell?_setCell_other _ _ _ _ (by simp)).trans h.2.2.1, (World.cell?_setCell_other _ _ _ _ (by simp)).trans h.2.2.2⟩
theorem c4_set1 {w : World} {g : Nat} {a b c d : Int} (h : Cells4 w g a b c d) (p : Int) : Cells4 (w.setCell ⟨g, 1, none⟩ (.int .i64 p)) g a p c d :=
 ⟨(World.cell?_setCell_other _ _ _ _ (by simp)).trans h.1, World.cell?_setCell_same _ _ _ h.2.1, (World.cell?_setCell_other _ _ _ _ (by simp)).trans h.2.2.1, (World.cell?_setCell_other _ _ _ _ (by simp)).trans h.2.2.2⟩
theorem c4_set2 {w : World} {g : Nat} {a b c d : Int} (h : Cells4 w g a b c d) (p : Int) : Cells4 (w.setCell ⟨g, 2, none⟩ (.int .i64 p)) g a b p d :=
 ⟨(World.cell?_setCell_other _ _ _ _ (by simp)).trans h.1, (World.cell?_setCell_other _ _ _ _ (by simp)).trans h.2.1, World.cell?_setCell_same _ _ _ h.2.2.1, (World.cell?_setCell_other _ _ _ _ (by simp)).trans h.2.2.2⟩
theorem c4_set3 {w : World} {g : Nat} {a b c d : Int} (h : Cells4 w g a b c d) (p : Int) : Cells4 (w.setCell ⟨g, 3, none⟩ (.int .i64 p)) g a b c p :=
 ⟨(World.cell?_setCell_other _ _ _ _ (by simp)).trans h.1, (World.cell?_setCell_other _ _ _ _ (by simp)).trans h.2.1, (World.cell?_setCell_other _ _ _ _ (by simp)).trans h.2.2.1, World.cell?_setCell_same _ _ _ h.2.2.2⟩
theorem fr_set {w : World} {g g' j : Nat} {v : Value} (h : ∀ i, w.frozen? ⟨g', i, none⟩ = false) : ∀ i, (w.setCell ⟨g, j, none⟩ v).frozen? ⟨g', i, none⟩ = false := fun i => by rw [World.frozen?_setCell]; exact h i

theorem specTxOf (s : ByteArray) (w : World) (hs : s.size ≤ 33554432) :
 Calls Tryz.prog 221 #[.string s] w fun e w' => e = .returned (txval (txAns s.data.toList)) ∧ Below w.heap.size w w' := by
 obtain ⟨l, hl⟩ : ∃ l, s.data.toList = l:=⟨_, rfl⟩
 have hll : l.length ≤ 33554432:=by rw [← hl]; simpa using hs
 have hsl : s = toB l:=by rw [← hl, toB_data]
 obtain ⟨x0, e0⟩ : ∃ x, x = (cutS 62 l).1:=⟨_, rfl⟩
 obtain ⟨r0, g0⟩ : ∃ x, x = (cutS 62 l).2.1:=⟨_, rfl⟩
 obtain ⟨x1, e1⟩ : ∃ x, x = (cutS 58 r0).1:=⟨_, rfl⟩
 obtain ⟨r1, g1⟩ : ∃ x, x = (cutS 58 r0).2.1:=⟨_, rfl⟩
 obtain ⟨x2, e2⟩ : ∃ x, x = (cutS 35 r1).1:=⟨_, rfl⟩
 obtain ⟨x3, e3⟩ : ∃ x, x = (cutS 35 r1).2.1:=⟨_, rfl⟩
 have l0:=cutS_len 62 l
 rw [← e0, ← g0] at l0
 have l1:=cutS_len 58 r0
 rw [← e1, ← g1] at l1
 have l2:=cutS_len 35 r1
 rw [← e2, ← e3] at l2
 have K0:=hide fun w => l2Cut_B 62 62 rfl l w hll
 have K1:=hide fun w => l2Cut_B 58 58 rfl r0 w (by omega)
 have K2:=hide fun w => l2Cut_B 35 35 rfl r1 w (by omega)
 rw [← e0, ← g0, ← hsl] at K0
 rw [← e1, ← g1] at K1
 rw [← e2, ← e3] at K2
 have M0:=hide fun w => specNumber_B x0 w (by omega)
 have M1:=hide fun w => specNumber_B x1 w (by omega)
 have M2:=hide fun w => specNumber_B x2 w (by omega)
 have M3:=hide fun w => specNumber_B x3 w (by omega)
 have T:=hide fun w => specTxText (nn x0 : Int) (nn x1) (nn x2) (nn x3) w
 have HY : Hid (∀ a b c d, IsTx l a b c d → nn x0 = a ∧ nn x1 = b ∧ nn x2 = c ∧ nn x3 = d):=by
  intro a b c d h
  obtain ⟨c0, c1, c2, c3⟩:=cuts_of h
  obtain ⟨n0, n1, n2, n3⟩:=nums_of h
  rw [e3, e2, e1, e0, g1, g0, c0, c1, c2, c3]
  unfold nn
  rw [n0, n1, n2, n3]
  exact ⟨rfl, rfl, rfl, rfl⟩
 obtain ⟨t, ht⟩ : ∃ t, t = txt (nn x0 : Int) (nn x1) (nn x2) (nn x3):=⟨_, rfl⟩
 have HA : Hid ((s ≠ ⟨#[]⟩ ∧ t = s ∧ txAns l = some (nn x0, nn x1, nn x2, nn x3)) ∨ (txAns l = none ∧ (s = ⟨#[]⟩ ∨ (s ≠ ⟨#[]⟩ ∧ t ≠ s)))):=by
  show _ ∨ _
  cases hq : txAns l with
  | some q =>
   obtain ⟨a, b, c, d⟩:=q
   have h:=txAns_is hq
   obtain ⟨rfl, rfl, rfl, rfl⟩:=HY.out a b c d h
   rw [← hl] at h
   refine .inl ⟨?_, by rw [ht]; exact isTx_txt h, rfl⟩
   intro e
   have:=h.2
   rw [e] at this
   exact txl_ne _ _ _ _ this
  | none =>
   refine .inr ⟨rfl, ?_⟩
   by_cases hz : s = ⟨#[]⟩
   ·exact .inl hz
   refine .inr ⟨hz, fun e => ?_⟩
   rw [ht] at e
   have:=txAns_some (txt_isTx e hz)
   rw [hl, hq] at this
   cases this
 rw [← ht] at T
 rw [hl]
 clear ht HY e0 e1 e2 e3 g0 g1 l0 l1 l2 hl hsl hll
 obtain ⟨p0, hp0⟩ : ∃ p, p = nn x0:=⟨_, rfl⟩
 obtain ⟨p1, hp1⟩ : ∃ p, p = nn x1:=⟨_, rfl⟩
 obtain ⟨p2, hp2⟩ : ∃ p, p = nn x2:=⟨_, rfl⟩
 obtain ⟨p3, hp3⟩ : ∃ p, p = nn x3:=⟨_, rfl⟩
 rw [← hp0] at M0 T HA
 rw [← hp1] at M1 T HA
 rw [← hp2] at M2 T HA
 rw [← hp3] at M3 T HA
 clear hp0 hp1 hp2 hp3
 go_enter Tryz.func221, Tryz.ntmps221
 go_wp2_with fail
 refine (K0.out _).mono ?_
 rintro e w1 ⟨rfl, b1⟩
 have z1:=(cells4_new w 0 0 0 0 70).below b1 (by simp)
 have f1:=frozen_below b1 (g:=w.heap.size) (by simp) (fun j => by simp [go_sem])
 have c1 : Below w.heap.size w w1:=((Below.refl _ _).alloc (Nat.le_refl _) _).trans (b1.mono (by simp))
 have s1:=b1.size
 simp at s1
 clear b1
 go_wp2_with fail
 refine (K1.out _).mono ?_
 rintro e w2 ⟨rfl, b2⟩
 have z2:=z1.below b2 (by omega)
 have f2:=frozen_below b2 (g:=w.heap.size) (by omega) f1
 have c2:=c1.trans (b2.mono (by omega))
 have s2:=b2.size
 clear b2 z1 f1 c1
 go_wp2_with fail
 refine (K2.out _).mono ?_
 rintro e w3 ⟨rfl, b3⟩
 have z3:=z2.below b3 (by omega)
 have f3:=frozen_below b3 (g:=w.heap.size) (by omega) f2
 have c3:=c2.trans (b3.mono (by omega))
 have s3:=b3.size
 clear b3 z2 f2 c2
 have bn : Below w3.heap.size w3 (w3.alloc (.cells #[.int .i64 0,.int .i64 0,.int .i64 0,.int .i64 0] 70)):=(Below.refl _ _).alloc (Nat.le_refl _) _
 have X0:=cells4_new w3 0 0 0 0 70
 have Y0 : ∀ j, (w3.alloc (.cells #[.int .i64 0,.int .i64 0,.int .i64 0,.int .i64 0] 70)).frozen? ⟨w3.heap.size, j, none⟩ = false:=fun j => by simp [go_sem]
 have Z0:=z3.below bn (by omega)
 have F0:=frozen_below bn (g:=w.heap.size) (by omega) f3
 have C0:=c3.trans (bn.mono (by omega))
 have S0 : w3.heap.size + 1 ≤ (w3.alloc (.cells #[.int .i64 0,.int .i64 0,.int .i64 0,.int .i64 0] 70)).heap.size:=by simp
 clear bn z3 f3 c3
 have P:=hide (And.intro X0 (And.intro Y0 (And.intro Z0 (And.intro F0 (And.intro C0 S0)))))
 clear X0 Y0 Z0 F0 C0 S0
 go_wp2_with fail
 refine (M0.out _).mono ?_
 rintro e w4 ⟨rfl, b⟩
 obtain ⟨X, Y, Z, F, C, S⟩:=P.out
 clear P
 have S':=b.size
 have X':=X.below b (by omega)
 have Y':=frozen_below b (by omega) Y
 have Z':=Z.below b (by omega)
 have F':=frozen_below b (g:=w.heap.size) (by omega) F
 have C':=C.trans (b.mono (by omega))
 have P:=hide (And.intro (c4_set0 X' (p0 : Int)) (And.intro (fr_set (g:=w3.heap.size) (j:=0) (v:=.int .i64 (p0 : Int)) Y') (And.intro (c4_other (g:=w3.heap.size) Z' (by omega) 0 (.int .i64 (p0 : Int))) (And.intro (fr_set (g:=w3.heap.size) (j:=0) (v:=.int .i64 (p0 : Int)) F') (And.intro (C'.setCell (p:=⟨w3.heap.size, 0, none⟩) (by show w.heap.size ≤ w3.heap.size; omega) (.int .i64 (p0 : Int))) (show w3.heap.size + 1 ≤ (w4.setCell ⟨w3.heap.size, 0, none⟩ (.int .i64 (p0 : Int))).heap.size by simp; omega))))))
 obtain ⟨y0, y1, y2, y3⟩:=X'
 have yf:=Y' 0
 have S'' : w3.heap.size + 1 ≤ w4.heap.size:=by omega
 clear X Y Z F C S b Y' Z' F' C' S'
 go_wp2_with fail
 refine (M1.out _).mono ?_
 rintro e w5 ⟨rfl, b⟩
 obtain ⟨X, Y, Z, F, C, S⟩:=P.out
 clear P
 have S':=b.size
 have X':=X.below b (by omega)
 have Y':=frozen_below b (by omega) Y
 have Z':=Z.below b (by omega)
 have F':=frozen_below b (g:=w.heap.size) (by omega) F
 have C':=C.trans (b.mono (by omega))
 have P:=hide (And.intro (c4_set1 X' (p1 : Int)) (And.intro (fr_set (g:=w3.heap.size) (j:=1) (v:=.int .i64 (p1 : Int)) Y') (And.intro (c4_other (g:=w3.heap.size) Z' (by omega) 1 (.int .i64 (p1 : Int))) (And.intro (fr_set (g:=w3.heap.size) (j:=1) (v:=.int .i64 (p1 : Int)) F') (And.intro (C'.setCell (p:=⟨w3.heap.size, 1, none⟩) (by show w.heap.size ≤ w3.heap.size; omega) (.int .i64 (p1 : Int))) (show w3.heap.size + 1 ≤ (w5.setCell ⟨w3.heap.size, 1, none⟩ (.int .i64 (p1 : Int))).heap.size by simp; omega))))))
 obtain ⟨y0, y1, y2, y3⟩:=X'
 have yf:=Y' 1
 have S'' : w3.heap.size + 1 ≤ w5.heap.size:=by omega
 clear X Y Z F C S b Y' Z' F' C' S'
 go_wp2_with fail
 refine (M2.out _).mono ?_
 rintro e w6 ⟨rfl, b⟩
 obtain ⟨X, Y, Z, F, C, S⟩:=P.out
 clear P
 have S':=b.size
 have X':=X.below b (by omega)
 have Y':=frozen_below b (by omega) Y
 have Z':=Z.below b (by omega)
 have F':=frozen_below b (g:=w.heap.size) (by omega) F
 have C':=C.trans (b.mono (by omega))
 have P:=hide (And.intro (c4_set2 X' (p2 : Int)) (And.intro (fr_set (g:=w3.heap.size) (j:=2) (v:=.int .i64 (p2 : Int)) Y') (And.intro (c4_other (g:=w3.heap.size) Z' (by omega) 2 (.int .i64 (p2 : Int))) (And.intro (fr_set (g:=w3.heap.size) (j:=2) (v:=.int .i64 (p2 : Int)) F') (And.intro (C'.setCell (p:=⟨w3.heap.size, 2, none⟩) (by show w.heap.size ≤ w3.heap.size; omega) (.int .i64 (p2 : Int))) (show w3.heap.size + 1 ≤ (w6.setCell ⟨w3.heap.size, 2, none⟩ (.int .i64 (p2 : Int))).heap.size by simp; omega))))))
 obtain ⟨y0, y1, y2, y3⟩:=X'
 have yf:=Y' 2
 have S'' : w3.heap.size + 1 ≤ w6.heap.size:=by omega
 clear X Y Z F C S b Y' Z' F' C' S'
 go_wp2_with fail
 refine (M3.out _).mono ?_
 rintro e w7 ⟨rfl, b⟩
 obtain ⟨X, Y, Z, F, C, S⟩:=P.out
 clear P
 have S':=b.size
 have X':=X.below b (by omega)
 have Y':=frozen_below b (by omega) Y
 have Z':=Z.below b (by omega)
 have F':=frozen_below b (g:=w.heap.size) (by omega) F
 have C':=C.trans (b.mono (by omega))
 have P:=hide (And.intro (c4_set3 X' (p3 : Int)) (And.intro (fr_set (g:=w3.heap.size) (j:=3) (v:=.int .i64 (p3 : Int)) Y') (And.intro (c4_other (g:=w3.heap.size) Z' (by omega) 3 (.int .i64 (p3 : Int))) (And.intro (fr_set (g:=w3.heap.size) (j:=3) (v:=.int .i64 (p3 : Int)) F') (And.intro (C'.setCell (p:=⟨w3.heap.size, 3, none⟩) (by show w.heap.size ≤ w3.heap.size; omega) (.int .i64 (p3 : Int))) (show w3.heap.size + 1 ≤ (w7.setCell ⟨w3.heap.size, 3, none⟩ (.int .i64 (p3 : Int))).heap.size by simp; omega))))))
 obtain ⟨y0, y1, y2, y3⟩:=X'
 have yf:=Y' 3
 have S'' : w3.heap.size + 1 ≤ w7.heap.size:=by omega
 clear X Y Z F C S b Y' Z' F' C' S'
 rcases HA.out with ⟨hz, hts, hans⟩ | ⟨hans, hz | ⟨hz, hts⟩⟩
 ·have hne:=str_ne hz
  have hne2 : (s.toList == []) = false:=by
   rw [beq_eq_false_iff_ne]; intro e; apply hz; apply ByteArray.ext; apply Array.toList_inj.1; rw [ByteArray.toList_eq] at e; exact e
  obtain ⟨n0, n1, n2, n3⟩:=P.out.1
  rw [hts] at T
  go_wp2_with fail
  refine (T.out _).mono ?_
  rintro e w8 ⟨rfl, b8⟩
  obtain ⟨X, Y, Z, F, C, S⟩:=P.out
  obtain ⟨m0, m1, m2, m3⟩:=Z.below b8 (by omega)
  have mf:=frozen_below b8 (g:=w.heap.size) (by omega) F
  obtain ⟨k0, k1, k2, k3⟩:=X.below b8 (by omega)
  have C8:=C.trans (b8.mono (by omega))
  clear P X Y Z F C S b8 n0 n1 n2 n3
  go_wp2
  refine bodyPost_ret (v := .tuple #[txv p0 p1 p2 p3,.bool true]) (by simp [results, Tryz.results221, go_sem, m0, m1, m2, m3]) rfl ?_
  exact ⟨by rw [hans]; rfl, (((C8.setCell (Nat.le_refl _) _).setCell (Nat.le_refl _) _).setCell (Nat.le_refl _) _).setCell (Nat.le_refl _) _⟩
 ·subst hz
  obtain ⟨X, Y, Z, F, C, S⟩:=P.out
  obtain ⟨n0, n1, n2, n3⟩:=X
  obtain ⟨m0, m1, m2, m3⟩:=Z
  clear P
  go_wp2
  refine bodyPost_ret (v := .tuple #[txv 0 0 0 0,.bool false]) (by simp [results, Tryz.results221, go_sem, m0, m1, m2, m3]) rfl ?_
  exact ⟨by rw [hans]; rfl, (((C.setCell (Nat.le_refl _) _).setCell (Nat.le_refl _) _).setCell (Nat.le_refl _) _).setCell (Nat.le_refl _) _⟩
 have hne:=str_ne hz
 have hne2 : (s.toList == []) = false:=by
  rw [beq_eq_false_iff_ne]; intro e; apply hz; apply ByteArray.ext; apply Array.toList_inj.1; rw [ByteArray.toList_eq] at e; exact e
 have hnt:=str_ne hts
 obtain ⟨n0, n1, n2, n3⟩:=P.out.1
 go_wp2_with fail
 refine (T.out _).mono ?_
 rintro e w8 ⟨rfl, b8⟩
 obtain ⟨X, Y, Z, F, C, S⟩:=P.out
 obtain ⟨m0, m1, m2, m3⟩:=Z.below b8 (by omega)
 have mf:=frozen_below b8 (g:=w.heap.size) (by omega) F
 obtain ⟨k0, k1, k2, k3⟩:=X.below b8 (by omega)
 have C8:=C.trans (b8.mono (by omega))
 clear P X Y Z F C S b8 n0 n1 n2 n3
 go_wp2
 refine bodyPost_ret (v := .tuple #[txv 0 0 0 0,.bool false]) (by simp [results, Tryz.results221, go_sem, m0, m1, m2, m3]) rfl ?_
 exact ⟨by rw [hans]; rfl, (((C8.setCell (Nat.le_refl _) _).setCell (Nat.le_refl _) _).setCell (Nat.le_refl _) _).setCell (Nat.le_refl _) _⟩
end
section
open Go.RowKit
variable [∀ (a b c d : Int), Decidable (Ok4 a b c d)]
variable [∀ (a b c d : Nat), Decidable (okN a b c d)]
def OkT (x : T4) : Prop := Ok4 x.1 x.2.1 x.2.2.1 x.2.2.2
variable [∀ (x : T4), Decidable (OkT x)]
def txT (x : T4) : ByteArray := txt x.1 x.2.1 x.2.2.1 x.2.2.2
def accT (xs : List T4) : Nat → List UInt8
 | 0 => []
 | k + 1 => (if 0 < k then accT xs k ++ [44] else accT xs k) ++ (txT (xs.getD k (0, 0, 0, 0))).data.toList
def txsT (xs : List T4) : ByteArray := if ∀ x ∈ xs, OkT x then toB (accT xs xs.length) else ⟨#[]⟩
theorem ok_nat {a b c d : Int} (h : Ok4 a b c d) : ∃ a' b' c' d' : Nat, a = a' ∧ b = b' ∧ c = c' ∧ d = d' := by
 obtain ⟨⟨a1, _⟩, ⟨b1, _⟩, ⟨c1, _⟩, ⟨d1, _⟩⟩:=h
 exact ⟨a.toNat, b.toNat, c.toNat, d.toNat, by omega, by omega, by omega, by omega⟩
theorem txT_ne {x : T4} (h : OkT x) : txT x ≠ ⟨#[]⟩ := by
 unfold txT txt
 obtain ⟨a, b, c, d⟩:=x
 show (if Ok4 a b c d then txs a b c d else (⟨#[]⟩ : ByteArray)) ≠ _
 rw [if_pos (show Ok4 a b c d from h)]
 obtain ⟨a', b', c', d', rfl, rfl, rfl, rfl⟩:=ok_nat h
 rw [txs_toB]
 intro e
 have:=congrArg (fun s : ByteArray => s.data.toList) e
 exact txl_ne a' b' c' d' this
theorem ne2 {s : ByteArray} (hz : s ≠ ⟨#[]⟩) : (s.toList == []) = false := by
 rw [beq_eq_false_iff_ne]; intro e; apply hz; apply ByteArray.ext; apply Array.toList_inj.1; rw [ByteArray.toList_eq] at e; exact e
end
section

def pcs (s : ByteArray) (b : Int) : Nat → List ByteArray × Nat
 | 0 => ([], 0)
 | k + 1 => if ((s.data.toList.getD k 0).toNat : Int) = b then ((pcs s b k).1 ++ [s.extract (pcs s b k).2 k], k + 1) else pcs s b k
theorem pcs_le (s : ByteArray) (b : Int) (k : Nat) : (pcs s b k).2 ≤ k ∧ (pcs s b k).1.length ≤ k := by
 induction k with
 | zero => simp [pcs]
 | succ k ih =>
  rw [pcs]; split
  ·simp; omega
  omega
def splitAns (s : ByteArray) (b : Int) : List ByteArray := (pcs s b s.size).1 ++ [s.extract (pcs s b s.size).2 s.size]
theorem splitAns_len (s : ByteArray) (b : Int) : (splitAns s b).length ≤ s.size + 1 := by
 have:=(pcs_le s b s.size).2
 simp [splitAns]; omega
theorem pcs_hit (s : ByteArray) (b : Int) (k : Nat) (h : k < s.size) (hb : (s[k].toNat : Int) = b) : pcs s b (k + 1) = ((pcs s b k).1 ++ [s.extract (pcs s b k).2 k], k + 1) := by
 rw [pcs, if_pos]
 rw [← hb]
 have : s.data.toList.getD k 0 = s[k]:=by rw [List.getD_eq_getElem?_getD, List.getElem?_eq_getElem (by simpa using h)]; rfl
 rw [this]
theorem pcs_miss (s : ByteArray) (b : Int) (k : Nat) (h : k < s.size) (hb : (s[k].toNat : Int) ≠ b) : pcs s b (k + 1) = pcs s b k := by
 rw [pcs, if_neg]
 have : s.data.toList.getD k 0 = s[k]:=by rw [List.getD_eq_getElem?_getD, List.getElem?_eq_getElem (by simpa using h)]; rfl
 rw [this]; exact hb
end
section
open Go.RowKit
theorem os_more {B : Nat} {w wr w1 : World} {v v' : Value} {o : Obj} {xs : List ByteArray} {c : ByteArray} (hB : B ≤ wr.heap.size) (ho : OS wr B v xs) (hb : Below B w wr)
 (ho' : w1.ownsRow B 9 1 v' (xs.length + 1) (xs.map Value.string ++ [.string c])) (hg : (wr.alloc o).grownBy w1 v.ownBlock) :
 OS w1 B v' (xs ++ [c]) ∧ Below B w w1 :=
 ⟨by unfold OS; simpa using ho', (hb.alloc hB o).grown hg (by simp; omega) (fun j hj => (ho.lt j hj).1)⟩

theorem ext_size (s : ByteArray) (n k : Nat) : (s.extract n k).size ≤ s.size := by rw [ByteArray.size_extract]; omega

theorem split_any (s : ByteArray) (b : Int) (w : World) (hs : s.size ≤ 33554432) :
 Calls Tryz.prog 255 #[.string s,.int .u8 b] w fun e w' => ∃ v, e = .returned v ∧ OS w' w.heap.size v (splitAns s b) ∧ Below w.heap.size w w' := by
 obtain ⟨i0, hi, hz0, hz1, hz2⟩:=info_parts Tryz.info9
 go_enter Tryz.func255, Tryz.ntmps255
 go_wp2
 go_loopw [5, 6, 7] (fun v f i wr => ∃ k n : Nat, k ≤ s.size ∧ n ≤ k ∧ i = .int .i64 k ∧ f = .int .i64 n ∧ Hid (n = (pcs s b k).2) ∧ OS wr w.heap.size v (pcs s b k).1 ∧ Below w.heap.size w wr) (fun _ _ i _ => s.size - (intOf i).toNat)
 case atStart => exact ⟨0, 0, by omega, by omega, rfl, rfl, rfl, World.ownsRow_nil _ _ _ _, Below.refl _ _⟩
 case round =>
  obtain ⟨k, n, hk, hnk, rfl, rfl, HN, ho, hb⟩:=hrel
  have hsz:=hb.size
  have hpl:=(pcs_le s b k).2
  by_cases hlt : k < s.size
  ·by_cases hbk : (s[k].toNat : Int) = b
   ·have hbk' : ((s[k].toNat : Int) == b) = true:=by simp [hbk]
    have HP:=hide (pcs_hit s b k hlt hbk)
    clear hbk
    go_wp2_with fail
    refine (clone_any _ _ (by have := ext_size s n k; omega)).mono ?_
    rintro e w1 ⟨rfl, b1⟩
    have s1:=b1.size
    have ho1:=ho.below b1
    have hb1:=hb.trans (b1.mono hsz)
    clear ho hb
    go_wp2_with (first
     | (at_builtin; refine wpList_append_own _ rfl _ _ 233 rfl w.heap.size 9 i0 (.string ⟨#[]⟩) 1 16 Tryz.underlying233 hi hz0 hz1 hz2 rfl (by decide) _ _ _ rfl (World.ownsRow.alloc ho1 _) ⟨w1.heap.size, 0, none⟩ 1 1 [.string (s.extract n k)] rfl rfl (one_cell _ _ _) (one_text _) (by unfold maxLen; omega) (by omega) (by simp; omega) ?_; intro v' w2 ho' hg' _; have R := os_more (by omega) ho1 hb1 ho' hg'; clear ho1 ho' hg' hb1))
    go_roundw
    case rel => exact ⟨k + 1, k + 1, by omega, by omega, by go_num, by go_num, by rw [HP.out]; rfl, by rw [HP.out, ← HN.out]; exact R.1, R.2⟩
    case measure => simp [intOf]; omega
   have hbk' : ((s[k].toNat : Int) == b) = false:=by simp [hbk]
   have HP:=hide (pcs_miss s b k hlt hbk)
   clear hbk
   have HO:=hide ho
   clear ho
   go_wp2
   go_roundw
   case rel => exact ⟨k + 1, n, by omega, by omega, by go_num, rfl, by rw [HP.out]; exact HN, by rw [HP.out]; exact HO.out, hb⟩
   case measure => simp [intOf]; omega
  have hks : k = s.size:=by omega
  have HA : Hid (splitAns s b = (pcs s b k).1 ++ [s.extract n s.size]):=by unfold splitAns; rw [HN.out, hks]; rfl
  clear hks
  go_wp2_with fail
  refine (clone_any _ _ (by have := ext_size s n s.size; omega)).mono ?_
  rintro e w1 ⟨rfl, b1⟩
  have s1:=b1.size
  have ho1:=ho.below b1
  have hb1:=hb.trans (b1.mono hsz)
  clear ho hb
  go_wp2_with (first
   | (at_builtin; refine wpList_append_own _ rfl _ _ 233 rfl w.heap.size 9 i0 (.string ⟨#[]⟩) 1 16 Tryz.underlying233 hi hz0 hz1 hz2 rfl (by decide) _ _ _ rfl (World.ownsRow.alloc ho1 _) ⟨w1.heap.size, 0, none⟩ 1 1 [.string (s.extract n s.size)] rfl rfl (one_cell _ _ _) (one_text _) (by unfold maxLen; omega) (by omega) (by simp; omega) ?_; intro v' w2 ho' hg' _; have R := os_more (by omega) ho1 hb1 ho' hg'; clear ho1 ho' hg' hb1))
  go_ret
  exact ⟨_, rfl, by rw [HA.out]; exact R.1, R.2⟩
theorem specSplit_any (s : ByteArray) (b : Int) (w : World) (hs : s.size ≤ 33554432) :
 Calls Tryz.prog 191 #[.string s,.int .u8 b] w fun e w' => ∃ v, e = .returned v ∧ OS w' w.heap.size v (splitAns s b) ∧ Below w.heap.size w w' := by
 obtain ⟨i0, hi, hz0, hz1, hz2⟩:=info_parts Tryz.info9
 go_enter Tryz.func191, Tryz.ntmps191
 go_wp2
 go_loopw [5, 6, 7] (fun v f i wr => ∃ k : Nat, k ≤ s.size + 1 ∧ i = .int .i64 k ∧ Below w.heap.size w wr ∧ ((k ≤ s.size ∧ ∃ n : Nat, n ≤ k ∧ f = .int .i64 n ∧ Hid (n = (pcs s b k).2) ∧ OS wr w.heap.size v (pcs s b k).1) ∨ (k = s.size + 1 ∧ OS wr w.heap.size v (splitAns s b)))) (fun _ _ i _ => s.size + 1 - (intOf i).toNat)
 case atStart => exact ⟨0, by omega, rfl, (Below.refl _ _).alloc (Nat.le_refl _) _,.inl ⟨by omega, 0, by omega, rfl, rfl, World.ownsRow_lit w #[] 0 (Nat.le_refl _) (by unfold maxLen; omega) rfl⟩⟩
 case round =>
  obtain ⟨k, hk, rfl, hb, hcase⟩:=hrel
  have hsz:=hb.size
  rcases hcase with ⟨hks, n, hnk, rfl, HN, ho⟩ | ⟨rfl, ho⟩
  ·have hpl:=(pcs_le s b k).2
   by_cases hlt : k < s.size
   ·have hke : ((k : Int) == (s.size : Int)) = false:=by simp; omega
    by_cases hbk : (s[k].toNat : Int) = b
    ·have hbk' : ((s[k].toNat : Int) == b) = true:=by simp [hbk]
     have HP:=hide (pcs_hit s b k hlt hbk)
     clear hbk
     go_wp2_with (first
      | (at_builtin; refine wpList_append_own _ rfl _ _ 233 rfl w.heap.size 9 i0 (.string ⟨#[]⟩) 1 16 Tryz.underlying233 hi hz0 hz1 hz2 rfl (by decide) _ _ _ rfl (World.ownsRow.alloc ho _) ⟨wr.heap.size, 0, none⟩ 1 1 [.string (s.extract n k)] rfl rfl (one_cell _ _ _) (one_text _) (by unfold maxLen; omega) (by omega) (by simp; omega) ?_; intro v' w2 ho' hg' _; have R := os_more hsz ho hb ho' hg'; clear ho ho' hg' hb))
     go_roundw
     case rel => exact ⟨k + 1, by omega, by go_num, R.2, .inl ⟨by omega, k + 1, by omega, by go_num, by rw [HP.out]; rfl, by rw [HP.out, ← HN.out]; exact R.1⟩⟩
     case measure => simp [intOf]; omega
    have hbk' : ((s[k].toNat : Int) == b) = false:=by simp [hbk]
    have HP:=hide (pcs_miss s b k hlt hbk)
    clear hbk
    have HO:=hide ho
    clear ho
    go_wp2
    go_roundw
    case rel => exact ⟨k + 1, by omega, by go_num, hb, .inl ⟨by omega, n, by omega, rfl, by rw [HP.out]; exact HN, by rw [HP.out]; exact HO.out⟩⟩
    case measure => simp [intOf]; omega
   have hks' : k = s.size:=by omega
   have hke : ((k : Int) == (s.size : Int)) = true:=by simp; omega
   have HA : Hid (splitAns s b = (pcs s b k).1 ++ [s.extract n k]):=by unfold splitAns; rw [HN.out, hks']; rfl
   have HK:=hide hks'
   clear hks'
   go_wp2_with (first
    | (at_builtin; refine wpList_append_own _ rfl _ _ 233 rfl w.heap.size 9 i0 (.string ⟨#[]⟩) 1 16 Tryz.underlying233 hi hz0 hz1 hz2 rfl (by decide) _ _ _ rfl (World.ownsRow.alloc ho _) ⟨wr.heap.size, 0, none⟩ 1 1 [.string (s.extract n k)] rfl rfl (one_cell _ _ _) (one_text _) (by unfold maxLen; omega) (by omega) (by simp; omega) ?_; intro v' w2 ho' hg' _; have R := os_more hsz ho hb ho' hg'; clear ho ho' hg' hb))
   go_roundw
   case rel => exact ⟨k + 1, by omega, by go_num, R.2, .inr ⟨by rw [HK.out], by rw [HA.out]; exact R.1⟩⟩
   case measure => simp [intOf]; omega
  have HO:=hide ho
  clear ho
  go_wp2
  go_ret
  exact ⟨_, rfl, HO.out, hb⟩
end
section
open Go.RowKit
variable [∀ (a b c d : Int), Decidable (Ok4 a b c d)]
variable [∀ (a b c d : Nat), Decidable (okN a b c d)]
def toT (q : Nat × Nat × Nat × Nat) : T4 := (q.1, q.2.1, q.2.2.1, q.2.2.2)
def allTx : List ByteArray → Option (List T4)
 | [] => some []
 | p :: ps => match txAns p.data.toList with
  | some q => (allTx ps).map (toT q :: ·)
  | none => none
theorem allTx_more (ps : List ByteArray) (p : ByteArray) : allTx (ps ++ [p]) = (allTx ps).bind fun ys => (txAns p.data.toList).map fun q => ys ++ [toT q] := by
 induction ps with
 | nil => rw [List.nil_append, allTx, allTx]; cases txAns p.data.toList <;> simp [allTx]
 | cons r ps ih =>
  rw [List.cons_append, allTx, allTx]
  cases txAns r.data.toList with
  | none => rfl
  | some q => simp only [ih]; cases allTx ps <;> cases txAns p.data.toList <;> simp
theorem allTx_none {ps : List ByteArray} (k : Nat) (h : allTx (ps.take k) = none) : allTx ps = none := by
 rw [← List.take_append_drop k ps]
 generalize ps.drop k = r
 generalize ps.take k = l at h
 induction l with
 | nil => simp [allTx] at h
 | cons x l ih =>
  rw [List.cons_append, allTx]
  rw [allTx] at h
  cases hx : txAns x.data.toList with
  | none => rfl
  | some q => rw [hx] at h; simp at h; simp [ih h]
theorem take_more (ps : List ByteArray) (k : Nat) (hk : k < ps.length) : ps.take (k + 1) = ps.take k ++ [ps.getD k ByteArray.empty] := by
 rw [List.take_succ_eq_append_getElem hk, List.getD_eq_getElem?_getD, List.getElem?_eq_getElem hk]; rfl
def txsAns (s : ByteArray) : Option (List T4) := if s = ⟨#[]⟩ then some [] else allTx (splitAns s 44)
theorem pcs_size (s : ByteArray) (b : Int) (k : Nat) : ∀ p ∈ (pcs s b k).1, p.size ≤ s.size := by
 induction k with
 | zero => simp [pcs]
 | succ k ih =>
  rw [pcs]; split
  ·intro p hp
   rw [List.mem_append] at hp
   rcases hp with hp | hp
   ·exact ih p hp
   simp at hp; rw [hp]; exact ext_size s _ _
  exact ih
theorem split_size (s : ByteArray) (b : Int) : ∀ p ∈ splitAns s b, p.size ≤ s.size := by
 intro p hp
 unfold splitAns at hp
 rw [List.mem_append] at hp
 rcases hp with hp | hp
 ·exact pcs_size s b _ p hp
 simp at hp; rw [hp]; exact ext_size s _ _
theorem getD_mem {ps : List ByteArray} {k : Nat} (hk : k < ps.length) : ps.getD k ByteArray.empty ∈ ps := by
 rw [List.getD_eq_getElem?_getD, List.getElem?_eq_getElem hk]; exact List.getElem_mem hk

theorem Tryz.infoTx : (Tryz.prog.info? 70).map (fun i => (i.zero, i.size, i.bytes)) = some (some (txv 0 0 0 0), 4, 32) := by kernel_rfl
theorem four_cell (w : World) (x : T4) (t : TypeId) (j : Nat) (u : Value) (h : (tcell x)[j]? = some u) : (w.alloc (.cells #[.int .i64 x.1,.int .i64 x.2.1,.int .i64 x.2.2.1,.int .i64 x.2.2.2] t)).cell? ((⟨w.heap.size, 0, none⟩ : Addr).add j) = some u := by
 match j, h with
 | 0, h => simp [tcell] at h; subst h; simp [Addr.add]
 | 1, h => simp [tcell] at h; subst h; simp [Addr.add]
 | 2, h => simp [tcell] at h; subst h; simp [Addr.add]
 | 3, h => simp [tcell] at h; subst h; simp [Addr.add]
 | j + 4, h => simp [tcell] at h
theorem four_plain (x : T4) (u : Value) (h : u ∈ tcell x) : u.oneCell' = true := by
 simp [tcell] at h; rcases h with rfl | rfl | rfl | rfl <;> rfl
theorem os_ot {w : World} {B B' : Nat} {v u : Value} {ps : List ByteArray} {ys : List T4} (h : OS w B v ps) (h' : OT w B' u ys) : v.ownBlock = none ∨ v.ownBlock ≠ u.ownBlock := by
 rcases h.2 with ⟨rfl, _⟩ | ⟨g, cap, cur, rfl, _, hg, _⟩
 ·exact .inl rfl
 rcases h'.2 with ⟨rfl, _⟩ | ⟨g', cap', cur', rfl, _, hg', _⟩
 ·exact .inr (by simp [Value.ownBlock])
 refine .inr fun e => ?_
 simp [Value.ownBlock] at e
 rw [e, hg'] at hg
 simp at hg
theorem ot_more {B : Nat} {w wr w1 : World} {v v' : Value} {xs : List T4} {x : T4} (hB : B ≤ wr.heap.size) (ho : OT wr B v xs) (hb : Below B w wr)
 (ho' : w1.ownsRow B 70 4 v' (xs.length + 1) (tcells xs ++ tcell x)) (hg : wr.grownBy w1 v.ownBlock) :
 OT w1 B v' (xs ++ [x]) ∧ Below B w w1 :=
 ⟨by unfold OT; rw [tcells_append, List.length_append]; simpa [tcells] using ho', hb.grown hg hB (fun j hj => (ho.lt j hj).1)⟩
theorem os_alloc {w : World} {B : Nat} {v : Value} {xs : List ByteArray} (h : OS w B v xs) (o : Obj) : OS (w.alloc o) B v xs := World.ownsRow.alloc h o
theorem ot_alloc {w : World} {B : Nat} {v : Value} {xs : List T4} (h : OT w B v xs) (o : Obj) : OT (w.alloc o) B v xs := World.ownsRow.alloc h o
theorem os_cell {w : World} {B g n cap : Nat} {ps : List ByteArray} (h : OS w B (.slice (some ⟨g, 0, none⟩) n cap) ps) (hn : n = ps.length) (k : Nat) (hk : k < ps.length) : w.cell? ⟨g, k, none⟩ = some (.string (ps.getD k ByteArray.empty)) := by
 subst hn
 rw [World.ownsRow.cellAt h k (by omega)]; simp [List.getElem?_eq_getElem hk]

theorem implTxsOf (s : ByteArray) (w : World) (hs : s.size ≤ 33554432) (hE : Env w) :
 Calls Tryz.prog 245 #[.string s] w fun e w' => ∃ v, e = .returned (.tuple #[v,.bool (txsAns s).isSome]) ∧ OT w' w.heap.size v ((txsAns s).getD []) ∧ Below w.heap.size w w' := by
 obtain ⟨i0, hi, hz0, hz1, hz2⟩:=info_parts Tryz.infoTx
 unfold txsAns
 by_cases hz : s = ⟨#[]⟩
 ·rw [if_pos hz]
  subst hz
  go_enter Tryz.func245, Tryz.ntmps245
  go_wp2
  go_ret2
  exact ⟨_, rfl, World.ownsRow_nil _ _ _ _, Below.refl _ _⟩
 rw [if_neg hz]
 have hne:=str_ne hz
 have hne2 : (s.toList == []) = false:=by
  rw [beq_eq_false_iff_ne]; intro e; apply hz; apply ByteArray.ext; apply Array.toList_inj.1; rw [ByteArray.toList_eq] at e; exact e
 have SP:=hide fun w => split_any s 44 w hs
 have hpn : 0 < (splitAns s 44).length:=by simp [splitAns]
 have hpl:=splitAns_len s 44
 have hpz : Hid (∀ p ∈ splitAns s 44, p.size ≤ 33554432):=fun p hp => Nat.le_trans (split_size s 44 p hp) hs
 generalize splitAns s 44 = ps at *
 have HE:=hide hE
 clear hE hz
 go_enter Tryz.func245, Tryz.ntmps245
 go_wp2_with fail
 refine (SP.out _).mono ?_
 rintro e w1 ⟨vp, rfl, op, b1⟩
 rcases op.2 with ⟨_, h0⟩ | ⟨gp, pc, pcur, rfl, _⟩
 ·omega
 have OP:=hide op
 clear op SP
 go_wp2
 go_loopw [4, 14] (fun v i wr => ∃ (k : Nat) (ys : List T4), k ≤ ps.length ∧ i = .int .i64 k ∧ ys.length = k ∧ Hid (allTx (ps.take k) = some ys) ∧ OT wr w.heap.size v ys ∧ OS wr w.heap.size (.slice (some ⟨gp, 0, none⟩) ps.length pc) ps ∧ Below w.heap.size w wr) (fun _ i _ => ps.length - (intOf i).toNat)
 case atStart => exact ⟨0, [], by omega, rfl, rfl, rfl, World.ownsRow_nil _ _ _ _, OP.out, b1⟩
 case round =>
  obtain ⟨k, ys, hk, rfl, hyl, HA, ho, hp, hb⟩:=hrel
  have hsz:=hb.size
  by_cases hlt : k < ps.length
  ·have hc:=os_cell hp rfl k hlt
   have hm:=hpz.out _ (getD_mem hlt)
   have HT:=hide (take_more ps k hlt)
   have CT:=hide fun w hE => implTxOf (ps.getD k ByteArray.empty) w hm hE
   have HB:=hide (And.intro ho (And.intro hp hb))
   clear ho hp hb hm
   generalize ps.getD k ByteArray.empty = p at *
   cases ht : txAns p.data.toList with
   | none =>
    have HN : Hid (allTx ps = none):=allTx_none (k + 1) (by rw [HT.out, allTx_more, ht]; cases allTx (ps.take k) <;> rfl)
    rw [ht] at CT
    clear ht HT HA
    go_wp2_with fail
    refine (CT.out _ (HE.out.below HB.out.2.2)).mono ?_
    rintro e w2 ⟨rfl, b2⟩
    have hw : Below w.heap.size w (w2.alloc (.cells #[.int .i64 0,.int .i64 0,.int .i64 0,.int .i64 0] 70)):=(HB.out.2.2.trans (b2.mono hsz)).alloc (by have:=b2.size; omega) _
    unfold txval
    go_wp2
    go_ret2
    exact ⟨_, by rw [HN.out]; rfl, by rw [HN.out]; exact World.ownsRow_nil _ _ _ _, hw⟩
   | some q =>
    obtain ⟨a, b, c, d⟩:=q
    have HN : Hid (allTx (ps.take (k + 1)) = some (ys ++ [((a : Int), (b : Int), (c : Int), (d : Int))])):=by
     show allTx _ = _
     rw [HT.out, allTx_more, HA.out, ht]; rfl
    rw [ht] at CT
    clear ht HT HA
    go_wp2_with fail
    refine (CT.out _ (HE.out.below HB.out.2.2)).mono ?_
    rintro e w2 ⟨rfl, b2⟩
    obtain ⟨ho, hp, hb⟩:=HB.out
    have s2:=b2.size
    have ho2:=ot_alloc (ot_alloc (ho.below b2) (.cells #[.int .i64 a,.int .i64 b,.int .i64 c,.int .i64 d] 70)) (.cells #[.int .i64 a,.int .i64 b,.int .i64 c,.int .i64 d] 70)
    have hp2:=os_alloc (os_alloc (hp.below b2) (.cells #[.int .i64 a,.int .i64 b,.int .i64 c,.int .i64 d] 70)) (.cells #[.int .i64 a,.int .i64 b,.int .i64 c,.int .i64 d] 70)
    have hb2 : Below w.heap.size w ((w2.alloc (.cells #[.int .i64 a,.int .i64 b,.int .i64 c,.int .i64 d] 70)).alloc (.cells #[.int .i64 a,.int .i64 b,.int .i64 c,.int .i64 d] 70)):=((hb.trans (b2.mono hsz)).alloc (by omega) _).alloc (by simp; omega) _
    have hdis:=os_ot hp2 ho2
    clear ho hp hb HB b2 hc
    unfold txval
    go_wp2_with (first
     | (at_builtin; refine wpList_append_own _ rfl _ _ 41 rfl w.heap.size 70 i0 (txv 0 0 0 0) 4 32 Tryz.underlying41 hi hz0 hz1 hz2 rfl (by decide) _ _ _ rfl ho2 ⟨w2.heap.size + 1, 0, none⟩ 1 1 (tcell ((a : Int), (b : Int), (c : Int), (d : Int))) rfl rfl (by have := four_cell (w2.alloc (.cells #[.int .i64 a,.int .i64 b,.int .i64 c,.int .i64 d] 70)) ((a : Int), (b : Int), (c : Int), (d : Int)) 70; simpa using this) (four_plain _) (by unfold maxLen; omega) (by omega) (by simp; omega) ?_; intro v' w3 ho' hg' _; have R := ot_more (by simp; omega) ho2 hb2 ho' hg'; have RP : OS w3 w.heap.size (.slice (some ⟨gp, 0, none⟩) ps.length pc) ps := World.ownsRow.kept hp2 hg' hdis; clear ho2 ho' hg' hb2 hp2 hdis))
    go_roundw
    case rel => exact ⟨k + 1, _, by omega, by go_num, by simp [hyl], HN, R.1, RP, R.2⟩
    case measure => simp [intOf]; omega
  have hkn : k = ps.length:=by omega
  have HN : Hid (allTx ps = some ys):=by
   have:=HA.out
   rw [hkn, List.take_of_length_le (Nat.le_refl _)] at this
   exact this
  have HO:=hide ho
  clear ho hp HA
  go_wp2
  go_ret2
  exact ⟨_, by rw [HN.out]; rfl, by rw [HN.out]; exact HO.out, hb⟩
end
section
open Go.RowKit
variable [∀ (a b c d : Int), Decidable (Ok4 a b c d)]
variable [∀ (a b c d : Nat), Decidable (okN a b c d)]
variable [∀ (x : T4), Decidable (OkT x)]
def AR (w : World) (ao : Option Addr) (xs : List T4) : Prop :=
 xs = [] ∨ ∃ b off, ao = some ⟨b, off, none⟩ ∧ ∀ k, k < xs.length → w.cell? ⟨b, off + k * 4, none⟩ = some (.int .i64 (xs.getD k (0, 0, 0, 0)).1) ∧ w.cell? ⟨b, off + k * 4 + 1, none⟩ = some (.int .i64 (xs.getD k (0, 0, 0, 0)).2.1) ∧ w.cell? ⟨b, off + k * 4 + 2, none⟩ = some (.int .i64 (xs.getD k (0, 0, 0, 0)).2.2.1) ∧ w.cell? ⟨b, off + k * 4 + 3, none⟩ = some (.int .i64 (xs.getD k (0, 0, 0, 0)).2.2.2)
theorem AR.below {w w' : World} {ao : Option Addr} {xs : List T4} (h : AR w ao xs) (hb : Below w.heap.size w w') : AR w' ao xs := by
 rcases h with h | ⟨b, off, rfl, h⟩
 ·exact .inl h
 refine .inr ⟨b, off, rfl, fun k hk => ?_⟩
 obtain ⟨c0, c1, c2, c3⟩:=h k hk
 have hg : b < w.heap.size:=cell_lt c0
 exact ⟨(hb.cell (p := ⟨b, off + k * 4, none⟩) hg).trans c0, (hb.cell (p := ⟨b, off + k * 4 + 1, none⟩) hg).trans c1, (hb.cell (p := ⟨b, off + k * 4 + 2, none⟩) hg).trans c2, (hb.cell (p := ⟨b, off + k * 4 + 3, none⟩) hg).trans c3⟩
def part4 (xs : List T4) (cs : List Value) (k : Nat) : List Value := tcells (xs.take k) ++ cs.drop (k * 4)
theorem part4_set (xs : List T4) (cs : List Value) (k : Nat) (hk : k < xs.length) (hc : cs.length = xs.length * 4) (x : T4) (hx : xs.getD k (0, 0, 0, 0) = x) :
 ((((part4 xs cs k).set (k * 4) (.int .i64 x.1)).set (k * 4 + 1) (.int .i64 x.2.1)).set (k * 4 + 2) (.int .i64 x.2.2.1)).set (k * 4 + 3) (.int .i64 x.2.2.2) = part4 xs cs (k + 1) := by
 unfold part4
 have hp : (tcells (xs.take k)).length = k * 4:=by rw [tcells_len, List.length_take]; omega
 have ht : xs.take (k + 1) = xs.take k ++ [x]:=by
  rw [List.take_succ_eq_append_getElem hk, ← hx, List.getD_eq_getElem?_getD, List.getElem?_eq_getElem hk]; rfl
 rw [ht, tcells_append]
 generalize tcells (xs.take k) = P at *
 have hr : 4 ≤ (cs.drop (k * 4)).length:=by rw [List.length_drop]; omega
 have hd : cs.drop ((k + 1) * 4) = (cs.drop (k * 4)).drop 4:=by rw [List.drop_drop]; congr 1; omega
 rw [hd]
 match cs.drop (k * 4), hr with
 | r0 :: r1 :: r2 :: r3 :: R, _ =>
  rw [← hp]
  simp [List.set_append_right, tcells, tcell]
theorem part4_zero (xs : List T4) (cs : List Value) : part4 xs cs 0 = cs := by simp [part4, tcells]
theorem part4_all (xs : List T4) (cs : List Value) (hc : cs.length = xs.length * 4) : part4 xs cs xs.length = tcells xs := by
 unfold part4; rw [List.take_of_length_le (Nat.le_refl _), List.drop_of_length_le (by omega)]; simp

theorem toTxS_any (ao : Option Addr) (ca : Nat) (xs : List T4) (w : World) (hl : xs.length ≤ 1048577) (h : AR w ao xs) :
 Calls Tryz.prog 38 #[.slice ao xs.length ca] w fun e w' => ∃ v, e = .returned v ∧ OT w' w.heap.size v xs ∧ Below w.heap.size w w' := by
 obtain ⟨i0, hi, hz0, hz1, hz2⟩:=info_parts Tryz.infoTx
 go_enter Tryz.func38, Tryz.ntmps38
 go_wp2_with (first | (at_make; refine wpList_make_full _ rfl _ _ 41 rfl w.heap.size 70 i0 (txv 0 0 0 0) 4 Tryz.underlying41 hi hz0 hz1 .i64 .i64 _ _ xs.length rfl rfl rfl rfl (by rw [hz2]; omega) (by unfold maxLen; omega) (Nat.le_refl _) ?_; intro w0 ho0 hg0))
 have hcs : (madeCells (txv 0 0 0 0).cells (xs.length * 4)).toList.length = xs.length * 4:=by rw [Array.length_toList, size_madeCells]
 generalize (madeCells (txv 0 0 0 0).cells (xs.length * 4)).toList = cs at *
 go_loopw [4] (fun i wr => ∃ k : Nat, k ≤ xs.length ∧ i = .int .i64 k ∧ wr.ownsRow w.heap.size 70 4 (.slice (some ⟨w.heap.size, 0, none⟩) xs.length xs.length) xs.length (part4 xs cs k) ∧ Below w.heap.size w wr) (fun i _ => xs.length - (intOf i).toNat)
 case atStart => exact ⟨0, Nat.zero_le _, rfl, by rw [part4_zero]; exact ho0, (Below.refl _ _).grown hg0 (Nat.le_refl _) (by simp)⟩
 case round =>
  clear ho0 hg0
  obtain ⟨k, hk, rfl, ho, br⟩:=hrel
  by_cases hlt : k < xs.length
  ·rcases h with h | ⟨b, off, rfl, h⟩
   ·subst h; simp at hlt
   obtain ⟨a0, a1, a2, a3⟩:=h k hlt
   have hg : b < w.heap.size:=cell_lt a0
   have c0:=(br.cell (p:=⟨b, off + k * 4, none⟩) hg).trans a0
   have c1:=(br.cell (p:=⟨b, off + k * 4 + 1, none⟩) hg).trans a1
   have c2:=(br.cell (p:=⟨b, off + k * 4 + 2, none⟩) hg).trans a2
   have c3:=(br.cell (p:=⟨b, off + k * 4 + 3, none⟩) hg).trans a3
   clear a0 a1 a2 a3 h
   have hsr:=br.size
   obtain ⟨x, hxk⟩ : ∃ x, xs.getD k (0, 0, 0, 0) = x:=⟨_, rfl⟩
   rw [hxk] at c0 c1 c2 c3
   have HP:=hide (part4_set xs cs k hlt hcs x hxk)
   clear hxk
   obtain ⟨xa, xb, xc, xd⟩:=x
   simp only at c0 c1 c2 c3
   have hplen : (part4 xs cs k).length = xs.length * 4:=by
    unfold part4; rw [List.length_append, tcells_len, List.length_take, List.length_drop, hcs]; omega
   have HO:=hide ho
   clear ho
   go_wp2_with fail
   refine (toTx_any xa xb xc xd _).mono ?_
   rintro e w2 ⟨rfl, b2⟩
   have s2:=b2.size
   have ho2:=World.ownsRow.kept (row:=none) HO.out ⟨b2.os, b2.tape, b2.output, b2.size, fun k hk _ => b2.block k hk⟩ (by simp [Value.ownBlock])
   have bw2:=br.trans (b2.mono hsr)
   obtain ⟨y0, y1, y2, y3⟩ : (∃ u, w2.cell? ⟨w.heap.size, k * 4, none⟩ = some u) ∧ (∃ u, w2.cell? ⟨w.heap.size, k * 4 + 1, none⟩ = some u) ∧ (∃ u, w2.cell? ⟨w.heap.size, k * 4 + 2, none⟩ = some u) ∧ (∃ u, w2.cell? ⟨w.heap.size, k * 4 + 3, none⟩ = some u):=by
    have gt : ∀ j, j < xs.length * 4 → ∃ u, w2.cell? ⟨w.heap.size, j, none⟩ = some u:=fun j hj => ⟨_, (ho2.cellAt j hj).trans (List.getElem?_eq_getElem (by rw [hplen]; exact hj))⟩
    exact ⟨gt _ (by omega), gt _ (by omega), gt _ (by omega), gt _ (by omega)⟩
   obtain ⟨u0, y0⟩:=y0
   obtain ⟨u1, y1⟩:=y1
   obtain ⟨u2, y2⟩:=y2
   obtain ⟨u3, y3⟩:=y3
   have hfr:=ho2.frozenAt
   have t0:=ho2.stored (k * 4) (.int .i64 xa)
   have t1:=t0.1.stored (k * 4 + 1) (.int .i64 xb)
   have t2:=t1.1.stored (k * 4 + 2) (.int .i64 xc)
   have t3:=t2.1.stored (k * 4 + 3) (.int .i64 xd)
   have H3:=hide t3.1
   clear t0 t1 t2 t3 ho2 c0 c1 c2 c3
   go_wp2
   go_roundw
   case rel => exact ⟨k + 1, by omega, by go_num, by rw [← HP.out]; exact H3.out, (((bw2.setCell (Nat.le_refl _) _).setCell (Nat.le_refl _) _).setCell (Nat.le_refl _) _).setCell (Nat.le_refl _) _⟩
   case measure => simp [intOf]; omega
  have hkn : k = xs.length:=by omega
  have HO : Hid (OT wr w.heap.size (.slice (some ⟨w.heap.size, 0, none⟩) xs.length xs.length) xs):=by
   show OT _ _ _ _
   unfold OT
   rw [← part4_all xs cs hcs, ← hkn]; rw [← hkn] at ho; exact ho
  clear ho h
  go_wp2
  go_ret
  exact ⟨_, rfl, HO.out, br⟩
end
end Go.Proofs.YtjdchloechcclaaGreatDoor
