/- Lemmas; their conditions stand in each statement. -/
import Derived.Test.YtjkcphnohhpihaaPDAG
set_option maxRecDepth 100000
set_option maxHeartbeats 4000000
set_option linter.unusedSectionVars false
namespace Go.Proofs.Ytjkcphnohhpihaa
section
open Go.RowKit
variable [∀ (a b c d : Int), Decidable (Ok4 a b c d)]
variable [∀ (a b c d : Nat), Decidable (okN a b c d)]
theorem drewN_below (w : World) (n : Nat) : Below w.heap.size w (w.drewN n) := ⟨rfl, rfl, rfl, Nat.le_refl _, fun _ _ => rfl⟩
def cutS (m : UInt8) (l : List UInt8) : List UInt8 × List UInt8 × Bool := if m ∈ l then (hd m l, tl m l, true) else ([], [], false)

theorem l2Cut_any (m : UInt8) (b : Int) (hb : (m.toNat : Int) = b) (s : ByteArray) (w : World) (hs : s.size ≤ 33554432) :
 Calls Try.prog 72 #[.string s,.int .u8 b] w fun e w' => e = .returned (.tuple #[.string (toB (cutS m s.data.toList).1),.string (toB (cutS m s.data.toList).2.1),.bool (cutS m s.data.toList).2.2]) ∧ Below w.heap.size w w' := by
 go_enter Try.func72, Try.ntmps72
 go_wp2
 go_loop [7] (fun i => ∃ k : Nat, k ≤ s.size ∧ i = .int .i64 k ∧ Hid (m ∉ s.data.toList.take k)) (fun i => s.size - (intOf i).toNat)
 case atStart => exact ⟨0, by omega, rfl, hide (by simp)⟩
 case round =>
  obtain ⟨k, hk, rfl, HN⟩:=hrel
  by_cases hlt : k < s.size
  ·by_cases hbk : s[k] = m
   ·have hbk' : ((s[k].toNat : Int) == b) = true:=by rw [hbk, hb]; simp
    have HA : Hid (cutS m s.data.toList = ((s.extract 0 k).data.toList, (s.extract (k + 1) s.size).data.toList, true)):=by
     have hj : s.data.toList[k]? = some m:=by rw [List.getElem?_eq_getElem (by simpa using hlt), ← hbk]; rfl
     obtain ⟨e1, e2⟩:=hit_hd HN.out hj
     have hm : m ∈ s.data.toList:=List.mem_of_getElem? hj
     show cutS m s.data.toList = _
     unfold cutS
     rw [if_pos hm, e1, e2, ext_list, ext_list, List.take_of_length_le (l := s.data.toList.drop (k + 1)) (by simp)]
     simp
    have hk1 : k + 1 ≤ s.size:=by omega
    clear hbk HN
    go_wp2
    go_quiet (fail)
    go_wp2
    go_ret3
    exact ⟨by rw [HA.out]; rfl, drewN_below _ _⟩
   have hbk' : ((s[k].toNat : Int) == b) = false:=by
    rw [← hb]; simp; intro e; exact hbk (UInt8.toNat_inj.1 (by omega))
   have HN' : Hid (m ∉ s.data.toList.take (k + 1)):=by
    show _ ∉ _
    rw [take_snoc s k hlt, List.mem_append]
    rintro (h | h)
    ·exact HN.out h
    simp at h; exact hbk h.symm
   clear hbk HN
   go_wp2
   go_round
   case rel => exact ⟨k + 1, by omega, by go_num, HN'⟩
   case measure => simp [intOf]; omega
  have hks : k = s.size:=by omega
  have HA : Hid (cutS m s.data.toList = ([], [], false)):=by
   have:=HN.out
   rw [hks, List.take_of_length_le (by rw [len_data]; omega)] at this
   show cutS m s.data.toList = _
   unfold cutS; rw [if_neg this]
  clear HN hks
  go_wp2
  go_ret3
  exact ⟨by rw [HA.out]; rfl, Below.refl _ _⟩

theorem cutS_len (m : UInt8) (l : List UInt8) : (cutS m l).1.length ≤ l.length ∧ (cutS m l).2.1.length ≤ l.length := by
 unfold cutS
 split
 ·exact ⟨hd_len m l, tl_len m l⟩
 simp
theorem dg_toB (n : Nat) : dg (n : Int) = toB (Lib.decDigits n) := by unfold dg toB; rw [itoa_nat]
theorem txs_toB (a b c d : Nat) : txs a b c d = toB (txl a b c d) := by
 unfold txs
 rw [dg_toB, dg_toB, dg_toB, dg_toB]
 apply ByteArray.ext
 apply Array.toList_inj.1
 simp [toB, txl]
theorem txl_ne (a b c d : Nat) : txl a b c d ≠ [] := by unfold txl; simp
theorem toB_data (s : ByteArray) : toB s.data.toList = s := by
 apply ByteArray.ext; apply Array.toList_inj.1; rfl
theorem isTx_txt {s : ByteArray} {a b c d : Nat} (h : IsTx s.data.toList a b c d) : txt (a : Int) b c d = s := by
 unfold txt
 rw [if_pos (ok_cast.2 h.1), txs_toB, h.2, toB_data]
theorem txt_isTx {s : ByteArray} {a b c d : Nat} (h : txt (a : Int) b c d = s) (hs : s ≠ ⟨#[]⟩) : IsTx s.data.toList a b c d := by
 unfold txt at h
 split at h
 ·rename_i hk
  refine ⟨ok_cast.1 hk, ?_⟩
  rw [txs_toB] at h
  rw [← h]; rfl
 exact absurd h.symm hs
theorem mem_of_tl {m : UInt8} {l : List UInt8} (h : tl m l ≠ []) : m ∈ l := by rw [hd_tl h]; simp
theorem cuts_of {l : List UInt8} {a b c d : Nat} (h : IsTx l a b c d) : (cutS 62 l).1 = f0 l ∧ (cutS 58 (cutS 62 l).2.1).1 = f1 l ∧ (cutS 35 (cutS 58 (cutS 62 l).2.1).2.1).1 = f2 l ∧ (cutS 35 (cutS 58 (cutS 62 l).2.1).2.1).2.1 = f3 l := by
 obtain ⟨e0, e1, e2, e3⟩:=fields_of h
 have n1:=digits_ne b
 have n2:=digits_ne c
 have n3:=digits_ne d
 rw [← e1] at n1; rw [← e2] at n2; rw [← e3] at n3
 unfold f0 f1 f2 f3 at *
 have t0 : tl 62 l ≠ []:=fun e => n1 (by rw [e, hd_nil])
 have t1 : tl 58 (tl 62 l) ≠ []:=fun e => n2 (by rw [e, hd_nil])
 have c0 : cutS 62 l = (hd 62 l, tl 62 l, true):=by unfold cutS; rw [if_pos (mem_of_tl t0)]
 have c1 : cutS 58 (tl 62 l) = (hd 58 (tl 62 l), tl 58 (tl 62 l), true):=by unfold cutS; rw [if_pos (mem_of_tl t1)]
 have c2 : cutS 35 (tl 58 (tl 62 l)) = (hd 35 (tl 58 (tl 62 l)), tl 35 (tl 58 (tl 62 l)), true):=by unfold cutS; rw [if_pos (mem_of_tl n3)]
 refine ⟨by rw [c0], by rw [c0]; exact congrArg Prod.fst c1, ?_, ?_⟩
 ·rw [c0]; show (cutS 35 (cutS 58 (tl 62 l)).2.1).1 = _; rw [c1]; exact congrArg Prod.fst c2
 rw [c0]; show (cutS 35 (cutS 58 (tl 62 l)).2.1).2.1 = _; rw [c1]; exact congrArg (fun x => x.2.1) c2
theorem l2Cut_B (m : UInt8) (b : Int) (hb : (m.toNat : Int) = b) (l : List UInt8) (w : World) (hs : l.length ≤ 33554432) :
 Calls Try.prog 72 #[.string (toB l),.int .u8 b] w fun e w' => e = .returned (.tuple #[.string (toB (cutS m l).1),.string (toB (cutS m l).2.1),.bool (cutS m l).2.2]) ∧ Below w.heap.size w w' := by
 have:=l2Cut_any m b hb (toB l) w (by rw [toB_size]; exact hs)
 rwa [toB_list] at this
def nn (x : List UInt8) : Nat := (numOf x).getD 0
theorem nans_nn (x : List UInt8) : nans (numOf x) = (nn x : Int) := by unfold nn nans; cases numOf x <;> rfl
theorem specNumber_B (x : List UInt8) (w : World) (hx : x.length ≤ 33554432) :
 Calls Try.prog 73 #[.string (toB x)] w fun e w' => e = .returned (.tuple #[.int .i64 (nn x),.bool (numOf x).isSome]) ∧ Below w.heap.size w w' := by
 have:=specNumber_any (toB x) w (by rw [toB_size]; unfold maxLen; omega)
 rwa [toB_list, nans_nn] at this

theorem c4_other {w : World} {g g' : Nat} {a b c d : Int} (h : Cells4 w g' a b c d) (hg : g' ≠ g) (j : Nat) (v : Value) : Cells4 (w.setCell ⟨g, j, none⟩ v) g' a b c d :=
 ⟨(World.cell?_setCell_other _ _ _ _ (fun e => hg (congrArg Addr.block e.symm))).trans h.1, (World.cell?_setCell_other _ _ _ _ (fun e => hg (congrArg Addr.block e.symm))).trans h.2.1, (World.cell?_setCell_other _ _ _ _ (fun e => hg (congrArg Addr.block e.symm))).trans h.2.2.1, (World.cell?_setCell_other _ _ _ _ (fun e => hg (congrArg Addr.block e.symm))).trans h.2.2.2⟩
theorem c4_set0 {w : World} {g : Nat} {a b c d : Int} (h : Cells4 w g a b c d) (p : Int) : Cells4 (w.setCell ⟨g, 0, none⟩ (.int .i64 p)) g p b c d :=
 ⟨World.cell?_setCell_same _ _ _ h.1, (World.cell?_setCell_other _ _ _ _ (by simp)).trans h.2.1, (World.cell?_setCell_other _ _ _ _ (by simp)).trans h.2.2.1, (World.cell?_setCell_other _ _ _ _ (by simp)).trans h.2.2.2⟩
theorem c4_set1 {w : World} {g : Nat} {a b c d : Int} (h : Cells4 w g a b c d) (p : Int) : Cells4 (w.setCell ⟨g, 1, none⟩ (.int .i64 p)) g a p c d :=
 ⟨(World.cell?_setCell_other _ _ _ _ (by simp)).trans h.1, World.cell?_setCell_same _ _ _ h.2.1, (World.cell?_setCell_other _ _ _ _ (by simp)).trans h.2.2.1, (World.cell?_setCell_other _ _ _ _ (by simp)).trans h.2.2.2⟩
theorem c4_set2 {w : World} {g : Nat} {a b c d : Int} (h : Cells4 w g a b c d) (p : Int) : Cells4 (w.setCell ⟨g, 2, none⟩ (.int .i64 p)) g a b p d :=
 ⟨(World.cell?_setCell_other _ _ _ _ (by simp)).trans h.1, (World.cell?_setCell_other _ _ _ _ (by simp)).trans h.2.1, World.cell?_setCell_same _ _ _ h.2.2.1, (World.cell?_setCell_other _ _ _ _ (by simp)).trans h.2.2.2⟩
theorem c4_set3 {w : World} {g : Nat} {a b c d : Int} (h : Cells4 w g a b c d) (p : Int) : Cells4 (w.setCell ⟨g, 3, none⟩ (.int .i64 p)) g a b c p :=
 ⟨(World.cell?_setCell_other _ _ _ _ (by simp)).trans h.1, (World.cell?_setCell_other _ _ _ _ (by simp)).trans h.2.1, (World.cell?_setCell_other _ _ _ _ (by simp)).trans h.2.2.1, World.cell?_setCell_same _ _ _ h.2.2.2⟩
theorem fr_set {w : World} {g g' j : Nat} {v : Value} (h : ∀ i, w.frozen? ⟨g', i, none⟩ = false) : ∀ i, (w.setCell ⟨g, j, none⟩ v).frozen? ⟨g', i, none⟩ = false := fun i => by rw [World.frozen?_setCell]; exact h i

theorem specTxOf (s : ByteArray) (w : World) (hs : s.size ≤ 33554432) :
 Calls Try.prog 77 #[.string s] w fun e w' => e = .returned (txval (txAns s.data.toList)) ∧ Below w.heap.size w w' := by
 obtain ⟨l, hl⟩ : ∃ l, s.data.toList = l:=⟨_, rfl⟩
 have hll : l.length ≤ 33554432:=by rw [← hl]; simpa using hs
 have hsl : s = toB l:=by rw [← hl, toB_data]
 obtain ⟨x0, e0⟩ : ∃ x, x = (cutS 62 l).1:=⟨_, rfl⟩
 obtain ⟨r0, g0⟩ : ∃ x, x = (cutS 62 l).2.1:=⟨_, rfl⟩
 obtain ⟨x1, e1⟩ : ∃ x, x = (cutS 58 r0).1:=⟨_, rfl⟩
 obtain ⟨r1, g1⟩ : ∃ x, x = (cutS 58 r0).2.1:=⟨_, rfl⟩
 obtain ⟨x2, e2⟩ : ∃ x, x = (cutS 35 r1).1:=⟨_, rfl⟩
 obtain ⟨x3, e3⟩ : ∃ x, x = (cutS 35 r1).2.1:=⟨_, rfl⟩
 have l0:=cutS_len 62 l
 rw [← e0, ← g0] at l0
 have l1:=cutS_len 58 r0
 rw [← e1, ← g1] at l1
 have l2:=cutS_len 35 r1
 rw [← e2, ← e3] at l2
 have K0:=hide fun w => l2Cut_B 62 62 rfl l w hll
 have K1:=hide fun w => l2Cut_B 58 58 rfl r0 w (by omega)
 have K2:=hide fun w => l2Cut_B 35 35 rfl r1 w (by omega)
 rw [← e0, ← g0, ← hsl] at K0
 rw [← e1, ← g1] at K1
 rw [← e2, ← e3] at K2
 have M0:=hide fun w => specNumber_B x0 w (by omega)
 have M1:=hide fun w => specNumber_B x1 w (by omega)
 have M2:=hide fun w => specNumber_B x2 w (by omega)
 have M3:=hide fun w => specNumber_B x3 w (by omega)
 have T:=hide fun w => specTxText (nn x0 : Int) (nn x1) (nn x2) (nn x3) w
 have HY : Hid (∀ a b c d, IsTx l a b c d → nn x0 = a ∧ nn x1 = b ∧ nn x2 = c ∧ nn x3 = d):=by
  intro a b c d h
  obtain ⟨c0, c1, c2, c3⟩:=cuts_of h
  obtain ⟨n0, n1, n2, n3⟩:=nums_of h
  rw [e3, e2, e1, e0, g1, g0, c0, c1, c2, c3]
  unfold nn
  rw [n0, n1, n2, n3]
  exact ⟨rfl, rfl, rfl, rfl⟩
 obtain ⟨t, ht⟩ : ∃ t, t = txt (nn x0 : Int) (nn x1) (nn x2) (nn x3):=⟨_, rfl⟩
 have HA : Hid ((s ≠ ⟨#[]⟩ ∧ t = s ∧ txAns l = some (nn x0, nn x1, nn x2, nn x3)) ∨ (txAns l = none ∧ (s = ⟨#[]⟩ ∨ (s ≠ ⟨#[]⟩ ∧ t ≠ s)))):=by
  show _ ∨ _
  cases hq : txAns l with
  | some q =>
   obtain ⟨a, b, c, d⟩:=q
   have h:=txAns_is hq
   obtain ⟨rfl, rfl, rfl, rfl⟩:=HY.out a b c d h
   rw [← hl] at h
   refine .inl ⟨?_, by rw [ht]; exact isTx_txt h, rfl⟩
   intro e
   have:=h.2
   rw [e] at this
   exact txl_ne _ _ _ _ this
  | none =>
   refine .inr ⟨rfl, ?_⟩
   by_cases hz : s = ⟨#[]⟩
   ·exact .inl hz
   refine .inr ⟨hz, fun e => ?_⟩
   rw [ht] at e
   have:=txAns_some (txt_isTx e hz)
   rw [hl, hq] at this
   cases this
 rw [← ht] at T
 rw [hl]
 clear ht HY e0 e1 e2 e3 g0 g1 l0 l1 l2 hl hsl hll
 obtain ⟨p0, hp0⟩ : ∃ p, p = nn x0:=⟨_, rfl⟩
 obtain ⟨p1, hp1⟩ : ∃ p, p = nn x1:=⟨_, rfl⟩
 obtain ⟨p2, hp2⟩ : ∃ p, p = nn x2:=⟨_, rfl⟩
 obtain ⟨p3, hp3⟩ : ∃ p, p = nn x3:=⟨_, rfl⟩
 rw [← hp0] at M0 T HA
 rw [← hp1] at M1 T HA
 rw [← hp2] at M2 T HA
 rw [← hp3] at M3 T HA
 clear hp0 hp1 hp2 hp3
 go_enter Try.func77, Try.ntmps77
 go_wp2_with fail
 refine (K0.out _).mono ?_
 rintro e w1 ⟨rfl, b1⟩
 have z1:=(cells4_new w 0 0 0 0 89).below b1 (by simp)
 have f1:=frozen_below b1 (g:=w.heap.size) (by simp) (fun j => by simp [go_sem])
 have c1 : Below w.heap.size w w1:=((Below.refl _ _).alloc (Nat.le_refl _) _).trans (b1.mono (by simp))
 have s1:=b1.size
 simp at s1
 clear b1
 go_wp2_with fail
 refine (K1.out _).mono ?_
 rintro e w2 ⟨rfl, b2⟩
 have z2:=z1.below b2 (by omega)
 have f2:=frozen_below b2 (g:=w.heap.size) (by omega) f1
 have c2:=c1.trans (b2.mono (by omega))
 have s2:=b2.size
 clear b2 z1 f1 c1
 go_wp2_with fail
 refine (K2.out _).mono ?_
 rintro e w3 ⟨rfl, b3⟩
 have z3:=z2.below b3 (by omega)
 have f3:=frozen_below b3 (g:=w.heap.size) (by omega) f2
 have c3:=c2.trans (b3.mono (by omega))
 have s3:=b3.size
 clear b3 z2 f2 c2
 have bn : Below w3.heap.size w3 (w3.alloc (.cells #[.int .i64 0,.int .i64 0,.int .i64 0,.int .i64 0] 89)):=(Below.refl _ _).alloc (Nat.le_refl _) _
 have X0:=cells4_new w3 0 0 0 0 89
 have Y0 : ∀ j, (w3.alloc (.cells #[.int .i64 0,.int .i64 0,.int .i64 0,.int .i64 0] 89)).frozen? ⟨w3.heap.size, j, none⟩ = false:=fun j => by simp [go_sem]
 have Z0:=z3.below bn (by omega)
 have F0:=frozen_below bn (g:=w.heap.size) (by omega) f3
 have C0:=c3.trans (bn.mono (by omega))
 have S0 : w3.heap.size + 1 ≤ (w3.alloc (.cells #[.int .i64 0,.int .i64 0,.int .i64 0,.int .i64 0] 89)).heap.size:=by simp
 clear bn z3 f3 c3
 have P:=hide (And.intro X0 (And.intro Y0 (And.intro Z0 (And.intro F0 (And.intro C0 S0)))))
 clear X0 Y0 Z0 F0 C0 S0
 go_wp2_with fail
 refine (M0.out _).mono ?_
 rintro e w4 ⟨rfl, b⟩
 obtain ⟨X, Y, Z, F, C, S⟩:=P.out
 clear P
 have S':=b.size
 have X':=X.below b (by omega)
 have Y':=frozen_below b (by omega) Y
 have Z':=Z.below b (by omega)
 have F':=frozen_below b (g:=w.heap.size) (by omega) F
 have C':=C.trans (b.mono (by omega))
 have P:=hide (And.intro (c4_set0 X' (p0 : Int)) (And.intro (fr_set (g:=w3.heap.size) (j:=0) (v:=.int .i64 (p0 : Int)) Y') (And.intro (c4_other (g:=w3.heap.size) Z' (by omega) 0 (.int .i64 (p0 : Int))) (And.intro (fr_set (g:=w3.heap.size) (j:=0) (v:=.int .i64 (p0 : Int)) F') (And.intro (C'.setCell (p:=⟨w3.heap.size, 0, none⟩) (by show w.heap.size ≤ w3.heap.size; omega) (.int .i64 (p0 : Int))) (show w3.heap.size + 1 ≤ (w4.setCell ⟨w3.heap.size, 0, none⟩ (.int .i64 (p0 : Int))).heap.size by simp; omega))))))
 obtain ⟨y0, y1, y2, y3⟩:=X'
 have yf:=Y' 0
 have S'' : w3.heap.size + 1 ≤ w4.heap.size:=by omega
 clear X Y Z F C S b Y' Z' F' C' S'
 go_wp2_with fail
 refine (M1.out _).mono ?_
 rintro e w5 ⟨rfl, b⟩
 obtain ⟨X, Y, Z, F, C, S⟩:=P.out
 clear P
 have S':=b.size
 have X':=X.below b (by omega)
 have Y':=frozen_below b (by omega) Y
 have Z':=Z.below b (by omega)
 have F':=frozen_below b (g:=w.heap.size) (by omega) F
 have C':=C.trans (b.mono (by omega))
 have P:=hide (And.intro (c4_set1 X' (p1 : Int)) (And.intro (fr_set (g:=w3.heap.size) (j:=1) (v:=.int .i64 (p1 : Int)) Y') (And.intro (c4_other (g:=w3.heap.size) Z' (by omega) 1 (.int .i64 (p1 : Int))) (And.intro (fr_set (g:=w3.heap.size) (j:=1) (v:=.int .i64 (p1 : Int)) F') (And.intro (C'.setCell (p:=⟨w3.heap.size, 1, none⟩) (by show w.heap.size ≤ w3.heap.size; omega) (.int .i64 (p1 : Int))) (show w3.heap.size + 1 ≤ (w5.setCell ⟨w3.heap.size, 1, none⟩ (.int .i64 (p1 : Int))).heap.size by simp; omega))))))
 obtain ⟨y0, y1, y2, y3⟩:=X'
 have yf:=Y' 1
 have S'' : w3.heap.size + 1 ≤ w5.heap.size:=by omega
 clear X Y Z F C S b Y' Z' F' C' S'
 go_wp2_with fail
 refine (M2.out _).mono ?_
 rintro e w6 ⟨rfl, b⟩
 obtain ⟨X, Y, Z, F, C, S⟩:=P.out
 clear P
 have S':=b.size
 have X':=X.below b (by omega)
 have Y':=frozen_below b (by omega) Y
 have Z':=Z.below b (by omega)
 have F':=frozen_below b (g:=w.heap.size) (by omega) F
 have C':=C.trans (b.mono (by omega))
 have P:=hide (And.intro (c4_set2 X' (p2 : Int)) (And.intro (fr_set (g:=w3.heap.size) (j:=2) (v:=.int .i64 (p2 : Int)) Y') (And.intro (c4_other (g:=w3.heap.size) Z' (by omega) 2 (.int .i64 (p2 : Int))) (And.intro (fr_set (g:=w3.heap.size) (j:=2) (v:=.int .i64 (p2 : Int)) F') (And.intro (C'.setCell (p:=⟨w3.heap.size, 2, none⟩) (by show w.heap.size ≤ w3.heap.size; omega) (.int .i64 (p2 : Int))) (show w3.heap.size + 1 ≤ (w6.setCell ⟨w3.heap.size, 2, none⟩ (.int .i64 (p2 : Int))).heap.size by simp; omega))))))
 obtain ⟨y0, y1, y2, y3⟩:=X'
 have yf:=Y' 2
 have S'' : w3.heap.size + 1 ≤ w6.heap.size:=by omega
 clear X Y Z F C S b Y' Z' F' C' S'
 go_wp2_with fail
 refine (M3.out _).mono ?_
 rintro e w7 ⟨rfl, b⟩
 obtain ⟨X, Y, Z, F, C, S⟩:=P.out
 clear P
 have S':=b.size
 have X':=X.below b (by omega)
 have Y':=frozen_below b (by omega) Y
 have Z':=Z.below b (by omega)
 have F':=frozen_below b (g:=w.heap.size) (by omega) F
 have C':=C.trans (b.mono (by omega))
 have P:=hide (And.intro (c4_set3 X' (p3 : Int)) (And.intro (fr_set (g:=w3.heap.size) (j:=3) (v:=.int .i64 (p3 : Int)) Y') (And.intro (c4_other (g:=w3.heap.size) Z' (by omega) 3 (.int .i64 (p3 : Int))) (And.intro (fr_set (g:=w3.heap.size) (j:=3) (v:=.int .i64 (p3 : Int)) F') (And.intro (C'.setCell (p:=⟨w3.heap.size, 3, none⟩) (by show w.heap.size ≤ w3.heap.size; omega) (.int .i64 (p3 : Int))) (show w3.heap.size + 1 ≤ (w7.setCell ⟨w3.heap.size, 3, none⟩ (.int .i64 (p3 : Int))).heap.size by simp; omega))))))
 obtain ⟨y0, y1, y2, y3⟩:=X'
 have yf:=Y' 3
 have S'' : w3.heap.size + 1 ≤ w7.heap.size:=by omega
 clear X Y Z F C S b Y' Z' F' C' S'
 rcases HA.out with ⟨hz, hts, hans⟩ | ⟨hans, hz | ⟨hz, hts⟩⟩
 ·have hne:=str_ne hz
  have hne2 : (s.toList == []) = false:=by
   rw [beq_eq_false_iff_ne]; intro e; apply hz; apply ByteArray.ext; apply Array.toList_inj.1; rw [ByteArray.toList_eq] at e; exact e
  obtain ⟨n0, n1, n2, n3⟩:=P.out.1
  rw [hts] at T
  go_wp2_with fail
  refine (T.out _).mono ?_
  rintro e w8 ⟨rfl, b8⟩
  obtain ⟨X, Y, Z, F, C, S⟩:=P.out
  obtain ⟨m0, m1, m2, m3⟩:=Z.below b8 (by omega)
  have mf:=frozen_below b8 (g:=w.heap.size) (by omega) F
  obtain ⟨k0, k1, k2, k3⟩:=X.below b8 (by omega)
  have C8:=C.trans (b8.mono (by omega))
  clear P X Y Z F C S b8 n0 n1 n2 n3
  go_wp2
  refine bodyPost_ret (v := .tuple #[txv p0 p1 p2 p3,.bool true]) (by simp [results, Try.results77, go_sem, m0, m1, m2, m3]) rfl ?_
  exact ⟨by rw [hans]; rfl, (((C8.setCell (Nat.le_refl _) _).setCell (Nat.le_refl _) _).setCell (Nat.le_refl _) _).setCell (Nat.le_refl _) _⟩
 ·subst hz
  obtain ⟨X, Y, Z, F, C, S⟩:=P.out
  obtain ⟨n0, n1, n2, n3⟩:=X
  obtain ⟨m0, m1, m2, m3⟩:=Z
  clear P
  go_wp2
  refine bodyPost_ret (v := .tuple #[txv 0 0 0 0,.bool false]) (by simp [results, Try.results77, go_sem, m0, m1, m2, m3]) rfl ?_
  exact ⟨by rw [hans]; rfl, (((C.setCell (Nat.le_refl _) _).setCell (Nat.le_refl _) _).setCell (Nat.le_refl _) _).setCell (Nat.le_refl _) _⟩
 have hne:=str_ne hz
 have hne2 : (s.toList == []) = false:=by
  rw [beq_eq_false_iff_ne]; intro e; apply hz; apply ByteArray.ext; apply Array.toList_inj.1; rw [ByteArray.toList_eq] at e; exact e
 have hnt:=str_ne hts
 obtain ⟨n0, n1, n2, n3⟩:=P.out.1
 go_wp2_with fail
 refine (T.out _).mono ?_
 rintro e w8 ⟨rfl, b8⟩
 obtain ⟨X, Y, Z, F, C, S⟩:=P.out
 obtain ⟨m0, m1, m2, m3⟩:=Z.below b8 (by omega)
 have mf:=frozen_below b8 (g:=w.heap.size) (by omega) F
 obtain ⟨k0, k1, k2, k3⟩:=X.below b8 (by omega)
 have C8:=C.trans (b8.mono (by omega))
 clear P X Y Z F C S b8 n0 n1 n2 n3
 go_wp2
 refine bodyPost_ret (v := .tuple #[txv 0 0 0 0,.bool false]) (by simp [results, Try.results77, go_sem, m0, m1, m2, m3]) rfl ?_
 exact ⟨by rw [hans]; rfl, (((C8.setCell (Nat.le_refl _) _).setCell (Nat.le_refl _) _).setCell (Nat.le_refl _) _).setCell (Nat.le_refl _) _⟩
end
section

def pcs (s : ByteArray) (b : Int) : Nat → List ByteArray × Nat
 | 0 => ([], 0)
 | k + 1 => if ((s.data.toList.getD k 0).toNat : Int) = b then ((pcs s b k).1 ++ [s.extract (pcs s b k).2 k], k + 1) else pcs s b k
theorem pcs_le (s : ByteArray) (b : Int) (k : Nat) : (pcs s b k).2 ≤ k ∧ (pcs s b k).1.length ≤ k := by
 induction k with
 | zero => simp [pcs]
 | succ k ih =>
  rw [pcs]; split
  ·simp; omega
  omega
def splitAns (s : ByteArray) (b : Int) : List ByteArray := (pcs s b s.size).1 ++ [s.extract (pcs s b s.size).2 s.size]
theorem splitAns_len (s : ByteArray) (b : Int) : (splitAns s b).length ≤ s.size + 1 := by
 have:=(pcs_le s b s.size).2
 simp [splitAns]; omega
theorem pcs_hit (s : ByteArray) (b : Int) (k : Nat) (h : k < s.size) (hb : (s[k].toNat : Int) = b) : pcs s b (k + 1) = ((pcs s b k).1 ++ [s.extract (pcs s b k).2 k], k + 1) := by
 rw [pcs, if_pos]
 rw [← hb]
 have : s.data.toList.getD k 0 = s[k]:=by rw [List.getD_eq_getElem?_getD, List.getElem?_eq_getElem (by simpa using h)]; rfl
 rw [this]
theorem pcs_miss (s : ByteArray) (b : Int) (k : Nat) (h : k < s.size) (hb : (s[k].toNat : Int) ≠ b) : pcs s b (k + 1) = pcs s b k := by
 rw [pcs, if_neg]
 have : s.data.toList.getD k 0 = s[k]:=by rw [List.getD_eq_getElem?_getD, List.getElem?_eq_getElem (by simpa using h)]; rfl
 rw [this]; exact hb
end
section
open Go.RowKit
theorem os_more {B : Nat} {w wr w1 : World} {v v' : Value} {o : Obj} {xs : List ByteArray} {c : ByteArray} (hB : B ≤ wr.heap.size) (ho : OS wr B v xs) (hb : Below B w wr)
 (ho' : w1.ownsRow B 9 1 v' (xs.length + 1) (xs.map Value.string ++ [.string c])) (hg : (wr.alloc o).grownBy w1 v.ownBlock) :
 OS w1 B v' (xs ++ [c]) ∧ Below B w w1 :=
 ⟨by unfold OS; simpa using ho', (hb.alloc hB o).grown hg (by simp; omega) (fun j hj => (ho.lt j hj).1)⟩

theorem ext_size (s : ByteArray) (n k : Nat) : (s.extract n k).size ≤ s.size := by rw [ByteArray.size_extract]; omega
theorem specSplit_any (s : ByteArray) (b : Int) (w : World) (hs : s.size ≤ 33554432) :
 Calls Try.prog 71 #[.string s,.int .u8 b] w fun e w' => ∃ v, e = .returned v ∧ OS w' w.heap.size v (splitAns s b) ∧ Below w.heap.size w w' := by
 obtain ⟨i0, hi, hz0, hz1, hz2⟩:=info_parts Try.info9
 go_enter Try.func71, Try.ntmps71
 go_wp2
 go_loopw [5, 6, 7] (fun v f i wr => ∃ k : Nat, k ≤ s.size + 1 ∧ i = .int .i64 k ∧ Below w.heap.size w wr ∧ ((k ≤ s.size ∧ ∃ n : Nat, n ≤ k ∧ f = .int .i64 n ∧ Hid (n = (pcs s b k).2) ∧ OS wr w.heap.size v (pcs s b k).1) ∨ (k = s.size + 1 ∧ OS wr w.heap.size v (splitAns s b)))) (fun _ _ i _ => s.size + 1 - (intOf i).toNat)
 case atStart => exact ⟨0, by omega, rfl, (Below.refl _ _).alloc (Nat.le_refl _) _,.inl ⟨by omega, 0, by omega, rfl, rfl, World.ownsRow_lit w #[] 0 (Nat.le_refl _) (by unfold maxLen; omega) rfl⟩⟩
 case round =>
  obtain ⟨k, hk, rfl, hb, hcase⟩:=hrel
  have hsz:=hb.size
  rcases hcase with ⟨hks, n, hnk, rfl, HN, ho⟩ | ⟨rfl, ho⟩
  ·have hpl:=(pcs_le s b k).2
   by_cases hlt : k < s.size
   ·have hke : ((k : Int) == (s.size : Int)) = false:=by simp; omega
    by_cases hbk : (s[k].toNat : Int) = b
    ·have hbk' : ((s[k].toNat : Int) == b) = true:=by simp [hbk]
     have HP:=hide (pcs_hit s b k hlt hbk)
     clear hbk
     go_wp2_with (first
      | (at_builtin; refine wpList_append_own _ rfl _ _ 101 rfl w.heap.size 9 i0 (.string ⟨#[]⟩) 1 16 Try.underlying101 hi hz0 hz1 hz2 rfl (by decide) _ _ _ rfl (World.ownsRow.alloc ho _) ⟨wr.heap.size, 0, none⟩ 1 1 [.string (s.extract n k)] rfl rfl (one_cell _ _ _) (one_text _) (by unfold maxLen; omega) (by omega) (by simp; omega) ?_; intro v' w2 ho' hg' _; have R := os_more hsz ho hb ho' hg'; clear ho ho' hg' hb))
     go_roundw
     case rel => exact ⟨k + 1, by omega, by go_num, R.2, .inl ⟨by omega, k + 1, by omega, by go_num, by rw [HP.out]; rfl, by rw [HP.out, ← HN.out]; exact R.1⟩⟩
     case measure => simp [intOf]; omega
    have hbk' : ((s[k].toNat : Int) == b) = false:=by simp [hbk]
    have HP:=hide (pcs_miss s b k hlt hbk)
    clear hbk
    have HO:=hide ho
    clear ho
    go_wp2
    go_roundw
    case rel => exact ⟨k + 1, by omega, by go_num, hb, .inl ⟨by omega, n, by omega, rfl, by rw [HP.out]; exact HN, by rw [HP.out]; exact HO.out⟩⟩
    case measure => simp [intOf]; omega
   have hks' : k = s.size:=by omega
   have hke : ((k : Int) == (s.size : Int)) = true:=by simp; omega
   have HA : Hid (splitAns s b = (pcs s b k).1 ++ [s.extract n k]):=by unfold splitAns; rw [HN.out, hks']; rfl
   have HK:=hide hks'
   clear hks'
   go_wp2_with (first
    | (at_builtin; refine wpList_append_own _ rfl _ _ 101 rfl w.heap.size 9 i0 (.string ⟨#[]⟩) 1 16 Try.underlying101 hi hz0 hz1 hz2 rfl (by decide) _ _ _ rfl (World.ownsRow.alloc ho _) ⟨wr.heap.size, 0, none⟩ 1 1 [.string (s.extract n k)] rfl rfl (one_cell _ _ _) (one_text _) (by unfold maxLen; omega) (by omega) (by simp; omega) ?_; intro v' w2 ho' hg' _; have R := os_more hsz ho hb ho' hg'; clear ho ho' hg' hb))
   go_roundw
   case rel => exact ⟨k + 1, by omega, by go_num, R.2, .inr ⟨by rw [HK.out], by rw [HA.out]; exact R.1⟩⟩
   case measure => simp [intOf]; omega
  have HO:=hide ho
  clear ho
  go_wp2
  go_ret
  exact ⟨_, rfl, HO.out, hb⟩
end
section
open Go.RowKit
variable [∀ (a b c d : Int), Decidable (Ok4 a b c d)]
variable [∀ (a b c d : Nat), Decidable (okN a b c d)]
def toT (q : Nat × Nat × Nat × Nat) : T4 := (q.1, q.2.1, q.2.2.1, q.2.2.2)
def allTx : List ByteArray → Option (List T4)
 | [] => some []
 | p :: ps => match txAns p.data.toList with
  | some q => (allTx ps).map (toT q :: ·)
  | none => none
theorem allTx_more (ps : List ByteArray) (p : ByteArray) : allTx (ps ++ [p]) = (allTx ps).bind fun ys => (txAns p.data.toList).map fun q => ys ++ [toT q] := by
 induction ps with
 | nil => rw [List.nil_append, allTx, allTx]; cases txAns p.data.toList <;> simp [allTx]
 | cons r ps ih =>
  rw [List.cons_append, allTx, allTx]
  cases txAns r.data.toList with
  | none => rfl
  | some q => simp only [ih]; cases allTx ps <;> cases txAns p.data.toList <;> simp
theorem allTx_none {ps : List ByteArray} (k : Nat) (h : allTx (ps.take k) = none) : allTx ps = none := by
 rw [← List.take_append_drop k ps]
 generalize ps.drop k = r
 generalize ps.take k = l at h
 induction l with
 | nil => simp [allTx] at h
 | cons x l ih =>
  rw [List.cons_append, allTx]
  rw [allTx] at h
  cases hx : txAns x.data.toList with
  | none => rfl
  | some q => rw [hx] at h; simp at h; simp [ih h]
theorem take_more (ps : List ByteArray) (k : Nat) (hk : k < ps.length) : ps.take (k + 1) = ps.take k ++ [ps.getD k ByteArray.empty] := by
 rw [List.take_succ_eq_append_getElem hk, List.getD_eq_getElem?_getD, List.getElem?_eq_getElem hk]; rfl
def txsAns (s : ByteArray) : Option (List T4) := if s = ⟨#[]⟩ then some [] else allTx (splitAns s 44)
theorem pcs_size (s : ByteArray) (b : Int) (k : Nat) : ∀ p ∈ (pcs s b k).1, p.size ≤ s.size := by
 induction k with
 | zero => simp [pcs]
 | succ k ih =>
  rw [pcs]; split
  ·intro p hp
   rw [List.mem_append] at hp
   rcases hp with hp | hp
   ·exact ih p hp
   simp at hp; rw [hp]; exact ext_size s _ _
  exact ih
theorem split_size (s : ByteArray) (b : Int) : ∀ p ∈ splitAns s b, p.size ≤ s.size := by
 intro p hp
 unfold splitAns at hp
 rw [List.mem_append] at hp
 rcases hp with hp | hp
 ·exact pcs_size s b _ p hp
 simp at hp; rw [hp]; exact ext_size s _ _
theorem getD_mem {ps : List ByteArray} {k : Nat} (hk : k < ps.length) : ps.getD k ByteArray.empty ∈ ps := by
 rw [List.getD_eq_getElem?_getD, List.getElem?_eq_getElem hk]; exact List.getElem_mem hk

theorem Try.infoTx : (Try.prog.info? 89).map (fun i => (i.zero, i.size, i.bytes)) = some (some (txv 0 0 0 0), 4, 32) := by kernel_rfl
theorem four_cell (w : World) (x : T4) (t : TypeId) (j : Nat) (u : Value) (h : (tcell x)[j]? = some u) : (w.alloc (.cells #[.int .i64 x.1,.int .i64 x.2.1,.int .i64 x.2.2.1,.int .i64 x.2.2.2] t)).cell? ((⟨w.heap.size, 0, none⟩ : Addr).add j) = some u := by
 match j, h with
 | 0, h => simp [tcell] at h; subst h; simp [Addr.add]
 | 1, h => simp [tcell] at h; subst h; simp [Addr.add]
 | 2, h => simp [tcell] at h; subst h; simp [Addr.add]
 | 3, h => simp [tcell] at h; subst h; simp [Addr.add]
 | j + 4, h => simp [tcell] at h
theorem four_plain (x : T4) (u : Value) (h : u ∈ tcell x) : u.oneCell' = true := by
 simp [tcell] at h; rcases h with rfl | rfl | rfl | rfl <;> rfl
theorem os_ot {w : World} {B B' : Nat} {v u : Value} {ps : List ByteArray} {ys : List T4} (h : OS w B v ps) (h' : OT w B' u ys) : v.ownBlock = none ∨ v.ownBlock ≠ u.ownBlock := by
 rcases h.2 with ⟨rfl, _⟩ | ⟨g, cap, cur, rfl, _, hg, _⟩
 ·exact .inl rfl
 rcases h'.2 with ⟨rfl, _⟩ | ⟨g', cap', cur', rfl, _, hg', _⟩
 ·exact .inr (by simp [Value.ownBlock])
 refine .inr fun e => ?_
 simp [Value.ownBlock] at e
 rw [e, hg'] at hg
 simp at hg
theorem ot_more {B : Nat} {w wr w1 : World} {v v' : Value} {xs : List T4} {x : T4} (hB : B ≤ wr.heap.size) (ho : OT wr B v xs) (hb : Below B w wr)
 (ho' : w1.ownsRow B 89 4 v' (xs.length + 1) (tcells xs ++ tcell x)) (hg : wr.grownBy w1 v.ownBlock) :
 OT w1 B v' (xs ++ [x]) ∧ Below B w w1 :=
 ⟨by unfold OT; rw [tcells_append, List.length_append]; simpa [tcells] using ho', hb.grown hg hB (fun j hj => (ho.lt j hj).1)⟩
theorem os_alloc {w : World} {B : Nat} {v : Value} {xs : List ByteArray} (h : OS w B v xs) (o : Obj) : OS (w.alloc o) B v xs := World.ownsRow.alloc h o
theorem ot_alloc {w : World} {B : Nat} {v : Value} {xs : List T4} (h : OT w B v xs) (o : Obj) : OT (w.alloc o) B v xs := World.ownsRow.alloc h o
theorem os_cell {w : World} {B g n cap : Nat} {ps : List ByteArray} (h : OS w B (.slice (some ⟨g, 0, none⟩) n cap) ps) (hn : n = ps.length) (k : Nat) (hk : k < ps.length) : w.cell? ⟨g, k, none⟩ = some (.string (ps.getD k ByteArray.empty)) := by
 subst hn
 rw [World.ownsRow.cellAt h k (by omega)]; simp [List.getElem?_eq_getElem hk]
end
section
open Go.RowKit
variable [∀ (a b c d : Int), Decidable (Ok4 a b c d)]
variable [∀ (a b c d : Nat), Decidable (okN a b c d)]
def OkT (x : T4) : Prop := Ok4 x.1 x.2.1 x.2.2.1 x.2.2.2
variable [∀ (x : T4), Decidable (OkT x)]
def txT (x : T4) : ByteArray := txt x.1 x.2.1 x.2.2.1 x.2.2.2
def accT (xs : List T4) : Nat → List UInt8
 | 0 => []
 | k + 1 => (if 0 < k then accT xs k ++ [44] else accT xs k) ++ (txT (xs.getD k (0, 0, 0, 0))).data.toList
def txsT (xs : List T4) : ByteArray := if ∀ x ∈ xs, OkT x then toB (accT xs xs.length) else ⟨#[]⟩
theorem ok_nat {a b c d : Int} (h : Ok4 a b c d) : ∃ a' b' c' d' : Nat, a = a' ∧ b = b' ∧ c = c' ∧ d = d' := by
 obtain ⟨⟨a1, _⟩, ⟨b1, _⟩, ⟨c1, _⟩, ⟨d1, _⟩⟩:=h
 exact ⟨a.toNat, b.toNat, c.toNat, d.toNat, by omega, by omega, by omega, by omega⟩
theorem txT_size (x : T4) : (txT x).size ≤ 27 := by
 unfold txT txt
 split
 ·rename_i h
  obtain ⟨a, b, c, d⟩:=x
  obtain ⟨⟨a1, a2⟩, ⟨b1, b2⟩, ⟨c1, c2⟩, ⟨d1, d2⟩⟩:=h
  simp only at *
  have za:=dg_size a (by omega) (by omega)
  have zb:=dg_size b (by omega) (by omega)
  have zc:=dg_size c (by omega) (by omega)
  have zd:=dg_size d (by omega) (by omega)
  have o : ∀ c : UInt8, (⟨#[c]⟩ : ByteArray).size = 1:=fun _ => rfl
  unfold txs dg
  rw [ByteArray.size_append, ByteArray.size_append, ByteArray.size_append, ByteArray.size_append, ByteArray.size_append, ByteArray.size_append, o, o, o]
  omega
 exact Nat.zero_le _
theorem txT_ne {x : T4} (h : OkT x) : txT x ≠ ⟨#[]⟩ := by
 unfold txT txt
 obtain ⟨a, b, c, d⟩:=x
 show (if Ok4 a b c d then txs a b c d else (⟨#[]⟩ : ByteArray)) ≠ _
 rw [if_pos (show Ok4 a b c d from h)]
 obtain ⟨a', b', c', d', rfl, rfl, rfl, rfl⟩:=ok_nat h
 rw [txs_toB]
 intro e
 have:=congrArg (fun s : ByteArray => s.data.toList) e
 exact txl_ne a' b' c' d' this
theorem size_len (s : ByteArray) : s.data.toList.length = s.size := by simp
theorem accT_len (xs : List T4) (k : Nat) : (accT xs k).length ≤ k * 28 := by
 induction k with
 | zero => simp [accT]
 | succ k ih =>
  have:=txT_size (xs.getD k (0, 0, 0, 0))
  have e:=size_len (txT (xs.getD k (0, 0, 0, 0)))
  rw [accT]
  split <;> simp only [List.length_append, List.length_cons, List.length_nil, e] <;> omega
theorem txsT_no {xs : List T4} {k : Nat} (hk : k < xs.length) (h : ¬ OkT (xs.getD k (0, 0, 0, 0))) : txsT xs = ⟨#[]⟩ := by
 unfold txsT
 rw [if_neg]
 intro ha
 exact h (ha _ (by rw [List.getD_eq_getElem?_getD, List.getElem?_eq_getElem hk]; exact List.getElem_mem hk))
theorem txsT_yes {xs : List T4} (h : ∀ k, k < xs.length → OkT (xs.getD k (0, 0, 0, 0))) : txsT xs = toB (accT xs xs.length) := by
 unfold txsT
 rw [if_pos]
 intro x hx
 obtain ⟨k, hk, rfl⟩:=List.mem_iff_getElem.1 hx
 have:=h k hk
 rwa [List.getD_eq_getElem?_getD, List.getElem?_eq_getElem hk] at this
theorem toB_append (x y : List UInt8) : toB x ++ toB y = toB (x ++ y) := by
 apply ByteArray.ext; apply Array.toList_inj.1; simp [toB]
theorem ne2 {s : ByteArray} (hz : s ≠ ⟨#[]⟩) : (s.toList == []) = false := by
 rw [beq_eq_false_iff_ne]; intro e; apply hz; apply ByteArray.ext; apply Array.toList_inj.1; rw [ByteArray.toList_eq] at e; exact e

theorem specTxsText (v : Value) (xs : List T4) (w : World) (hx : xs.length ≤ 1048577) (h : RT w v xs) :
 Calls Try.prog 70 #[v] w fun e w' => e = .returned (.string (txsT xs)) ∧ Below w.heap.size w w' := by
 obtain ⟨hl, ao, ca, rfl, ha⟩:=h
 go_enter Try.func70, Try.ntmps70
 go_wp2
 go_loopw [3, 4] (fun o i wr => ∃ k : Nat, k ≤ xs.length ∧ i = .int .i64 k ∧ o = .string (toB (accT xs k)) ∧ Hid (∀ j, j < k → OkT (xs.getD j (0, 0, 0, 0))) ∧ Below w.heap.size w wr) (fun _ i _ => xs.length - (intOf i).toNat)
 case atStart => exact ⟨0, Nat.zero_le _, rfl, rfl, hide (fun j hj => by omega), Below.refl _ _⟩
 case round =>
  obtain ⟨k, hk, rfl, rfl, HK, br⟩:=hrel
  have hsr:=br.size
  by_cases hlt : k < xs.length
  ·rcases ha with ha | ⟨g, rfl, ha⟩
   ·subst ha; simp at hlt
   obtain ⟨a0, a1, a2, a3⟩:=ha k hlt
   have hg : g < w.heap.size:=cell_lt a0
   have c0:=(br.cell (p:=⟨g, k * 4, none⟩) hg).trans a0
   have c1:=(br.cell (p:=⟨g, k * 4 + 1, none⟩) hg).trans a1
   have c2:=(br.cell (p:=⟨g, k * 4 + 2, none⟩) hg).trans a2
   have c3:=(br.cell (p:=⟨g, k * 4 + 3, none⟩) hg).trans a3
   have hal:=accT_len xs k
   have hts:=txT_size (xs.getD k (0, 0, 0, 0))
   have HS : Hid (accT xs (k + 1) = (if 0 < k then accT xs k ++ [44] else accT xs k) ++ (txT (xs.getD k (0, 0, 0, 0))).data.toList):=rfl
   have HNO:=hide (fun h => txsT_no hlt h)
   clear ha
   generalize hxk : xs.getD k (0, 0, 0, 0) = x at *
   obtain ⟨xa, xb, xc, xd⟩:=x
   simp only at c0 c1 c2 c3 a0 a1 a2 a3
   by_cases hok : OkT (xa, xb, xc, xd)
   ·have CK:=hide fun w => specTxOk_yes xa xb xc xd w hok
    have CT:=hide fun w => specTxText xa xb xc xd w
    have HK' : Hid (∀ j, j < k + 1 → OkT (xs.getD j (0, 0, 0, 0))):=fun j hj => by
     by_cases e : j = k
     ·subst e; rw [hxk]; exact hok
     exact HK.out j (by omega)
    have htx : txT (xa, xb, xc, xd) = txt xa xb xc xd:=rfl
    rw [htx] at HS hts
    clear htx HK HNO hok hxk
    generalize txt xa xb xc xd = t at *
    go_wp2_with fail
    refine (CK.out _).mono ?_
    rintro e w1 ⟨rfl, b1⟩
    have b1':=br.trans (b1.mono hsr)
    have s1:=b1.size
    have d0:=(b1'.cell (p:=⟨g, k * 4, none⟩) hg).trans a0
    have d1:=(b1'.cell (p:=⟨g, k * 4 + 1, none⟩) hg).trans a1
    have d2:=(b1'.cell (p:=⟨g, k * 4 + 2, none⟩) hg).trans a2
    have d3:=(b1'.cell (p:=⟨g, k * 4 + 3, none⟩) hg).trans a3
    clear a0 a1 a2 a3 c0 c1 c2 c3
    by_cases hk0 : 0 < k
    ·obtain ⟨u, hu⟩ : ∃ u, u = toB (accT xs k ++ [44]):=⟨_, rfl⟩
     have us : u.size ≤ k * 28 + 1:=by rw [hu, toB_size]; simp; omega
     have q1 : ∀ w, (Op.stringOp .add (toB (accT xs k)) (⟨#[44]⟩ : ByteArray)).run Try.prog w = .ok (.string u) w:=fun w => by
      rw [run_string_add_sum w _ _ (by rw [toB_size]; show _ + 1 ≤ _; omega), hu, ← toB_append]; rfl
     have q2 : ∀ w, (Op.stringOp .add u t).run Try.prog w = .ok (.string (toB (accT xs (k + 1)))) w:=fun w => by
      rw [run_string_add_sum w _ _ (by omega), HS.out, if_pos hk0, hu]
      rw [← toB_data t, toB_append, toB_data t]
     clear hu us HS
     generalize toB (accT xs k) = ok at *
     generalize hnx : toB (accT xs (k + 1)) = ok' at *
     go_wp2_with fail
     refine (CT.out _).mono ?_
     rintro e w2 ⟨rfl, b2⟩
     have b2':=b1'.trans (b2.mono (by omega))
     go_wp2
     go_roundw
     case rel => exact ⟨k + 1, by omega, by go_num, by rw [hnx], HK', b2'⟩
     case measure => simp [intOf]; omega
    have q2 : ∀ w, (Op.stringOp .add (toB (accT xs k)) t).run Try.prog w = .ok (.string (toB (accT xs (k + 1)))) w:=fun w => by
     rw [run_string_add_sum w _ _ (by rw [toB_size]; omega), HS.out, if_neg hk0]
     rw [← toB_data t, toB_append, toB_data t]
    clear HS
    generalize toB (accT xs k) = ok at *
    generalize hnx : toB (accT xs (k + 1)) = ok' at *
    go_wp2_with fail
    refine (CT.out _).mono ?_
    rintro e w2 ⟨rfl, b2⟩
    have b2':=b1'.trans (b2.mono (by omega))
    go_wp2
    go_roundw
    case rel => exact ⟨k + 1, by omega, by go_num, by rw [hnx], HK', b2'⟩
    case measure => simp [intOf]; omega
   have CK:=hide fun w => specTxOk_no xa xb xc xd w hok
   have HN:=hide (HNO.out hok)
   clear HNO HK HS hok
   generalize toB (accT xs k) = ok at *
   go_wp2_with fail
   refine (CK.out _).mono ?_
   rintro e w1 ⟨rfl, b1⟩
   go_wp2
   go_ret
   exact ⟨by rw [HN.out]; rfl, br.trans (b1.mono hsr)⟩
  have hkn : k = xs.length:=by omega
  have HY : Hid (txsT xs = toB (accT xs k)):=by rw [hkn]; rw [hkn] at HK; exact txsT_yes HK.out
  clear HK ha
  generalize toB (accT xs k) = ok at *
  go_wp2
  go_ret
  exact ⟨by rw [HY.out]; rfl, br⟩
end
section
open Go.RowKit
variable [∀ (a b c d : Int), Decidable (Ok4 a b c d)]
variable [∀ (a b c d : Nat), Decidable (okN a b c d)]
variable [∀ (x : T4), Decidable (OkT x)]
theorem c4_grown {w w' : World} {r g : Nat} {a b c d : Int} (h : Cells4 w r a b c d) (hg : w.grownBy w' (some g)) (hr : r ≠ g) : Cells4 w' r a b c d :=
 ⟨hg.cell h.1 (by simpa using hr), hg.cell h.2.1 (by simpa using hr), hg.cell h.2.2.1 (by simpa using hr), hg.cell h.2.2.2 (by simpa using hr)⟩
theorem fr_grown {w w' : World} {r g : Nat} (h : ∀ j, w.frozen? ⟨r, j, none⟩ = false) (hl : r < w.heap.size) (hg : w.grownBy w' (some g)) (hr : r ≠ g) : ∀ j, w'.frozen? ⟨r, j, none⟩ = false := fun j =>
 (World.frozen?_of_block (a := ⟨r, j, none⟩) (hg.block r hl (by simpa using hr))).trans (h j)
theorem grown_set {w w' : World} {row : Option Nat} (h : w.grownBy w' row) {r : Nat} (hr : w.heap.size ≤ r) (j : Nat) (v : Value) : w.grownBy (w'.setCell ⟨r, j, none⟩ v) row :=
 grown_new h (set_grown w' r j v) (fun k e => by simp at e; omega)
theorem Cur.set {w : World} {base g ca : Nat} {ao : Option Addr} {xs : List Int} (h : Cur w base g ao ca xs) {r : Nat} (hr : g < r) (j : Nat) (v : Value) : Cur (w.setCell ⟨r, j, none⟩ v) base g ao ca xs :=
 h.grownNew (set_grown w r j v) (fun k e => by simp at e; omega)

theorem drawRight (base g ca : Nat) (ao : Option Addr) (xs : List Int) (w : World) (hB : base ≤ w.heap.size) (h : Cur w base g ao ca xs) :
 Calls Try.prog 63 #[.pointer (some ⟨g, 0, none⟩)] w fun e w' => ∃ a b c d : Int, e = .returned (txv a b c d) ∧ Cur w' base g ao ca xs ∧ w.grownBy w' (some g) := by
 have hlt:=h.lt
 have h0:=h.alloc hB (.cells #[.int .i64 0,.int .i64 0,.int .i64 0,.int .i64 0] 89)
 have g0:=World.grownBy_alloc w (.cells #[.int .i64 0,.int .i64 0,.int .i64 0,.int .i64 0] 89) (some g)
 have z0:=cells4_new w 0 0 0 0 89
 have f0 : ∀ j, (w.alloc (.cells #[.int .i64 0,.int .i64 0,.int .i64 0,.int .i64 0] 89)).frozen? ⟨w.heap.size, j, none⟩ = false:=fun j => by simp [go_sem]
 clear h
 have P:=hide (And.intro h0 (And.intro g0 (And.intro z0 f0)))
 clear h0 g0 z0 f0
 go_enter Try.func63, Try.ntmps63
 go_wp2_with fail
 refine (below_any base g ca ao xs 4 _ (by simp; omega) (by omega) (by omega) P.out.1).mono ?_
 rintro e w1 ⟨a, rfl, _, _, c1, e1⟩
 have P1:=hide (And.intro c1 (And.intro (grown_trans P.out.2.1 e1) (And.intro (c4_grown P.out.2.2.1 e1 (by omega)) (fr_grown P.out.2.2.2 (by simp) e1 (by omega)))))
 have s1 : w.heap.size + 1 ≤ w1.heap.size:=by have:=e1.size; simp at this; omega
 clear P c1 e1
 go_wp2_with fail
 refine (below_any base g ca ao xs 4 _ (by omega) (by omega) (by omega) P1.out.1).mono ?_
 rintro e w2 ⟨b, rfl, _, _, c2, e2⟩
 have P2:=hide (And.intro c2 (And.intro (grown_trans P1.out.2.1 e2) (And.intro (c4_grown P1.out.2.2.1 e2 (by omega)) (fr_grown P1.out.2.2.2 (by omega) e2 (by omega)))))
 have s2 : w.heap.size + 1 ≤ w2.heap.size:=by have:=e2.size; omega
 clear P1 c2 e2
 go_wp2_with fail
 refine (pickInt_lit base g ca ao xs [0, 5, 60, 100, 1000] w2 (by omega) (by decide) (by decide) P2.out.1).mono ?_
 rintro e w3 ⟨c, rfl, _, c3, e3⟩
 have P3:=hide (And.intro c3 (And.intro (grown_trans P2.out.2.1 e3) (And.intro (c4_grown P2.out.2.2.1 e3 (by omega)) (fr_grown P2.out.2.2.2 (by omega) e3 (by omega)))))
 have s3 : w.heap.size + 1 ≤ w3.heap.size:=by have:=e3.size; omega
 clear P2 c3 e3
 go_wp2_with fail
 refine (below_any base g ca ao xs 3 _ (by omega) (by omega) (by omega) P3.out.1).mono ?_
 rintro e w4 ⟨d, rfl, _, _, c4, e4⟩
 have gg:=grown_trans P3.out.2.1 e4
 obtain ⟨z0, z1, z2, z3⟩:=c4_grown P3.out.2.2.1 e4 (by omega)
 have zf:=fr_grown P3.out.2.2.2 (by omega) e4 (by omega)
 have HC:=hide c4
 clear P3 e4 c4
 go_wp2
 refine bodyPost_ret (v := txv a b c d) (by simp [results, Try.results63, go_sem, z0, z1, z2, z3]) rfl ?_
 exact ⟨a, b, c, d, rfl, (((HC.out.set (by omega) _ _).set (by omega) _ _).set (by omega) _ _).set (by omega) _ _, grown_set (grown_set (grown_set (grown_set gg (Nat.le_refl _) _ _) (Nat.le_refl _) _ _) (Nat.le_refl _) _ _) (Nat.le_refl _) _ _⟩

theorem OT.grown {w w' : World} {base g : Nat} {v : Value} {xs : List T4} (h : OT w base v xs) (hg : w.grownBy w' (some g)) (hlt : g < base) : OT w' base v xs :=
 World.ownsRow.kept h hg (by
  cases hv : v.ownBlock with
  | none => exact .inl rfl
  | some k => exact .inr fun e => by have := (World.ownsRow.lt h k hv).1; simp at e; omega)
def dents : List ByteArray := [⟨#[48]⟩, ⟨#[44]⟩, ⟨#[62]⟩, ⟨#[47]⟩, ⟨#[124]⟩, ⟨#[120]⟩, ⟨#[49]⟩]
theorem dents_size {q : ByteArray} (h : q ∈ dents) : q.size = 1 := by
 simp only [dents, List.mem_cons, List.not_mem_nil, or_false] at h
 rcases h with rfl | rfl | rfl | rfl | rfl | rfl | rfl <;> rfl

theorem cur_drew {w : World} {base g ca : Nat} {ao : Option Addr} {xs : List Int} (h : Cur w base g ao ca xs) : Cur w.drew base g ao ca xs := ⟨h.low, h.len, h.cells, h.code⟩
theorem grown_undrew {w w' : World} {row : Option Nat} (h : w.drew.grownBy w' row) : w.grownBy w' row := ⟨h.os, h.tape, h.output, h.size, h.block⟩
theorem below_far (base g ca : Nat) (ao : Option Addr) (xs : List Int) (n : Int) (w : World) (hB : base ≤ w.heap.size) (hn : 257 ≤ n) (hm : n ≤ 1000000) (h : Cur w base g ao ca xs) :
 Calls Try.prog 30 #[.pointer (some ⟨g, 0, none⟩),.int .i64 n] w fun e w' => ∃ x : Int, e = .returned (.int .i64 x) ∧ 0 ≤ x ∧ x < n ∧ Cur w' base g ao ca xs ∧ w.grownBy w' (some g) := by
 have H0:=hide h
 clear h
 go_enter Try.func30, Try.ntmps30
 go_wp2_with fail
 refine (byte_any base g ca ao xs _ (by omega) H0.out).mono ?_
 rintro e w1 ⟨x1, rfl, a0, a1, c1, g1⟩
 have s1:=g1.size
 have H1:=hide (And.intro c1 g1)
 clear H0 c1 g1
 go_wp2_with fail
 refine (byte_any base g ca ao xs _ (by omega) H1.out.1).mono ?_
 rintro e w2 ⟨x2, rfl, b0, b1, c2, g2⟩
 have s2:=g2.size
 have H2:=hide (And.intro c2 (grown_trans H1.out.2 g2))
 clear H1 c2 g2
 go_wp2_with fail
 refine (byte_any base g ca ao xs _ (by omega) H2.out.1).mono ?_
 rintro e w3 ⟨x3, rfl, d0, d1, c3, g3⟩
 have s3:=g3.size
 have H3:=hide (And.intro c3 (grown_trans H2.out.2 g3))
 clear H2 c3 g3
 go_wp2_with fail
 refine (byte_any base g ca ao xs _ (by omega) H3.out.1).mono ?_
 rintro e w4 ⟨x4, rfl, f0, f1, c4, g4⟩
 have H4:=hide (And.intro c4 (grown_trans H3.out.2 g4))
 clear H3 c4 g4
 go_wp2
 go_ret
 exact ⟨_, rfl, Int.emod_nonneg _ (by omega), Int.emod_lt_of_pos _ (by omega), H4.out.1, H4.out.2⟩
theorem below_all (base g ca : Nat) (ao : Option Addr) (xs : List Int) (n : Int) (w : World) (hB : base ≤ w.heap.size) (hn : 1 ≤ n) (hm : n ≤ 1000000) (h : Cur w base g ao ca xs) :
 Calls Try.prog 30 #[.pointer (some ⟨g, 0, none⟩),.int .i64 n] w fun e w' => ∃ x : Int, e = .returned (.int .i64 x) ∧ 0 ≤ x ∧ x < n ∧ Cur w' base g ao ca xs ∧ w.grownBy w' (some g) := by
 by_cases h1 : n ≤ 256
 ·exact below_any base g ca ao xs n w hB hn h1 h
 exact below_far base g ca ao xs n w hB (by omega) hm h

theorem dent_cur (base g ca : Nat) (ao : Option Addr) (xs : List Int) (s : ByteArray) (w : World) (hB : base ≤ w.heap.size) (hs : s.size ≤ 4000) (h : Cur w base g ao ca xs) :
 Calls Try.prog 68 #[.pointer (some ⟨g, 0, none⟩),.string s] w fun e w' => ∃ t : ByteArray, e = .returned (.string t) ∧ t.size ≤ 8001 ∧ Cur w' base g ao ca xs ∧ w.grownBy w' (some g) := by
 have P:=hide h
 clear h
 go_enter Try.func68, Try.ntmps68
 go_wp2_with fail
 refine (below_all base g ca ao xs ((s.size : Int) + 1) _ hB (by omega) (by omega) P.out).mono ?_
 rintro e w1 ⟨a, rfl, a0, a1, c1, e1⟩
 have P1:=hide (And.intro c1 e1)
 have s1:=e1.size
 clear P c1 e1
 obtain ⟨at', rfl⟩:=Int.eq_ofNat_of_zero_le a0
 have hat : at' ≤ s.size:=by omega
 clear a0 a1
 go_wp2_with fail
 refine (below_any base g ca ao xs 5 _ (by omega) (by omega) (by omega) P1.out.1).mono ?_
 rintro e w2 ⟨k, rfl, k0, k1, c2, e2⟩
 have s2:=e2.size
 have gg:=grown_trans P1.out.2 e2
 have HC:=hide c2
 clear P1 c2 e2
 have z1 : (s.extract 0 at').size ≤ s.size:=ext_size s 0 at'
 have z2 : (s.extract at' s.size).size ≤ s.size:=ext_size s at' s.size
 by_cases h0 : k = 0
 ·subst h0
  go_wp2
  go_ret
  exact ⟨_, rfl, by omega, HC.out, gg⟩
 have n0 : (k == 0) = false:=by simp [h0]
 by_cases h1 : k = 1
 ·subst h1
  clear h0
  obtain ⟨u, hu⟩ : ∃ u, s.extract 0 at' = u:=⟨_, rfl⟩
  obtain ⟨v, hv⟩ : ∃ v, s.extract at' s.size = v:=⟨_, rfl⟩
  have t1 : ∀ w', (Instr.slice 9 (.string s) none (some (.int .i64 (at' : Int))) none).run Try.prog w' = .ok (.string u) w':=fun w' => by
   rw [← hu]; simp [Instr.slice, go_sem, run_underlying Try.underlying9, hat]
  have t2 : ∀ w', (Instr.slice 9 (.string s) (some (.int .i64 (at' : Int))) none none).run Try.prog w' = .ok (.string v) w':=fun w' => by
   rw [← hv]; simp [Instr.slice, go_sem, run_underlying Try.underlying9, hat]
  have zu : u.size ≤ 4000:=by rw [← hu]; omega
  have zv : v.size ≤ 4000:=by rw [← hv]; omega
  clear hu hv z1 z2 hat
  go_wp2_with fail
  go_region_held3 (fun _ => True) (trivial) (first
   | (go_at_call 75; refine (pick_lit base g ca ao xs dents w2.drew (by simp; omega) (by decide) (by decide) (cur_drew HC.out)).mono ?_; rintro e w3 ⟨q, rfl, hq, c3, e3⟩
      have zq:=dents_size hq
      have HC3:=hide c3
      clear c3
      have gg3:=grown_trans gg (grown_undrew e3)
      obtain ⟨y1, hy1⟩ : ∃ y, y = u ++ q:=⟨_, rfl⟩
      obtain ⟨y2, hy2⟩ : ∃ y, y = y1 ++ v:=⟨_, rfl⟩
      have zy1 : y1.size ≤ 4001:=(by rw [hy1, ByteArray.size_append]; omega)
      have zy2 : y2.size ≤ 8001:=(by rw [hy2, ByteArray.size_append]; omega)
      have q1 : ∀ w', (Op.stringOp .add u q).run Try.prog w' = .ok (.string y1) w':=(fun w' => by rw [hy1]; exact run_string_add_sum w' _ _ (by omega))
      have q2 : ∀ w', (Op.stringOp .add y1 v).run Try.prog w' = .ok (.string y2) w':=(fun w' => by rw [hy2]; exact run_string_add_sum w' _ _ (by omega))
      clear hy1 hy2))
  all_goals
   go_wp2
   go_ret
   exact ⟨_, rfl, zy2, HC3.out, gg3⟩
 have n1 : (k == 1) = false:=by simp [h1]
 clear h0 h1
 go_wp2
 go_ret
 exact ⟨_, rfl, by omega, HC.out, gg⟩
end
section
open Go.RowKit
variable [∀ (a b c d : Int), Decidable (Ok4 a b c d)]
variable [∀ (a b c d : Nat), Decidable (okN a b c d)]
abbrev St := Int × List T4
abbrev zst : St := (0, [])
def stepOf (p : ByteArray) : Option St :=
 if (124 : UInt8) ∈ p.data.toList then (numOf (hd 124 p.data.toList)).bind fun n => (txsAns (toB (tl 124 p.data.toList))).map fun ts => ((n : Int), ts) else none
def GoodSt (last : Int) (s : St) : Prop := last < s.1 ∧ s.1 ≤ 60 ∧ s.2.length ≤ 2
variable [∀ (last : Int) (s : St), Decidable (GoodSt last s)]
def stepAcc (o : Option (Int × List St)) (p : ByteArray) : Option (Int × List St) := o.bind fun q => (stepOf p).bind fun s => if GoodSt q.1 s then some (s.1, q.2 ++ [s]) else none
def stepsRun (ps : List ByteArray) : Option (Int × List St) := ps.foldl stepAcc (some (0, []))
def stepsAns (s : ByteArray) : Option (List St) :=
 if s = ⟨#[]⟩ then some []
 else if (splitAns s 47).getD 0 ByteArray.empty = ⟨#[]⟩ ∧ (splitAns s 47).length ≤ 31 then (stepsRun (splitAns s 47).tail).map (·.2) else none
theorem stepsRun_more (ps : List ByteArray) (p : ByteArray) : stepsRun (ps ++ [p]) = stepAcc (stepsRun ps) p := by
 unfold stepsRun; rw [List.foldl_append]; rfl
theorem acc_none (ps : List ByteArray) : ps.foldl stepAcc none = none := by
 induction ps with
 | nil => rfl
 | cons p ps ih => rw [List.foldl_cons]; exact ih
theorem stepsRun_none {ps : List ByteArray} (k : Nat) (h : stepsRun (ps.take k) = none) : stepsRun ps = none := by
 have e : stepsRun ps = (ps.drop k).foldl stepAcc (stepsRun (ps.take k)):=by
  unfold stepsRun
  rw [← List.foldl_append, List.take_append_drop]
 rw [e, h]
 exact acc_none _
theorem stepsRun_ok (ps : List ByteArray) (q : Int × List St) (h : stepsRun ps = some q) : q.2.length = ps.length ∧ (0 ≤ q.1 ∧ q.1 ≤ 60) ∧ (ps.length : Int) ≤ q.1 ∧ ∀ s ∈ q.2, (1 ≤ s.1 ∧ s.1 ≤ q.1) ∧ s.2.length ≤ 2 := by
 generalize hn : ps.length = n
 induction n generalizing ps q with
 | zero =>
  have : ps = []:=List.length_eq_zero_iff.1 hn
  subst this
  cases h
  exact ⟨rfl, by simp, by simp, fun s hs => by simp at hs⟩
 | succ n ih =>
  obtain ⟨ps', p, rfl⟩ : ∃ ps' p, ps = ps' ++ [p]:=⟨ps.dropLast, ps.getLast (fun e => by rw [e] at hn; simp at hn), (List.dropLast_concat_getLast _).symm⟩
  rw [stepsRun_more] at h
  unfold stepAcc at h
  cases hr : stepsRun ps' with
  | none => rw [hr] at h; cases h
  | some q' =>
   rw [hr] at h
   cases hs : stepOf p with
   | none => rw [hs] at h; simp at h
   | some s =>
    rw [hs] at h
    simp only [Option.bind_some] at h
    split at h
    ·rename_i hg
     cases h
     obtain ⟨h1, h2, h3, h4⟩:=ih ps' q' hr (by simpa using hn)
     obtain ⟨g1, g2, g3⟩:=hg
     refine ⟨by simp [h1], ⟨by show 0 ≤ s.1; omega, g2⟩, by show (((n + 1 : Nat)) : Int) ≤ s.1; omega, fun y hy => ?_⟩
     rcases List.mem_append.1 hy with hy | hy
     ·obtain ⟨⟨a1, a2⟩, a3⟩:=h4 y hy
      exact ⟨⟨a1, by show y.1 ≤ s.1; omega⟩, a3⟩
     simp at hy
     subst hy
     exact ⟨⟨by omega, Int.le_refl _⟩, g3⟩
    cases h
end
end Go.Proofs.Ytjkcphnohhpihaa
