/- Lemmas; their conditions stand in each statement. -/
import Derived.Test.YtjkcphnohhpihaaPDAI
import Derived.Lib.ItoaLen
set_option maxRecDepth 100000
set_option maxHeartbeats 8000000
set_option linter.unusedSectionVars false
namespace Go.Proofs.Ytjkcphnohhpihaa
section
open Go.RowKit
variable [∀ (a b c d : Int), Decidable (Ok4 a b c d)]
variable [∀ (a b c d : Nat), Decidable (okN a b c d)]
variable [∀ (last : Int) (s : St), Decidable (GoodSt last s)]
variable [∀ (x : T4), Decidable (OkT x)]
theorem specNameOk (s : ByteArray) (w : World) (hs : s.size ≤ 33554432) :
 Calls Try.prog 62 #[.string s] w fun e w' => e = .returned (.bool (stepsAns s).isSome) ∧ Below w.heap.size w w' := by
 have ST:=hide fun w => specSteps s w hs
 generalize stepsAns s = A at *
 go_enter Try.func62, Try.ntmps62
 go_wp2_with fail
 refine (ST.out _).mono ?_
 rintro e w1 ⟨v, rfl, _, b1⟩
 go_wp2
 go_ret
 exact ⟨rfl, b1⟩

theorem specViewOf (s : ByteArray) (w : World) (hs : s.size ≤ 33554432) :
 Calls Try.prog 50 #[.string s] w fun e w' => e = .returned (.int .i64 (viewAns s)) ∧ Below w.heap.size w w' := by
 have ST:=hide fun w => specSteps s w hs
 have hl : ∀ ss, stepsAns s = some ss → ss.length ≤ 30 ∧ ∀ x ∈ ss, OkSt x:=fun ss h => ⟨((names_iff _ _).1 h).2.1, ((names_iff _ _).1 h).2.2.1⟩
 unfold viewAns
 generalize stepsAns s = A at *
 go_enter Try.func50, Try.ntmps50
 go_wp2_with fail
 refine (ST.out _).mono ?_
 rintro e w1 ⟨v, rfl, o1, b1⟩
 cases A with
 | none =>
  obtain ⟨ao, ca, rfl⟩:=o1.form
  clear o1 ST hl
  go_wp2
  go_ret
  exact ⟨rfl, b1⟩
 | some ss =>
  obtain ⟨hl, hok⟩:=hl ss rfl
  obtain ⟨ao, ca, hv, r⟩:=o1.rst (fun x hx => by have:=(hok x hx).2.1; omega)
  subst hv
  clear o1 ST hok
  simp only [Option.getD_some] at *
  rcases r with rfl | ⟨g, rfl, r⟩
  ·go_wp2
   go_ret
   exact ⟨rfl, b1⟩
  by_cases h0 : ss.length = 0
  ·obtain rfl:=List.length_eq_zero_iff.1 h0
   go_wp2
   go_ret
   exact ⟨rfl, b1⟩
  obtain ⟨n, hn⟩ : ∃ n, ss.length = n + 1:=⟨ss.length - 1, by omega⟩
  obtain ⟨u, c0, c1, _⟩:=r n (by omega)
  have hlast:=hide (show (ss.getLast?.map (·.1)).getD 0 = (ss.getD n zst).1 by
   rw [List.getLast?_eq_getElem?, List.getD_eq_getElem?_getD, List.getElem?_eq_getElem (show ss.length - 1 < ss.length by omega), List.getElem?_eq_getElem (show n < ss.length by omega)]
   simp [hn])
  have hi : ((n + 1 : Nat) : Int) - 1 = n:=by omega
  generalize (ss.getD n zst).1 = x at *
  clear r h0
  go_wp2
  go_ret
  exact ⟨by rw [show ((some ss).getD []) = ss from rfl, hlast.out]; rfl, b1⟩
theorem itoa_short (n : Int) (h0 : -9223372036854775808 ≤ n) (h1 : n ≤ 9223372036854775807) : (Lib.itoa n).length ≤ 21 := by
 unfold Lib.itoa
 split
 ·have:=Lib.nDigits_le20 n.natAbs (by omega)
  rw [List.length_cons, Lib.decDigits_length]; omega
 have:=Lib.nDigits_le20 n.toNat (by omega)
 rw [Lib.decDigits_length]; omega
theorem txsT_len (ts : List T4) : (txsT ts).size ≤ ts.length * 28 := by
 unfold txsT
 split
 ·rw [toB_size]; exact accT_len ts ts.length
 exact Nat.zero_le _

theorem specNameOfW (up : ByteArray) (view : Int) (v : Value) (xs : List T4) (w : World) (hu : up.size + xs.length * 28 + 100 ≤ 33554432) (hx : xs.length ≤ 1048577) (h0 : -9223372036854775808 ≤ view) (h1 : view ≤ 9223372036854775807) (h : RT w v xs) :
 Calls Try.prog 64 #[.string up,.int .i64 view, v] w fun e w' => e = .returned (.string (nameAns up view xs)) ∧ Below w.heap.size w w' := by
 have DG:=hide fun w => specDigits_any view w (by omega) (by omega)
 have TT:=hide fun w h => specTxsText v xs w (by omega) h
 have RTH:=hide h
 have NO:=hide fun w => specNameOk (toB (nmOut up view xs)) w (by
  have:=itoa_short view h0 h1
  have:=txsT_len xs
  rw [toB_size]; unfold nmOut
  simp only [List.length_append, List.length_cons, Array.length_toList, ByteArray.size_data]
  omega)
 obtain ⟨hl, ao, ca, rfl, ha⟩:=h
 go_enter Try.func64, Try.ntmps64
 go_wp2
 go_loopw [7] (fun i wr => ∃ k : Nat, k ≤ xs.length ∧ i = .int .i64 k ∧ Hid (∀ j, j < k → OkT (xs.getD j (0, 0, 0, 0))) ∧ Below w.heap.size w wr) (fun i _ => xs.length - (intOf i).toNat)
 case atStart => exact ⟨0, Nat.zero_le _, rfl, hide (fun j hj => by omega), Below.refl _ _⟩
 case round =>
  obtain ⟨k, hk, rfl, HK, br⟩:=hrel
  have hsr:=br.size
  by_cases hlt : k < xs.length
  ·rcases ha with ha | ⟨g, rfl, ha⟩
   ·subst ha; simp at hlt
   obtain ⟨a0, a1, a2, a3⟩:=ha k hlt
   have hg : g < w.heap.size:=cell_lt a0
   have c0:=(br.cell (p:=⟨g, k * 4, none⟩) hg).trans a0
   have c1:=(br.cell (p:=⟨g, k * 4 + 1, none⟩) hg).trans a1
   have c2:=(br.cell (p:=⟨g, k * 4 + 2, none⟩) hg).trans a2
   have c3:=(br.cell (p:=⟨g, k * 4 + 3, none⟩) hg).trans a3
   have HNO : Hid (¬ OkT (xs.getD k (0, 0, 0, 0)) → nameAns up view xs = ⟨#[]⟩):=hide fun h => if_neg fun h2 => h (h2.1 _ (by rw [List.getD_eq_getElem?_getD, List.getElem?_eq_getElem hlt]; exact List.getElem_mem hlt))
   clear ha a0 a1 a2 a3
   generalize hxk : xs.getD k (0, 0, 0, 0) = x at *
   obtain ⟨xa, xb, xc, xd⟩:=x
   simp only at c0 c1 c2 c3
   by_cases hok : OkT (xa, xb, xc, xd)
   ·have CK:=hide fun w => specTxOk_yes xa xb xc xd w hok
    have HK' : Hid (∀ j, j < k + 1 → OkT (xs.getD j (0, 0, 0, 0))):=fun j hj => by
     by_cases e : j = k
     ·subst e; rw [hxk]; exact hok
     exact HK.out j (by omega)
    clear HK HNO hok hxk
    go_wp2_with fail
    refine (CK.out _).mono ?_
    rintro e w1 ⟨rfl, b1⟩
    have b1':=br.trans (b1.mono hsr)
    clear c0 c1 c2 c3 b1 CK
    go_wp2
    go_roundw
    case rel => exact ⟨k + 1, by omega, by go_num, HK', b1'⟩
    case measure => simp [intOf]; omega
   have CK:=hide fun w => specTxOk_no xa xb xc xd w hok
   have HNO:=hide (HNO.out hok)
   clear HK hok hxk
   go_wp2_with fail
   refine (CK.out _).mono ?_
   rintro e w1 ⟨rfl, b1⟩
   have b1':=br.trans (b1.mono hsr)
   clear c0 c1 c2 c3 b1 CK
   go_wp2
   go_ret
   exact ⟨by rw [HNO.out]; rfl, b1'⟩
  obtain rfl : k = xs.length:=by omega
  have HA : Hid (∀ x ∈ xs, OkT x):=hide fun x hx => by
   obtain ⟨j, hj, rfl⟩:=List.getElem_of_mem hx
   have:=HK.out j hj
   rwa [List.getD_eq_getElem?_getD, List.getElem?_eq_getElem hj] at this
  clear HK ha
  have NA : Hid (nameAns up view xs = if (stepsAns (toB (nmOut up view xs))).isSome then toB (nmOut up view xs) else ⟨#[]⟩):=hide (by
   unfold nameAns
   by_cases hq : (stepsAns (toB (nmOut up view xs))).isSome = true
   ·rw [if_pos ⟨HA.out, hq⟩, if_pos hq]
   rw [if_neg fun e => hq e.2, if_neg hq])
  have EQ : up ++ (⟨#[47]⟩ : ByteArray) ++ (⟨(Lib.itoa view).toArray⟩ : ByteArray) ++ (⟨#[124]⟩ : ByteArray) ++ txsT xs = toB (nmOut up view xs):=by
   apply ba_ext
   rw [toB_list]
   simp [nmOut, ByteArray.data_append]
  have hd : (⟨(Lib.itoa view).toArray⟩ : ByteArray).size ≤ 21:=by
   have:=itoa_short view h0 h1
   simpa [ByteArray.size] using this
  have hts:=txsT_len xs
  obtain ⟨z, hz⟩ : ∃ z, toB (nmOut up view xs) = z:=⟨_, rfl⟩
  rw [hz] at NA NO EQ
  generalize (⟨(Lib.itoa view).toArray⟩ : ByteArray) = d at *
  generalize txsT xs = tt at *
  obtain ⟨b, hb⟩ : ∃ b, (stepsAns z).isSome = b:=⟨_, rfl⟩
  rw [hb] at NA NO
  clear hz hb HA
  have q1 : ∀ w, (Op.stringOp .add (up ++ (⟨#[47]⟩ : ByteArray)) d).run Try.prog w = .ok (.string (up ++ (⟨#[47]⟩ : ByteArray) ++ d)) w:=fun w => run_string_add_sum w _ _ (by simp [ByteArray.size_append]; show up.size + 1 + d.size ≤ _; omega)
  have q2 : ∀ w, (Op.stringOp .add (up ++ (⟨#[47]⟩ : ByteArray) ++ d) (⟨#[124]⟩ : ByteArray)).run Try.prog w = .ok (.string (up ++ (⟨#[47]⟩ : ByteArray) ++ d ++ (⟨#[124]⟩ : ByteArray))) w:=fun w => run_string_add_sum w _ _ (by simp [ByteArray.size_append]; show up.size + 1 + d.size + 1 ≤ _; omega)
  have q3 : ∀ w, (Op.stringOp .add (up ++ (⟨#[47]⟩ : ByteArray) ++ d ++ (⟨#[124]⟩ : ByteArray)) tt).run Try.prog w = .ok (.string z) w:=fun w => by
   rw [run_string_add_sum w _ _ (by simp [ByteArray.size_append]; show up.size + 1 + d.size + 1 + tt.size ≤ _; omega), EQ]
  clear EQ
  go_wp2_with fail
  refine (DG.out _).mono ?_
  rintro e w1 ⟨rfl, b1⟩
  have B1:=br.trans (b1.mono hsr)
  clear b1 DG
  generalize up ++ (⟨#[47]⟩ : ByteArray) = a1 at *
  generalize a1 ++ d = a2 at *
  generalize a2 ++ (⟨#[124]⟩ : ByteArray) = a3 at *
  go_wp2_with fail
  refine (TT.out _ (RTH.out.below B1)).mono ?_
  rintro e w2 ⟨rfl, b2⟩
  have B2:=bu B1 b2
  clear b2 TT
  go_wp2_with fail
  refine (NO.out _).mono ?_
  rintro e w3 ⟨rfl, b3⟩
  have B3:=bu B2 b3
  clear b3 NO
  cases b with
  | true =>
   go_wp2
   go_ret
   exact ⟨by rw [NA.out]; rfl, B3⟩
  | false =>
   go_wp2
   go_ret
   exact ⟨by rw [NA.out]; rfl, B3⟩
theorem specNameOf (up : ByteArray) (view : Int) (v : Value) (xs : List T4) (w : World) (hu : up.size + xs.length * 28 + 100 ≤ 1000000) (h0 : -999999 ≤ view) (h1 : view ≤ 999999) (h : RT w v xs) :
 Calls Try.prog 64 #[.string up,.int .i64 view, v] w fun e w' => e = .returned (.string (nameAns up view xs)) ∧ Below w.heap.size w w' :=
 specNameOfW up view v xs w (by omega) (by omega) (by omega) (by omega) h
end
section
open Go.RowKit
variable [∀ (a b c d : Int), Decidable (Ok4 a b c d)]
variable [∀ (a b c d : Nat), Decidable (okN a b c d)]
variable [∀ (x : T4), Decidable (OkT x)]
variable [∀ (last : Int) (s : St), Decidable (GoodSt last s)]
theorem grown_of_below {B : Nat} {w w' : World} (b : Below B w w') (h : B = w.heap.size) : w.grownBy w' none := by subst h; exact ⟨b.os, b.tape, b.output, b.size, fun k hk _ => b.block k hk⟩
theorem nm_len (ss : List St) (h : ∀ s ∈ ss, OkSt s) : (nm ss).length ≤ ss.length * 64 := by
 induction ss with
 | nil => simp [nm]
 | cons s ss ih =>
  have h1:=h s (by simp)
  have h2:=ih fun x hx => h x (by simp [hx])
  have h3:=txsT_len2 s.2 h1.2.1
  have h4:=nDigits_six s.1.toNat (by have:=h1.1; omega)
  have e : nm (s :: ss) = 47 :: stText s ++ nm ss:=by simp [nm]
  rw [e, List.length_append, List.length_cons, List.length_cons]
  unfold stText
  rw [List.length_append, List.length_cons, Lib.decDigits_length]
  have e2 : (txsT s.2).data.toList.length = (txsT s.2).size:=by simp
  omega
theorem name_len {s : ByteArray} (h : (stepsAns s).isSome = true) : s.size ≤ 1920 := by
 cases hs : stepsAns s with
 | none => rw [hs] at h; cases h
 | some ss =>
  obtain ⟨h1, h2⟩:=(names_iff _ _).1 hs
  have h3:=nm_len ss h2.2.1
  have h4:=h2.1
  have e : s.size = s.data.toList.length:=by simp
  rw [e, h1]; omega
theorem nameAns_len (up : ByteArray) (view : Int) (ts : List T4) : (nameAns up view ts).size ≤ 1920 := by
 unfold nameAns
 split
 ·rename_i h; exact name_len h.2
 exact Nat.zero_le _

theorem drawNameR (base g ca : Nat) (ao : Option Addr) (xs : List Int) (w : World) (hB : base ≤ w.heap.size) (h : Cur w base g ao ca xs) :
 Calls Try.prog 49 #[.pointer (some ⟨g, 0, none⟩)] w fun e w' => ∃ s : ByteArray, e = .returned (.string s) ∧ s.size ≤ 1920 ∧ Cur w' base g ao ca xs ∧ w.grownBy w' (some g) := by
 obtain ⟨i0, hi, hz0, hz1, hz2⟩:=info_parts Try.infoTx
 have hlt:=h.lt
 have H0:=hide h
 clear h
 go_enter Try.func49, Try.ntmps49
 go_wp2
 go_loopw [3, 4, 5] (fun sv vv iv wr => ∃ (i : Nat) (view : Int) (s : ByteArray), i ≤ 6 ∧ iv = .int .i64 i ∧ vv = .int .i64 view ∧ 0 ≤ view ∧ view ≤ 3 * i ∧ sv = .string s ∧ s.size ≤ 1920 ∧ Cur wr base g ao ca xs ∧ w.grownBy wr (some g)) (fun _ _ iv _ => 7 - (intOf iv).toNat)
 case atStart => exact ⟨0, 0, ⟨#[]⟩, by omega, rfl, rfl, by omega, by omega, rfl, by decide, H0.out, grown_refl _ _⟩
 case round =>
  clear H0
  obtain ⟨i, view, s, hi6, rfl, rfl, v0, v1, rfl, hs, hc, hg⟩:=hrel
  have hsz:=hg.size
  have P:=hide (And.intro hc hg)
  clear hc hg
  go_wp2_with fail
  refine (below_any base g ca ao xs 6 _ (by omega) (by omega) (by omega) P.out.1).mono ?_
  rintro e w1 ⟨n, rfl, _, n1, c1, e1⟩
  have s1:=e1.size
  have P1:=hide (And.intro c1 (grown_trans P.out.2 e1))
  clear P c1 e1
  by_cases hin : (i : Int) < n
  ·go_wp2_with fail
   refine (below_any base g ca ao xs 4 _ (by omega) (by omega) (by omega) P1.out.1).mono ?_
   rintro e w2 ⟨q, rfl, q0, q1, c2, e2⟩
   have s2:=e2.size
   have P2:=hide (And.intro c2 (grown_trans P1.out.2 e2))
   clear P1 c2 e2
   have hqd : 0 ≤ q.tdiv 3 ∧ q.tdiv 3 ≤ 1:=by rw [Int.tdiv_eq_ediv_of_nonneg q0]; omega
   have hqe : 0 ≤ q / 3 ∧ q / 3 ≤ 1:=by omega
   have hw2 : w.heap.size ≤ w2.heap.size:=by omega
   go_wp2
   go_loopw [6, 7] (fun lv kv w3 => ∃ (k : Nat) (ys : List T4), k ≤ 3 ∧ kv = .int .i64 k ∧ ys.length = k ∧ OT w3 w2.heap.size lv ys ∧ Cur w3 base g ao ca xs ∧ w.grownBy w3 (some g) ∧ w2.heap.size ≤ w3.heap.size) (fun _ kv _ => 4 - (intOf kv).toNat)
   case atStart => exact ⟨0, [], by omega, rfl, rfl, World.ownsRow_lit w2 #[] 0 (Nat.le_refl _) (by unfold maxLen; omega) rfl, P2.out.1.alloc (by omega) _, grown_trans P2.out.2 (World.grownBy_alloc _ _ _), by simp⟩
   case round =>
    clear P2
    obtain ⟨k, ys, hk, rfl, hyl, ho, hc, hg, hz⟩:=hrel
    have P:=hide (And.intro ho (And.intro hc hg))
    clear ho hc hg
    go_wp2_with fail
    refine (below_any base g ca ao xs 3 _ (by omega) (by omega) (by omega) P.out.2.1).mono ?_
    rintro e w4 ⟨m, rfl, _, m1, c4, e4⟩
    have s4:=e4.size
    have P4:=hide (And.intro (P.out.1.grown e4 (by omega)) (And.intro c4 (grown_trans P.out.2.2 e4)))
    clear P c4 e4
    by_cases hkm : (k : Int) < m
    ·go_wp2_with fail
     refine (drawRight base g ca ao xs _ (by omega) P4.out.2.1).mono ?_
     rintro e w5 ⟨a, b, c, d, rfl, c5, e5⟩
     have s5:=e5.size
     have ho5:=ot_alloc (P4.out.1.grown e5 (by omega)) (.cells #[.int .i64 a,.int .i64 b,.int .i64 c,.int .i64 d] 89)
     have hc5:=c5.alloc (by omega) (.cells #[.int .i64 a,.int .i64 b,.int .i64 c,.int .i64 d] 89)
     have hg5:=grown_trans (grown_trans P4.out.2.2 e5) (World.grownBy_alloc w5 (.cells #[.int .i64 a,.int .i64 b,.int .i64 c,.int .i64 d] 89) (some g))
     clear P4 c5 e5
     go_wp2_with (first
      | (at_builtin; refine wpList_append_own _ rfl _ _ 87 rfl w2.heap.size 89 i0 (txv 0 0 0 0) 4 32 Try.underlying87 hi hz0 hz1 hz2 rfl (by decide) _ _ _ rfl ho5 ⟨w5.heap.size, 0, none⟩ 1 1 (tcell (a, b, c, d)) rfl rfl (four_cell w5 (a, b, c, d) 89) (four_plain _) (by unfold maxLen; omega) (by omega) (by simp; omega) ?_; intro v' w6 ho' hg' _; have hl2 := ho5.lt; have R := (show OT w6 w2.heap.size v' (ys ++ [(a, b, c, d)]) by unfold OT; rw [tcells_append, List.length_append]; simpa [tcells] using ho'); have RC := hc5.grownNew hg' (fun j e => by have := (hl2 j e).1; omega); have RG := grown_new hg5 hg' (fun j e => by have := (hl2 j e).1; omega); have SZ : w2.heap.size ≤ w6.heap.size := (by have := hg'.size; simp at this; omega); clear ho5 ho' hg' hg5 hc5 hl2))
     go_roundw
     case rel => exact ⟨k + 1, _, by omega, by go_num, by simp [hyl], R, RC, RG, SZ⟩
     case measure => simp [intOf]; omega
    have hd : decide ((k : Int) < m) = false:=by simpa using hkm
    have hrt:=P4.out.1.rt (by omega)
    have NM:=hide fun vw h0 h1 => specNameOf s vw _ ys w4 (by omega) h0 h1 hrt
    clear hrt
    go_wp2_with fail
    refine (NM.out _ (by omega) (by omega)).mono ?_
    rintro e w5 ⟨rfl, b5⟩
    have hn:=nameAns_len s (view + 1 + q.tdiv 3) ys
    have c5:=P4.out.2.1.grownNew (grown_of_below b5 rfl) (fun j e => by cases e)
    have g5:=grown_new P4.out.2.2 (grown_of_below b5 rfl) (fun j e => by cases e)
    have H5:=hide (And.intro c5 g5)
    clear NM P4 b5 c5 g5
    go_wp2
    go_roundw
    case rel => exact ⟨i + 1, _, _, by omega, by go_num, rfl, by omega, by omega, rfl, by assumption, H5.out.1, H5.out.2⟩
    case measure => simp [intOf]; omega
  have hd : decide ((i : Int) < n) = false:=by simpa using hin
  go_wp2
  go_ret
  exact ⟨_, rfl, hs, P1.out.1, P1.out.2⟩

theorem drawName (base g ca : Nat) (ao : Option Addr) (xs : List Int) (w : World) (hB : base ≤ w.heap.size) (h : Cur w base g ao ca xs) :
 Calls Try.prog 55 #[.pointer (some ⟨g, 0, none⟩)] w fun e w' => ∃ s : ByteArray, e = .returned (.string s) ∧ s.size ≤ 8001 ∧ Cur w' base g ao ca xs ∧ w.grownBy w' (some g) := by
 have hlt:=h.lt
 have H0:=hide h
 clear h
 go_enter Try.func55, Try.ntmps55
 go_wp2_with fail
 refine (once_any base g ca ao xs 20 _ (by omega) (by omega) (by omega) H0.out).mono ?_
 rintro e w1 ⟨b, rfl, c1, e1⟩
 have s1:=e1.size
 have P1:=hide (And.intro c1 e1)
 clear H0 c1 e1
 cases b with
 | true =>
  go_wp2
  go_loopw [3, 4] (fun sv iv wr => ∃ (i : Nat) (s : ByteArray), 1 ≤ i ∧ i ≤ 32 ∧ iv = .int .i64 i ∧ sv = .string s ∧ s.size ≤ i * 8 ∧ Cur wr base g ao ca xs ∧ w.grownBy wr (some g)) (fun _ iv _ => 33 - (intOf iv).toNat)
  case atStart => exact ⟨1, ⟨#[]⟩, by omega, by omega, by go_num, rfl, by decide, P1.out.1, P1.out.2⟩
  case round =>
   clear P1
   obtain ⟨i, s, hi1, hi2, rfl, rfl, hs, hc, hg⟩:=hrel
   have hsz:=hg.size
   have P:=hide (And.intro hc hg)
   clear hc hg
   go_wp2_with fail
   refine (below_any base g ca ao xs 2 _ (by omega) (by omega) (by omega) P.out.1).mono ?_
   rintro e w2 ⟨n, rfl, n0, n1, c2, e2⟩
   have s2:=e2.size
   have P2:=hide (And.intro c2 (grown_trans P.out.2 e2))
   clear P c2 e2
   by_cases hin : (i : Int) ≤ 30 + n
   ·have DG:=hide fun w => specDigits_any (i : Int) w (by omega) (by omega)
    have hd : (⟨(Lib.itoa (i : Int)).toArray⟩ : ByteArray).size ≤ 6:=dg_size (i : Int) (by omega) (by omega)
    generalize (⟨(Lib.itoa (i : Int)).toArray⟩ : ByteArray) = d at *
    obtain ⟨y1, hy1⟩ : ∃ y, y = s ++ (⟨#[47]⟩ : ByteArray):=⟨_, rfl⟩
    obtain ⟨y2, hy2⟩ : ∃ y, y = y1 ++ d:=⟨_, rfl⟩
    obtain ⟨y3, hy3⟩ : ∃ y, y = y2 ++ (⟨#[124]⟩ : ByteArray):=⟨_, rfl⟩
    have z1 : y1.size = s.size + 1:=by rw [hy1, ByteArray.size_append]; rfl
    have z2 : y2.size = y1.size + d.size:=by rw [hy2, ByteArray.size_append]
    have z3 : y3.size = y2.size + 1:=by rw [hy3, ByteArray.size_append]; rfl
    have q1 : ∀ w', (Op.stringOp .add s (⟨#[47]⟩ : ByteArray)).run Try.prog w' = .ok (.string y1) w':=(fun w' => by rw [hy1]; exact run_string_add_sum w' _ _ (by show s.size + 1 ≤ _; omega))
    have q2 : ∀ w', (Op.stringOp .add y1 d).run Try.prog w' = .ok (.string y2) w':=(fun w' => by rw [hy2]; exact run_string_add_sum w' _ _ (by omega))
    have q3 : ∀ w', (Op.stringOp .add y2 (⟨#[124]⟩ : ByteArray)).run Try.prog w' = .ok (.string y3) w':=(fun w' => by rw [hy3]; exact run_string_add_sum w' _ _ (by show y2.size + 1 ≤ _; omega))
    clear hy1 hy2 hy3
    go_wp2_with fail
    refine (DG.out _).mono ?_
    rintro e w3 ⟨rfl, b3⟩
    have c3:=P2.out.1.grownNew (grown_of_below b3 rfl) (fun j e => by cases e)
    have g3:=grown_new P2.out.2 (grown_of_below b3 rfl) (fun j e => by cases e)
    have H3:=hide (And.intro c3 g3)
    clear DG P2 b3 c3 g3
    go_wp2
    go_roundw
    case rel => exact ⟨i + 1, y3, by omega, by omega, by go_num, rfl, by omega, H3.out.1, H3.out.2⟩
    case measure => simp [intOf]; omega
   ·have hd : decide ((i : Int) ≤ 30 + n) = false:=by simpa using hin
    go_wp2
    go_ret
    exact ⟨_, rfl, by omega, P2.out.1, P2.out.2⟩
 | false =>
  go_wp2_with fail
  refine (drawNameR base g ca ao xs _ (by omega) P1.out.1).mono ?_
  rintro e w2 ⟨s, rfl, hs, c2, e2⟩
  have s2:=e2.size
  have P2:=hide (And.intro c2 (grown_trans P1.out.2 e2))
  clear P1 c2 e2
  go_wp2_with fail
  refine (dent_cur base g ca ao xs s _ (by omega) (by omega) P2.out.1).mono ?_
  rintro e w3 ⟨t, rfl, ht, c3, e3⟩
  have P3:=hide (And.intro c3 (grown_trans P2.out.2 e3))
  clear P2 c3 e3
  go_wp2
  go_ret
  exact ⟨_, rfl, ht, P3.out.1, P3.out.2⟩
end
section
open Go.RowKit
theorem itake_more (xs : List Int) (k : Nat) (h : k < xs.length) : xs.take (k + 1) = xs.take k ++ [xs.getD k 0] := by
 rw [List.take_succ_eq_append_getElem h, List.getD_eq_getElem?_getD, List.getElem?_eq_getElem h]; rfl
theorem getD_mem_int {xs : List Int} {k : Nat} (h : k < xs.length) : xs.getD k 0 ∈ xs := by
 rw [List.getD_eq_getElem?_getD, List.getElem?_eq_getElem h]; exact List.getElem_mem h

theorem specSetHas (v : Value) (xs : List Int) (i : Int) (w : World) (h : RI w v xs) :
 Calls Try.prog 66 #[v,.int .i64 i] w fun e w' => e = .returned (.bool (decide (i ∈ xs))) ∧ w' = w := by
 have hl:=h.1
 obtain ⟨ao, ca, rfl⟩:=h.form
 have H:=hide h
 obtain ⟨n, hn⟩ : ∃ n, xs.length = n:=⟨_, rfl⟩
 have Hn:=hide hn
 obtain ⟨r, hr⟩ : ∃ r, decide (i ∈ xs) = r:=⟨_, rfl⟩
 have HR:=hide hr
 rw [hn] at hl H ⊢
 rw [hr]
 clear h hn hr
 go_enter Try.func66, Try.ntmps66
 go_wp2
 go_loopw [5] (fun j wr => ∃ k : Nat, k ≤ n ∧ j = .int .i64 k ∧ Hid (i ∉ xs.take k) ∧ wr = w) (fun j _ => n - (intOf j).toNat)
 case atStart => exact ⟨0, Nat.zero_le _, rfl, hide (by simp), rfl⟩
 case round =>
  obtain ⟨k, hk, rfl, HK, rfl⟩:=hrel
  by_cases hlt : k < n
  ·have hkx : k < xs.length:=by have:=Hn.out; omega
   obtain ⟨b, off, rfl, c⟩:=H.out.at k hkx
   have HT:=hide (itake_more xs k hkx)
   have HM:=hide (getD_mem_int hkx)
   generalize xs.getD k 0 = d at *
   by_cases e : d = i
   ·subst e
    have hrr : r = true:=by rw [← HR.out]; exact decide_eq_true HM.out
    subst hrr
    clear HT HM HK
    go_wp2
    go_ret
    exact ⟨rfl, rfl⟩
   have HK' : Hid (i ∉ xs.take (k + 1)):=hide (by rw [HT.out]; simp; exact ⟨HK.out, fun e2 => e e2.symm⟩)
   have e' : decide (d = i) = false:=by simpa using e
   have e2 : (d == i) = false:=by simpa using e
   clear HT HM HK
   go_wp2
   go_roundw
   case rel => exact ⟨k + 1, by omega, by go_num, HK', by first | rfl | trivial⟩
   case measure => simp [intOf]; omega
  have hkn : k = xs.length:=by have:=Hn.out; omega
  have hrr : r = false:=by
   rw [← HR.out]
   have:=HK.out
   rw [hkn, List.take_of_length_le (Nat.le_refl _)] at this
   exact decide_eq_false this
  subst hrr
  clear HK
  go_wp2
  go_ret
  exact ⟨rfl, rfl⟩

theorem specSetAdd (v : Value) (xs : List Int) (i : Int) (w : World) (h : RI w v xs) (hc : Cap v) (hx : xs.length ≤ 4194303) :
 Calls Try.prog 51 #[v,.int .i64 i] w fun e w' => ∃ u, e = .returned u ∧ OI w' w.heap.size u (addL xs i) ∧ Below w.heap.size w w' := by
 have SH:=hide fun w h => specSetHas v xs i w h
 obtain ⟨ao, ca, rfl⟩:=h.form
 obtain ⟨hcn, hcm⟩ : xs.length ≤ ca ∧ ca ≤ maxLen:=by obtain ⟨_, _, _, e, h1, h2⟩:=hc; cases e; exact ⟨h1, h2⟩
 unfold maxLen at hcm
 have H:=hide h
 have HP:=hide h.pi
 clear h hc
 have O0 : OI (w.alloc (.cells #[] 3)) w.heap.size (.slice (some ⟨w.heap.size, 0, none⟩) 0 0) []:=by
  have:=World.ownsRow_lit (base:=w.heap.size) (e:=3) (size:=1) w #[] 0 (Nat.le_refl _) (by unfold maxLen; omega) (by simp)
  simpa [OI] using this
 have b0 : Below w.heap.size w (w.alloc (.cells #[] 3)):=(Below.refl _ _).alloc (Nat.le_refl _) _
 have P0:=hide (HP.out.below b0)
 by_cases hm : i ∈ xs
 ·have ea : addL xs i = xs:=if_pos hm
  rw [ea]
  rw [decide_eq_true hm] at SH
  clear hm ea
  go_enter Try.func51, Try.ntmps51
  go_wp2_with fail
  refine (SH.out _ H.out).mono ?_
  rintro _ w1 ⟨rfl, rfl⟩
  go_wp2_with (first | (at_builtin; refine append_ints rfl _ _ rfl w1.heap.size (.slice (some ⟨w1.heap.size, 0, none⟩) 0 0) (.slice ao xs.length ca) [] xs rfl rfl O0 P0.out (by simp; omega) (by simp) ?_; intro v' w2 ho' hg' _; have RB := b0.grown hg' (by simp) (fun j e => by simp [Value.ownBlock] at e; omega); clear hg'))
  go_ret
  exact ⟨_, rfl, by simpa using ho', RB⟩
 have ea : addL xs i = xs.takeWhile (fun x => decide (x < i)) ++ i :: xs.dropWhile (fun x => decide (x < i)):=if_neg hm
 rw [decide_eq_false hm] at SH
 have EA:=hide ea
 clear hm ea
 obtain ⟨n, hn⟩ : ∃ n, xs.length = n:=⟨_, rfl⟩
 have Hn:=hide hn
 rw [hn] at H P0 hx hcn SH HP ⊢
 clear hn
 go_enter Try.func51, Try.ntmps51
 go_wp2_with fail
 refine (SH.out _ H.out).mono ?_
 rintro _ w1 ⟨rfl, rfl⟩
 go_wp2
 go_loopw [5] (fun j wr => ∃ k : Nat, k ≤ n ∧ j = .int .i64 k ∧ Hid (∀ x ∈ xs.take k, x < i) ∧ wr = w1) (fun j _ => n - (intOf j).toNat)
 case atStart => exact ⟨0, Nat.zero_le _, rfl, hide (by simp), rfl⟩
 case round =>
  obtain ⟨k, hk, rfl, HK, rfl⟩:=hrel
  have FIN : Hid ((k < n → ¬ xs.getD k 0 < i) → addL xs i = xs.take k ++ i :: xs.drop k):=hide fun hst => by
   have hkx : k ≤ xs.length:=by have:=Hn.out; omega
   have e1 : xs.takeWhile (fun x => decide (x < i)) = xs.take k ∧ xs.dropWhile (fun x => decide (x < i)) = xs.drop k:=by
    have hall : ∀ x ∈ xs.take k, (decide (x < i)) = true:=fun x hx => by simpa using HK.out x hx
    have hd : xs.drop k = [] ∨ ∃ c t, xs.drop k = c :: t ∧ ¬ c < i:=by
     by_cases hlt : k < xs.length
     ·right
      refine ⟨_, _, List.drop_eq_getElem_cons hlt, ?_⟩
      have:=hst (by have:=Hn.out; omega)
      rwa [List.getD_eq_getElem?_getD, List.getElem?_eq_getElem hlt] at this
     left; exact List.drop_of_length_le (by omega)
    conv => lhs; lhs; rw [← List.take_append_drop k xs]
    conv => rhs; lhs; rw [← List.take_append_drop k xs]
    rw [List.takeWhile_append_of_pos hall, List.dropWhile_append_of_pos hall]
    rcases hd with e | ⟨c, t, e, hc⟩
    ·rw [e]; simp
    rw [e]; simp [hc]
   rw [EA.out, e1.1, e1.2]
  by_cases hgo : k < n ∧ xs.getD k 0 < i
  ·obtain ⟨hlt, hd⟩:=hgo
   have hkx : k < xs.length:=by have:=Hn.out; omega
   obtain ⟨b, off, rfl, c⟩:=H.out.at k hkx
   have HT:=hide (itake_more xs k hkx)
   generalize xs.getD k 0 = d at *
   have HK' : Hid (∀ x ∈ xs.take (k + 1), x < i):=hide (by
    rw [HT.out]; intro x hx
    rcases List.mem_append.1 hx with hx | hx
    ·exact HK.out x hx
    simp at hx; subst hx; exact hd)
   have hd' : decide (d < i) = true:=by simpa using hd
   clear HT HK FIN hd
   go_wp2
   go_roundw
   case rel => exact ⟨k + 1, by omega, by go_num, HK', by first | rfl | trivial⟩
   case measure => simp [intOf]; omega
  have F:=hide (FIN.out fun hlt hd => hgo ⟨hlt, hd⟩)
  have p1:=P0.out.take k hk ca
  have p2:=HP.out.drop k (ca - k) (bo:=if ca = k then ao else ao.map (·.add (k * 1))) (fun hlt => if_neg (by omega))
  have hs1 : ∀ w, (Instr.slice 34 (.slice ao n ca) none (some (.int .i64 (k : Int))) none).run Try.prog w = .ok (.slice ao k ca) w:=fun w => icut_to ao n ca k w (by omega)
  have hs2 : ∀ w, (Instr.slice 34 (.slice ao n ca) (some (.int .i64 (k : Int))) none none).run Try.prog w = .ok (.slice (if ca = k then ao else ao.map (·.add (k * 1))) (n - k) (ca - k)) w:=fun w => icut_from ao n ca k w hk
  generalize (if ca = k then ao else ao.map (·.add (k * 1))) = bo at *
  have P1:=hide p1
  have P2:=hide p2
  have hlk : (xs.take k).length = k:=by rw [List.length_take]; have:=Hn.out; omega
  have hld : (xs.drop k).length = n - k:=by rw [List.length_drop, Hn.out]
  have HLK:=hide hlk
  have HLD:=hide hld
  clear p1 p2 hlk hld FIN HK
  generalize xs.take k = fs at *
  generalize xs.drop k = bs at *
  have sz0 : wr.heap.size + 1 = (wr.alloc (.cells #[] 3)).heap.size:=by simp
  have A1 : Hid True:=hide trivial
  have A2 : Hid True:=hide trivial
  have A3 : Hid True:=hide trivial
  have EX : Hid (k < n → ∃ b off d, ao = some ⟨b, off, none⟩ ∧ wr.cell? ⟨b, off + k, none⟩ = some (.int .i64 d) ∧ ¬ d < i):=hide fun hlt => by
   obtain ⟨b, off, e, c⟩:=H.out.at k (by have:=Hn.out; omega)
   exact ⟨b, off, _, e, c, fun hd => hgo ⟨hlt, hd⟩⟩
  clear hgo
  by_cases hlt : k < n
  ·obtain ⟨b, off, d, rfl, c, hd⟩:=EX.out hlt
   have hd' : decide (d < i) = false:=by simpa using hd
   clear EX hd
   go_wp2_with (first
    | (at_builtin; have hh := A1; refine append_ints rfl _ _ rfl wr.heap.size (.slice (some ⟨wr.heap.size, 0, none⟩) 0 0) (.slice (some ⟨b, off, none⟩) k ca) [] (fs) rfl rfl O0 P1.out (by rw [HLK.out]; simp; omega) (by simp) ?_; intro v1 w2 ho1 hg1 hb1; have O1 : OI w2 wr.heap.size v1 (fs) := (by simpa using ho1); have B1 := b0.grown hg1 (by simp) (fun j e => by simp [Value.ownBlock] at e; omega); have l1 := World.ownsRow.lt O1; obtain ⟨a1, c1, rfl⟩ := O1.form; have O1' := hide (World.ownsRow.alloc O1 (.cells #[.int .i64 i] 3)); have B1' := B1.trans ((((Below.refl _ w2).alloc (Nat.le_refl _) (.cells #[.int .i64 i] 3))).mono B1.size); clear A1 ho1 hg1 hb1 O1)
    | (at_builtin; have hh := A2; refine append_ints rfl _ _ rfl wr.heap.size (.slice a1 fs.length c1) (.slice (some ⟨w2.heap.size, 0, none⟩) 1 1) (fs) [i] rfl rfl O1'.out ⟨_, _, rfl, .inr ⟨_, rfl, cell_one_new _ _ _⟩⟩ (by rw [HLK.out]; simp; omega) B1'.size ?_; intro v2 w3 ho2 hg2 hb2; have B2 := B1'.grown hg2 B1'.size (fun j e => (l1 j e).1); obtain ⟨a2, c2, hv2⟩ := ho2.form; rw [List.length_append, List.length_singleton] at hv2; subst hv2; have O2 := hide ho2; have l2 := World.ownsRow.lt ho2; have P3 := hide (P2.out.below B2); clear A2 ho2 hg2 hb2)
    | (at_builtin; have hh := A3; refine append_ints rfl _ _ rfl wr.heap.size (.slice a2 (fs.length + 1) c2) (.slice bo (n - k) (ca - k)) (fs ++ [i]) (bs) rfl rfl O2.out P3.out (by rw [HLD.out, List.length_append, HLK.out]; simp; omega) B2.size ?_; intro v3 w4 ho3 hg3 hb3; have B3 := B2.grown hg3 B2.size (fun j e => (l2 j e).1); clear A3 hg3 hb3))
   go_ret
   exact ⟨_, rfl, by rw [F.out]; simpa using ho3, B3⟩
  have hd0 : decide ((k : Int) < (n : Int)) = false:=by simp; omega
  clear EX
  go_wp2_with (first
   | (at_builtin; have hh := A1; refine append_ints rfl _ _ rfl wr.heap.size (.slice (some ⟨wr.heap.size, 0, none⟩) 0 0) (.slice ao k ca) [] (fs) rfl rfl O0 P1.out (by rw [HLK.out]; simp; omega) (by simp) ?_; intro v1 w2 ho1 hg1 hb1; have O1 : OI w2 wr.heap.size v1 (fs) := (by simpa using ho1); have B1 := b0.grown hg1 (by simp) (fun j e => by simp [Value.ownBlock] at e; omega); have l1 := World.ownsRow.lt O1; obtain ⟨a1, c1, rfl⟩ := O1.form; have O1' := hide (World.ownsRow.alloc O1 (.cells #[.int .i64 i] 3)); have B1' := B1.trans ((((Below.refl _ w2).alloc (Nat.le_refl _) (.cells #[.int .i64 i] 3))).mono B1.size); clear A1 ho1 hg1 hb1 O1)
   | (at_builtin; have hh := A2; refine append_ints rfl _ _ rfl wr.heap.size (.slice a1 fs.length c1) (.slice (some ⟨w2.heap.size, 0, none⟩) 1 1) (fs) [i] rfl rfl O1'.out ⟨_, _, rfl, .inr ⟨_, rfl, cell_one_new _ _ _⟩⟩ (by rw [HLK.out]; simp; omega) B1'.size ?_; intro v2 w3 ho2 hg2 hb2; have B2 := B1'.grown hg2 B1'.size (fun j e => (l1 j e).1); obtain ⟨a2, c2, hv2⟩ := ho2.form; rw [List.length_append, List.length_singleton] at hv2; subst hv2; have O2 := hide ho2; have l2 := World.ownsRow.lt ho2; have P3 := hide (P2.out.below B2); clear A2 ho2 hg2 hb2)
   | (at_builtin; have hh := A3; refine append_ints rfl _ _ rfl wr.heap.size (.slice a2 (fs.length + 1) c2) (.slice bo (n - k) (ca - k)) (fs ++ [i]) (bs) rfl rfl O2.out P3.out (by rw [HLD.out, List.length_append, HLK.out]; simp; omega) B2.size ?_; intro v3 w4 ho3 hg3 hb3; have B3 := B2.grown hg3 B2.size (fun j e => (l2 j e).1); clear A3 hg3 hb3))
  go_ret
  exact ⟨_, rfl, by rw [F.out]; simpa using ho3, B3⟩

theorem specSetJoin (va vb : Value) (xs bs : List Int) (w : World) (ha : RI w va xs) (hb : RI w vb bs) (hl : xs.length + bs.length ≤ 4194303) :
 Calls Try.prog 58 #[va, vb] w fun e w' => ∃ u, e = .returned u ∧ OI w' w.heap.size u (joinL xs bs) ∧ Below w.heap.size w w' := by
 obtain ⟨aa, ca, rfl⟩:=ha.form
 obtain ⟨ba, cb, rfl⟩:=hb.form
 have HA:=hide ha
 have HB:=hide hb
 obtain ⟨n, hn⟩ : ∃ n, xs.length = n:=⟨_, rfl⟩
 obtain ⟨m, hm⟩ : ∃ n, bs.length = n:=⟨_, rfl⟩
 have Hn:=hide hn
 have Hm:=hide hm
 rw [hn] at HA hl ⊢
 rw [hm] at HB hl ⊢
 clear ha hb hn hm
 have O0 : OI (w.alloc (.cells #[] 3)) w.heap.size (.slice (some ⟨w.heap.size, 0, none⟩) 0 0) []:=by
  have:=World.ownsRow_lit (base:=w.heap.size) (e:=3) (size:=1) w #[] 0 (Nat.le_refl _) (by unfold maxLen; omega) (by simp)
  simpa [OI] using this
 have b0 : Below w.heap.size w (w.alloc (.cells #[] 3)):=(Below.refl _ _).alloc (Nat.le_refl _) _
 go_enter Try.func58, Try.ntmps58
 go_wp2
 go_loopw [5, 6] (fun out j wr => ∃ k : Nat, k ≤ n ∧ j = .int .i64 k ∧ OI wr w.heap.size out ((xs.take k).foldl addL []) ∧ Below w.heap.size w wr) (fun _ j _ => n - (intOf j).toNat)
 case atStart => exact ⟨0, Nat.zero_le _, rfl, O0, b0⟩
 case round =>
  clear O0 b0
  obtain ⟨k, hk, rfl, ho, br⟩:=hrel
  have hsr:=br.size
  by_cases hlt : k < n
  ·have hkx : k < xs.length:=by have:=Hn.out; omega
   obtain ⟨b, off, rfl, c⟩:=(HA.out.below br).at k hkx
   have HT:=hide (show (xs.take (k + 1)).foldl addL [] = addL ((xs.take k).foldl addL []) (xs.getD k 0) by rw [itake_more xs k hkx, fold_snoc])
   have hfl:=fold_len (xs.take k) []
   rw [List.length_take, List.length_nil] at hfl
   generalize xs.getD k 0 = d at *
   generalize (xs.take k).foldl addL [] = acc at *
   have SA:=hide (specSetAdd _ acc d _ (ho.ri (by omega)) ho.cap (by omega))
   obtain ⟨oa, oc, rfl⟩:=ho.form
   clear ho hfl
   go_wp2_with fail
   refine SA.out.mono ?_
   rintro _ w1 ⟨u, rfl, o1, b1⟩
   obtain ⟨ua, uc, rfl⟩:=o1.form
   have O1:=OI.mono o1 hsr
   have B1:=br.trans (b1.mono hsr)
   clear o1 b1 SA
   go_wp2
   go_roundw
   case rel => exact ⟨k + 1, by omega, by go_num, by rw [HT.out]; exact O1, B1⟩
   case measure => simp [intOf]; omega
  have hkn : k = xs.length:=by have:=Hn.out; omega
  have e1 : xs.take k = xs:=List.take_of_length_le (by omega)
  rw [e1] at ho
  have HO:=hide ho
  have hd0 : decide ((k : Int) < (n : Int)) = false:=by simp; omega
  clear ho hkn e1
  obtain ⟨oa, oc, ho0⟩:=HO.out.form
  go_wp2
  go_loopw [5, 7] (fun out j wq => ∃ k : Nat, k ≤ m ∧ j = .int .i64 k ∧ OI wq w.heap.size out ((xs ++ bs.take k).foldl addL []) ∧ Below w.heap.size w wq) (fun _ j _ => m - (intOf j).toNat)
  case atStart => exact ⟨0, Nat.zero_le _, rfl, by simpa using HO.out, br⟩
  case round =>
   clear HO br
   obtain ⟨k2, hk2, rfl, ho, br⟩:=hrel
   have hsr2:=br.size
   by_cases hlt2 : k2 < m
   ·have hkx : k2 < bs.length:=by have:=Hm.out; omega
    obtain ⟨b, off, rfl, c⟩:=(HB.out.below br).at k2 hkx
    have HT:=hide (show (xs ++ bs.take (k2 + 1)).foldl addL [] = addL ((xs ++ bs.take k2).foldl addL []) (bs.getD k2 0) by rw [itake_more bs k2 hkx, ← List.append_assoc, fold_snoc])
    have hfl:=fold_len (xs ++ bs.take k2) []
    rw [List.length_append, Hn.out, List.length_take, List.length_nil] at hfl
    generalize bs.getD k2 0 = d at *
    generalize (xs ++ bs.take k2).foldl addL [] = acc at *
    have SA:=hide (specSetAdd _ acc d _ (ho.ri (by omega)) ho.cap (by omega))
    obtain ⟨oa2, oc2, rfl⟩:=ho.form
    clear ho hfl
    go_wp2_with fail
    refine SA.out.mono ?_
    rintro _ w1 ⟨u, rfl, o1, b1⟩
    obtain ⟨ua, uc, rfl⟩:=o1.form
    have O1:=OI.mono o1 hsr2
    have B1:=br.trans (b1.mono hsr2)
    clear o1 b1 SA
    go_wp2
    go_roundw
    case rel => exact ⟨k2 + 1, by omega, by go_num, by rw [HT.out]; exact O1, B1⟩
    case measure => simp [intOf]; omega
   have hkn : k2 = bs.length:=by have:=Hm.out; omega
   have e1 : bs.take k2 = bs:=List.take_of_length_le (by omega)
   rw [e1] at ho
   have HO:=hide ho
   have hd2 : decide ((k2 : Int) < (m : Int)) = false:=by simp; omega
   clear ho hkn e1
   go_wp2
   go_ret
   exact ⟨_, rfl, HO.out, br⟩
theorem kp_to {a b : World} {g : Nat} (h : Kp a b (fun k => k = g)) : a.grownBy b (some g) :=
 ⟨h.os, h.tape, h.output, h.size, fun j hj hx => h.block j hj (fun e => hx (e ▸ rfl))⟩
theorem kp_of {a b : World} {g : Nat} (h : a.grownBy b (some g)) : Kp a b (fun k => k = g) := (kp_grown h).mono fun k e => by simpa using e.symm

theorem wf_small {x : Int} (h0 : -256 ≤ x) (h1 : x ≤ 256) : (Lit.int .i64 x).wf = true := by
 simp only [Lit.wf, IntKind.min, IntKind.max, IntKind.signed, IntKind.bits, Bool.and_eq_true, decide_eq_true_eq, if_true]
 omega
theorem wf_add {xs : List Int} {x : Int} (h : WfL xs) (hx : (Lit.int .i64 x).wf = true) : WfL (addL xs x) := fun y hy => by
 rcases (mem_add xs x y).1 hy with h1 | rfl
 ·exact h y h1
 exact hx
theorem wf_snoc {xs : List Int} {x : Int} (h : WfL xs) (hx : (Lit.int .i64 x).wf = true) : WfL (xs ++ [x]) := fun y hy => by
 rcases List.mem_append.1 hy with h1 | h1
 ·exact h y h1
 simp at h1; subst h1; exact hx
theorem drawSet (base g ca : Nat) (ao : Option Addr) (zs : List Int) (n : Int) (w : World) (hB : base ≤ w.heap.size) (hn : 1 ≤ n) (hm : n ≤ 256) (h : Cur w base g ao ca zs) :
 Calls Try.prog 54 #[.pointer (some ⟨g, 0, none⟩),.int .i64 n] w fun e w' => ∃ v, ∃ xs : List Int, e = .returned v ∧ xs.length ≤ 9 ∧ Hid (WfL xs) ∧ OI w' w.heap.size v xs ∧ Cur w' base g ao ca zs ∧ w.grownBy w' (some g) := by
 have hlt:=h.lt
 have O0 : OI (w.alloc (.cells #[] 3)) w.heap.size (.slice (some ⟨w.heap.size, 0, none⟩) 0 0) []:=by
  have:=World.ownsRow_lit (base:=w.heap.size) (e:=3) (size:=1) w #[] 0 (Nat.le_refl _) (by unfold maxLen; omega) (by simp)
  simpa [OI] using this
 have b0 : Below w.heap.size w (w.alloc (.cells #[] 3)):=(Below.refl _ _).alloc (Nat.le_refl _) _
 have C0:=h.below hB b0
 have K0 : Kp w (w.alloc (.cells #[] 3)) (fun k => k = g):=Below.kpOf b0 _
 clear h b0
 go_enter Try.func54, Try.ntmps54
 go_wp2
 go_loopw [5, 6] (fun out j wr => ∃ (k : Nat) (xs : List Int), k ≤ 8 ∧ j = .int .i64 k ∧ xs.length ≤ k ∧ Hid (WfL xs) ∧ OI wr w.heap.size out xs ∧ Cur wr base g ao ca zs ∧ Kp w wr (fun k => k = g)) (fun _ j _ => 8 - (intOf j).toNat)
 case atStart => exact ⟨0, [], by omega, rfl, by simp, hide (fun x hx => by simp at hx), O0, C0, K0⟩
 case round =>
  clear O0 C0 K0
  obtain ⟨k, xs, hk, rfl, hxl, WX, ho, C, K⟩:=hrel
  have sk:=K.size
  obtain ⟨oa, oc, rfl⟩:=ho.form
  go_wp2_with fail
  refine (below_any base g ca ao zs 8 _ (by omega) (by omega) (by omega) C).mono ?_
  rintro _ w1 ⟨r, rfl, r0, r1, C1, g1⟩
  have k1:=kp_of g1
  have s1:=k1.size
  have l0:=World.ownsRow.lt ho
  have O1:=OI.kp ho k1 (fun j hj e => by have:=(l0 j hj).1; omega)
  have K1:=K.trans k1
  clear C K g1 k1 ho l0
  by_cases hlt2 : (k : Int) < r
  ·have hd : decide ((k : Int) < r) = true:=by simpa using hlt2
   go_wp2_with fail
   refine (below_any base g ca ao zs n _ (by omega) hn hm C1).mono ?_
   rintro _ w2 ⟨x, rfl, x0, x1, C2, g2⟩
   have k2:=kp_of g2
   have s2:=k2.size
   have l1:=World.ownsRow.lt O1
   have O2:=OI.kp O1 k2 (fun j hj e => by have:=(l1 j hj).1; omega)
   have K2:=K1.trans k2
   have SA:=hide (specSetAdd _ xs x w2 (O2.ri (by omega)) O2.cap (by omega))
   have hal:=add_len xs x
   have WY:=hide (wf_add WX.out (wf_small (by omega) (by omega) : (Lit.int .i64 x).wf = true))
   clear C1 K1 g2 k2 O1 l1 O2
   generalize addL xs x = ys at *
   go_wp2_with fail
   refine SA.out.mono ?_
   rintro _ w3 ⟨u, rfl, o3, b3⟩
   have C3:=C2.below (by omega) b3
   have K3:=K2.trans (Below.kpOf b3 _)
   have O3:=OI.mono o3 (show w.heap.size ≤ w2.heap.size by omega)
   obtain ⟨ua, uc, rfl⟩:=o3.form
   clear SA C2 K2 b3 o3
   go_wp2
   go_roundw
   case rel => exact ⟨k + 1, ys, by omega, by go_num, by omega, WY, O3, C3, K3⟩
   case measure => simp [intOf]; omega
  have hd : decide ((k : Int) < r) = false:=by simpa using hlt2
  go_wp2_with fail
  refine (once_any base g ca ao zs 12 _ (by omega) (by omega) (by omega) C1).mono ?_
  rintro _ w2 ⟨q, rfl, C2, g2⟩
  have k2:=kp_of g2
  have s2:=k2.size
  have l1:=World.ownsRow.lt O1
  have O2:=OI.kp O1 k2 (fun j hj e => by have:=(l1 j hj).1; omega)
  have K2:=K1.trans k2
  clear C1 K1 g2 k2 O1 l1
  cases q with
  | false =>
   go_wp2
   go_ret
   exact ⟨_, xs, rfl, by omega, WX, O2, C2, kp_to K2⟩
  | true =>
   obtain ⟨w3, hw3⟩ : ∃ w3, w2.alloc (.cells #[.int .i64 (-1),.int .i64 0,.int .i64 3,.int .i64 9] 3) = w3:=⟨_, rfl⟩
   have b3 : Below w2.heap.size w2 w3:=hw3 ▸ (Below.refl _ _).alloc (Nat.le_refl _) _
   have h40 : w3.cell? ⟨w2.heap.size, 0, none⟩ = some (.int .i64 (-1)):=by rw [← hw3]; simp
   have h41 : w3.cell? ⟨w2.heap.size, 1, none⟩ = some (.int .i64 0):=by rw [← hw3]; simp
   have h42 : w3.cell? ⟨w2.heap.size, 2, none⟩ = some (.int .i64 3):=by rw [← hw3]; simp
   have h43 : w3.cell? ⟨w2.heap.size, 3, none⟩ = some (.int .i64 9):=by rw [← hw3]; simp
   have hc3 : ∀ k, k < ([-1, 0, 3, 9] : List Int).length → w3.cell? ⟨w2.heap.size, k, none⟩ = some (.int .i64 (([-1, 0, 3, 9] : List Int).getD k 0)):=fun k hk => by
    match k, hk with
    | 0, _ => exact h40
    | 1, _ => exact h41
    | 2, _ => exact h42
    | 3, _ => exact h43
    | k + 4, hk => simp at hk; omega
   have C3:=C2.below (by omega) b3
   have O3:=O2.below b3
   have K3:=K2.trans (Below.kpOf b3 _)
   have s3:=b3.size
   have hgl:=C2.lt
   have PK:=hide (pickInt_any base g ca w2.heap.size ao zs [-1, 0, 3, 9] w3 (by omega) (by omega) (by simp) (by simp) hc3 C3)
   clear C2 K2 O2 b3 hc3 h40 h41 h42 h43
   go_wp2_with fail
   refine PK.out.mono ?_
   rintro _ w4 ⟨kk, hkk, rfl, C4, g4⟩
   have k4:=kp_of g4
   have s4:=k4.size
   have l3:=World.ownsRow.lt O3
   have O4:=OI.kp O3 k4 (fun j hj e => by have:=(l3 j hj).1; omega)
   have K4:=K3.trans k4
   have hdd : -256 ≤ ([-1, 0, 3, 9] : List Int).getD kk 0 ∧ ([-1, 0, 3, 9] : List Int).getD kk 0 ≤ 256:=by
    match kk, hkk with
    | 0, _ => decide
    | 1, _ => decide
    | 2, _ => decide
    | 3, _ => decide
    | k + 4, hk => simp at hk; omega
   generalize ([-1, 0, 3, 9] : List Int).getD kk 0 = dd at *
   have WY:=hide (wf_snoc WX.out (wf_small hdd.1 hdd.2))
   have b5 : Below w4.heap.size w4 (w4.alloc (.cells #[.int .i64 dd] 3)):=(Below.refl _ _).alloc (Nat.le_refl _) _
   have O5:=O4.below b5
   have C5:=C4.below (by omega) b5
   have K5:=K4.trans (Below.kpOf b5 _)
   have l5:=World.ownsRow.lt O5
   clear hw3 PK C3 K3 O3 C4 O4 K4 g4 k4 l3 b5
   go_wp2_with (first | (at_builtin; refine append_ints rfl _ _ rfl w.heap.size (.slice oa xs.length oc) (.slice (some ⟨w4.heap.size, 0, none⟩) 1 1) xs [dd] rfl rfl O5 ⟨_, _, rfl, .inr ⟨_, rfl, cell_one_new _ _ _⟩⟩ (by simp; omega) (by simp; omega) ?_; intro v' w6 ho6 hg6 _; have C6 := C5.grownNew hg6 (fun j e => by have := (l5 j e).1; omega); have K6 := grown_new (kp_to K5) hg6 (fun j e => (l5 j e).1); clear hg6))
   go_ret
   exact ⟨_, xs ++ [dd], rfl, by simp; omega, WY, ho6, C6, K6⟩

structure SCode (w : World) (ao : Option Addr) (xs : List Int) : Prop where
 len : xs.length ≤ 1048576
 code : xs = [] ∨ ∃ b off, ao = some ⟨b, off, none⟩ ∧ ∀ k, k < xs.length → w.cell? ⟨b, off + k, none⟩ = some (.int .u8 (xs.getD k 0))
 fit : ∀ k, k < xs.length → 0 ≤ xs.getD k 0 ∧ xs.getD k 0 ≤ 255
theorem SCode.below {w w' : World} {ao : Option Addr} {xs : List Int} (h : SCode w ao xs) (hb : Below w.heap.size w w') : SCode w' ao xs := by
 refine ⟨h.len, ?_, h.fit⟩
 rcases h.code with h' | ⟨b, off, ha, hx⟩
 ·exact .inl h'
 exact .inr ⟨b, off, ha, fun k hk => (hb.cell (p := ⟨b, off + k, none⟩) (cell_lt (hx k hk))).trans (hx k hk)⟩
theorem Loc.grown {w w' : World} {r g : Nat} {cs : Array Value} (h : Loc w r cs) (hg : w.grownBy w' (some g)) (hr : r ≠ g) : Loc w' r cs := h.kp (kp_of hg) hr
theorem Loc.grownNew {w w' : World} {r : Nat} {row : Option Nat} {cs : Array Value} (h : Loc w r cs) (hg : w.grownBy w' row) (hr : row ≠ some r) : Loc w' r cs := h.kp (kp_grown hg) hr
theorem OI.drawn {w w' : World} {base g : Nat} {v : Value} {xs : List Int} (h : OI w base v xs) (hg : w.grownBy w' (some g)) (hlt : g < base) : OI w' base v xs :=
 h.grown hg (fun k hk e => by have := World.ownsRow.lt h k hk; cases e; omega)
end
end Go.Proofs.Ytjkcphnohhpihaa
