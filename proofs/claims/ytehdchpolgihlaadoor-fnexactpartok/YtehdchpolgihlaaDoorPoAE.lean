/- Texts that belong together: HeldBy, PartOne, SpecSets, SpecSets2, ToTx, EqTx, TxList, NumPlain, TxPlain, CutPlain. -/
import Derived.Deep.RegionHeld3
import Derived.Below
import Derived.Test.YtehdchpolgihlaaDoorPoAA
import Derived.Test.YtehdchpolgihlaaDoorPoAB
import Derived.BigQuiet
import Derived.Deep.DeepCutAuto
import Derived.WalkKit
import Derived.Lib.ItoaNum
import Derived.Lib.Atoi
import Derived.Laws.RangeString
import Derived.Laws.RangeAny
/- An operation of a region that draws its order, taken first, its slot written out. -/
namespace Go.Proofs.YtehdchpolgihlaaDoor
open Go Go.RowKit
section
variable {P : Program} {ops : Array Oper} {Q : Exit → Act → World → Prop} {md : Region.Mode} {S : World → Prop}
theorem take_at {i d : Nat} {oi : Oper} {v : Value} {fuel : Nat} {listed : Array Bool} {a : Act} {w : World} (hi : ops[i]? = some oi) (hd : oi.dst = some d)
    (hs : Region.noSelect ops = true) (hf : Region.free md ops listed i = true) (hr : (Region.ready md ops listed).contains i = true)
    (hQ : ∀ c a w, Q (.panic c) (a.put (some d) v) w → Q (.panic c) a w) (hy : YieldsIf P ops S oi v a) (hS : S w)
    (h : wpAnyH P md ops Q S fuel (listed.setIfInBounds i true) (a.put (some d) v) w) : wpAnyH P md ops Q S (fuel + 1) listed a w :=
  wpAnyH_take hi hs hf hr (by rw [hd]; exact hQ) hy hS (by rw [hd]; exact h)
theorem ready_at {i : Nat} {o : Oper} {fuel : Nat} {listed : Array Bool} {a : Act} {w : World} (ho : ops[i]? = some o) (hr : Region.ready md ops listed = [i])
    (h : ∀ K' : Act → World → Prop, Shut (∀ a w, S w → (S w → wpAnyH P md ops Q S fuel (listed.setIfInBounds i true) a w) → K' a w) → if Region.wanted o (yielded ops a.tmps) = true then Oper.wp P o a w K' Q else K' (a.put o.dst undef) w) :
    wpAnyH P md ops Q S (fuel + 1) listed a w :=
  wpAnyH_ready hr (by simp) (AllReadyH.cons ho h AllReadyH.nil)
end
theorem undrew {B : Nat} {w w' : World} (h : Below B w.drew w') : Below B w w' := ⟨h.os, h.tape, h.output, h.size, h.block⟩
end Go.Proofs.YtehdchpolgihlaaDoor

/- PartOne: a part as a value; laws.eqPart, heldPart, markPart, szPart, toPart; spec.l10Copy. -/
namespace Go.Proofs.YtehdchpolgihlaaDoor
open Go.RowKit

set_option maxHeartbeats 1600000 in
set_option maxRecDepth 100000 in
theorem eqPart_yes (n : Int) (s : ByteArray) (a b : Value) (xs : List Int) (w : World) (ha : RI w a xs) (hb : RI w b xs) :
    Calls Tryd.prog 10 #[qv n s a, qv n s b] w fun e w' => e = .returned (.bool true) ∧ Below w.heap.size w w' := by
  have R1 := hide ha
  have R2 := hide hb
  have B := hide (qalloc2 w (.cells #[.int .i64 n, .string s, a] 31) (.cells #[.int .i64 n, .string s, b] 31))
  clear ha hb
  go_enter Tryd.func10, Tryd.ntmps10
  go_wp2_with fail
  refine (eqIntS_yes a b xs _ ((unhide R1).below (unhide B) (Nat.le_refl _)) ((unhide R2).below (unhide B) (Nat.le_refl _))).mono ?_
  rintro e w1 ⟨rfl, n, rfl⟩
  go_wp2
  go_ret
  exact ⟨rfl, below_drewN' (unhide B) _⟩

set_option maxHeartbeats 1600000 in
set_option maxRecDepth 100000 in
theorem heldPart_any (n : Int) (s : ByteArray) (v : Value) (m : Nat) (w : World) (h : RI w v (imarks 1 m)) :
    Calls Tryd.prog 14 #[qv n s v, .int .i64 1] w fun e w' => e = .returned (.int .i64 (1 + m)) ∧ Below w.heap.size w w' := by
  have R1 := hide h
  have B := hide (qalloc w (.cells #[.int .i64 n, .string s, v] 31))
  have hd : decide ((1 : Int) + (m : Int) < 0) = false := by simp; omega
  clear h
  go_enter Tryd.func14, Tryd.ntmps14
  go_wp2_with fail
  refine (iheld_any v m 1 _ (by omega) ((unhide R1).below (unhide B) (Nat.le_refl _))).mono ?_
  rintro e w1 ⟨rfl, rfl⟩
  go_wp2
  go_ret
  exact ⟨rfl, unhide B⟩

set_option maxHeartbeats 1600000 in
set_option maxRecDepth 100000 in
theorem markPart_any (n : Int) (s : ByteArray) (base : Nat) (v : Value) (xs : List Int) (k0 : Nat) (w : World) (hl : xs.length ≤ 4194304) (hk : k0 ≤ 100000000) (h : OI w base v xs) :
    Calls Tryd.prog 13 #[qv n s v, .int .i64 k0] w fun e w' => e = .returned (.int .i64 (k0 + xs.length)) ∧ OI w' base v (imarks k0 xs.length) ∧ Kp w w' (fun k => v.ownBlock = some k) := by
  have B := hide (qalloc w (.cells #[.int .i64 n, .string s, v] 31))
  have H := hide (h.below (unhide B))
  have hb := World.ownsRow.lt h
  have MK := hide fun w h => imark_any base k0 v xs w hl hk h
  clear h
  go_enter Tryd.func13, Tryd.ntmps13
  go_wp2_with fail
  refine (unhide MK _ (unhide H)).mono ?_
  rintro e w1 ⟨rfl, o1, g1⟩
  have K := (Below.kpOf (unhide B) (fun k => v.ownBlock = some k)).trans (kp_grown g1)
  go_wp2
  go_ret
  exact ⟨rfl, o1, K⟩

set_option maxHeartbeats 800000 in
set_option maxRecDepth 100000 in
theorem szPart_yes (n : Int) (s : ByteArray) (ao : Option Addr) (m ca : Nat) (left : Int) (w : World) (h : (s.size : Int) + m ≤ left) (hl : left ≤ 1048576) :
    Calls Tryd.prog 5 #[qv n s (.slice ao m ca), .int .i64 left] w fun e w' => e = .returned (.int .i64 (left - s.size - m)) ∧ Below w.heap.size w w' := by
  have h1 : decide ((left : Int) - (s.size : Int) < 0) = false := by simp; omega
  have h2 : decide ((left : Int) - (s.size : Int) - (m : Int) < 0) = false := by simp; omega
  go_enter Tryd.func5, Tryd.ntmps5
  go_wp2_with (first | (go_at_call 15; refine (szIntS_yes _ _ _ _ _ (by omega) (by omega)).mono ?_; rintro e w' ⟨rfl, rfl⟩))
  go_ret
  exact ⟨rfl, qalloc _ _⟩

set_option maxHeartbeats 800000 in
set_option maxRecDepth 100000 in
theorem szPart_no1 (n : Int) (s : ByteArray) (ao : Option Addr) (m ca : Nat) (left : Int) (w : World) (h0 : 0 ≤ left) (h : left < s.size) (hs : s.size ≤ 9223372036854775807) (hl : left ≤ 1048576) :
    Calls Tryd.prog 5 #[qv n s (.slice ao m ca), .int .i64 left] w fun e w' => e = .returned (.int .i64 (-1)) ∧ Below w.heap.size w w' := by
  have h1 : decide ((left : Int) - (s.size : Int) < 0) = true := by simp; omega
  go_enter Tryd.func5, Tryd.ntmps5
  go_wp2
  go_ret
  exact ⟨rfl, qalloc _ _⟩

set_option maxHeartbeats 800000 in
set_option maxRecDepth 100000 in
theorem szPart_no2 (n : Int) (s : ByteArray) (ao : Option Addr) (m ca : Nat) (left : Int) (w : World) (h0 : (s.size : Int) ≤ left) (h : left < s.size + m) (hm : m ≤ 9223372036854775807) (hl : left ≤ 1048576) :
    Calls Tryd.prog 5 #[qv n s (.slice ao m ca), .int .i64 left] w fun e w' => e = .returned (.int .i64 (-1)) ∧ Below w.heap.size w w' := by
  have h1 : decide ((left : Int) - (s.size : Int) < 0) = false := by simp; omega
  go_enter Tryd.func5, Tryd.ntmps5
  go_wp2_with fail
  refine (szIntS_no _ _ _ _ _ (by omega) (by omega) (by omega) hm).mono ?_
  rintro e w' ⟨rfl, rfl⟩
  go_wp2
  go_ret
  exact ⟨rfl, qalloc _ _⟩

theorem szPart_no (n : Int) (s : ByteArray) (ao : Option Addr) (m ca : Nat) (left : Int) (w : World) (h0 : 0 ≤ left) (h : left < s.size + m) (hs : s.size ≤ 9223372036854775807) (hm : m ≤ 9223372036854775807) (hl : left ≤ 1048576) :
    Calls Tryd.prog 5 #[qv n s (.slice ao m ca), .int .i64 left] w fun e w' => e = .returned (.int .i64 (-1)) ∧ Below w.heap.size w w' := by
  by_cases h1 : left < (s.size : Int)
  · exact szPart_no1 n s ao m ca left w h0 h1 hs hl
  · exact szPart_no2 n s ao m ca left w (by omega) h hm hl

set_option maxHeartbeats 1600000 in
set_option maxRecDepth 100000 in
theorem toPart_any (n : Int) (s : ByteArray) (a : Value) (xs : List Int) (w : World) (ha : RI w a xs) :
    Calls Tryd.prog 8 #[qv n s a] w fun e w' => ∃ u, e = .returned (qv n s u) ∧ OI w' w.heap.size u xs ∧ Below w.heap.size w w' := by
  have R1 := hide ha
  clear ha
  go_enter Tryd.func8, Tryd.ntmps8
  go_wp2_with fail
  refine Calls.mono (toIntS_any a xs _ ((unhide R1).below ((((Below.refl w.heap.size w).alloc (Nat.le_refl _) _).alloc (by simp) _).alloc (by simp; omega) _) (Nat.le_refl _))) ?_
  rintro e w1 ⟨u, rfl, o1, b1⟩
  have s1 := b1.size
  have L1 : Loc w1 (w.heap.size + 1) #[.int .i64 0, .string ⟨#[]⟩, .slice none 0 0] := Loc.below (Loc.alloc (loc_at (w.alloc _) #[.int .i64 0, .string ⟨#[]⟩, .slice none 0 0] _ (by simp)) _) b1 (by simp)
  have L2 : Loc w1 (w.heap.size + 1 + 1) #[.int .i64 n, .string s, .slice none 0 0] := Loc.below (loc_at ((w.alloc _).alloc _) #[.int .i64 n, .string s, .slice none 0 0] _ (by simp)) b1 (by simp)
  have B1 : Below w.heap.size w w1 := ((((Below.refl w.heap.size w).alloc (Nat.le_refl _) _).alloc (by simp) _).alloc (by simp; omega) _).trans (b1.mono (by simp; omega))
  have lt1 := World.ownsRow.lt o1
  simp at lt1 s1
  have y0 := L1.cell 0 rfl
  have y1 := L1.cell 1 rfl
  have y2 := L1.cell 2 rfl
  have fy0 := L1.frozen 0
  have fy1 := L1.frozen 1
  have fy2 := L1.frozen 2
  have z0 := L2.cell 0 rfl
  have z1 := L2.cell 1 rfl
  have z2 := L2.cell 2 rfl
  have fz2 := L2.frozen 2
  obtain ⟨ua, uc, hu⟩ := o1.form
  have O1 := hide o1
  clear o1 b1
  subst hu
  go_wp2
  refine bodyPost_ret (v := qv n s (.slice ua xs.length uc)) (by simp [results, Tryd.results8, go_sem, y0, y1, y2]) rfl ?_
  have K : Kp w1 ((((w1.setCell ⟨w.heap.size + 1 + 1, 2, none⟩ (.slice ua xs.length uc)).setCell ⟨w.heap.size + 1, 0, none⟩ (.int .i64 n)).setCell ⟨w.heap.size + 1, 1, none⟩ (.string s)).setCell ⟨w.heap.size + 1, 2, none⟩ (.slice ua xs.length uc)) (fun k => k = w.heap.size + 1 ∨ k = w.heap.size + 1 + 1) :=
    (((((set_kp _ _ _ _).mono (fun k h => .inr h))).trans ((set_kp _ _ _ _).mono (fun k h => .inl h))).trans ((set_kp _ _ _ _).mono (fun k h => .inl h))).trans ((set_kp _ _ _ _).mono (fun k h => .inl h))
  exact ⟨_, rfl, ((unhide O1).kp K (fun k hk => by have := lt1 k hk; omega)).mono (by simp; omega), Below.kp B1 K B1.size (fun k hk => by omega)⟩

abbrev zpo : Obj := .cells #[.int .i64 0, .string ⟨#[]⟩, .slice none 0 0] 31

end Go.Proofs.YtehdchpolgihlaaDoor

/- spec.SetHas, SetOk, SetAdd, SetJoin, Common. -/
namespace Go.Proofs.YtehdchpolgihlaaDoor
open Go.RowKit

theorem itake_more (xs : List Int) (k : Nat) (h : k < xs.length) : xs.take (k + 1) = xs.take k ++ [xs.getD k 0] := by
  rw [List.take_succ_eq_append_getElem h, List.getD_eq_getElem?_getD, List.getElem?_eq_getElem h]; rfl
theorem getD_mem_int {xs : List Int} {k : Nat} (h : k < xs.length) : xs.getD k 0 ∈ xs := by
  rw [List.getD_eq_getElem?_getD, List.getElem?_eq_getElem h]; exact List.getElem_mem h

set_option maxHeartbeats 1600000 in
set_option maxRecDepth 100000 in
theorem specSetHas (v : Value) (xs : List Int) (i : Int) (w : World) (h : RI w v xs) :
    Calls Tryd.prog 48 #[v, .int .i64 i] w fun e w' => e = .returned (.bool (decide (i ∈ xs))) ∧ w' = w := by
  have hl := h.1
  obtain ⟨ao, ca, rfl⟩ := h.form
  have H := hide h
  obtain ⟨n, hn⟩ : ∃ n, xs.length = n := ⟨_, rfl⟩
  have Hn := hide hn
  obtain ⟨r, hr⟩ : ∃ r, decide (i ∈ xs) = r := ⟨_, rfl⟩
  have HR := hide hr
  rw [hn] at hl H ⊢
  rw [hr]
  clear h hn hr
  go_enter Tryd.func48, Tryd.ntmps48
  go_wp2
  go_loopw [5] (fun j wr => ∃ k : Nat, k ≤ n ∧ j = .int .i64 k ∧ Hid (i ∉ xs.take k) ∧ wr = w) (fun j _ => n - (intOf j).toNat)
  case atStart => exact ⟨0, Nat.zero_le _, rfl, hide (by simp), rfl⟩
  case round =>
    obtain ⟨k, hk, rfl, HK, rfl⟩ := hrel
    by_cases hlt : k < n
    · have hkx : k < xs.length := by have := unhide Hn; omega
      obtain ⟨b, off, rfl, c⟩ := (unhide H).at k hkx
      have HT := hide (itake_more xs k hkx)
      have HM := hide (getD_mem_int hkx)
      generalize xs.getD k 0 = d at *
      by_cases e : d = i
      · subst e
        have hrr : r = true := by rw [← unhide HR]; exact decide_eq_true (unhide HM)
        subst hrr
        clear HT HM HK
        go_wp2
        go_ret
        exact ⟨rfl, rfl⟩
      · have HK' : Hid (i ∉ xs.take (k + 1)) := hide (by rw [unhide HT]; simp; exact ⟨unhide HK, fun e2 => e e2.symm⟩)
        have e' : decide (d = i) = false := by simpa using e
        have e2 : (d == i) = false := by simpa using e
        clear HT HM HK
        go_wp2
        go_roundw
        case rel => exact ⟨k + 1, by omega, by go_num, HK', by first | rfl | trivial⟩
        case measure => simp [intOf]; omega
    · have hkn : k = xs.length := by have := unhide Hn; omega
      have hrr : r = false := by
        rw [← unhide HR]
        have := unhide HK
        rw [hkn, List.take_of_length_le (Nat.le_refl _)] at this
        exact decide_eq_false this
      subst hrr
      clear HK
      go_wp2
      go_ret
      exact ⟨rfl, rfl⟩

set_option maxHeartbeats 4000000 in
set_option maxRecDepth 100000 in
theorem specSetAdd (v : Value) (xs : List Int) (i : Int) (w : World) (h : RI w v xs) (hc : Cap v) (hx : xs.length ≤ 4194303) :
    Calls Tryd.prog 36 #[v, .int .i64 i] w fun e w' => ∃ u, e = .returned u ∧ OI w' w.heap.size u (addL xs i) ∧ Below w.heap.size w w' := by
  have SH := hide fun w h => specSetHas v xs i w h
  obtain ⟨ao, ca, rfl⟩ := h.form
  obtain ⟨hcn, hcm⟩ : xs.length ≤ ca ∧ ca ≤ maxLen := by obtain ⟨_, _, _, e, h1, h2⟩ := hc; cases e; exact ⟨h1, h2⟩
  unfold maxLen at hcm
  have H := hide h
  have HP := hide h.pi
  clear h hc
  have O0 : OI (w.alloc (.cells #[] 3)) w.heap.size (.slice (some ⟨w.heap.size, 0, none⟩) 0 0) [] := by
    have := World.ownsRow_lit (base := w.heap.size) (e := 3) (size := 1) w #[] 0 (Nat.le_refl _) (by unfold maxLen; omega) (by simp)
    simpa [OI] using this
  have b0 : Below w.heap.size w (w.alloc (.cells #[] 3)) := (Below.refl _ _).alloc (Nat.le_refl _) _
  have P0 := hide ((unhide HP).below b0)
  by_cases hm : i ∈ xs
  · have ea : addL xs i = xs := if_pos hm
    rw [ea]
    rw [decide_eq_true hm] at SH
    clear hm ea
    go_enter Tryd.func36, Tryd.ntmps36
    go_wp2_with fail
    refine (unhide SH _ (unhide H)).mono ?_
    rintro _ w1 ⟨rfl, rfl⟩
    go_wp2_with (first | (at_builtin; refine append_ints rfl _ _ rfl w1.heap.size (.slice (some ⟨w1.heap.size, 0, none⟩) 0 0) (.slice ao xs.length ca) [] xs rfl rfl O0 (unhide P0) (by simp; omega) (by simp) ?_; intro v' w2 ho' hg' _; have RB := b0.grown hg' (by simp) (fun j e => by simp [Value.ownBlock] at e; omega); clear hg'))
    go_ret
    exact ⟨_, rfl, by simpa using ho', RB⟩
  · have ea : addL xs i = xs.takeWhile (fun x => decide (x < i)) ++ i :: xs.dropWhile (fun x => decide (x < i)) := if_neg hm
    rw [decide_eq_false hm] at SH
    have EA := hide ea
    clear hm ea
    obtain ⟨n, hn⟩ : ∃ n, xs.length = n := ⟨_, rfl⟩
    have Hn := hide hn
    rw [hn] at H P0 hx hcn SH HP ⊢
    clear hn
    go_enter Tryd.func36, Tryd.ntmps36
    go_wp2_with fail
    refine (unhide SH _ (unhide H)).mono ?_
    rintro _ w1 ⟨rfl, rfl⟩
    go_wp2
    go_loopw [5] (fun j wr => ∃ k : Nat, k ≤ n ∧ j = .int .i64 k ∧ Hid (∀ x ∈ xs.take k, x < i) ∧ wr = w1) (fun j _ => n - (intOf j).toNat)
    case atStart => exact ⟨0, Nat.zero_le _, rfl, hide (by simp), rfl⟩
    case round =>
      obtain ⟨k, hk, rfl, HK, rfl⟩ := hrel
      have FIN : Hid ((k < n → ¬ xs.getD k 0 < i) → addL xs i = xs.take k ++ i :: xs.drop k) := hide fun hst => by
        have hkx : k ≤ xs.length := by have := unhide Hn; omega
        have e1 : xs.takeWhile (fun x => decide (x < i)) = xs.take k ∧ xs.dropWhile (fun x => decide (x < i)) = xs.drop k := by
          have hall : ∀ x ∈ xs.take k, (decide (x < i)) = true := fun x hx => by simpa using unhide HK x hx
          have hd : xs.drop k = [] ∨ ∃ c t, xs.drop k = c :: t ∧ ¬ c < i := by
            by_cases hlt : k < xs.length
            · right
              refine ⟨_, _, List.drop_eq_getElem_cons hlt, ?_⟩
              have := hst (by have := unhide Hn; omega)
              rwa [List.getD_eq_getElem?_getD, List.getElem?_eq_getElem hlt] at this
            · left; exact List.drop_of_length_le (by omega)
          conv => lhs; lhs; rw [← List.take_append_drop k xs]
          conv => rhs; lhs; rw [← List.take_append_drop k xs]
          rw [List.takeWhile_append_of_pos hall, List.dropWhile_append_of_pos hall]
          rcases hd with e | ⟨c, t, e, hc⟩
          · rw [e]; simp
          · rw [e]; simp [hc]
        rw [unhide EA, e1.1, e1.2]
      by_cases hgo : k < n ∧ xs.getD k 0 < i
      · obtain ⟨hlt, hd⟩ := hgo
        have hkx : k < xs.length := by have := unhide Hn; omega
        obtain ⟨b, off, rfl, c⟩ := (unhide H).at k hkx
        have HT := hide (itake_more xs k hkx)
        generalize xs.getD k 0 = d at *
        have HK' : Hid (∀ x ∈ xs.take (k + 1), x < i) := hide (by
          rw [unhide HT]; intro x hx
          rcases List.mem_append.1 hx with hx | hx
          · exact unhide HK x hx
          · simp at hx; subst hx; exact hd)
        have hd' : decide (d < i) = true := by simpa using hd
        clear HT HK FIN hd
        go_wp2
        go_roundw
        case rel => exact ⟨k + 1, by omega, by go_num, HK', by first | rfl | trivial⟩
        case measure => simp [intOf]; omega
      · have F := hide (unhide FIN fun hlt hd => hgo ⟨hlt, hd⟩)
        have p1 := (unhide P0).take k hk ca
        have p2 := (unhide HP).drop k (ca - k) (bo := if ca = k then ao else ao.map (·.add (k * 1))) (fun hlt => if_neg (by omega))
        have hs1 : ∀ w, (Instr.slice 24 (.slice ao n ca) none (some (.int .i64 (k : Int))) none).run Tryd.prog w = .ok (.slice ao k ca) w := fun w => icut_to ao n ca k w (by omega)
        have hs2 : ∀ w, (Instr.slice 24 (.slice ao n ca) (some (.int .i64 (k : Int))) none none).run Tryd.prog w = .ok (.slice (if ca = k then ao else ao.map (·.add (k * 1))) (n - k) (ca - k)) w := fun w => icut_from ao n ca k w hk
        generalize (if ca = k then ao else ao.map (·.add (k * 1))) = bo at *
        have P1 := hide p1
        have P2 := hide p2
        have hlk : (xs.take k).length = k := by rw [List.length_take]; have := unhide Hn; omega
        have hld : (xs.drop k).length = n - k := by rw [List.length_drop, unhide Hn]
        have HLK := hide hlk
        have HLD := hide hld
        clear p1 p2 hlk hld FIN HK
        generalize xs.take k = fs at *
        generalize xs.drop k = bs at *
        have sz0 : wr.heap.size + 1 = (wr.alloc (.cells #[] 3)).heap.size := by simp
        have A1 : Hid True := hide trivial
        have A2 : Hid True := hide trivial
        have A3 : Hid True := hide trivial
        have EX : Hid (k < n → ∃ b off d, ao = some ⟨b, off, none⟩ ∧ wr.cell? ⟨b, off + k, none⟩ = some (.int .i64 d) ∧ ¬ d < i) := hide fun hlt => by
          obtain ⟨b, off, e, c⟩ := (unhide H).at k (by have := unhide Hn; omega)
          exact ⟨b, off, _, e, c, fun hd => hgo ⟨hlt, hd⟩⟩
        clear hgo
        by_cases hlt : k < n
        · obtain ⟨b, off, d, rfl, c, hd⟩ := unhide EX hlt
          have hd' : decide (d < i) = false := by simpa using hd
          clear EX hd
          go_wp2_with (first
            | (at_builtin; have hh := A1; refine append_ints rfl _ _ rfl wr.heap.size (.slice (some ⟨wr.heap.size, 0, none⟩) 0 0) (.slice (some ⟨b, off, none⟩) k ca) [] (fs) rfl rfl O0 (unhide P1) (by rw [unhide HLK]; simp; omega) (by simp) ?_; intro v1 w2 ho1 hg1 hb1; have O1 : OI w2 wr.heap.size v1 (fs) := (by simpa using ho1); have B1 := b0.grown hg1 (by simp) (fun j e => by simp [Value.ownBlock] at e; omega); have l1 := World.ownsRow.lt O1; obtain ⟨a1, c1, rfl⟩ := O1.form; have O1' := hide (World.ownsRow.alloc O1 (.cells #[.int .i64 i] 3)); have B1' := B1.trans ((((Below.refl _ w2).alloc (Nat.le_refl _) (.cells #[.int .i64 i] 3))).mono B1.size); clear A1 ho1 hg1 hb1 O1)
            | (at_builtin; have hh := A2; refine append_ints rfl _ _ rfl wr.heap.size (.slice a1 fs.length c1) (.slice (some ⟨w2.heap.size, 0, none⟩) 1 1) (fs) [i] rfl rfl (unhide O1') ⟨_, _, rfl, .inr ⟨_, rfl, cell_one_new _ _ _⟩⟩ (by rw [unhide HLK]; simp; omega) B1'.size ?_; intro v2 w3 ho2 hg2 hb2; have B2 := B1'.grown hg2 B1'.size (fun j e => (l1 j e).1); obtain ⟨a2, c2, hv2⟩ := ho2.form; rw [List.length_append, List.length_singleton] at hv2; subst hv2; have O2 := hide ho2; have l2 := World.ownsRow.lt ho2; have P3 := hide ((unhide P2).below B2); clear A2 ho2 hg2 hb2)
            | (at_builtin; have hh := A3; refine append_ints rfl _ _ rfl wr.heap.size (.slice a2 (fs.length + 1) c2) (.slice bo (n - k) (ca - k)) (fs ++ [i]) (bs) rfl rfl (unhide O2) (unhide P3) (by rw [unhide HLD, List.length_append, unhide HLK]; simp; omega) B2.size ?_; intro v3 w4 ho3 hg3 hb3; have B3 := B2.grown hg3 B2.size (fun j e => (l2 j e).1); clear A3 hg3 hb3))
          go_ret
          exact ⟨_, rfl, by rw [unhide F]; simpa using ho3, B3⟩
        · have hd0 : decide ((k : Int) < (n : Int)) = false := by simp; omega
          clear EX
          go_wp2_with (first
            | (at_builtin; have hh := A1; refine append_ints rfl _ _ rfl wr.heap.size (.slice (some ⟨wr.heap.size, 0, none⟩) 0 0) (.slice ao k ca) [] (fs) rfl rfl O0 (unhide P1) (by rw [unhide HLK]; simp; omega) (by simp) ?_; intro v1 w2 ho1 hg1 hb1; have O1 : OI w2 wr.heap.size v1 (fs) := (by simpa using ho1); have B1 := b0.grown hg1 (by simp) (fun j e => by simp [Value.ownBlock] at e; omega); have l1 := World.ownsRow.lt O1; obtain ⟨a1, c1, rfl⟩ := O1.form; have O1' := hide (World.ownsRow.alloc O1 (.cells #[.int .i64 i] 3)); have B1' := B1.trans ((((Below.refl _ w2).alloc (Nat.le_refl _) (.cells #[.int .i64 i] 3))).mono B1.size); clear A1 ho1 hg1 hb1 O1)
            | (at_builtin; have hh := A2; refine append_ints rfl _ _ rfl wr.heap.size (.slice a1 fs.length c1) (.slice (some ⟨w2.heap.size, 0, none⟩) 1 1) (fs) [i] rfl rfl (unhide O1') ⟨_, _, rfl, .inr ⟨_, rfl, cell_one_new _ _ _⟩⟩ (by rw [unhide HLK]; simp; omega) B1'.size ?_; intro v2 w3 ho2 hg2 hb2; have B2 := B1'.grown hg2 B1'.size (fun j e => (l1 j e).1); obtain ⟨a2, c2, hv2⟩ := ho2.form; rw [List.length_append, List.length_singleton] at hv2; subst hv2; have O2 := hide ho2; have l2 := World.ownsRow.lt ho2; have P3 := hide ((unhide P2).below B2); clear A2 ho2 hg2 hb2)
            | (at_builtin; have hh := A3; refine append_ints rfl _ _ rfl wr.heap.size (.slice a2 (fs.length + 1) c2) (.slice bo (n - k) (ca - k)) (fs ++ [i]) (bs) rfl rfl (unhide O2) (unhide P3) (by rw [unhide HLD, List.length_append, unhide HLK]; simp; omega) B2.size ?_; intro v3 w4 ho3 hg3 hb3; have B3 := B2.grown hg3 B2.size (fun j e => (l2 j e).1); clear A3 hg3 hb3))
          go_ret
          exact ⟨_, rfl, by rw [unhide F]; simpa using ho3, B3⟩

set_option maxHeartbeats 4000000 in
set_option maxRecDepth 100000 in
theorem specSetJoin (va vb : Value) (xs bs : List Int) (w : World) (ha : RI w va xs) (hb : RI w vb bs) (hl : xs.length + bs.length ≤ 4194303) :
    Calls Tryd.prog 27 #[va, vb] w fun e w' => ∃ u, e = .returned u ∧ OI w' w.heap.size u (joinL xs bs) ∧ Below w.heap.size w w' := by
  obtain ⟨aa, ca, rfl⟩ := ha.form
  obtain ⟨ba, cb, rfl⟩ := hb.form
  have HA := hide ha
  have HB := hide hb
  obtain ⟨n, hn⟩ : ∃ n, xs.length = n := ⟨_, rfl⟩
  obtain ⟨m, hm⟩ : ∃ n, bs.length = n := ⟨_, rfl⟩
  have Hn := hide hn
  have Hm := hide hm
  rw [hn] at HA hl ⊢
  rw [hm] at HB hl ⊢
  clear ha hb hn hm
  have O0 : OI (w.alloc (.cells #[] 3)) w.heap.size (.slice (some ⟨w.heap.size, 0, none⟩) 0 0) [] := by
    have := World.ownsRow_lit (base := w.heap.size) (e := 3) (size := 1) w #[] 0 (Nat.le_refl _) (by unfold maxLen; omega) (by simp)
    simpa [OI] using this
  have b0 : Below w.heap.size w (w.alloc (.cells #[] 3)) := (Below.refl _ _).alloc (Nat.le_refl _) _
  go_enter Tryd.func27, Tryd.ntmps27
  go_wp2
  go_loopw [5, 6] (fun out j wr => ∃ k : Nat, k ≤ n ∧ j = .int .i64 k ∧ OI wr w.heap.size out ((xs.take k).foldl addL []) ∧ Below w.heap.size w wr) (fun _ j _ => n - (intOf j).toNat)
  case atStart => exact ⟨0, Nat.zero_le _, rfl, O0, b0⟩
  case round =>
    clear O0 b0
    obtain ⟨k, hk, rfl, ho, br⟩ := hrel
    have hsr := br.size
    by_cases hlt : k < n
    · have hkx : k < xs.length := by have := unhide Hn; omega
      obtain ⟨b, off, rfl, c⟩ := ((unhide HA).below br (Nat.le_refl _)).at k hkx
      have HT := hide (show (xs.take (k + 1)).foldl addL [] = addL ((xs.take k).foldl addL []) (xs.getD k 0) by rw [itake_more xs k hkx, fold_snoc])
      have hfl := fold_len (xs.take k) []
      rw [List.length_take, List.length_nil] at hfl
      generalize xs.getD k 0 = d at *
      generalize (xs.take k).foldl addL [] = acc at *
      have SA := hide (specSetAdd _ acc d _ (ho.ri (by omega)) ho.cap (by omega))
      obtain ⟨oa, oc, rfl⟩ := ho.form
      clear ho hfl
      go_wp2_with fail
      refine (unhide SA).mono ?_
      rintro _ w1 ⟨u, rfl, o1, b1⟩
      obtain ⟨ua, uc, rfl⟩ := o1.form
      have O1 := OI.mono o1 hsr
      have B1 := br.trans (b1.mono hsr)
      clear o1 b1 SA
      go_wp2
      go_roundw
      case rel => exact ⟨k + 1, by omega, by go_num, by rw [unhide HT]; exact O1, B1⟩
      case measure => simp [intOf]; omega
    · have hkn : k = xs.length := by have := unhide Hn; omega
      have e1 : xs.take k = xs := List.take_of_length_le (by omega)
      rw [e1] at ho
      have HO := hide ho
      have hd0 : decide ((k : Int) < (n : Int)) = false := by simp; omega
      clear ho hkn e1
      obtain ⟨oa, oc, ho0⟩ := (unhide HO).form
      go_wp2
      go_loopw [5, 7] (fun out j wq => ∃ k : Nat, k ≤ m ∧ j = .int .i64 k ∧ OI wq w.heap.size out ((xs ++ bs.take k).foldl addL []) ∧ Below w.heap.size w wq) (fun _ j _ => m - (intOf j).toNat)
      case atStart => exact ⟨0, Nat.zero_le _, rfl, by simpa using unhide HO, br⟩
      case round =>
        clear HO br
        obtain ⟨k2, hk2, rfl, ho, br⟩ := hrel
        have hsr2 := br.size
        by_cases hlt2 : k2 < m
        · have hkx : k2 < bs.length := by have := unhide Hm; omega
          obtain ⟨b, off, rfl, c⟩ := ((unhide HB).below br (Nat.le_refl _)).at k2 hkx
          have HT := hide (show (xs ++ bs.take (k2 + 1)).foldl addL [] = addL ((xs ++ bs.take k2).foldl addL []) (bs.getD k2 0) by rw [itake_more bs k2 hkx, ← List.append_assoc, fold_snoc])
          have hfl := fold_len (xs ++ bs.take k2) []
          rw [List.length_append, unhide Hn, List.length_take, List.length_nil] at hfl
          generalize bs.getD k2 0 = d at *
          generalize (xs ++ bs.take k2).foldl addL [] = acc at *
          have SA := hide (specSetAdd _ acc d _ (ho.ri (by omega)) ho.cap (by omega))
          obtain ⟨oa2, oc2, rfl⟩ := ho.form
          clear ho hfl
          go_wp2_with fail
          refine (unhide SA).mono ?_
          rintro _ w1 ⟨u, rfl, o1, b1⟩
          obtain ⟨ua, uc, rfl⟩ := o1.form
          have O1 := OI.mono o1 hsr2
          have B1 := br.trans (b1.mono hsr2)
          clear o1 b1 SA
          go_wp2
          go_roundw
          case rel => exact ⟨k2 + 1, by omega, by go_num, by rw [unhide HT]; exact O1, B1⟩
          case measure => simp [intOf]; omega
        · have hkn : k2 = bs.length := by have := unhide Hm; omega
          have e1 : bs.take k2 = bs := List.take_of_length_le (by omega)
          rw [e1] at ho
          have HO := hide ho
          have hd2 : decide ((k2 : Int) < (m : Int)) = false := by simp; omega
          clear ho hkn e1
          go_wp2
          go_ret
          exact ⟨_, rfl, unhide HO, br⟩

end Go.Proofs.YtehdchpolgihlaaDoor

/- spec.Common, spec.SetOk. -/
namespace Go.Proofs.YtehdchpolgihlaaDoor
open Go.RowKit
set_option linter.unusedSectionVars false

theorem com_snoc (l bs : List Int) (x : Int) : comL (l ++ [x]) bs = comL l bs + (if decide (x ∈ bs) then 1 else 0) := by
  unfold comL
  rw [List.filter_append, List.length_append]
  by_cases h : x ∈ bs
  · simp [h]
  · simp [h]

variable [∀ (n : Int) (s : List Int), Decidable (OkL n s)]
theorem ok_more {n : Int} {xs : List Int} {k : Nat} (hk : k < xs.length) (h : OkL n (xs.take k)) (h0 : 0 ≤ xs.getD k 0) (h1 : xs.getD k 0 < n) (h2 : 0 < k → xs.getD (k - 1) 0 < xs.getD k 0) : OkL n (xs.take (k + 1)) := by
  rw [itake_more xs k hk]
  refine ⟨fun x hx => ?_, List.pairwise_append.2 ⟨h.2, by simp, fun x hx y hy => ?_⟩⟩
  · rcases List.mem_append.1 hx with hx | hx
    · exact h.1 x hx
    · simp at hx; subst hx; exact ⟨h0, h1⟩
  · simp at hy
    subst hy
    by_cases hk0 : 0 < k
    · have h3 := h2 hk0
      have e : xs.take k = xs.take (k - 1) ++ [xs.getD (k - 1) 0] := by
        have := itake_more xs (k - 1) (by omega)
        rwa [show k - 1 + 1 = k by omega] at this
      have hp := h.2
      rw [e] at hx hp
      rcases List.mem_append.1 hx with hx | hx
      · have := (List.pairwise_append.1 hp).2.2 x hx (xs.getD (k - 1) 0) (by simp)
        simp only [List.getD_eq_getElem?_getD] at *
        omega
      · simp at hx
        simp only [List.getD_eq_getElem?_getD] at *
        omega
    · have : k = 0 := by omega
      subst this; simp at hx
theorem ok_not {n : Int} {xs : List Int} {k : Nat} (hk : k < xs.length) (h : xs.getD k 0 < 0 ∨ n ≤ xs.getD k 0 ∨ (0 < k ∧ xs.getD k 0 ≤ xs.getD (k - 1) 0)) : ¬ OkL n xs := fun ho => by
  have hm := ho.1 _ (getD_mem_int hk)
  rcases h with h | h | ⟨h0, h⟩
  · omega
  · omega
  · have := List.pairwise_iff_getElem.1 ho.2 (k - 1) k (by omega) hk (by omega)
    rw [List.getD_eq_getElem?_getD, List.getD_eq_getElem?_getD, List.getElem?_eq_getElem hk, List.getElem?_eq_getElem (show k - 1 < xs.length by omega)] at h
    simp at h
    omega

set_option maxHeartbeats 4000000 in
set_option maxRecDepth 100000 in
theorem specSetOk (m : Int) (v : Value) (xs : List Int) (w : World) (h : RI w v xs) :
    Calls Tryd.prog 18 #[.int .i64 m, v] w fun e w' => e = .returned (.bool (decide (OkL m xs))) ∧ Below w.heap.size w w' := by
  have hl := h.1
  obtain ⟨ao, ca, rfl⟩ := h.form
  have H := hide h
  obtain ⟨n, hn⟩ : ∃ n, xs.length = n := ⟨_, rfl⟩
  have Hn := hide hn
  obtain ⟨r, hr⟩ : ∃ r, decide (OkL m xs) = r := ⟨_, rfl⟩
  have HR := hide hr
  rw [hn] at hl H ⊢
  rw [hr]
  clear h hn hr
  go_enter Tryd.func18, Tryd.ntmps18
  go_wp2
  go_loopw [5] (fun j wr => ∃ k : Nat, k ≤ n ∧ j = .int .i64 k ∧ Hid (OkL m (xs.take k)) ∧ Below w.heap.size w wr) (fun j _ => n - (intOf j).toNat)
  case atStart => exact ⟨0, Nat.zero_le _, rfl, hide (by simp [OkL]), Below.refl _ _⟩
  case round =>
    obtain ⟨k, hk, rfl, HK, br⟩ := hrel
    have HR2 := hide ((unhide H).below br (Nat.le_refl _))
    by_cases hlt : k < n
    · have hkx : k < xs.length := by have := unhide Hn; omega
      obtain ⟨b, off, rfl, c⟩ := (unhide HR2).at k hkx
      have HP : Hid (0 < k → wr.cell? ⟨b, off + (k - 1), none⟩ = some (.int .i64 (xs.getD (k - 1) 0))) := hide fun h0 => by
        obtain ⟨b', off', e, c'⟩ := (unhide HR2).at (k - 1) (by omega)
        cases e; exact c'
      have HG := hide fun h0 h1 h2 => ok_more hkx (unhide HK) h0 h1 h2
      have HB := hide fun h => ok_not (n := m) hkx h
      generalize xs.getD k 0 = d at *
      by_cases g0 : d < 0
      · have hrr : r = false := by rw [← unhide HR]; exact decide_eq_false (unhide HB (.inl g0))
        subst hrr
        have g0' : decide (d < 0) = true := by simpa using g0
        clear HG HB HP HK
        go_wp2_with fail
        go_quiet (fail)
        go_wp2
        go_ret
        exact ⟨rfl, by first | exact br | exact below_drewN' br _⟩
      have g0' : decide (d < 0) = false := by simpa using g0
      by_cases g1 : m ≤ d
      · have hrr : r = false := by rw [← unhide HR]; exact decide_eq_false (unhide HB (.inr (.inl g1)))
        subst hrr
        have g1' : decide (m ≤ d) = true := by simpa using g1
        clear HG HB HP HK
        go_wp2_with fail
        go_quiet (fail)
        go_wp2
        go_ret
        exact ⟨rfl, by first | exact br | exact below_drewN' br _⟩
      have g1' : decide (m ≤ d) = false := by simpa using g1
      by_cases hk0 : 0 < k
      · have c2 := unhide HP hk0
        obtain ⟨j, rfl⟩ : ∃ j, k = j + 1 := ⟨k - 1, by omega⟩
        rw [show j + 1 - 1 = j by omega] at c2 HG HB
        generalize xs.getD j 0 = p at *
        have ej : (((j + 1 : Nat) : Int)) - 1 = (j : Int) := by omega
        have hk0' : decide ((0 : Int) < ((j + 1 : Nat) : Int)) = true := by rw [decide_eq_true_iff]; omega
        by_cases g2 : d ≤ p
        · have hrr : r = false := by rw [← unhide HR]; exact decide_eq_false (unhide HB (.inr (.inr ⟨by omega, g2⟩)))
          subst hrr
          have g2' : decide (d ≤ p) = true := by simpa using g2
          clear HG HB HP HK
          go_wp2_with fail
          go_quiet (fail)
          go_wp2
          go_ret
          exact ⟨rfl, by first | exact br | exact below_drewN' br _⟩
        · have g2' : decide (d ≤ p) = false := by simpa using g2
          have HK' := hide (unhide HG (by omega) (by omega) (fun _ => by omega))
          clear HG HB HP HK
          go_wp2_with fail
          go_quiet (fail)
          go_wp2
          go_roundw
          case rel => exact ⟨j + 1 + 1, by omega, by go_num, HK', by first | exact br | exact below_drewN' br _⟩
          case measure => simp [intOf]; omega
      · obtain rfl : k = 0 := by omega
        rw [Nat.add_zero] at c
        have HK' := hide (unhide HG (by omega) (by omega) (fun h => by omega))
        clear HG HB HP HK
        go_wp2_with fail
        go_quiet (fail)
        go_wp2
        go_roundw
        case rel => exact ⟨1, by omega, by go_num, HK', by first | exact br | exact below_drewN' br _⟩
        case measure => simp [intOf]; omega
    · have hkn : k = xs.length := by have := unhide Hn; omega
      have hrr : r = true := by
        rw [← unhide HR]
        have := unhide HK
        rw [List.take_of_length_le (by omega)] at this
        exact decide_eq_true this
      subst hrr
      have hd0 : decide ((k : Int) < (n : Int)) = false := by simp; omega
      clear HK
      go_wp2
      go_ret
      exact ⟨rfl, by first | exact br | exact below_drewN' br _⟩
end Go.Proofs.YtehdchpolgihlaaDoor

/- laws.toTx: the same payment. -/
namespace Go.Proofs.YtehdchpolgihlaaDoor
open Go.RowKit
set_option linter.unusedSectionVars false
variable [∀ (a b c d : Int), Decidable (Ok4 a b c d)]

/-- The four cells of a payment at block g. -/
def Cells4 (w : World) (g : Nat) (a b c d : Int) : Prop := w.cell? ⟨g, 0, none⟩ = some (.int .i64 a) ∧ w.cell? ⟨g, 1, none⟩ = some (.int .i64 b) ∧ w.cell? ⟨g, 2, none⟩ = some (.int .i64 c) ∧ w.cell? ⟨g, 3, none⟩ = some (.int .i64 d)
theorem cells4_new (w : World) (a b c d : Int) (t : TypeId) : Cells4 (w.alloc (.cells #[.int .i64 a, .int .i64 b, .int .i64 c, .int .i64 d] t)) w.heap.size a b c d := by
  refine ⟨?_, ?_, ?_, ?_⟩ <;> simp
theorem Cells4.below {w w' : World} {g B : Nat} {a b c d : Int} (h : Cells4 w g a b c d) (hb : Below B w w') (hg : g < B) : Cells4 w' g a b c d :=
  ⟨(hb.cell (p := ⟨g, 0, none⟩) hg).trans h.1, (hb.cell (p := ⟨g, 1, none⟩) hg).trans h.2.1, (hb.cell (p := ⟨g, 2, none⟩) hg).trans h.2.2.1, (hb.cell (p := ⟨g, 3, none⟩) hg).trans h.2.2.2⟩
end Go.Proofs.YtehdchpolgihlaaDoor

/- laws.eqTx of a payment with itself. -/
namespace Go.Proofs.YtehdchpolgihlaaDoor
open Go.RowKit
set_option linter.unusedSectionVars false
variable [∀ (a b c d : Int), Decidable (Ok4 a b c d)]

end Go.Proofs.YtehdchpolgihlaaDoor

/- Lists of payments in memory. -/
namespace Go.Proofs.YtehdchpolgihlaaDoor
open Go.RowKit
set_option linter.unusedSectionVars false
variable [∀ (a b c d : Int), Decidable (Ok4 a b c d)]

/-- A payment's four numbers. -/
abbrev T4 := Int × Int × Int × Int
def tcell (x : T4) : List Value := [.int .i64 x.1, .int .i64 x.2.1, .int .i64 x.2.2.1, .int .i64 x.2.2.2]
def tcells (xs : List T4) : List Value := xs.flatMap tcell
theorem tcell_len (x : T4) : (tcell x).length = 4 := rfl
theorem tcells_len (xs : List T4) : (tcells xs).length = xs.length * 4 := by
  induction xs with
  | nil => rfl
  | cons x xs ih => simp [tcells, tcell] at *; omega
theorem tcells_append (xs ys : List T4) : tcells (xs ++ ys) = tcells xs ++ tcells ys := by simp [tcells]
theorem tcells_get (xs : List T4) (k j : Nat) (hk : k < xs.length) (hj : j < 4) : (tcells xs)[k * 4 + j]? = (tcell (xs.getD k (0, 0, 0, 0)))[j]? := by
  induction xs generalizing k with
  | nil => simp at hk
  | cons x xs ih =>
    have e : tcells (x :: xs) = tcell x ++ tcells xs := by simp [tcells]
    rw [e]
    cases k with
    | zero => rw [Nat.zero_mul, Nat.zero_add, List.getElem?_append_left (by rw [tcell_len]; exact hj)]; rfl
    | succ k =>
      rw [List.getElem?_append_right (by rw [tcell_len]; omega), tcell_len, show (k + 1) * 4 + j - 4 = k * 4 + j from by omega, ih k (by simpa using hk)]
      rfl
/-- v is a list of the call's own, from block 'base' on, of the payments xs. -/
def OT (w : World) (base : Nat) (v : Value) (xs : List T4) : Prop := w.ownsRow base 99 4 v xs.length (tcells xs)
/-- v reads as the payments xs. -/
def RT (w : World) (v : Value) (xs : List T4) : Prop :=
  xs.length ≤ 35184372088832 ∧ ∃ ao cap, v = .slice ao xs.length cap ∧ (xs = [] ∨ ∃ g, ao = some ⟨g, 0, none⟩ ∧ ∀ k, k < xs.length → w.cell? ⟨g, k * 4, none⟩ = some (.int .i64 (xs.getD k (0, 0, 0, 0)).1) ∧ w.cell? ⟨g, k * 4 + 1, none⟩ = some (.int .i64 (xs.getD k (0, 0, 0, 0)).2.1) ∧ w.cell? ⟨g, k * 4 + 2, none⟩ = some (.int .i64 (xs.getD k (0, 0, 0, 0)).2.2.1) ∧ w.cell? ⟨g, k * 4 + 3, none⟩ = some (.int .i64 (xs.getD k (0, 0, 0, 0)).2.2.2))
theorem OT.below {w w' : World} {base : Nat} {v : Value} {xs : List T4} (h : OT w base v xs) (hb : Below w.heap.size w w') : OT w' base v xs :=
  World.ownsRow.kept (row := none) h ⟨hb.os, hb.tape, hb.output, hb.size, fun k hk _ => hb.block k hk⟩ (by cases v.ownBlock <;> simp)
theorem OT.apart {w w' : World} {base N : Nat} {v u : Value} {xs : List T4} (h : OT w base v xs) (hg : w.grownBy w' u.ownBlock) (hv : ∀ k, v.ownBlock = some k → k < N) (hu : ∀ k, u.ownBlock = some k → N ≤ k) : OT w' base v xs := by
  refine World.ownsRow.kept h hg ?_
  cases hv' : v.ownBlock with
  | none => exact .inl rfl
  | some k => exact .inr fun e => by have := hv k hv'; have := hu k e.symm; omega
theorem OT.rt {w : World} {base : Nat} {v : Value} {xs : List T4} (h : OT w base v xs) (hl : xs.length ≤ 35184372088832) : RT w v xs := by
  refine ⟨hl, ?_⟩
  rcases h.2 with ⟨rfl, h0⟩ | ⟨g, cap, cur, rfl, _⟩
  · exact ⟨none, 0, by rw [h0], .inl (List.length_eq_zero_iff.1 h0)⟩
  · refine ⟨_, cap, rfl, .inr ⟨g, rfl, fun k hk => ?_⟩⟩
    have c0 := World.ownsRow.cellAt h (k * 4 + 0) (by omega)
    have c1 := World.ownsRow.cellAt h (k * 4 + 1) (by omega)
    have c2 := World.ownsRow.cellAt h (k * 4 + 2) (by omega)
    have c3 := World.ownsRow.cellAt h (k * 4 + 3) (by omega)
    rw [tcells_get xs k _ hk (by omega)] at c0 c1 c2 c3
    exact ⟨c0, c1, c2, c3⟩
theorem RT.below {w w' : World} {v : Value} {xs : List T4} (h : RT w v xs) (hb : Below w.heap.size w w') : RT w' v xs := by
  obtain ⟨hl, ao, cap, rfl, h⟩ := h
  refine ⟨hl, ao, cap, rfl, ?_⟩
  rcases h with h | ⟨g, rfl, h⟩
  · exact .inl h
  · refine .inr ⟨g, rfl, fun k hk => ?_⟩
    obtain ⟨c0, c1, c2, c3⟩ := h k hk
    have hg : g < w.heap.size := cell_lt c0
    exact ⟨(hb.cell (p := ⟨g, k * 4, none⟩) hg).trans c0, (hb.cell (p := ⟨g, k * 4 + 1, none⟩) hg).trans c1, (hb.cell (p := ⟨g, k * 4 + 2, none⟩) hg).trans c2, (hb.cell (p := ⟨g, k * 4 + 3, none⟩) hg).trans c3⟩

end Go.Proofs.YtehdchpolgihlaaDoor

/- The plain mathematics of Number. Nothing of the program. -/
namespace Go.Proofs.YtehdchpolgihlaaDoor

theorem decFrom_append (l r : List UInt8) (acc : Nat) : Lib.decFrom acc (l ++ r) = (Lib.decFrom acc l).bind fun a => Lib.decFrom a r := by
  induction l generalizing acc with
  | nil => rfl
  | cons b l ih =>
    rw [List.cons_append, Lib.decFrom, Lib.decFrom]
    cases Lib.digitVal b with
    | none => rfl
    | some d => exact ih _
theorem digit_ofNat (k : Nat) (h : k < 10) : Lib.digitVal (UInt8.ofNat (48 + k)) = some k := by
  have e : (UInt8.ofNat (48 + k)).toNat = 48 + k := by simp; omega
  rw [Lib.digitVal, if_pos (by omega), e]; congr 1; omega
theorem decFrom_digits (n : Nat) : Lib.decFrom 0 (Lib.decDigits n) = some n := by
  induction n using Nat.strongRecOn with
  | ind n ih =>
    rw [Lib.decDigits]
    by_cases h : n < 10
    · rw [dif_pos h]
      simp only [Lib.decFrom, digit_ofNat n h]; simp
    · rw [dif_neg h, decFrom_append, ih (n / 10) (by omega)]
      simp only [Option.bind_some, Lib.decFrom, digit_ofNat (n % 10) (by omega)]
      congr 1; omega
theorem digits_ne (n : Nat) : Lib.decDigits n ≠ [] := by
  intro h
  have := Lib.decDigits_length n
  rw [h] at this
  have := Lib.nDigits_pos n
  simp at *; omega
theorem atoi_digits (n : Nat) : Lib.atoi (Lib.decDigits n) = some (n : Int) := by
  have hd := decFrom_digits n
  have hne := digits_ne n
  cases hl : Lib.decDigits n with
  | nil => exact absurd hl hne
  | cons b r =>
    rw [hl] at hd
    obtain ⟨d, hb⟩ := Lib.digit_of_decFrom (b :: r) 0 n hd 0 b rfl
    have hb' := Lib.digitVal_eq hb
    have h45 : (b == 45) = false := by
      rw [beq_eq_false_iff_ne]; intro e; subst e; simp at hb'
    have h43 : (b == 43) = false := by
      rw [beq_eq_false_iff_ne]; intro e; subst e; simp at hb'
    simp [Lib.atoi, h45, h43, Lib.decNat, hd]
theorem nDigits_six (n : Nat) (h : n ≤ 999999) : Lib.nDigits n ≤ 6 := by
  have step : ∀ m k, (m < 10 → 1 ≤ k) → (¬ m < 10 → Lib.nDigits (m / 10) + 1 ≤ k) → Lib.nDigits m ≤ k := by
    intro m k h1 h2
    by_cases hm : m < 10
    · rw [Lib.nDigits_small hm]; exact h1 hm
    · rw [Lib.nDigits_big hm]; exact h2 hm
  refine step _ _ (fun _ => by omega) fun _ => Nat.succ_le_of_lt (Nat.lt_of_le_of_lt (step _ 5 (fun _ => by omega) fun _ => Nat.succ_le_of_lt (Nat.lt_of_le_of_lt (step _ 4 (fun _ => by omega) fun _ => Nat.succ_le_of_lt (Nat.lt_of_le_of_lt (step _ 3 (fun _ => by omega) fun _ => Nat.succ_le_of_lt (Nat.lt_of_le_of_lt (step _ 2 (fun _ => by omega) fun _ => Nat.succ_le_of_lt (Nat.lt_of_le_of_lt (step _ 1 (fun _ => by omega) fun _ => ?_) (by omega))) (by omega))) (by omega))) (by omega))) (by omega))
  omega

/-- The number that a text is the numeral of. -/
def numOf (l : List UInt8) : Option Nat :=
  match Lib.decFrom 0 l with
  | some n => if n ≤ 999999 ∧ Lib.decDigits n = l then some n else none
  | none => none
theorem numOf_some {l : List UInt8} {n : Nat} (h : numOf l = some n) : n ≤ 999999 ∧ Lib.decDigits n = l := by
  unfold numOf at h
  cases hd : Lib.decFrom 0 l with
  | none => rw [hd] at h; cases h
  | some m =>
    rw [hd] at h
    by_cases hc : m ≤ 999999 ∧ Lib.decDigits m = l
    · simp only [if_pos hc, Option.some.injEq] at h; subst h; exact hc
    · simp only [if_neg hc] at h; cases h
theorem numOf_of {n : Nat} (h : n ≤ 999999) : numOf (Lib.decDigits n) = some n := by
  unfold numOf; rw [decFrom_digits]; simp [h]
theorem numOf_len {l : List UInt8} {n : Nat} (h : numOf l = some n) : 1 ≤ l.length ∧ l.length ≤ 6 := by
  obtain ⟨h1, rfl⟩ := numOf_some h
  rw [Lib.decDigits_length]
  exact ⟨Lib.nDigits_pos n, nDigits_six n h1⟩
theorem numOf_none_len {l : List UInt8} (h : l.length < 1 ∨ 6 < l.length) : numOf l = none := by
  cases hn : numOf l with
  | none => rfl
  | some n => have := numOf_len hn; omega
theorem numOf_none_dec {l : List UInt8} (h : Lib.decFrom 0 l = none) : numOf l = none := by unfold numOf; rw [h]
theorem numOf_none_byte {l : List UInt8} {k : Nat} {b : UInt8} (hk : l[k]? = some b) (hb : b.toNat < 48 ∨ 57 < b.toNat) : numOf l = none := by
  refine numOf_none_dec ?_
  cases hd : Lib.decFrom 0 l with
  | none => rfl
  | some n =>
    obtain ⟨d, h⟩ := Lib.digit_of_decFrom l 0 n hd k b hk
    have := Lib.digitVal_eq h
    omega
theorem numOf_yes {l : List UInt8} {n : Nat} (hd : Lib.decFrom 0 l = some n) (hn : n ≤ 999999) (h : Lib.decDigits n = l) : numOf l = some n := by unfold numOf; rw [hd]; simp [hn, h]
theorem numOf_no {l : List UInt8} {n : Nat} (hd : Lib.decFrom 0 l = some n) (h : Lib.decDigits n ≠ l) : numOf l = none := by unfold numOf; rw [hd]; simp [h]
theorem itoa_nat (n : Nat) : Lib.itoa (n : Int) = Lib.decDigits n := by rw [Lib.itoa, if_neg (by omega), Int.toNat_natCast]
/-- What Number answers. -/
def nans (r : Option Nat) : Int := match r with | some n => (n : Int) | none => 0
end Go.Proofs.YtehdchpolgihlaaDoor

/- The plain mathematics of payments as texts. Nothing of the program. -/
namespace Go.Proofs.YtehdchpolgihlaaDoor

/-- What stands ahead of the first m; what stands behind it (nothing, where there is none). -/
def hd (m : UInt8) (l : List UInt8) : List UInt8 := l.takeWhile (· != m)
def tl (m : UInt8) (l : List UInt8) : List UInt8 := (l.dropWhile (· != m)).tail
theorem hd_none {m : UInt8} {l : List UInt8} (h : m ∉ l) : hd m l = l := by
  unfold hd
  induction l with
  | nil => rfl
  | cons b l ih =>
    simp at h
    rw [List.takeWhile_cons_of_pos (by simp; exact fun e => h.1 e.symm), ih h.2]
theorem tl_none {m : UInt8} {l : List UInt8} (h : m ∉ l) : tl m l = [] := by
  unfold tl
  induction l with
  | nil => rfl
  | cons b l ih =>
    simp at h
    rw [List.dropWhile_cons_of_pos (by simp; exact fun e => h.1 e.symm)]; exact ih h.2
theorem hd_some {m : UInt8} {x y : List UInt8} (h : m ∉ x) : hd m (x ++ m :: y) = x := by
  unfold hd
  induction x with
  | nil => simp
  | cons b x ih =>
    simp at h
    rw [List.cons_append, List.takeWhile_cons_of_pos (by simp; exact fun e => h.1 e.symm), ih h.2]
theorem tl_some {m : UInt8} {x y : List UInt8} (h : m ∉ x) : tl m (x ++ m :: y) = y := by
  unfold tl
  induction x with
  | nil => simp
  | cons b x ih =>
    simp at h
    rw [List.cons_append, List.dropWhile_cons_of_pos (by simp; exact fun e => h.1 e.symm)]; exact ih h.2
theorem hd_tl {m : UInt8} {l : List UInt8} (h : tl m l ≠ []) : l = hd m l ++ m :: tl m l := by
  unfold hd tl at *
  induction l with
  | nil => simp at h
  | cons b l ih =>
    by_cases hb : b = m
    · subst hb; simp
    · rw [List.takeWhile_cons_of_pos (by simpa using hb), List.dropWhile_cons_of_pos (by simpa using hb), List.cons_append]
      rw [List.dropWhile_cons_of_pos (by simpa using hb)] at h
      rw [← ih h]

/-- The four fields of a text. -/
def f0 (l : List UInt8) : List UInt8 := hd 62 l
def f1 (l : List UInt8) : List UInt8 := hd 58 (tl 62 l)
def f2 (l : List UInt8) : List UInt8 := hd 35 (tl 58 (tl 62 l))
def f3 (l : List UInt8) : List UInt8 := tl 35 (tl 58 (tl 62 l))

/-- Four numbers that are right. -/
def okN (a b c d : Nat) : Prop := a ≤ 3 ∧ b ≤ 3 ∧ c ≤ 1000 ∧ d ≤ 99
/-- The bytes of a payment's text. -/
def txl (a b c d : Nat) : List UInt8 := Lib.decDigits a ++ 62 :: (Lib.decDigits b ++ 58 :: (Lib.decDigits c ++ 35 :: Lib.decDigits d))
/-- The payment of which l is the text. -/
def IsTx (l : List UInt8) (a b c d : Nat) : Prop := okN a b c d ∧ txl a b c d = l

theorem digit_mem {n : Nat} {x : UInt8} (h : x ∈ Lib.decDigits n) : 48 ≤ x.toNat ∧ x.toNat ≤ 57 := by
  obtain ⟨k, hk, e⟩ := List.mem_iff_getElem.1 h
  obtain ⟨d, hd⟩ := Lib.digit_of_decFrom (Lib.decDigits n) 0 n (decFrom_digits n) k x (by rw [List.getElem?_eq_getElem hk, e])
  have := Lib.digitVal_eq hd
  omega
theorem no_mark (n : Nat) (m : UInt8) (h : m.toNat < 48 ∨ 57 < m.toNat) : m ∉ Lib.decDigits n := fun hm => by
  have := digit_mem hm; omega

theorem fields_of {l : List UInt8} {a b c d : Nat} (h : IsTx l a b c d) : f0 l = Lib.decDigits a ∧ f1 l = Lib.decDigits b ∧ f2 l = Lib.decDigits c ∧ f3 l = Lib.decDigits d := by
  obtain ⟨_, rfl⟩ := h
  have h0 : (62 : UInt8) ∉ Lib.decDigits a := no_mark a 62 (by decide)
  have h1 : (58 : UInt8) ∉ Lib.decDigits b := no_mark b 58 (by decide)
  have h2 : (35 : UInt8) ∉ Lib.decDigits c := no_mark c 35 (by decide)
  unfold f0 f1 f2 f3 txl
  rw [hd_some h0, tl_some h0, hd_some h1, tl_some h1, hd_some h2, tl_some h2]
  exact ⟨rfl, rfl, rfl, rfl⟩
theorem nums_of {l : List UInt8} {a b c d : Nat} (h : IsTx l a b c d) : numOf (f0 l) = some a ∧ numOf (f1 l) = some b ∧ numOf (f2 l) = some c ∧ numOf (f3 l) = some d := by
  obtain ⟨e0, e1, e2, e3⟩ := fields_of h
  obtain ⟨⟨h0, h1, h2, h3⟩, _⟩ := h
  rw [e0, e1, e2, e3]
  exact ⟨numOf_of (by omega), numOf_of (by omega), numOf_of (by omega), numOf_of (by omega)⟩
theorem tl_nil (m : UInt8) : tl m [] = [] := rfl
theorem hd_nil (m : UInt8) : hd m [] = [] := rfl
theorem isTx_of {l : List UInt8} {a b c d : Nat} (h0 : numOf (f0 l) = some a) (h1 : numOf (f1 l) = some b) (h2 : numOf (f2 l) = some c) (h3 : numOf (f3 l) = some d) (hk : okN a b c d) : IsTx l a b c d := by
  refine ⟨hk, ?_⟩
  obtain ⟨_, e0⟩ := numOf_some h0
  obtain ⟨_, e1⟩ := numOf_some h1
  obtain ⟨_, e2⟩ := numOf_some h2
  obtain ⟨_, e3⟩ := numOf_some h3
  have n1 := digits_ne b
  have n2 := digits_ne c
  have n3 := digits_ne d
  unfold txl
  rw [e0, e1, e2, e3]
  rw [e1] at n1; rw [e2] at n2; rw [e3] at n3
  unfold f0 f1 f2 f3 at *
  have t0 : tl 62 l ≠ [] := fun e => n1 (by rw [e, hd_nil])
  have t1 : tl 58 (tl 62 l) ≠ [] := fun e => n2 (by rw [e, hd_nil])
  rw [← hd_tl n3, ← hd_tl t1, ← hd_tl t0]
theorem isTx_unique {l : List UInt8} {a b c d a' b' c' d' : Nat} (h : IsTx l a b c d) (h' : IsTx l a' b' c' d') : a = a' ∧ b = b' ∧ c = c' ∧ d = d' := by
  obtain ⟨e0, e1, e2, e3⟩ := nums_of h
  obtain ⟨g0, g1, g2, g3⟩ := nums_of h'
  rw [e0] at g0; rw [e1] at g1; rw [e2] at g2; rw [e3] at g3
  exact ⟨Option.some.inj g0, Option.some.inj g1, Option.some.inj g2, Option.some.inj g3⟩
end Go.Proofs.YtehdchpolgihlaaDoor

/- The plain mathematics of cutAtMarks. Nothing of the program. -/
namespace Go.Proofs.YtehdchpolgihlaaDoor
open Go

theorem hit_hd {m : UInt8} {r : List UInt8} {j : Nat} (h : m ∉ r.take j) (hj : r[j]? = some m) : hd m r = r.take j ∧ tl m r = r.drop (j + 1) := by
  have hl : j < r.length := (List.getElem?_eq_some_iff.1 hj).1
  have hm : r[j] = m := (List.getElem?_eq_some_iff.1 hj).2
  have e : r = r.take j ++ m :: r.drop (j + 1) := by
    rw [← hm, List.getElem_cons_drop, List.take_append_drop]
  constructor
  · conv => lhs; rw [e]
    exact hd_some h
  · conv => lhs; rw [e]
    exact tl_some h
/-- What lies behind k marks. -/
def rst (l : List UInt8) : Nat → List UInt8
  | 0 => l
  | 1 => tl 62 l
  | 2 => tl 58 (tl 62 l)
  | _ => tl 35 (tl 58 (tl 62 l))
def mrk : Nat → UInt8
  | 0 => 62
  | 1 => 58
  | _ => 35
def toB (l : List UInt8) : ByteArray := ⟨l.toArray⟩
theorem ext_list (s : ByteArray) (n p : Nat) : (s.extract n p).data.toList = (s.data.toList.drop n).take (p - n) := by
  rw [ByteArray.data_extract, Array.toList_extract]
theorem ext_toB (s : ByteArray) (n p : Nat) : s.extract n p = toB ((s.data.toList.drop n).take (p - n)) := by
  apply ByteArray.ext
  apply Array.toList_inj.1
  rw [ext_list s n p]; rfl
/-- Where the loop stands behind pos bytes: k marks are found, the next field begins at n. -/
def CAt (s : ByteArray) (pos k n : Nat) : Prop := n ≤ pos ∧ n ≤ s.size ∧ s.data.toList.drop n = rst s.data.toList k ∧ (k < 3 → mrk k ∉ (s.data.toList.drop n).take (pos - n))
theorem cat_start (s : ByteArray) : CAt s 0 0 0 := ⟨by omega, by omega, rfl, by simp⟩
theorem cat_hit {s : ByteArray} {pos k n : Nat} (h : CAt s pos k n) (hp : pos < s.size) (hk : k < 3) (hb : s[pos] = mrk k) :
    s.extract n pos = toB (hd (mrk k) (rst s.data.toList k)) ∧ CAt s (pos + 1) (k + 1) (pos + 1) := by
  obtain ⟨h1, h2, h3, h4⟩ := h
  have hj : (s.data.toList.drop n)[pos - n]? = some (mrk k) := by
    rw [List.getElem?_drop, show n + (pos - n) = pos from by omega, List.getElem?_eq_getElem (by simpa using hp), ← hb]; rfl
  obtain ⟨e1, e2⟩ := hit_hd (h4 hk) hj
  refine ⟨?_, by omega, by omega, ?_, by simp⟩
  · rw [ext_toB s n pos, ← h3, e1]
  · rw [List.drop_drop, show n + (pos - n + 1) = pos + 1 from by omega] at e2
    rw [← e2, h3]
    match k, hk with
    | 0, _ => rfl
    | 1, _ => rfl
    | 2, _ => rfl
theorem not_mem_more {m : UInt8} {l : List UInt8} {n pos v : Nat} (hn : n ≤ pos) (h : m ∉ (l.drop n).take (pos - n)) (hv : ∀ j, j < v → l[pos + j]? ≠ some m) : m ∉ (l.drop n).take (pos + v - n) := by
  induction v with
  | zero => exact h
  | succ v ih =>
    have h' := ih (fun j hj => hv j (by omega))
    rw [show pos + (v + 1) - n = (pos + v - n) + 1 from by omega, List.take_add_one]
    intro hm
    rw [List.mem_append] at hm
    rcases hm with hm | hm
    · exact h' hm
    · rw [List.getElem?_drop, show n + (pos + v - n) = pos + v from by omega] at hm
      have := hv v (by omega)
      cases hq : l[pos + v]? with
      | none => rw [hq] at hm; simp at hm
      | some x => rw [hq] at hm; simp at hm; rw [hq, hm] at this; exact this rfl
theorem mrk_small (k : Nat) : (mrk k).toNat < 128 := by unfold mrk; split <;> decide
/-- The bytes that a rune takes behind its first one are none of ASCII. -/
theorem decode_tail (s : ByteArray) (pos j : Nat) (hj : 1 ≤ j) (h : j < (Utf8.decode s pos).2) : 128 ≤ (s.get! (pos + j)).toNat := by
  unfold Utf8.decode at h
  simp only at h
  split at h
  · simp at h; omega
  · split at h
    · rename_i hc
      simp only [Bool.and_eq_true, beq_iff_eq, decide_eq_true_eq] at hc
      split at h
      · simp at h
        obtain rfl : j = 1 := by omega
        omega
      · simp at h; omega
    · split at h
      · rename_i hc
        simp only [Bool.and_eq_true, beq_iff_eq, decide_eq_true_eq] at hc
        split at h
        · simp at h
          have : j = 1 ∨ j = 2 := by omega
          rcases this with rfl | rfl <;> omega
        · simp at h; omega
      · split at h
        · rename_i hc
          simp only [Bool.and_eq_true, beq_iff_eq, decide_eq_true_eq] at hc
          split at h
          · simp at h
            have : j = 1 ∨ j = 2 ∨ j = 3 := by omega
            rcases this with rfl | rfl | rfl <;> omega
          · simp at h; omega
        · simp at h; omega
theorem get_of {s : ByteArray} {i : Nat} {x : UInt8} (h : s.data.toList[i]? = some x) : s.get! i = x := by
  rw [Array.getElem?_toList] at h
  unfold ByteArray.get!
  cases s
  simp only at *
  obtain ⟨hi, e⟩ := Array.getElem?_eq_some_iff.1 h
  simp [hi, e]
theorem cat_miss {s : ByteArray} {pos k n : Nat} (h : CAt s pos k n) (hp : pos < s.size) (hb : k < 3 → s[pos] ≠ mrk k) :
    CAt s (pos + (Utf8.decode s pos).2) k n := by
  obtain ⟨h1, h2, h3, h4⟩ := h
  refine ⟨by omega, h2, h3, fun hk => ?_⟩
  refine not_mem_more h1 (h4 hk) fun j hj e => ?_
  by_cases h0 : j = 0
  · subst h0
    rw [Nat.add_zero, List.getElem?_eq_getElem (by simpa using hp)] at e
    exact hb hk (Option.some.inj e)
  · have := decode_tail s pos j (by omega) hj
    rw [get_of e] at this
    have := mrk_small k
    omega
theorem rst_all (s : ByteArray) (n : Nat) : s.extract n s.size = toB (s.data.toList.drop n) := by
  rw [ext_toB s n s.size, List.take_of_length_le (by simp)]
/-- At the end: the last field that is found, and nothing in those behind it. -/
theorem cat_end {s : ByteArray} {pos k n : Nat} (h : CAt s pos k n) (hp : ¬ pos < s.size) : s.extract n s.size = toB (rst s.data.toList k) ∧ (k < 3 → hd (mrk k) (rst s.data.toList k) = rst s.data.toList k ∧ tl (mrk k) (rst s.data.toList k) = []) := by
  obtain ⟨h1, h2, h3, h4⟩ := h
  refine ⟨by rw [rst_all s n, h3], fun hk => ?_⟩
  have hm : mrk k ∉ rst s.data.toList k := by
    have := h4 hk
    rw [List.take_of_length_le (by simp; omega), h3] at this
    exact this
  exact ⟨hd_none hm, tl_none hm⟩
end Go.Proofs.YtehdchpolgihlaaDoor
