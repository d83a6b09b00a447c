/- Texts that belong together: ImplNames, SpecSets, SpecSets2, AscInts, QcSame. -/
import Derived.Test.YtehdchpolgihlaaGreatDoorPzAN
import Derived.Test.YtehdchpolgihlaaGreatDoorPzAM
import Derived.Lib.LastIndexByte
import Derived.Test.YtehdchpolgihlaaGreatDoorPzAA
import Derived.Test.YtehdchpolgihlaaGreatDoorPzAB
import Derived.Deep.RegionHeld3
import Derived.BigQuiet
import Derived.Test.YtehdchpolgihlaaGreatDoorPzAE
import Derived.Laws.EntriesVeiled
import Derived.Test.YtehdchpolgihlaaGreatDoorPzAG
/- impl.NameOk, Height, ViewOf, Extends, Meets, UpOf. -/
namespace Go.Proofs.YtehdchpolgihlaaGreatDoor
open Go.RowKit
set_option linter.unusedSectionVars false
variable [∀ (a b c d : Int), Decidable (Ok4 a b c d)]
variable [∀ (a b c d : Nat), Decidable (okN a b c d)]
variable [∀ (last : Int) (s : St), Decidable (GoodSt last s)]
variable [∀ (x : T4), Decidable (OkT x)]

set_option maxHeartbeats 8000000 in
set_option maxRecDepth 100000 in
theorem implViewOf (s : ByteArray) (w : World) (hs : s.size ≤ 33554432) (hE : Env w) :
    Calls Tryz.prog 119 #[.string s] w fun e w' => e = .returned (.int .i64 (viewAns s)) ∧ Below w.heap.size w w' := by
  have ST := hide fun w hE => implSteps s w hs hE
  have hl : ∀ ss, stepsAns s = some ss → ss.length ≤ 30 ∧ ∀ x ∈ ss, OkSt x := fun ss h => ⟨((names_iff _ _).1 h).2.1, ((names_iff _ _).1 h).2.2.1⟩
  unfold viewAns
  generalize stepsAns s = A at *
  go_enter Tryz.func119, Tryz.ntmps119
  go_wp2_with fail
  refine (unhide ST _ hE).mono ?_
  rintro e w1 ⟨v, rfl, o1, b1⟩
  cases A with
  | none =>
    obtain ⟨ao, ca, rfl⟩ := o1.form
    clear o1 ST hl
    go_wp2
    go_ret
    exact ⟨rfl, b1⟩
  | some ss =>
    obtain ⟨hl, hok⟩ := hl ss rfl
    obtain ⟨ao, ca, hv, r⟩ := o1.rst (fun x hx => by have := (hok x hx).2.1; omega)
    subst hv
    clear o1 ST hok
    simp only [Option.getD_some] at *
    rcases r with rfl | ⟨g, rfl, r⟩
    · go_wp2
      go_ret
      exact ⟨rfl, b1⟩
    · by_cases h0 : ss.length = 0
      · obtain rfl := List.length_eq_zero_iff.1 h0
        go_wp2
        go_ret
        exact ⟨rfl, b1⟩
      · obtain ⟨n, hn⟩ : ∃ n, ss.length = n + 1 := ⟨ss.length - 1, by omega⟩
        obtain ⟨u, c0, c1, _⟩ := r n (by omega)
        have hlast := hide (show (ss.getLast?.map (·.1)).getD 0 = (ss.getD n zst).1 by
          rw [List.getLast?_eq_getElem?, List.getD_eq_getElem?_getD, List.getElem?_eq_getElem (show ss.length - 1 < ss.length by omega), List.getElem?_eq_getElem (show n < ss.length by omega)]
          simp [hn])
        have hi : ((n + 1 : Nat) : Int) - 1 = n := by omega
        generalize (ss.getD n zst).1 = x at *
        clear r h0
        go_wp2
        go_ret
        exact ⟨by rw [show ((some ss).getD []) = ss from rfl, unhide hlast]; rfl, b1⟩


theorem ext_eq (s t : ByteArray) : extB s t = ((stepsAns s).isSome && (stepsAns t).isSome && Lib.hasPrefix (s ++ (⟨#[47]⟩ : ByteArray)).data.toList (t ++ (⟨#[47]⟩ : ByteArray)).data.toList) := by
  rw [Bool.eq_iff_iff, extB_bytes, Bool.and_eq_true, Bool.and_eq_true, and_assoc]
  have e : ∀ x : ByteArray, (x ++ (⟨#[47]⟩ : ByteArray)).data.toList = x.data.toList ++ [47] := fun x => by simp [ByteArray.data_append]
  rw [e, e]
  have : Lib.hasPrefix (s.data.toList ++ [47]) (t.data.toList ++ [47]) = true ↔ extL s.data.toList t.data.toList := by
    unfold Lib.hasPrefix
    rw [List.isPrefixOf_iff_prefix]
    exact pre_mark _ _
  rw [this]

/-- The last mark of a name: what is ahead of it is the name's Up. -/
theorem last_up {s : ByteArray} {ss : List St} (h : stepsAns s = some ss) (h1 : 1 ≤ ss.length) : ∃ k : Nat, k < s.size ∧ Lib.lastIndexByte s 47 = k ∧ s.extract 0 k = upAns s := by
  have hat : ∀ j, j < s.size → s.data.toList[j]? = some s.data[j]! := fun j hj => by
    rw [getElem!_pos s.data j (by simpa using hj)]; simp
  have hl : s.data.toList.length = s.size := by simp
  rcases Lib.lastIndexByte_spec s 47 with ⟨_, h2⟩ | ⟨i, hi, e, hx, hn⟩
  · exfalso
    obtain ⟨h3, _⟩ := (names_iff _ _).1 h
    cases ss with
    | nil => simp at h1
    | cons x ss =>
      have h0 : s.data.toList[0]? = some 47 := by rw [h3]; rfl
      have hz : 0 < s.size := by
        have := (List.getElem?_eq_some_iff.1 h0).1
        omega
      have := h2 0 hz
      rw [hat 0 hz] at h0
      rw [Option.some.inj h0] at this
      exact this rfl
  · refine ⟨i, hi, e, ?_⟩
    have hi' : s.data.toList[i]? = some 47 := by
      rw [hat i hi]; congr 1
      exact UInt8.toNat_inj.1 (by show s.data[i]!.toNat = 47; omega)
    have hd : (47 : UInt8) ∉ s.data.toList.drop (i + 1) := fun hm => by
      obtain ⟨j, hj, e2⟩ := List.getElem_of_mem hm
      rw [List.length_drop] at hj
      rw [List.getElem_drop] at e2
      have hj2 : i + 1 + j < s.size := by omega
      have h4 := hat _ hj2
      rw [List.getElem?_eq_getElem (by omega), e2] at h4
      have := hn (i + 1 + j) (by omega) hj2
      rw [← Option.some.inj h4] at this
      exact this rfl
    have := up_cut h (i + 1) (by omega) hd (.inr hi')
    rw [← this, ext_toB]; simp

end Go.Proofs.YtehdchpolgihlaaGreatDoor

/- spec.SetHas, SetOk, SetAdd, SetJoin, Common. -/
namespace Go.Proofs.YtehdchpolgihlaaGreatDoor
open Go.RowKit

theorem itake_more (xs : List Int) (k : Nat) (h : k < xs.length) : xs.take (k + 1) = xs.take k ++ [xs.getD k 0] := by
  rw [List.take_succ_eq_append_getElem h, List.getD_eq_getElem?_getD, List.getElem?_eq_getElem h]; rfl
theorem getD_mem_int {xs : List Int} {k : Nat} (h : k < xs.length) : xs.getD k 0 ∈ xs := by
  rw [List.getD_eq_getElem?_getD, List.getElem?_eq_getElem h]; exact List.getElem_mem h

set_option maxHeartbeats 1600000 in
set_option maxRecDepth 100000 in
theorem specSetHas (v : Value) (xs : List Int) (i : Int) (w : World) (h : RI w v xs) :
    Calls Tryz.prog 127 #[v, .int .i64 i] w fun e w' => e = .returned (.bool (decide (i ∈ xs))) ∧ w' = w := by
  have hl := h.1
  obtain ⟨ao, ca, rfl⟩ := h.form
  have H := hide h
  obtain ⟨n, hn⟩ : ∃ n, xs.length = n := ⟨_, rfl⟩
  have Hn := hide hn
  obtain ⟨r, hr⟩ : ∃ r, decide (i ∈ xs) = r := ⟨_, rfl⟩
  have HR := hide hr
  rw [hn] at hl H ⊢
  rw [hr]
  clear h hn hr
  go_enter Tryz.func127, Tryz.ntmps127
  go_wp2
  go_loopw [5] (fun j wr => ∃ k : Nat, k ≤ n ∧ j = .int .i64 k ∧ Hid (i ∉ xs.take k) ∧ wr = w) (fun j _ => n - (intOf j).toNat)
  case atStart => exact ⟨0, Nat.zero_le _, rfl, hide (by simp), rfl⟩
  case round =>
    obtain ⟨k, hk, rfl, HK, rfl⟩ := hrel
    by_cases hlt : k < n
    · have hkx : k < xs.length := by have := unhide Hn; omega
      obtain ⟨b, off, rfl, c⟩ := (unhide H).at k hkx
      have HT := hide (itake_more xs k hkx)
      have HM := hide (getD_mem_int hkx)
      generalize xs.getD k 0 = d at *
      by_cases e : d = i
      · subst e
        have hrr : r = true := by rw [← unhide HR]; exact decide_eq_true (unhide HM)
        subst hrr
        clear HT HM HK
        go_wp2
        go_ret
        exact ⟨rfl, rfl⟩
      · have HK' : Hid (i ∉ xs.take (k + 1)) := hide (by rw [unhide HT]; simp; exact ⟨unhide HK, fun e2 => e e2.symm⟩)
        have e' : decide (d = i) = false := by simpa using e
        have e2 : (d == i) = false := by simpa using e
        clear HT HM HK
        go_wp2
        go_roundw
        case rel => exact ⟨k + 1, by omega, by go_num, HK', by first | rfl | trivial⟩
        case measure => simp [intOf]; omega
    · have hkn : k = xs.length := by have := unhide Hn; omega
      have hrr : r = false := by
        rw [← unhide HR]
        have := unhide HK
        rw [hkn, List.take_of_length_le (Nat.le_refl _)] at this
        exact decide_eq_false this
      subst hrr
      clear HK
      go_wp2
      go_ret
      exact ⟨rfl, rfl⟩

set_option maxHeartbeats 4000000 in
set_option maxRecDepth 100000 in
theorem specSetAdd (v : Value) (xs : List Int) (i : Int) (w : World) (h : RI w v xs) (hc : Cap v) (hx : xs.length ≤ 4194303) :
    Calls Tryz.prog 110 #[v, .int .i64 i] w fun e w' => ∃ u, e = .returned u ∧ OI w' w.heap.size u (addL xs i) ∧ Below w.heap.size w w' := by
  have SH := hide fun w h => specSetHas v xs i w h
  obtain ⟨ao, ca, rfl⟩ := h.form
  obtain ⟨hcn, hcm⟩ : xs.length ≤ ca ∧ ca ≤ maxLen := by obtain ⟨_, _, _, e, h1, h2⟩ := hc; cases e; exact ⟨h1, h2⟩
  unfold maxLen at hcm
  have H := hide h
  have HP := hide h.pi
  clear h hc
  have O0 : OI (w.alloc (.cells #[] 3)) w.heap.size (.slice (some ⟨w.heap.size, 0, none⟩) 0 0) [] := by
    have := World.ownsRow_lit (base := w.heap.size) (e := 3) (size := 1) w #[] 0 (Nat.le_refl _) (by unfold maxLen; omega) (by simp)
    simpa [OI] using this
  have b0 : Below w.heap.size w (w.alloc (.cells #[] 3)) := (Below.refl _ _).alloc (Nat.le_refl _) _
  have P0 := hide ((unhide HP).below b0)
  by_cases hm : i ∈ xs
  · have ea : addL xs i = xs := if_pos hm
    rw [ea]
    rw [decide_eq_true hm] at SH
    clear hm ea
    go_enter Tryz.func110, Tryz.ntmps110
    go_wp2_with fail
    refine (unhide SH _ (unhide H)).mono ?_
    rintro _ w1 ⟨rfl, rfl⟩
    go_wp2_with (first | (at_builtin; refine append_ints rfl _ _ rfl w1.heap.size (.slice (some ⟨w1.heap.size, 0, none⟩) 0 0) (.slice ao xs.length ca) [] xs rfl rfl O0 (unhide P0) (by simp; omega) (by simp) ?_; intro v' w2 ho' hg' _; have RB := b0.grown hg' (by simp) (fun j e => by simp [Value.ownBlock] at e; omega); clear hg'))
    go_ret
    exact ⟨_, rfl, by simpa using ho', RB⟩
  · have ea : addL xs i = xs.takeWhile (fun x => decide (x < i)) ++ i :: xs.dropWhile (fun x => decide (x < i)) := if_neg hm
    rw [decide_eq_false hm] at SH
    have EA := hide ea
    clear hm ea
    obtain ⟨n, hn⟩ : ∃ n, xs.length = n := ⟨_, rfl⟩
    have Hn := hide hn
    rw [hn] at H P0 hx hcn SH HP ⊢
    clear hn
    go_enter Tryz.func110, Tryz.ntmps110
    go_wp2_with fail
    refine (unhide SH _ (unhide H)).mono ?_
    rintro _ w1 ⟨rfl, rfl⟩
    go_wp2
    go_loopw [5] (fun j wr => ∃ k : Nat, k ≤ n ∧ j = .int .i64 k ∧ Hid (∀ x ∈ xs.take k, x < i) ∧ wr = w1) (fun j _ => n - (intOf j).toNat)
    case atStart => exact ⟨0, Nat.zero_le _, rfl, hide (by simp), rfl⟩
    case round =>
      obtain ⟨k, hk, rfl, HK, rfl⟩ := hrel
      have FIN : Hid ((k < n → ¬ xs.getD k 0 < i) → addL xs i = xs.take k ++ i :: xs.drop k) := hide fun hst => by
        have hkx : k ≤ xs.length := by have := unhide Hn; omega
        have e1 : xs.takeWhile (fun x => decide (x < i)) = xs.take k ∧ xs.dropWhile (fun x => decide (x < i)) = xs.drop k := by
          have hall : ∀ x ∈ xs.take k, (decide (x < i)) = true := fun x hx => by simpa using unhide HK x hx
          have hd : xs.drop k = [] ∨ ∃ c t, xs.drop k = c :: t ∧ ¬ c < i := by
            by_cases hlt : k < xs.length
            · right
              refine ⟨_, _, List.drop_eq_getElem_cons hlt, ?_⟩
              have := hst (by have := unhide Hn; omega)
              rwa [List.getD_eq_getElem?_getD, List.getElem?_eq_getElem hlt] at this
            · left; exact List.drop_of_length_le (by omega)
          conv => lhs; lhs; rw [← List.take_append_drop k xs]
          conv => rhs; lhs; rw [← List.take_append_drop k xs]
          rw [List.takeWhile_append_of_pos hall, List.dropWhile_append_of_pos hall]
          rcases hd with e | ⟨c, t, e, hc⟩
          · rw [e]; simp
          · rw [e]; simp [hc]
        rw [unhide EA, e1.1, e1.2]
      by_cases hgo : k < n ∧ xs.getD k 0 < i
      · obtain ⟨hlt, hd⟩ := hgo
        have hkx : k < xs.length := by have := unhide Hn; omega
        obtain ⟨b, off, rfl, c⟩ := (unhide H).at k hkx
        have HT := hide (itake_more xs k hkx)
        generalize xs.getD k 0 = d at *
        have HK' : Hid (∀ x ∈ xs.take (k + 1), x < i) := hide (by
          rw [unhide HT]; intro x hx
          rcases List.mem_append.1 hx with hx | hx
          · exact unhide HK x hx
          · simp at hx; subst hx; exact hd)
        have hd' : decide (d < i) = true := by simpa using hd
        clear HT HK FIN hd
        go_wp2
        go_roundw
        case rel => exact ⟨k + 1, by omega, by go_num, HK', by first | rfl | trivial⟩
        case measure => simp [intOf]; omega
      · have F := hide (unhide FIN fun hlt hd => hgo ⟨hlt, hd⟩)
        have p1 := (unhide P0).take k hk ca
        have p2 := (unhide HP).drop k (ca - k) (bo := if ca = k then ao else ao.map (·.add (k * 1))) (fun hlt => if_neg (by omega))
        have hs1 : ∀ w, (Instr.slice 24 (.slice ao n ca) none (some (.int .i64 (k : Int))) none).run Tryz.prog w = .ok (.slice ao k ca) w := fun w => icut_to ao n ca k w (by omega)
        have hs2 : ∀ w, (Instr.slice 24 (.slice ao n ca) (some (.int .i64 (k : Int))) none none).run Tryz.prog w = .ok (.slice (if ca = k then ao else ao.map (·.add (k * 1))) (n - k) (ca - k)) w := fun w => icut_from ao n ca k w hk
        generalize (if ca = k then ao else ao.map (·.add (k * 1))) = bo at *
        have P1 := hide p1
        have P2 := hide p2
        have hlk : (xs.take k).length = k := by rw [List.length_take]; have := unhide Hn; omega
        have hld : (xs.drop k).length = n - k := by rw [List.length_drop, unhide Hn]
        have HLK := hide hlk
        have HLD := hide hld
        clear p1 p2 hlk hld FIN HK
        generalize xs.take k = fs at *
        generalize xs.drop k = bs at *
        have sz0 : wr.heap.size + 1 = (wr.alloc (.cells #[] 3)).heap.size := by simp
        have A1 : Hid True := hide trivial
        have A2 : Hid True := hide trivial
        have A3 : Hid True := hide trivial
        have EX : Hid (k < n → ∃ b off d, ao = some ⟨b, off, none⟩ ∧ wr.cell? ⟨b, off + k, none⟩ = some (.int .i64 d) ∧ ¬ d < i) := hide fun hlt => by
          obtain ⟨b, off, e, c⟩ := (unhide H).at k (by have := unhide Hn; omega)
          exact ⟨b, off, _, e, c, fun hd => hgo ⟨hlt, hd⟩⟩
        clear hgo
        by_cases hlt : k < n
        · obtain ⟨b, off, d, rfl, c, hd⟩ := unhide EX hlt
          have hd' : decide (d < i) = false := by simpa using hd
          clear EX hd
          go_wp2_with (first
            | (at_builtin; have hh := A1; refine append_ints rfl _ _ rfl wr.heap.size (.slice (some ⟨wr.heap.size, 0, none⟩) 0 0) (.slice (some ⟨b, off, none⟩) k ca) [] (fs) rfl rfl O0 (unhide P1) (by rw [unhide HLK]; simp; omega) (by simp) ?_; intro v1 w2 ho1 hg1 hb1; have O1 : OI w2 wr.heap.size v1 (fs) := (by simpa using ho1); have B1 := b0.grown hg1 (by simp) (fun j e => by simp [Value.ownBlock] at e; omega); have l1 := World.ownsRow.lt O1; obtain ⟨a1, c1, rfl⟩ := O1.form; have O1' := hide (World.ownsRow.alloc O1 (.cells #[.int .i64 i] 3)); have B1' := B1.trans ((((Below.refl _ w2).alloc (Nat.le_refl _) (.cells #[.int .i64 i] 3))).mono B1.size); clear A1 ho1 hg1 hb1 O1)
            | (at_builtin; have hh := A2; refine append_ints rfl _ _ rfl wr.heap.size (.slice a1 fs.length c1) (.slice (some ⟨w2.heap.size, 0, none⟩) 1 1) (fs) [i] rfl rfl (unhide O1') ⟨_, _, rfl, .inr ⟨_, rfl, cell_one_new _ _ _⟩⟩ (by rw [unhide HLK]; simp; omega) B1'.size ?_; intro v2 w3 ho2 hg2 hb2; have B2 := B1'.grown hg2 B1'.size (fun j e => (l1 j e).1); obtain ⟨a2, c2, hv2⟩ := ho2.form; rw [List.length_append, List.length_singleton] at hv2; subst hv2; have O2 := hide ho2; have l2 := World.ownsRow.lt ho2; have P3 := hide ((unhide P2).below B2); clear A2 ho2 hg2 hb2)
            | (at_builtin; have hh := A3; refine append_ints rfl _ _ rfl wr.heap.size (.slice a2 (fs.length + 1) c2) (.slice bo (n - k) (ca - k)) (fs ++ [i]) (bs) rfl rfl (unhide O2) (unhide P3) (by rw [unhide HLD, List.length_append, unhide HLK]; simp; omega) B2.size ?_; intro v3 w4 ho3 hg3 hb3; have B3 := B2.grown hg3 B2.size (fun j e => (l2 j e).1); clear A3 hg3 hb3))
          go_ret
          exact ⟨_, rfl, by rw [unhide F]; simpa using ho3, B3⟩
        · have hd0 : decide ((k : Int) < (n : Int)) = false := by simp; omega
          clear EX
          go_wp2_with (first
            | (at_builtin; have hh := A1; refine append_ints rfl _ _ rfl wr.heap.size (.slice (some ⟨wr.heap.size, 0, none⟩) 0 0) (.slice ao k ca) [] (fs) rfl rfl O0 (unhide P1) (by rw [unhide HLK]; simp; omega) (by simp) ?_; intro v1 w2 ho1 hg1 hb1; have O1 : OI w2 wr.heap.size v1 (fs) := (by simpa using ho1); have B1 := b0.grown hg1 (by simp) (fun j e => by simp [Value.ownBlock] at e; omega); have l1 := World.ownsRow.lt O1; obtain ⟨a1, c1, rfl⟩ := O1.form; have O1' := hide (World.ownsRow.alloc O1 (.cells #[.int .i64 i] 3)); have B1' := B1.trans ((((Below.refl _ w2).alloc (Nat.le_refl _) (.cells #[.int .i64 i] 3))).mono B1.size); clear A1 ho1 hg1 hb1 O1)
            | (at_builtin; have hh := A2; refine append_ints rfl _ _ rfl wr.heap.size (.slice a1 fs.length c1) (.slice (some ⟨w2.heap.size, 0, none⟩) 1 1) (fs) [i] rfl rfl (unhide O1') ⟨_, _, rfl, .inr ⟨_, rfl, cell_one_new _ _ _⟩⟩ (by rw [unhide HLK]; simp; omega) B1'.size ?_; intro v2 w3 ho2 hg2 hb2; have B2 := B1'.grown hg2 B1'.size (fun j e => (l1 j e).1); obtain ⟨a2, c2, hv2⟩ := ho2.form; rw [List.length_append, List.length_singleton] at hv2; subst hv2; have O2 := hide ho2; have l2 := World.ownsRow.lt ho2; have P3 := hide ((unhide P2).below B2); clear A2 ho2 hg2 hb2)
            | (at_builtin; have hh := A3; refine append_ints rfl _ _ rfl wr.heap.size (.slice a2 (fs.length + 1) c2) (.slice bo (n - k) (ca - k)) (fs ++ [i]) (bs) rfl rfl (unhide O2) (unhide P3) (by rw [unhide HLD, List.length_append, unhide HLK]; simp; omega) B2.size ?_; intro v3 w4 ho3 hg3 hb3; have B3 := B2.grown hg3 B2.size (fun j e => (l2 j e).1); clear A3 hg3 hb3))
          go_ret
          exact ⟨_, rfl, by rw [unhide F]; simpa using ho3, B3⟩

set_option maxHeartbeats 4000000 in
set_option maxRecDepth 100000 in
theorem specSetJoin (va vb : Value) (xs bs : List Int) (w : World) (ha : RI w va xs) (hb : RI w vb bs) (hl : xs.length + bs.length ≤ 4194303) :
    Calls Tryz.prog 57 #[va, vb] w fun e w' => ∃ u, e = .returned u ∧ OI w' w.heap.size u (joinL xs bs) ∧ Below w.heap.size w w' := by
  obtain ⟨aa, ca, rfl⟩ := ha.form
  obtain ⟨ba, cb, rfl⟩ := hb.form
  have HA := hide ha
  have HB := hide hb
  obtain ⟨n, hn⟩ : ∃ n, xs.length = n := ⟨_, rfl⟩
  obtain ⟨m, hm⟩ : ∃ n, bs.length = n := ⟨_, rfl⟩
  have Hn := hide hn
  have Hm := hide hm
  rw [hn] at HA hl ⊢
  rw [hm] at HB hl ⊢
  clear ha hb hn hm
  have O0 : OI (w.alloc (.cells #[] 3)) w.heap.size (.slice (some ⟨w.heap.size, 0, none⟩) 0 0) [] := by
    have := World.ownsRow_lit (base := w.heap.size) (e := 3) (size := 1) w #[] 0 (Nat.le_refl _) (by unfold maxLen; omega) (by simp)
    simpa [OI] using this
  have b0 : Below w.heap.size w (w.alloc (.cells #[] 3)) := (Below.refl _ _).alloc (Nat.le_refl _) _
  go_enter Tryz.func57, Tryz.ntmps57
  go_wp2
  go_loopw [5, 6] (fun out j wr => ∃ k : Nat, k ≤ n ∧ j = .int .i64 k ∧ OI wr w.heap.size out ((xs.take k).foldl addL []) ∧ Below w.heap.size w wr) (fun _ j _ => n - (intOf j).toNat)
  case atStart => exact ⟨0, Nat.zero_le _, rfl, O0, b0⟩
  case round =>
    clear O0 b0
    obtain ⟨k, hk, rfl, ho, br⟩ := hrel
    have hsr := br.size
    by_cases hlt : k < n
    · have hkx : k < xs.length := by have := unhide Hn; omega
      obtain ⟨b, off, rfl, c⟩ := ((unhide HA).below br (Nat.le_refl _)).at k hkx
      have HT := hide (show (xs.take (k + 1)).foldl addL [] = addL ((xs.take k).foldl addL []) (xs.getD k 0) by rw [itake_more xs k hkx, fold_snoc])
      have hfl := fold_len (xs.take k) []
      rw [List.length_take, List.length_nil] at hfl
      generalize xs.getD k 0 = d at *
      generalize (xs.take k).foldl addL [] = acc at *
      have SA := hide (specSetAdd _ acc d _ (ho.ri (by omega)) ho.cap (by omega))
      obtain ⟨oa, oc, rfl⟩ := ho.form
      clear ho hfl
      go_wp2_with fail
      refine (unhide SA).mono ?_
      rintro _ w1 ⟨u, rfl, o1, b1⟩
      obtain ⟨ua, uc, rfl⟩ := o1.form
      have O1 := OI.mono o1 hsr
      have B1 := br.trans (b1.mono hsr)
      clear o1 b1 SA
      go_wp2
      go_roundw
      case rel => exact ⟨k + 1, by omega, by go_num, by rw [unhide HT]; exact O1, B1⟩
      case measure => simp [intOf]; omega
    · have hkn : k = xs.length := by have := unhide Hn; omega
      have e1 : xs.take k = xs := List.take_of_length_le (by omega)
      rw [e1] at ho
      have HO := hide ho
      have hd0 : decide ((k : Int) < (n : Int)) = false := by simp; omega
      clear ho hkn e1
      obtain ⟨oa, oc, ho0⟩ := (unhide HO).form
      go_wp2
      go_loopw [5, 7] (fun out j wq => ∃ k : Nat, k ≤ m ∧ j = .int .i64 k ∧ OI wq w.heap.size out ((xs ++ bs.take k).foldl addL []) ∧ Below w.heap.size w wq) (fun _ j _ => m - (intOf j).toNat)
      case atStart => exact ⟨0, Nat.zero_le _, rfl, by simpa using unhide HO, br⟩
      case round =>
        clear HO br
        obtain ⟨k2, hk2, rfl, ho, br⟩ := hrel
        have hsr2 := br.size
        by_cases hlt2 : k2 < m
        · have hkx : k2 < bs.length := by have := unhide Hm; omega
          obtain ⟨b, off, rfl, c⟩ := ((unhide HB).below br (Nat.le_refl _)).at k2 hkx
          have HT := hide (show (xs ++ bs.take (k2 + 1)).foldl addL [] = addL ((xs ++ bs.take k2).foldl addL []) (bs.getD k2 0) by rw [itake_more bs k2 hkx, ← List.append_assoc, fold_snoc])
          have hfl := fold_len (xs ++ bs.take k2) []
          rw [List.length_append, unhide Hn, List.length_take, List.length_nil] at hfl
          generalize bs.getD k2 0 = d at *
          generalize (xs ++ bs.take k2).foldl addL [] = acc at *
          have SA := hide (specSetAdd _ acc d _ (ho.ri (by omega)) ho.cap (by omega))
          obtain ⟨oa2, oc2, rfl⟩ := ho.form
          clear ho hfl
          go_wp2_with fail
          refine (unhide SA).mono ?_
          rintro _ w1 ⟨u, rfl, o1, b1⟩
          obtain ⟨ua, uc, rfl⟩ := o1.form
          have O1 := OI.mono o1 hsr2
          have B1 := br.trans (b1.mono hsr2)
          clear o1 b1 SA
          go_wp2
          go_roundw
          case rel => exact ⟨k2 + 1, by omega, by go_num, by rw [unhide HT]; exact O1, B1⟩
          case measure => simp [intOf]; omega
        · have hkn : k2 = bs.length := by have := unhide Hm; omega
          have e1 : bs.take k2 = bs := List.take_of_length_le (by omega)
          rw [e1] at ho
          have HO := hide ho
          have hd2 : decide ((k2 : Int) < (m : Int)) = false := by simp; omega
          clear ho hkn e1
          go_wp2
          go_ret
          exact ⟨_, rfl, unhide HO, br⟩

end Go.Proofs.YtehdchpolgihlaaGreatDoor

/- spec.Common, spec.SetOk. -/
namespace Go.Proofs.YtehdchpolgihlaaGreatDoor
open Go.RowKit
set_option linter.unusedSectionVars false

theorem com_snoc (l bs : List Int) (x : Int) : comL (l ++ [x]) bs = comL l bs + (if decide (x ∈ bs) then 1 else 0) := by
  unfold comL
  rw [List.filter_append, List.length_append]
  by_cases h : x ∈ bs
  · simp [h]
  · simp [h]

variable [∀ (n : Int) (s : List Int), Decidable (OkL n s)]
theorem ok_more {n : Int} {xs : List Int} {k : Nat} (hk : k < xs.length) (h : OkL n (xs.take k)) (h0 : 0 ≤ xs.getD k 0) (h1 : xs.getD k 0 < n) (h2 : 0 < k → xs.getD (k - 1) 0 < xs.getD k 0) : OkL n (xs.take (k + 1)) := by
  rw [itake_more xs k hk]
  refine ⟨fun x hx => ?_, List.pairwise_append.2 ⟨h.2, by simp, fun x hx y hy => ?_⟩⟩
  · rcases List.mem_append.1 hx with hx | hx
    · exact h.1 x hx
    · simp at hx; subst hx; exact ⟨h0, h1⟩
  · simp at hy
    subst hy
    by_cases hk0 : 0 < k
    · have h3 := h2 hk0
      have e : xs.take k = xs.take (k - 1) ++ [xs.getD (k - 1) 0] := by
        have := itake_more xs (k - 1) (by omega)
        rwa [show k - 1 + 1 = k by omega] at this
      have hp := h.2
      rw [e] at hx hp
      rcases List.mem_append.1 hx with hx | hx
      · have := (List.pairwise_append.1 hp).2.2 x hx (xs.getD (k - 1) 0) (by simp)
        simp only [List.getD_eq_getElem?_getD] at *
        omega
      · simp at hx
        simp only [List.getD_eq_getElem?_getD] at *
        omega
    · have : k = 0 := by omega
      subst this; simp at hx
theorem ok_not {n : Int} {xs : List Int} {k : Nat} (hk : k < xs.length) (h : xs.getD k 0 < 0 ∨ n ≤ xs.getD k 0 ∨ (0 < k ∧ xs.getD k 0 ≤ xs.getD (k - 1) 0)) : ¬ OkL n xs := fun ho => by
  have hm := ho.1 _ (getD_mem_int hk)
  rcases h with h | h | ⟨h0, h⟩
  · omega
  · omega
  · have := List.pairwise_iff_getElem.1 ho.2 (k - 1) k (by omega) hk (by omega)
    rw [List.getD_eq_getElem?_getD, List.getD_eq_getElem?_getD, List.getElem?_eq_getElem hk, List.getElem?_eq_getElem (show k - 1 < xs.length by omega)] at h
    simp at h
    omega

set_option maxHeartbeats 4000000 in
set_option maxRecDepth 100000 in
theorem specSetOk (m : Int) (v : Value) (xs : List Int) (w : World) (h : RI w v xs) :
    Calls Tryz.prog 87 #[.int .i64 m, v] w fun e w' => e = .returned (.bool (decide (OkL m xs))) ∧ Below w.heap.size w w' := by
  have hl := h.1
  obtain ⟨ao, ca, rfl⟩ := h.form
  have H := hide h
  obtain ⟨n, hn⟩ : ∃ n, xs.length = n := ⟨_, rfl⟩
  have Hn := hide hn
  obtain ⟨r, hr⟩ : ∃ r, decide (OkL m xs) = r := ⟨_, rfl⟩
  have HR := hide hr
  rw [hn] at hl H ⊢
  rw [hr]
  clear h hn hr
  go_enter Tryz.func87, Tryz.ntmps87
  go_wp2
  go_loopw [5] (fun j wr => ∃ k : Nat, k ≤ n ∧ j = .int .i64 k ∧ Hid (OkL m (xs.take k)) ∧ Below w.heap.size w wr) (fun j _ => n - (intOf j).toNat)
  case atStart => exact ⟨0, Nat.zero_le _, rfl, hide (by simp [OkL]), Below.refl _ _⟩
  case round =>
    obtain ⟨k, hk, rfl, HK, br⟩ := hrel
    have HR2 := hide ((unhide H).below br (Nat.le_refl _))
    by_cases hlt : k < n
    · have hkx : k < xs.length := by have := unhide Hn; omega
      obtain ⟨b, off, rfl, c⟩ := (unhide HR2).at k hkx
      have HP : Hid (0 < k → wr.cell? ⟨b, off + (k - 1), none⟩ = some (.int .i64 (xs.getD (k - 1) 0))) := hide fun h0 => by
        obtain ⟨b', off', e, c'⟩ := (unhide HR2).at (k - 1) (by omega)
        cases e; exact c'
      have HG := hide fun h0 h1 h2 => ok_more hkx (unhide HK) h0 h1 h2
      have HB := hide fun h => ok_not (n := m) hkx h
      generalize xs.getD k 0 = d at *
      by_cases g0 : d < 0
      · have hrr : r = false := by rw [← unhide HR]; exact decide_eq_false (unhide HB (.inl g0))
        subst hrr
        have g0' : decide (d < 0) = true := by simpa using g0
        clear HG HB HP HK
        go_wp2_with fail
        go_quiet (fail)
        go_wp2
        go_ret
        exact ⟨rfl, by first | exact br | exact below_drewN' br _⟩
      have g0' : decide (d < 0) = false := by simpa using g0
      by_cases g1 : m ≤ d
      · have hrr : r = false := by rw [← unhide HR]; exact decide_eq_false (unhide HB (.inr (.inl g1)))
        subst hrr
        have g1' : decide (m ≤ d) = true := by simpa using g1
        clear HG HB HP HK
        go_wp2_with fail
        go_quiet (fail)
        go_wp2
        go_ret
        exact ⟨rfl, by first | exact br | exact below_drewN' br _⟩
      have g1' : decide (m ≤ d) = false := by simpa using g1
      by_cases hk0 : 0 < k
      · have c2 := unhide HP hk0
        obtain ⟨j, rfl⟩ : ∃ j, k = j + 1 := ⟨k - 1, by omega⟩
        rw [show j + 1 - 1 = j by omega] at c2 HG HB
        generalize xs.getD j 0 = p at *
        have ej : (((j + 1 : Nat) : Int)) - 1 = (j : Int) := by omega
        have hk0' : decide ((0 : Int) < ((j + 1 : Nat) : Int)) = true := by rw [decide_eq_true_iff]; omega
        by_cases g2 : d ≤ p
        · have hrr : r = false := by rw [← unhide HR]; exact decide_eq_false (unhide HB (.inr (.inr ⟨by omega, g2⟩)))
          subst hrr
          have g2' : decide (d ≤ p) = true := by simpa using g2
          clear HG HB HP HK
          go_wp2_with fail
          go_quiet (fail)
          go_wp2
          go_ret
          exact ⟨rfl, by first | exact br | exact below_drewN' br _⟩
        · have g2' : decide (d ≤ p) = false := by simpa using g2
          have HK' := hide (unhide HG (by omega) (by omega) (fun _ => by omega))
          clear HG HB HP HK
          go_wp2_with fail
          go_quiet (fail)
          go_wp2
          go_roundw
          case rel => exact ⟨j + 1 + 1, by omega, by go_num, HK', by first | exact br | exact below_drewN' br _⟩
          case measure => simp [intOf]; omega
      · obtain rfl : k = 0 := by omega
        rw [Nat.add_zero] at c
        have HK' := hide (unhide HG (by omega) (by omega) (fun h => by omega))
        clear HG HB HP HK
        go_wp2_with fail
        go_quiet (fail)
        go_wp2
        go_roundw
        case rel => exact ⟨1, by omega, by go_num, HK', by first | exact br | exact below_drewN' br _⟩
        case measure => simp [intOf]; omega
    · have hkn : k = xs.length := by have := unhide Hn; omega
      have hrr : r = true := by
        rw [← unhide HR]
        have := unhide HK
        rw [List.take_of_length_le (by omega)] at this
        exact decide_eq_true this
      subst hrr
      have hd0 : decide ((k : Int) < (n : Int)) = false := by simp; omega
      clear HK
      go_wp2
      go_ret
      exact ⟨rfl, by first | exact br | exact below_drewN' br _⟩
end Go.Proofs.YtehdchpolgihlaaGreatDoor

/- (impl.inOrder[int]).ascends, impl.SetOk. -/
namespace Go.Proofs.YtehdchpolgihlaaGreatDoor
open Go.RowKit
set_option linter.unusedSectionVars false
variable [∀ (n : Int) (s : List Int), Decidable (OkL n s)]

set_option maxHeartbeats 400000 in
set_option maxRecDepth 100000 in
theorem isNaN_int (x : Int) (w : World) : Calls Tryz.prog 121 #[.int .i64 x] w fun e w' => e = .returned (.bool false) ∧ Below w.heap.size w w' := by
  go_enter Tryz.func121, Tryz.ntmps121
  go_wp2
  go_ret
  exact ⟨rfl, Below.refl _ _⟩
/-- What cmp.Compare answers. -/
def cmpI (x y : Int) : Int := if x < y then -1 else if y < x then 1 else 0
theorem cmpI_lt (x y : Int) : cmpI x y < 0 ↔ x < y := by
  unfold cmpI
  repeat' split
  all_goals omega
set_option maxHeartbeats 800000 in
set_option maxRecDepth 100000 in
theorem compare_int (x y : Int) (w : World) : Calls Tryz.prog 92 #[.int .i64 x, .int .i64 y] w fun e w' => e = .returned (.int .i64 (cmpI x y)) ∧ Below w.heap.size w w' := by
  have NA := hide fun x w => isNaN_int x w
  unfold cmpI
  by_cases h1 : x < y
  · rw [if_pos h1]
    have d1 : decide (x < y) = true := by simpa using h1
    clear h1
    go_enter Tryz.func92, Tryz.ntmps92
    go_wp2_with fail
    refine (unhide NA _ _).mono ?_
    rintro _ w1 ⟨rfl, b1⟩
    go_wp2_with fail
    refine (unhide NA _ _).mono ?_
    rintro _ w2 ⟨rfl, b2⟩
    go_wp2
    go_ret
    exact ⟨rfl, b1.trans (b2.mono b1.size)⟩
  · rw [if_neg h1]
    have d1 : decide (x < y) = false := by simpa using h1
    clear h1
    by_cases h2 : y < x
    · rw [if_pos h2]
      have d2 : decide (y < x) = true := by simpa using h2
      have d3 : decide (x > y) = true := by simpa using h2
      clear h2
      go_enter Tryz.func92, Tryz.ntmps92
      go_wp2_with fail
      refine (unhide NA _ _).mono ?_
      rintro _ w1 ⟨rfl, b1⟩
      go_wp2_with fail
      refine (unhide NA _ _).mono ?_
      rintro _ w2 ⟨rfl, b2⟩
      go_wp2
      go_ret
      exact ⟨rfl, b1.trans (b2.mono b1.size)⟩
    · rw [if_neg h2]
      have d2 : decide (y < x) = false := by simpa using h2
      have d3 : decide (x > y) = false := by simpa using h2
      clear h2
      go_enter Tryz.func92, Tryz.ntmps92
      go_wp2_with fail
      refine (unhide NA _ _).mono ?_
      rintro _ w1 ⟨rfl, b1⟩
      go_wp2_with fail
      refine (unhide NA _ _).mono ?_
      rintro _ w2 ⟨rfl, b2⟩
      go_wp2
      go_ret
      exact ⟨rfl, b1.trans (b2.mono b1.size)⟩
/-- Neighbours go up. -/
def AscI (xs : List Int) : Prop := ∀ j, j + 1 < xs.length → xs.getD j 0 < xs.getD (j + 1) 0
theorem ascI_iff (xs : List Int) : AscI xs ↔ xs.Pairwise (· < ·) := by
  constructor
  · intro h
    refine List.pairwise_iff_getElem.2 fun i j hi hj hij => ?_
    have key : ∀ d, i + d + 1 < xs.length → xs.getD i 0 < xs.getD (i + d + 1) 0 := by
      intro d
      induction d with
      | zero => exact fun hd => h i hd
      | succ d ih => exact fun hd => Int.lt_trans (ih (by omega)) (h (i + d + 1) hd)
    have := key (j - i - 1) (by omega)
    rw [show i + (j - i - 1) + 1 = j from by omega] at this
    simpa [List.getD_eq_getElem?_getD, List.getElem?_eq_getElem hi, List.getElem?_eq_getElem hj] using this
  · intro h j hj
    have := List.pairwise_iff_getElem.1 h j (j + 1) (by omega) hj (by omega)
    simpa [List.getD_eq_getElem?_getD, List.getElem?_eq_getElem hj, List.getElem?_eq_getElem (show j < xs.length by omega)] using this
set_option maxHeartbeats 1000000 in
set_option maxRecDepth 100000 in
theorem ascends_int (v : Value) (xs : List Int) (w : World) (h : RI w v xs) :
    Calls Tryz.prog 93 #[.agg #[v, .func (.func 92) #[] #[]]] w fun e w' => e = .returned (.bool (decide (xs.Pairwise (· < ·)))) ∧ Below w.heap.size w w' := by
  obtain ⟨ao, ca, rfl⟩ := h.form
  have hl := h.1
  have H := hide h
  obtain ⟨n, hn⟩ : ∃ n, xs.length = n := ⟨_, rfl⟩
  have Hn := hide hn
  rw [hn] at hl H ⊢
  clear h hn
  obtain ⟨w0, hw0⟩ : ∃ w0, w.alloc (.cells #[.slice ao n ca, .func (.func 92) #[] #[]] 112) = w0 := ⟨_, rfl⟩
  have B0 : Below w.heap.size w w0 := hw0 ▸ (Below.refl _ _).alloc (Nat.le_refl _) _
  have L0 : Loc w0 w.heap.size #[.slice ao n ca, .func (.func 92) #[] #[]] := hw0 ▸ loc_at w _ _ rfl
  go_enter Tryz.func93, Tryz.ntmps93
  go_wp2
  clear hw0
  go_loopw [3] (fun i wr => ∃ m : Nat, 1 ≤ m ∧ m ≤ n + 1 ∧ i = .int .i64 m ∧ Hid (∀ j, j + 1 < m → j + 1 < n → xs.getD j 0 < xs.getD (j + 1) 0) ∧ Loc wr w.heap.size #[.slice ao n ca, .func (.func 92) #[] #[]] ∧ Below w.heap.size w wr) (fun i _ => n + 1 - (intOf i).toNat)
  case atStart => exact ⟨1, Nat.le_refl _, by omega, by go_num, hide (fun j hj => absurd hj (by omega)), L0, B0⟩
  case round =>
    clear L0 B0
    obtain ⟨m, hm1, hm, rfl, HA, L, br⟩ := hrel
    have q0 := L.cell 0 rfl
    have q1 := L.cell 1 rfl
    by_cases hlt : m < n
    · obtain ⟨k, hk⟩ : ∃ k, m = k + 1 := ⟨m - 1, by omega⟩
      have hk1 : (m : Int) - 1 = (k : Int) := by omega
      have hwk : IntKind.i64.wrap (k : Int) = (k : Int) := by rw [IntKind.wrap_i64]; omega
      have hkn : k < n := by omega
      obtain ⟨g, off, rfl, cx⟩ := ((unhide H).below br (Nat.le_refl _)).at k (by rw [unhide Hn]; omega)
      obtain ⟨g', off', e, cy⟩ := ((unhide H).below br (Nat.le_refl _)).at m (by rw [unhide Hn]; omega)
      cases e
      have CT := hide fun w => compare_int (xs.getD k 0) (xs.getD m 0) w
      have HS : Hid (xs.getD k 0 < xs.getD m 0 → ∀ j, j + 1 < m + 1 → j + 1 < n → xs.getD j 0 < xs.getD (j + 1) 0) := hide fun h j hj hj2 => by
        by_cases e : j = k
        · rw [e, ← hk]; exact h
        · exact unhide HA j (by omega) hj2
      have HN : Hid (xs.getD m 0 ≤ xs.getD k 0 → ¬ xs.Pairwise (· < ·)) := hide fun h ha => Int.not_lt.2 h (by have := (ascI_iff xs).2 ha k (by rw [unhide Hn]; omega); rwa [← hk] at this)
      clear HA
      generalize xs.getD k 0 = x at *
      generalize xs.getD m 0 = y at *
      replace hk := hide hk
      have K : Hid (∀ w', Below wr.heap.size wr w' → (w'.cell? ⟨w.heap.size, 0, none⟩ = some (.slice (some ⟨g, off, none⟩) n ca) ∧ w'.cell? ⟨w.heap.size, 1, none⟩ = some (.func (.func 92) #[] #[])) ∧ w'.cell? ⟨g, off + k, none⟩ = some (.int .i64 x) ∧ w'.cell? ⟨g, off + m, none⟩ = some (.int .i64 y)) := hide fun w' hb => by
        have l := L.below hb L.lt
        exact ⟨⟨l.cell 0 rfl, l.cell 1 rfl⟩, (hb.cell (cell_lt cx)).trans cx, (hb.cell (cell_lt cy)).trans cy⟩
      have bA : Below wr.heap.size wr wr.drew := Below.drew (Below.refl _ _)
      have hKeep := unhide K _ bA
      clear cx cy
      go_wp2_with fail
      refine wp_region_noPanic ?_
      refine wp_region_held_drew (S := (fun w' => (w'.cell? ⟨w.heap.size, 0, none⟩ = some (.slice (some ⟨g, off, none⟩) n ca) ∧ w'.cell? ⟨w.heap.size, 1, none⟩ = some (.func (.func 92) #[] #[])) ∧ w'.cell? ⟨g, off + k, none⟩ = some (.int .i64 x) ∧ w'.cell? ⟨g, off + m, none⟩ = some (.int .i64 y))) (by kernel_rfl) hKeep (fun hHeld => ?_)
      refine take_at (i := 0) (d := 11) (v := ?_) rfl rfl (by kernel_rfl) (by kernel_rfl) (by kernel_rfl) (fun _ _ _ h => h) (Or.inl ⟨by rfl, ?_⟩) (by assumption) ?_
      rotate_left
      · intro w hSw
        try dsimp only at hSw
        go_simp
        try with_reducible rfl
      simp only [Act.put, List.setIfInBounds_toArray, List.set_cons_zero, List.set_cons_succ]
      refine take_at (i := 1) (d := 12) (v := ?_) rfl rfl (by kernel_rfl) (by kernel_rfl) (by kernel_rfl) (fun _ _ _ h => h) (Or.inl ⟨by rfl, ?_⟩) (by assumption) ?_
      rotate_left
      · intro w hSw
        try dsimp only at hSw
        go_simp
        try with_reducible rfl
      simp only [Act.put, List.setIfInBounds_toArray, List.set_cons_zero, List.set_cons_succ]
      refine take_at (i := 2) (d := 13) (v := ?_) rfl rfl (by kernel_rfl) (by kernel_rfl) (by kernel_rfl) (fun _ _ _ h => h) (Or.inl ⟨by rfl, ?_⟩) (by assumption) ?_
      rotate_left
      · intro w hSw
        try dsimp only at hSw
        go_simp
        try with_reducible rfl
      simp only [Act.put, List.setIfInBounds_toArray, List.set_cons_zero, List.set_cons_succ]
      refine take_at (i := 3) (d := 14) (v := ?_) rfl rfl (by kernel_rfl) (by kernel_rfl) (by kernel_rfl) (fun _ _ _ h => h) (Or.inl ⟨by rfl, ?_⟩) (by assumption) ?_
      rotate_left
      · intro w hSw
        try dsimp only at hSw
        go_simp
        try with_reducible rfl
      simp only [Act.put, List.setIfInBounds_toArray, List.set_cons_zero, List.set_cons_succ]
      refine take_at (i := 4) (d := 15) (v := ?_) rfl rfl (by kernel_rfl) (by kernel_rfl) (by kernel_rfl) (fun _ _ _ h => h) (Or.inl ⟨by rfl, ?_⟩) (by assumption) ?_
      rotate_left
      · intro w hSw
        try dsimp only at hSw
        go_simp
        try with_reducible rfl
      simp only [Act.put, List.setIfInBounds_toArray, List.set_cons_zero, List.set_cons_succ]
      refine take_at (i := 5) (d := 16) (v := ?_) rfl rfl (by kernel_rfl) (by kernel_rfl) (by kernel_rfl) (fun _ _ _ h => h) (Or.inl ⟨by rfl, ?_⟩) (by assumption) ?_
      rotate_left
      · intro w hSw
        try dsimp only at hSw
        go_simp
        try with_reducible rfl
      simp only [Act.put, List.setIfInBounds_toArray, List.set_cons_zero, List.set_cons_succ]
      refine take_at (i := 6) (d := 17) (v := ?_) rfl rfl (by kernel_rfl) (by kernel_rfl) (by kernel_rfl) (fun _ _ _ h => h) (Or.inl ⟨by rfl, ?_⟩) (by assumption) ?_
      rotate_left
      · intro w hSw
        try dsimp only at hSw
        go_simp
        try with_reducible rfl
      simp only [Act.put, List.setIfInBounds_toArray, List.set_cons_zero, List.set_cons_succ]
      refine take_at (i := 7) (d := 18) (v := ?_) rfl rfl (by kernel_rfl) (by kernel_rfl) (by kernel_rfl) (fun _ _ _ h => h) (Or.inl ⟨by rfl, ?_⟩) (by assumption) ?_
      rotate_left
      · intro w hSw
        try dsimp only at hSw
        go_simp
        try with_reducible rfl
      simp only [Act.put, List.setIfInBounds_toArray, List.set_cons_zero, List.set_cons_succ]
      refine take_at (i := 8) (d := 19) (v := ?_) rfl rfl (by kernel_rfl) (by kernel_rfl) (by kernel_rfl) (fun _ _ _ h => h) (Or.inl ⟨by rfl, ?_⟩) (by assumption) ?_
      rotate_left
      · intro w hSw
        try dsimp only at hSw
        go_simp
        try with_reducible rfl
      simp only [Act.put, List.setIfInBounds_toArray, List.set_cons_zero, List.set_cons_succ]
      refine take_at (i := 9) (d := 20) (v := ?_) rfl rfl (by kernel_rfl) (by kernel_rfl) (by kernel_rfl) (fun _ _ _ h => h) (Or.inl ⟨by rfl, ?_⟩) (by assumption) ?_
      rotate_left
      · intro w hSw
        try dsimp only at hSw
        go_simp
        try with_reducible rfl
      simp only [Act.put, List.setIfInBounds_toArray, List.set_cons_zero, List.set_cons_succ]
      refine take_at (i := 10) (d := 21) (v := ?_) rfl rfl (by kernel_rfl) (by kernel_rfl) (by kernel_rfl) (fun _ _ _ h => h) (Or.inl ⟨by rfl, ?_⟩) (by assumption) ?_
      rotate_left
      · intro w hSw
        try dsimp only at hSw
        go_simp
        try with_reducible rfl
      simp only [Act.put, List.setIfInBounds_toArray, List.set_cons_zero, List.set_cons_succ]
      refine take_at (i := 11) (d := 22) (v := ?_) rfl rfl (by kernel_rfl) (by kernel_rfl) (by kernel_rfl) (fun _ _ _ h => h) (Or.inl ⟨by rfl, ?_⟩) (by assumption) ?_
      rotate_left
      · intro w hSw
        try dsimp only at hSw
        go_simp
        try with_reducible rfl
      simp only [Act.put, List.setIfInBounds_toArray, List.set_cons_zero, List.set_cons_succ]
      refine take_at (i := 12) (d := 23) (v := ?_) rfl rfl (by kernel_rfl) (by kernel_rfl) (by kernel_rfl) (fun _ _ _ h => h) (Or.inl ⟨by rfl, ?_⟩) (by assumption) ?_
      rotate_left
      · intro w hSw
        try dsimp only at hSw
        go_simp
        try with_reducible rfl
      simp only [Act.put, List.setIfInBounds_toArray, List.set_cons_zero, List.set_cons_succ]
      refine ready_at (i := 13) rfl (by kernel_rfl) (fun KK hKK => ?_)
      go_simp
      refine (unhide CT _).mono ?_
      rintro _ wa ⟨rfl, ba⟩
      have bB : Below wr.heap.size wr wa := bA.trans ba
      clear hHeld
      refine hKK.out _ _ (unhide K _ bB) (fun hHeld => ?_)
      clear hKK KK
      refine take_at (i := 14) (d := 25) (v := ?_) rfl rfl (by kernel_rfl) (by kernel_rfl) (by kernel_rfl) (fun _ _ _ h => h) (Or.inl ⟨by rfl, ?_⟩) (by assumption) ?_
      rotate_left
      · intro w hSw
        try dsimp only at hSw
        go_simp
        try with_reducible rfl
      simp only [Act.put, List.setIfInBounds_toArray, List.set_cons_zero, List.set_cons_succ]
      clear hHeld
      refine wpAnyH_done (by kernel_rfl) ?_ _
      refine NoPanic.normal ?_
      have LB := L.below bB L.lt
      have BB := br.trans (bB.mono br.size)
      have hcm := hide (cmpI_lt x y)
      generalize cmpI x y = q at *
      by_cases hq : q < 0
      · have HS := hide (unhide HS ((unhide hcm).1 hq))
        have hq0 : ¬ 0 ≤ q := by omega
        clear hcm HN
        go_wp2
        go_roundw
        case rel => exact ⟨m + 1, by omega, by omega, by go_num, HS, LB, BB⟩
        case measure => simp [intOf]; omega
      · have hno : decide (xs.Pairwise (· < ·)) = false := decide_eq_false (unhide HN (Int.not_lt.1 fun h => hq ((unhide hcm).2 h)))
        have hq0 : 0 ≤ q := by omega
        clear hcm HS HN
        go_wp2
        go_ret
        exact ⟨by first | rfl | (rw [hno]; rfl), BB⟩
    · have hyes : decide (xs.Pairwise (· < ·)) = true := decide_eq_true ((ascI_iff xs).1 fun j hj => unhide HA j (by have := unhide Hn; omega) (by have := unhide Hn; omega))
      clear HA
      go_wp2
      go_ret
      exact ⟨by first | rfl | (rw [hyes]; rfl), br⟩
theorem ok_ends {n : Int} {xs : List Int} (h0 : 0 < xs.length) : OkL n xs ↔ xs.Pairwise (· < ·) ∧ 0 ≤ xs.getD 0 0 ∧ xs.getD (xs.length - 1) 0 < n := by
  have g : ∀ k (hk : k < xs.length), xs.getD k 0 = xs[k] := fun k hk => by rw [List.getD_eq_getElem?_getD, List.getElem?_eq_getElem hk]; rfl
  unfold OkL
  constructor
  · rintro ⟨h1, h2⟩
    refine ⟨h2, ?_, ?_⟩
    · rw [g 0 h0]; exact (h1 _ (List.getElem_mem h0)).1
    · rw [g _ (by omega)]; exact (h1 _ (List.getElem_mem (by omega))).2
  · rintro ⟨h2, h3, h4⟩
    refine ⟨fun x hx => ?_, h2⟩
    obtain ⟨j, hj, rfl⟩ := List.getElem_of_mem hx
    rw [g 0 h0] at h3
    rw [g _ (by omega)] at h4
    have hp := List.pairwise_iff_getElem.1 h2
    constructor
    · by_cases e : j = 0
      · subst e; exact h3
      · have := hp 0 j h0 hj (by omega); omega
    · by_cases e : j = xs.length - 1
      · have : xs[j] = xs[xs.length - 1] := by congr 1
        omega
      · have := hp j (xs.length - 1) hj (by omega) (by omega); omega
set_option maxHeartbeats 1600000 in
set_option maxRecDepth 100000 in
theorem implSetOk (m : Int) (v : Value) (xs : List Int) (w : World) (h : RI w v xs) :
    Calls Tryz.prog 34 #[.int .i64 m, v] w fun e w' => e = .returned (.bool (decide (OkL m xs))) ∧ Below w.heap.size w w' := by
  obtain ⟨ao, ca, rfl⟩ := h.form
  have hl := h.1
  by_cases hz : xs.length = 0
  · obtain rfl : xs = [] := List.length_eq_zero_iff.1 hz
    have ed : decide (OkL m []) = true := decide_eq_true ⟨by simp, List.Pairwise.nil⟩
    rw [ed]
    clear ed h hl hz
    go_enter Tryz.func34, Tryz.ntmps34
    go_wp2
    go_ret
    exact ⟨rfl, Below.refl _ _⟩
  · have AS := hide fun w h => ascends_int (.slice ao xs.length ca) xs w h
    obtain ⟨w0, hw0⟩ : ∃ w0, w.alloc (.cells #[.slice ao xs.length ca, .func (.func 92) #[] #[]] 112) = w0 := ⟨_, rfl⟩
    have B0 : Below w.heap.size w w0 := hw0 ▸ (Below.refl _ _).alloc (Nat.le_refl _) _
    have L0 : Loc w0 w.heap.size #[.slice ao xs.length ca, .func (.func 92) #[] #[]] := hw0 ▸ loc_at w _ _ rfl
    have H := hide (h.below B0 (Nat.le_refl _))
    obtain ⟨g, off, rfl, c0⟩ := (unhide H).at 0 (by omega)
    obtain ⟨g', off', e, c1⟩ := (unhide H).at (xs.length - 1) (by omega)
    cases e
    have HO := hide (ok_ends (n := m) (xs := xs) (by omega))
    generalize xs.getD 0 0 = x at *
    generalize xs.getD (xs.length - 1) 0 = y at *
    have FIN : Hid (decide (OkL m xs) = (decide (xs.Pairwise (· < ·)) && (decide (0 ≤ x) && decide (y < m)))) := hide (by
      have := unhide HO
      by_cases hp : xs.Pairwise (· < ·) <;> by_cases hx : 0 ≤ x <;> by_cases hy : y < m <;> simp [hp, hx, hy, this])
    generalize decide (OkL m xs) = qq at *
    clear HO
    generalize decide (xs.Pairwise (· < ·)) = q at *
    obtain ⟨n, hn⟩ : ∃ n, xs.length = n + 1 := ⟨xs.length - 1, by omega⟩
    rw [hn] at H AS L0 hw0 hl hz c1 ⊢
    rw [Nat.add_sub_cancel] at c1
    rw [Nat.add_zero] at c0
    have hnz : decide (((n + 1 : Nat) : Int) = 0) = false := by simp; omega
    have hs1 : IntKind.i64.wrap (((n + 1 : Nat) : Int) - 1) = (n : Int) := by rw [IntKind.wrap_i64]; omega
    have hnn : ((n + 1 : Nat) : Int) - 1 = (n : Int) := by omega
    have Hn := hide hn
    clear hn h
    have q0 := L0.cell 0 rfl
    have q1 := L0.cell 1 rfl
    go_enter Tryz.func34, Tryz.ntmps34
    go_wp2_with fail
    clear hw0
    refine (unhide AS _ (unhide H)).mono ?_
    rintro _ w1 ⟨rfl, b1⟩
    have cx := b1.cell (p := ⟨g, off, none⟩) (cell_lt c0)
    have cy := b1.cell (p := ⟨g, off + n, none⟩) (cell_lt c1)
    rw [c0] at cx
    rw [c1] at cy
    have BB := B0.trans (b1.mono B0.size)
    clear H AS c0 c1 b1 q0 q1 L0 B0
    cases q with
    | false =>
      go_wp2
      go_ret
      exact ⟨by rw [unhide FIN]; rfl, BB⟩
    | true =>
      by_cases h0 : 0 ≤ x
      · have d0 : decide (0 ≤ x) = true := by simpa using h0
        rw [d0] at FIN
        clear h0
        go_wp2
        go_ret
        exact ⟨by rw [unhide FIN]; rfl, BB⟩
      · have d0 : decide (0 ≤ x) = false := by simpa using h0
        rw [d0] at FIN
        clear h0
        go_wp2
        go_ret
        exact ⟨by rw [unhide FIN]; rfl, BB⟩
end Go.Proofs.YtehdchpolgihlaaGreatDoor

/- Two certificates held against each other, by the specification and by the program. -/
namespace Go.Proofs.YtehdchpolgihlaaGreatDoor
open Go.RowKit

theorem list_end {xs ys : List Int} {k : Nat} (h1 : k ≤ xs.length) (h2 : k ≤ ys.length) (h : ¬ (k < xs.length ∧ k < ys.length)) (he : ∀ j, j < k → xs.getD j 0 = ys.getD j 0) : xs.length = ys.length ↔ xs = ys := by
  constructor
  · intro e
    apply List.ext_getElem e
    intro i p q
    have := he i (by omega)
    simpa [List.getD_eq_getElem?_getD, p, q] using this
  · rintro rfl; rfl
theorem list_off {xs ys : List Int} {k : Nat} (h : xs.getD k 0 ≠ ys.getD k 0) : xs ≠ ys := fun e => h (e ▸ rfl)

set_option maxHeartbeats 1600000 in
set_option maxRecDepth 100000 in
theorem sEqual_any (va vb : Value) (xs ys : List Int) (w : World) (ha : RI w va xs) (hb : RI w vb ys) :
    Calls Tryz.prog 116 #[va, vb] w fun e w' => e = .returned (.bool (decide (xs = ys))) ∧ ∃ n, w' = w.drewN n := by
  obtain ⟨hl, ao, ca, rfl, ha⟩ := ha
  obtain ⟨hl', bo, cb, rfl, hb⟩ := hb
  have EN := hide fun k h1 h2 h he => list_end (xs := xs) (ys := ys) (k := k) h1 h2 h he
  have OF := hide fun k h => list_off (xs := xs) (ys := ys) (k := k) h
  have HE : Hid (∀ b, (xs = ys ↔ b = true) → decide (xs = ys) = b) := hide fun b h => by
    cases b
    · simpa using h
    · simpa using h
  have HL : Hid (xs = ys → xs.length = ys.length) := hide fun h => h ▸ rfl
  obtain ⟨n, hn⟩ : ∃ n, xs.length = n := ⟨_, rfl⟩
  obtain ⟨m, hm⟩ : ∃ m, ys.length = m := ⟨_, rfl⟩
  rw [hn] at ha EN hl HL ⊢
  rw [hm] at hb EN hl' HL ⊢
  have Hn : Hid (xs.length = n) := hn
  have Hm : Hid (ys.length = m) := hm
  clear hn hm
  generalize decide (xs = ys) = q at *
  by_cases hnm : n = m
  · subst hnm
    go_enter Tryz.func116, Tryz.ntmps116
    go_wp2
    go_loopw [13] (fun i wr => ∃ k : Nat, k ≤ n ∧ i = .int .i64 k ∧ (∀ j, j < k → xs.getD j 0 = ys.getD j 0) ∧ ∃ d, wr = w.drewN d) (fun i _ => n - (intOf i).toNat)
    case atStart => exact ⟨0, Nat.zero_le _, rfl, fun j hj => by omega, 0, rfl⟩
    case round =>
      obtain ⟨k, hk, rfl, he, d, rfl⟩ := hrel
      have he := hide he
      by_cases hlt : k < n
      · rcases ha with ha | ⟨b, off, rfl, ha⟩
        · subst ha; have := Hn.out; simp at this; omega
        rcases hb with hb | ⟨b', off', rfl, hb⟩
        · subst hb; have := Hm.out; simp at this; omega
        have ha' := ha k hlt
        have hb' := hb k hlt
        have ER := hide fun (e : xs.getD k 0 = ys.getD k 0) j (hj : j < k + 1) => (by
          by_cases h : j = k
          · subst h; exact e
          · exact unhide he j (by omega) : xs.getD j 0 = ys.getD j 0)
        have OK := hide fun h => unhide OF k h
        clear ha hb
        generalize xs.getD k 0 = x at *
        generalize ys.getD k 0 = y at *
        by_cases hxy : x = y
        · subst hxy
          replace ER := hide (unhide ER rfl)
          clear OK
          go_wp2_with fail
          go_quiet (fail)
          go_wp2
          go_roundw
          case rel => exact ⟨k + 1, by omega, by go_num, unhide ER, _, rfl⟩
          case measure => simp [intOf]; omega
        · have hq : q = false := unhide HE false (by simp; exact unhide OK hxy)
          subst hq
          have hx : (x == y) = false := by simpa using hxy
          go_wp2_with fail
          go_quiet (fail)
          go_wp2
          go_ret
          exact ⟨rfl, d + nq, by simp [World.drewN, Nat.add_assoc]⟩
      · have hnm := unhide EN k hk hk (by omega) (unhide he)
        have hq : q = true := unhide HE true (by simpa using hnm)
        have hc : decide ((k : Int) < (n : Int)) = false := by simp; omega
        subst hq
        clear ha hb
        go_wp2
        go_ret
        exact ⟨rfl, _, rfl⟩
  · have hq : q = false := unhide HE false (by simp; intro e; exact hnm (unhide HL e))
    have hd : ((n : Int) == (m : Int)) = false := by simp; omega
    subst hq
    clear ha hb
    go_enter Tryz.func116, Tryz.ntmps116
    go_wp2
    go_ret
    exact ⟨rfl, 0, rfl⟩

/-- Whether two certificates are alike. -/
def alikeB (n m : Int) (s t : ByteArray) (xs ys : List Int) : Bool := decide (n = m ∧ s = t ∧ xs = ys)

set_option maxHeartbeats 1600000 in
set_option maxRecDepth 100000 in
theorem qsame_any (g g' : Nat) (n m : Int) (s t : ByteArray) (va vb : Value) (xs ys : List Int) (w : World) (hg : Loc w g #[.int .i64 n, .string s, va]) (hg' : Loc w g' #[.int .i64 m, .string t, vb]) (ha : RI w va xs) (hb : RI w vb ys) :
    Calls Tryz.prog 71 #[.pointer (some ⟨g, 0, none⟩), .pointer (some ⟨g', 0, none⟩)] w fun e w' => e = .returned (.bool (alikeB n m s t xs ys)) ∧ ∃ d, w' = w.drewN d := by
  have EQ := hide fun d => sEqual_any va vb xs ys (w.drewN d) (ha) (hb)
  have x0 := hg.cell 0 rfl
  have x1 := hg.cell 1 rfl
  have x2 := hg.cell 2 rfl
  have y0 := hg'.cell 0 rfl
  have y1 := hg'.cell 1 rfl
  have y2 := hg'.cell 2 rfl
  clear ha hb hg hg'
  by_cases h1 : n = m
  · by_cases h2 : s = t
    · have hq : alikeB n m s t xs ys = decide (xs = ys) := by simp [alikeB, h1, h2]
      rw [hq]
      subst h1 h2
      clear hq
      go_enter Tryz.func71, Tryz.ntmps71
      go_wp2_with fail
      go_quiet (first | (go_at_call 116; exact Calls.quiet_of (unhide EQ _)))
      go_wp2
      go_ret
      exact ⟨rfl, _, rfl⟩
    · have hq : alikeB n m s t xs ys = false := by simp [alikeB, h2]
      rw [hq]
      subst h1
      have hd := str_ne h2
      clear hq
      go_enter Tryz.func71, Tryz.ntmps71
      go_wp2_with fail
      go_quiet (fail)
      go_wp2
      go_ret
      exact ⟨rfl, _, rfl⟩
  · have hq : alikeB n m s t xs ys = false := by simp [alikeB, h1]
    rw [hq]
    have hd : (n == m) = false := by simpa using h1
    clear hq
    go_enter Tryz.func71, Tryz.ntmps71
    go_wp2_with fail
    go_quiet (fail)
    go_wp2
    go_ret
    exact ⟨rfl, _, rfl⟩
end Go.Proofs.YtehdchpolgihlaaGreatDoor
