/- Texts that belong together: SetPlain, SpecSets, DrawSets, HeldBy, PartOne, StepAppend, CurMore, Conf. -/
import Derived.WalkKit
import Derived.Test.YtehdchpolgihlaaDbAB
import Derived.Deep.RegionHeld3
import Derived.Test.YtehdchpolgihlaaDbAA
import Derived.Test.YtehdchpolgihlaaDbAF
import Derived.Below
import Derived.Maps.AppendAt
import Derived.Deep.RegionLaw
import Derived.Test.YtehdchpolgihlaaDbAD
import Derived.Deep.DeepCutAuto
/- Sets as lists of numbers: plain mathematics. -/
namespace Go.Proofs.Ytehdchpolgihlaa

/-- What SetAdd answers. -/
def addL (s : List Int) (i : Int) : List Int := if i ∈ s then s else s.takeWhile (fun x => decide (x < i)) ++ i :: s.dropWhile (fun x => decide (x < i))
/-- What SetJoin answers. -/
def joinL (a b : List Int) : List Int := (a ++ b).foldl addL []
/-- What Common answers. -/
def comL (a b : List Int) : Nat := (a.filter fun x => decide (x ∈ b)).length
/-- What SetOk answers. -/
def OkL (n : Int) (s : List Int) : Prop := (∀ x ∈ s, 0 ≤ x ∧ x < n) ∧ s.Pairwise (· < ·)
theorem mem_add (s : List Int) (i x : Int) : x ∈ addL s i ↔ x ∈ s ∨ x = i := by
  unfold addL
  split
  · rename_i h
    constructor
    · exact .inl
    · rintro (h1 | rfl)
      · exact h1
      · exact h
  · have e := List.takeWhile_append_dropWhile (p := fun x => decide (x < i)) (l := s)
    have h2 : x ∈ s ↔ x ∈ s.takeWhile (fun x => decide (x < i)) ∨ x ∈ s.dropWhile (fun x => decide (x < i)) := by
      conv => lhs; rw [← e]
      exact List.mem_append
    simp only [List.mem_append, List.mem_cons, h2]
    constructor
    · rintro (h | h | h)
      · exact .inl (.inl h)
      · exact .inr h
      · exact .inl (.inr h)
    · rintro ((h | h) | h)
      · exact .inl h
      · exact .inr (.inr h)
      · exact .inr (.inl h)
theorem tw_lt (i : Int) (s : List Int) : ∀ x ∈ s.takeWhile (fun x => decide (x < i)), x < i := fun x hx => by
  have := List.all_takeWhile (p := fun x => decide (x < i)) (l := s)
  simpa using List.all_eq_true.1 this x hx
theorem dw_ge (i : Int) (s : List Int) (hs : s.Pairwise (· < ·)) : ∀ x ∈ s.dropWhile (fun x => decide (x < i)), i ≤ x := by
  induction s with
  | nil => simp
  | cons c s ih =>
    rw [List.dropWhile_cons]
    obtain ⟨h1, h2⟩ := List.pairwise_cons.1 hs
    split
    · exact ih h2
    · rename_i hc
      simp at hc
      intro x hx
      rcases List.mem_cons.1 hx with rfl | hx
      · exact hc
      · have := h1 x hx; omega
theorem add_asc (s : List Int) (i : Int) (hs : s.Pairwise (· < ·)) : (addL s i).Pairwise (· < ·) := by
  unfold addL
  split
  · exact hs
  · rename_i hn
    have e := List.takeWhile_append_dropWhile (p := fun x => decide (x < i)) (l := s)
    have hs' := hs
    rw [← e] at hs'
    obtain ⟨h1, h2, h3⟩ := List.pairwise_append.1 hs'
    refine List.pairwise_append.2 ⟨h1, List.pairwise_cons.2 ⟨fun x hx => ?_, h2⟩, fun x hx y hy => ?_⟩
    · have h4 := dw_ge i s hs x hx
      have : x ≠ i := fun e2 => hn (by rw [← e2, ← e]; exact List.mem_append_right _ hx)
      omega
    · rcases List.mem_cons.1 hy with rfl | hy
      · exact tw_lt _ s x hx
      · exact h3 x hx y hy
theorem fold_mem (l s : List Int) (x : Int) : x ∈ l.foldl addL s ↔ x ∈ s ∨ x ∈ l := by
  induction l generalizing s with
  | nil => simp
  | cons c l ih => rw [List.foldl_cons, ih, mem_add, List.mem_cons, or_assoc]
theorem fold_asc (l s : List Int) (hs : s.Pairwise (· < ·)) : (l.foldl addL s).Pairwise (· < ·) := by
  induction l generalizing s with
  | nil => exact hs
  | cons c l ih => exact ih _ (add_asc s c hs)
theorem mem_join (a b : List Int) (x : Int) : x ∈ joinL a b ↔ x ∈ a ∨ x ∈ b := by
  unfold joinL; rw [fold_mem]; simp
theorem join_asc (a b : List Int) : (joinL a b).Pairwise (· < ·) := fold_asc _ _ List.Pairwise.nil
/-- Two ascending lists of the same numbers are one. -/
theorem asc_ext : ∀ {s t : List Int}, s.Pairwise (· < ·) → t.Pairwise (· < ·) → (∀ x, x ∈ s ↔ x ∈ t) → s = t
  | [], [], _, _, _ => rfl
  | [], b :: t, _, _, h => by have := (h b).2 (by simp); simp at this
  | a :: s, [], _, _, h => by have := (h a).1 (by simp); simp at this
  | a :: s, b :: t, hs, ht, h => by
    obtain ⟨h1, h2⟩ := List.pairwise_cons.1 hs
    obtain ⟨h3, h4⟩ := List.pairwise_cons.1 ht
    have e : a = b := by
      have ha := (h a).1 (by simp)
      have hb := (h b).2 (by simp)
      rcases List.mem_cons.1 ha with e | ha
      · exact e
      · rcases List.mem_cons.1 hb with e | hb
        · exact e.symm
        · have := h3 a ha; have := h1 b hb; omega
    subst e
    rw [asc_ext h2 h4 fun x => ?_]
    constructor
    · intro hx
      have := (h x).1 (by simp [hx])
      rcases List.mem_cons.1 this with e | h5
      · have := h1 x hx; omega
      · exact h5
    · intro hx
      have := (h x).2 (by simp [hx])
      rcases List.mem_cons.1 this with e | h5
      · have := h3 x hx; omega
      · exact h5
theorem join_comm (a b : List Int) : joinL a b = joinL b a := asc_ext (join_asc a b) (join_asc b a) fun x => by rw [mem_join, mem_join]; exact or_comm
/-- An ascending list of all numbers of both is what is joined. -/
theorem join_is {a b t : List Int} (ht : t.Pairwise (· < ·)) (h : ∀ x, x ∈ t ↔ x ∈ a ∨ x ∈ b) : t = joinL a b := asc_ext ht (join_asc a b) fun x => by rw [h, mem_join]
theorem asc_nodup {s : List Int} (h : s.Pairwise (· < ·)) : s.Nodup := h.imp fun hlt e => by omega
theorem com_split (a b : List Int) : (a.filter fun x => decide (x ∉ b)).length + comL a b = a.length := by
  unfold comL
  induction a with
  | nil => rfl
  | cons c a ih =>
    simp only [List.filter_cons, List.length_cons]
    by_cases h : c ∈ b
    · simp [h]; simp at ih; omega
    · simp [h]; simp at ih; omega
theorem join_len (a b : List Int) (ha : a.Pairwise (· < ·)) (hb : b.Pairwise (· < ·)) : (joinL a b).length + comL a b = a.length + b.length := by
  have hp : (joinL a b).Perm ((a.filter fun x => decide (x ∉ b)) ++ b) := by
    refine (List.perm_ext_iff_of_nodup (asc_nodup (join_asc a b)) ?_).2 fun x => ?_
    · refine List.nodup_append.2 ⟨(asc_nodup ha).filter _, asc_nodup hb, fun x hx y hy e => ?_⟩
      subst e
      have := (List.mem_filter.1 hx).2
      simp at this
      exact this hy
    · rw [mem_join, List.mem_append, List.mem_filter]
      by_cases h : x ∈ b
      · simp [h]
      · simp [h]
  rw [hp.length_eq, List.length_append]
  have := com_split a b
  omega
theorem com_comm (a b : List Int) (ha : a.Pairwise (· < ·)) (hb : b.Pairwise (· < ·)) : comL a b = comL b a := by
  have h1 := join_len a b ha hb
  have h2 := join_len b a hb ha
  rw [join_comm] at h1
  omega
theorem com_le (a b : List Int) : comL a b ≤ a.length := by have := com_split a b; omega
theorem add_len (s : List Int) (i : Int) : (addL s i).length ≤ s.length + 1 := by
  unfold addL
  split
  · omega
  · have e := congrArg List.length (List.takeWhile_append_dropWhile (p := fun x => decide (x < i)) (l := s))
    rw [List.length_append] at e
    rw [List.length_append, List.length_cons]; omega
theorem fold_len (l s : List Int) : (l.foldl addL s).length ≤ s.length + l.length := by
  induction l generalizing s with
  | nil => simp
  | cons c l ih =>
    have h1 := ih (addL s c)
    have h2 := add_len s c
    rw [List.foldl_cons, List.length_cons]; omega
theorem fold_snoc (l s : List Int) (x : Int) : (l ++ [x]).foldl addL s = addL (l.foldl addL s) x := by rw [List.foldl_append]; rfl
theorem ok_join {n : Int} {a b : List Int} (ha : OkL n a) (hb : OkL n b) : OkL n (joinL a b) := ⟨fun x hx => by
  rcases (mem_join a b x).1 hx with h | h
  · exact ha.1 x h
  · exact hb.1 x h, join_asc a b⟩
/-- Each is a number that the program's int holds. -/
def WfL (xs : List Int) : Prop := ∀ x ∈ xs, (Lit.int .i64 x).wf = true
theorem WfL.at {xs : List Int} (h : WfL xs) (k : Nat) (hk : k < xs.length) : (Lit.int .i64 (xs.getD k 0)).wf = true := by
  rw [List.getD_eq_getElem?_getD, List.getElem?_eq_getElem hk]; exact h _ (List.getElem_mem hk)
end Go.Proofs.Ytehdchpolgihlaa

/- spec.SetHas, SetOk, SetAdd, SetJoin, Common. -/
namespace Go.Proofs.Ytehdchpolgihlaa
open Go.RowKit

theorem itake_more (xs : List Int) (k : Nat) (h : k < xs.length) : xs.take (k + 1) = xs.take k ++ [xs.getD k 0] := by
  rw [List.take_succ_eq_append_getElem h, List.getD_eq_getElem?_getD, List.getElem?_eq_getElem h]; rfl
theorem getD_mem_int {xs : List Int} {k : Nat} (h : k < xs.length) : xs.getD k 0 ∈ xs := by
  rw [List.getD_eq_getElem?_getD, List.getElem?_eq_getElem h]; exact List.getElem_mem h

set_option maxHeartbeats 1600000 in
set_option maxRecDepth 100000 in
theorem specSetHas (v : Value) (xs : List Int) (i : Int) (w : World) (h : RI w v xs) :
    Calls Try.prog 76 #[v, .int .i64 i] w fun e w' => e = .returned (.bool (decide (i ∈ xs))) ∧ w' = w := by
  have hl := h.1
  obtain ⟨ao, ca, rfl⟩ := h.form
  have H := hide h
  obtain ⟨n, hn⟩ : ∃ n, xs.length = n := ⟨_, rfl⟩
  have Hn := hide hn
  obtain ⟨r, hr⟩ : ∃ r, decide (i ∈ xs) = r := ⟨_, rfl⟩
  have HR := hide hr
  rw [hn] at hl H ⊢
  rw [hr]
  clear h hn hr
  go_enter Try.func76, Try.ntmps76
  go_wp2
  go_loopw [5] (fun j wr => ∃ k : Nat, k ≤ n ∧ j = .int .i64 k ∧ Hid (i ∉ xs.take k) ∧ wr = w) (fun j _ => n - (intOf j).toNat)
  case atStart => exact ⟨0, Nat.zero_le _, rfl, hide (by simp), rfl⟩
  case round =>
    obtain ⟨k, hk, rfl, HK, rfl⟩ := hrel
    by_cases hlt : k < n
    · have hkx : k < xs.length := by have := unhide Hn; omega
      obtain ⟨b, off, rfl, c⟩ := (unhide H).at k hkx
      have HT := hide (itake_more xs k hkx)
      have HM := hide (getD_mem_int hkx)
      generalize xs.getD k 0 = d at *
      by_cases e : d = i
      · subst e
        have hrr : r = true := by rw [← unhide HR]; exact decide_eq_true (unhide HM)
        subst hrr
        clear HT HM HK
        go_wp2
        go_ret
        exact ⟨rfl, rfl⟩
      · have HK' : Hid (i ∉ xs.take (k + 1)) := hide (by rw [unhide HT]; simp; exact ⟨unhide HK, fun e2 => e e2.symm⟩)
        have e' : decide (d = i) = false := by simpa using e
        have e2 : (d == i) = false := by simpa using e
        clear HT HM HK
        go_wp2
        go_roundw
        case rel => exact ⟨k + 1, by omega, by go_num, HK', by first | rfl | trivial⟩
        case measure => simp [intOf]; omega
    · have hkn : k = xs.length := by have := unhide Hn; omega
      have hrr : r = false := by
        rw [← unhide HR]
        have := unhide HK
        rw [hkn, List.take_of_length_le (Nat.le_refl _)] at this
        exact decide_eq_false this
      subst hrr
      clear HK
      go_wp2
      go_ret
      exact ⟨rfl, rfl⟩

set_option maxHeartbeats 4000000 in
set_option maxRecDepth 100000 in
theorem specSetAdd (v : Value) (xs : List Int) (i : Int) (w : World) (h : RI w v xs) (hc : Cap v) (hx : xs.length ≤ 4194303) :
    Calls Try.prog 60 #[v, .int .i64 i] w fun e w' => ∃ u, e = .returned u ∧ OI w' w.heap.size u (addL xs i) ∧ Below w.heap.size w w' := by
  have SH := hide fun w h => specSetHas v xs i w h
  obtain ⟨ao, ca, rfl⟩ := h.form
  obtain ⟨hcn, hcm⟩ : xs.length ≤ ca ∧ ca ≤ maxLen := by obtain ⟨_, _, _, e, h1, h2⟩ := hc; cases e; exact ⟨h1, h2⟩
  unfold maxLen at hcm
  have H := hide h
  have HP := hide h.pi
  clear h hc
  have O0 : OI (w.alloc (.cells #[] 3)) w.heap.size (.slice (some ⟨w.heap.size, 0, none⟩) 0 0) [] := by
    have := World.ownsRow_lit (base := w.heap.size) (e := 3) (size := 1) w #[] 0 (Nat.le_refl _) (by unfold maxLen; omega) (by simp)
    simpa [OI] using this
  have b0 : Below w.heap.size w (w.alloc (.cells #[] 3)) := (Below.refl _ _).alloc (Nat.le_refl _) _
  have P0 := hide ((unhide HP).below b0)
  by_cases hm : i ∈ xs
  · have ea : addL xs i = xs := if_pos hm
    rw [ea]
    rw [decide_eq_true hm] at SH
    clear hm ea
    go_enter Try.func60, Try.ntmps60
    go_wp2_with fail
    refine (unhide SH _ (unhide H)).mono ?_
    rintro _ w1 ⟨rfl, rfl⟩
    go_wp2_with (first | (at_builtin; refine append_ints rfl _ _ rfl w1.heap.size (.slice (some ⟨w1.heap.size, 0, none⟩) 0 0) (.slice ao xs.length ca) [] xs rfl rfl O0 (unhide P0) (by simp; omega) (by simp) ?_; intro v' w2 ho' hg' _; have RB := b0.grown hg' (by simp) (fun j e => by simp [Value.ownBlock] at e; omega); clear hg'))
    go_ret
    exact ⟨_, rfl, by simpa using ho', RB⟩
  · have ea : addL xs i = xs.takeWhile (fun x => decide (x < i)) ++ i :: xs.dropWhile (fun x => decide (x < i)) := if_neg hm
    rw [decide_eq_false hm] at SH
    have EA := hide ea
    clear hm ea
    obtain ⟨n, hn⟩ : ∃ n, xs.length = n := ⟨_, rfl⟩
    have Hn := hide hn
    rw [hn] at H P0 hx hcn SH HP ⊢
    clear hn
    go_enter Try.func60, Try.ntmps60
    go_wp2_with fail
    refine (unhide SH _ (unhide H)).mono ?_
    rintro _ w1 ⟨rfl, rfl⟩
    go_wp2
    go_loopw [5] (fun j wr => ∃ k : Nat, k ≤ n ∧ j = .int .i64 k ∧ Hid (∀ x ∈ xs.take k, x < i) ∧ wr = w1) (fun j _ => n - (intOf j).toNat)
    case atStart => exact ⟨0, Nat.zero_le _, rfl, hide (by simp), rfl⟩
    case round =>
      obtain ⟨k, hk, rfl, HK, rfl⟩ := hrel
      have FIN : Hid ((k < n → ¬ xs.getD k 0 < i) → addL xs i = xs.take k ++ i :: xs.drop k) := hide fun hst => by
        have hkx : k ≤ xs.length := by have := unhide Hn; omega
        have e1 : xs.takeWhile (fun x => decide (x < i)) = xs.take k ∧ xs.dropWhile (fun x => decide (x < i)) = xs.drop k := by
          have hall : ∀ x ∈ xs.take k, (decide (x < i)) = true := fun x hx => by simpa using unhide HK x hx
          have hd : xs.drop k = [] ∨ ∃ c t, xs.drop k = c :: t ∧ ¬ c < i := by
            by_cases hlt : k < xs.length
            · right
              refine ⟨_, _, List.drop_eq_getElem_cons hlt, ?_⟩
              have := hst (by have := unhide Hn; omega)
              rwa [List.getD_eq_getElem?_getD, List.getElem?_eq_getElem hlt] at this
            · left; exact List.drop_of_length_le (by omega)
          conv => lhs; lhs; rw [← List.take_append_drop k xs]
          conv => rhs; lhs; rw [← List.take_append_drop k xs]
          rw [List.takeWhile_append_of_pos hall, List.dropWhile_append_of_pos hall]
          rcases hd with e | ⟨c, t, e, hc⟩
          · rw [e]; simp
          · rw [e]; simp [hc]
        rw [unhide EA, e1.1, e1.2]
      by_cases hgo : k < n ∧ xs.getD k 0 < i
      · obtain ⟨hlt, hd⟩ := hgo
        have hkx : k < xs.length := by have := unhide Hn; omega
        obtain ⟨b, off, rfl, c⟩ := (unhide H).at k hkx
        have HT := hide (itake_more xs k hkx)
        generalize xs.getD k 0 = d at *
        have HK' : Hid (∀ x ∈ xs.take (k + 1), x < i) := hide (by
          rw [unhide HT]; intro x hx
          rcases List.mem_append.1 hx with hx | hx
          · exact unhide HK x hx
          · simp at hx; subst hx; exact hd)
        have hd' : decide (d < i) = true := by simpa using hd
        clear HT HK FIN hd
        go_wp2
        go_roundw
        case rel => exact ⟨k + 1, by omega, by go_num, HK', by first | rfl | trivial⟩
        case measure => simp [intOf]; omega
      · have F := hide (unhide FIN fun hlt hd => hgo ⟨hlt, hd⟩)
        have p1 := (unhide P0).take k hk ca
        have p2 := (unhide HP).drop k (ca - k) (bo := if ca = k then ao else ao.map (·.add (k * 1))) (fun hlt => if_neg (by omega))
        have hs1 : ∀ w, (Instr.slice 29 (.slice ao n ca) none (some (.int .i64 (k : Int))) none).run Try.prog w = .ok (.slice ao k ca) w := fun w => icut_to ao n ca k w (by omega)
        have hs2 : ∀ w, (Instr.slice 29 (.slice ao n ca) (some (.int .i64 (k : Int))) none none).run Try.prog w = .ok (.slice (if ca = k then ao else ao.map (·.add (k * 1))) (n - k) (ca - k)) w := fun w => icut_from ao n ca k w hk
        generalize (if ca = k then ao else ao.map (·.add (k * 1))) = bo at *
        have P1 := hide p1
        have P2 := hide p2
        have hlk : (xs.take k).length = k := by rw [List.length_take]; have := unhide Hn; omega
        have hld : (xs.drop k).length = n - k := by rw [List.length_drop, unhide Hn]
        have HLK := hide hlk
        have HLD := hide hld
        clear p1 p2 hlk hld FIN HK
        generalize xs.take k = fs at *
        generalize xs.drop k = bs at *
        have sz0 : wr.heap.size + 1 = (wr.alloc (.cells #[] 3)).heap.size := by simp
        have A1 : Hid True := hide trivial
        have A2 : Hid True := hide trivial
        have A3 : Hid True := hide trivial
        have EX : Hid (k < n → ∃ b off d, ao = some ⟨b, off, none⟩ ∧ wr.cell? ⟨b, off + k, none⟩ = some (.int .i64 d) ∧ ¬ d < i) := hide fun hlt => by
          obtain ⟨b, off, e, c⟩ := (unhide H).at k (by have := unhide Hn; omega)
          exact ⟨b, off, _, e, c, fun hd => hgo ⟨hlt, hd⟩⟩
        clear hgo
        by_cases hlt : k < n
        · obtain ⟨b, off, d, rfl, c, hd⟩ := unhide EX hlt
          have hd' : decide (d < i) = false := by simpa using hd
          clear EX hd
          go_wp2_with (first
            | (at_builtin; have hh := A1; refine append_ints rfl _ _ rfl wr.heap.size (.slice (some ⟨wr.heap.size, 0, none⟩) 0 0) (.slice (some ⟨b, off, none⟩) k ca) [] (fs) rfl rfl O0 (unhide P1) (by rw [unhide HLK]; simp; omega) (by simp) ?_; intro v1 w2 ho1 hg1 hb1; have O1 : OI w2 wr.heap.size v1 (fs) := (by simpa using ho1); have B1 := b0.grown hg1 (by simp) (fun j e => by simp [Value.ownBlock] at e; omega); have l1 := World.ownsRow.lt O1; obtain ⟨a1, c1, rfl⟩ := O1.form; have O1' := hide (World.ownsRow.alloc O1 (.cells #[.int .i64 i] 3)); have B1' := B1.trans ((((Below.refl _ w2).alloc (Nat.le_refl _) (.cells #[.int .i64 i] 3))).mono B1.size); clear A1 ho1 hg1 hb1 O1)
            | (at_builtin; have hh := A2; refine append_ints rfl _ _ rfl wr.heap.size (.slice a1 fs.length c1) (.slice (some ⟨w2.heap.size, 0, none⟩) 1 1) (fs) [i] rfl rfl (unhide O1') ⟨_, _, rfl, .inr ⟨_, rfl, cell_one_new _ _ _⟩⟩ (by rw [unhide HLK]; simp; omega) B1'.size ?_; intro v2 w3 ho2 hg2 hb2; have B2 := B1'.grown hg2 B1'.size (fun j e => (l1 j e).1); obtain ⟨a2, c2, hv2⟩ := ho2.form; rw [List.length_append, List.length_singleton] at hv2; subst hv2; have O2 := hide ho2; have l2 := World.ownsRow.lt ho2; have P3 := hide ((unhide P2).below B2); clear A2 ho2 hg2 hb2)
            | (at_builtin; have hh := A3; refine append_ints rfl _ _ rfl wr.heap.size (.slice a2 (fs.length + 1) c2) (.slice bo (n - k) (ca - k)) (fs ++ [i]) (bs) rfl rfl (unhide O2) (unhide P3) (by rw [unhide HLD, List.length_append, unhide HLK]; simp; omega) B2.size ?_; intro v3 w4 ho3 hg3 hb3; have B3 := B2.grown hg3 B2.size (fun j e => (l2 j e).1); clear A3 hg3 hb3))
          go_ret
          exact ⟨_, rfl, by rw [unhide F]; simpa using ho3, B3⟩
        · have hd0 : decide ((k : Int) < (n : Int)) = false := by simp; omega
          clear EX
          go_wp2_with (first
            | (at_builtin; have hh := A1; refine append_ints rfl _ _ rfl wr.heap.size (.slice (some ⟨wr.heap.size, 0, none⟩) 0 0) (.slice ao k ca) [] (fs) rfl rfl O0 (unhide P1) (by rw [unhide HLK]; simp; omega) (by simp) ?_; intro v1 w2 ho1 hg1 hb1; have O1 : OI w2 wr.heap.size v1 (fs) := (by simpa using ho1); have B1 := b0.grown hg1 (by simp) (fun j e => by simp [Value.ownBlock] at e; omega); have l1 := World.ownsRow.lt O1; obtain ⟨a1, c1, rfl⟩ := O1.form; have O1' := hide (World.ownsRow.alloc O1 (.cells #[.int .i64 i] 3)); have B1' := B1.trans ((((Below.refl _ w2).alloc (Nat.le_refl _) (.cells #[.int .i64 i] 3))).mono B1.size); clear A1 ho1 hg1 hb1 O1)
            | (at_builtin; have hh := A2; refine append_ints rfl _ _ rfl wr.heap.size (.slice a1 fs.length c1) (.slice (some ⟨w2.heap.size, 0, none⟩) 1 1) (fs) [i] rfl rfl (unhide O1') ⟨_, _, rfl, .inr ⟨_, rfl, cell_one_new _ _ _⟩⟩ (by rw [unhide HLK]; simp; omega) B1'.size ?_; intro v2 w3 ho2 hg2 hb2; have B2 := B1'.grown hg2 B1'.size (fun j e => (l1 j e).1); obtain ⟨a2, c2, hv2⟩ := ho2.form; rw [List.length_append, List.length_singleton] at hv2; subst hv2; have O2 := hide ho2; have l2 := World.ownsRow.lt ho2; have P3 := hide ((unhide P2).below B2); clear A2 ho2 hg2 hb2)
            | (at_builtin; have hh := A3; refine append_ints rfl _ _ rfl wr.heap.size (.slice a2 (fs.length + 1) c2) (.slice bo (n - k) (ca - k)) (fs ++ [i]) (bs) rfl rfl (unhide O2) (unhide P3) (by rw [unhide HLD, List.length_append, unhide HLK]; simp; omega) B2.size ?_; intro v3 w4 ho3 hg3 hb3; have B3 := B2.grown hg3 B2.size (fun j e => (l2 j e).1); clear A3 hg3 hb3))
          go_ret
          exact ⟨_, rfl, by rw [unhide F]; simpa using ho3, B3⟩

set_option maxHeartbeats 4000000 in
set_option maxRecDepth 100000 in
theorem specSetJoin (va vb : Value) (xs bs : List Int) (w : World) (ha : RI w va xs) (hb : RI w vb bs) (hl : xs.length + bs.length ≤ 4194303) :
    Calls Try.prog 68 #[va, vb] w fun e w' => ∃ u, e = .returned u ∧ OI w' w.heap.size u (joinL xs bs) ∧ Below w.heap.size w w' := by
  obtain ⟨aa, ca, rfl⟩ := ha.form
  obtain ⟨ba, cb, rfl⟩ := hb.form
  have HA := hide ha
  have HB := hide hb
  obtain ⟨n, hn⟩ : ∃ n, xs.length = n := ⟨_, rfl⟩
  obtain ⟨m, hm⟩ : ∃ n, bs.length = n := ⟨_, rfl⟩
  have Hn := hide hn
  have Hm := hide hm
  rw [hn] at HA hl ⊢
  rw [hm] at HB hl ⊢
  clear ha hb hn hm
  have O0 : OI (w.alloc (.cells #[] 3)) w.heap.size (.slice (some ⟨w.heap.size, 0, none⟩) 0 0) [] := by
    have := World.ownsRow_lit (base := w.heap.size) (e := 3) (size := 1) w #[] 0 (Nat.le_refl _) (by unfold maxLen; omega) (by simp)
    simpa [OI] using this
  have b0 : Below w.heap.size w (w.alloc (.cells #[] 3)) := (Below.refl _ _).alloc (Nat.le_refl _) _
  go_enter Try.func68, Try.ntmps68
  go_wp2
  go_loopw [5, 6] (fun out j wr => ∃ k : Nat, k ≤ n ∧ j = .int .i64 k ∧ OI wr w.heap.size out ((xs.take k).foldl addL []) ∧ Below w.heap.size w wr) (fun _ j _ => n - (intOf j).toNat)
  case atStart => exact ⟨0, Nat.zero_le _, rfl, O0, b0⟩
  case round =>
    clear O0 b0
    obtain ⟨k, hk, rfl, ho, br⟩ := hrel
    have hsr := br.size
    by_cases hlt : k < n
    · have hkx : k < xs.length := by have := unhide Hn; omega
      obtain ⟨b, off, rfl, c⟩ := ((unhide HA).below br (Nat.le_refl _)).at k hkx
      have HT := hide (show (xs.take (k + 1)).foldl addL [] = addL ((xs.take k).foldl addL []) (xs.getD k 0) by rw [itake_more xs k hkx, fold_snoc])
      have hfl := fold_len (xs.take k) []
      rw [List.length_take, List.length_nil] at hfl
      generalize xs.getD k 0 = d at *
      generalize (xs.take k).foldl addL [] = acc at *
      have SA := hide (specSetAdd _ acc d _ (ho.ri (by omega)) ho.cap (by omega))
      obtain ⟨oa, oc, rfl⟩ := ho.form
      clear ho hfl
      go_wp2_with fail
      refine (unhide SA).mono ?_
      rintro _ w1 ⟨u, rfl, o1, b1⟩
      obtain ⟨ua, uc, rfl⟩ := o1.form
      have O1 := OI.mono o1 hsr
      have B1 := br.trans (b1.mono hsr)
      clear o1 b1 SA
      go_wp2
      go_roundw
      case rel => exact ⟨k + 1, by omega, by go_num, by rw [unhide HT]; exact O1, B1⟩
      case measure => simp [intOf]; omega
    · have hkn : k = xs.length := by have := unhide Hn; omega
      have e1 : xs.take k = xs := List.take_of_length_le (by omega)
      rw [e1] at ho
      have HO := hide ho
      have hd0 : decide ((k : Int) < (n : Int)) = false := by simp; omega
      clear ho hkn e1
      obtain ⟨oa, oc, ho0⟩ := (unhide HO).form
      go_wp2
      go_loopw [5, 7] (fun out j wq => ∃ k : Nat, k ≤ m ∧ j = .int .i64 k ∧ OI wq w.heap.size out ((xs ++ bs.take k).foldl addL []) ∧ Below w.heap.size w wq) (fun _ j _ => m - (intOf j).toNat)
      case atStart => exact ⟨0, Nat.zero_le _, rfl, by simpa using unhide HO, br⟩
      case round =>
        clear HO br
        obtain ⟨k2, hk2, rfl, ho, br⟩ := hrel
        have hsr2 := br.size
        by_cases hlt2 : k2 < m
        · have hkx : k2 < bs.length := by have := unhide Hm; omega
          obtain ⟨b, off, rfl, c⟩ := ((unhide HB).below br (Nat.le_refl _)).at k2 hkx
          have HT := hide (show (xs ++ bs.take (k2 + 1)).foldl addL [] = addL ((xs ++ bs.take k2).foldl addL []) (bs.getD k2 0) by rw [itake_more bs k2 hkx, ← List.append_assoc, fold_snoc])
          have hfl := fold_len (xs ++ bs.take k2) []
          rw [List.length_append, unhide Hn, List.length_take, List.length_nil] at hfl
          generalize bs.getD k2 0 = d at *
          generalize (xs ++ bs.take k2).foldl addL [] = acc at *
          have SA := hide (specSetAdd _ acc d _ (ho.ri (by omega)) ho.cap (by omega))
          obtain ⟨oa2, oc2, rfl⟩ := ho.form
          clear ho hfl
          go_wp2_with fail
          refine (unhide SA).mono ?_
          rintro _ w1 ⟨u, rfl, o1, b1⟩
          obtain ⟨ua, uc, rfl⟩ := o1.form
          have O1 := OI.mono o1 hsr2
          have B1 := br.trans (b1.mono hsr2)
          clear o1 b1 SA
          go_wp2
          go_roundw
          case rel => exact ⟨k2 + 1, by omega, by go_num, by rw [unhide HT]; exact O1, B1⟩
          case measure => simp [intOf]; omega
        · have hkn : k2 = bs.length := by have := unhide Hm; omega
          have e1 : bs.take k2 = bs := List.take_of_length_le (by omega)
          rw [e1] at ho
          have HO := hide ho
          have hd2 : decide ((k2 : Int) < (m : Int)) = false := by simp; omega
          clear ho hkn e1
          go_wp2
          go_ret
          exact ⟨_, rfl, unhide HO, br⟩

end Go.Proofs.Ytehdchpolgihlaa

/- The draws of sets: spec.l6DrawSet, DrawSetOk, DrawSetHas, DrawSetAdd, DrawSetJoin. -/
namespace Go.Proofs.Ytehdchpolgihlaa
open Go.RowKit

theorem kp_to {a b : World} {g : Nat} (h : Kp a b (fun k => k = g)) : a.grownBy b (some g) :=
  ⟨h.os, h.tape, h.output, h.size, fun j hj hx => h.block j hj (fun e => hx (e ▸ rfl))⟩
theorem kp_of {a b : World} {g : Nat} (h : a.grownBy b (some g)) : Kp a b (fun k => k = g) := (kp_grown h).mono fun k e => by simpa using e.symm

theorem wf_small {x : Int} (h0 : -256 ≤ x) (h1 : x ≤ 256) : (Lit.int .i64 x).wf = true := by
  simp only [Lit.wf, IntKind.min, IntKind.max, IntKind.signed, IntKind.bits, Bool.and_eq_true, decide_eq_true_eq, if_true]
  omega
theorem wf_add {xs : List Int} {x : Int} (h : WfL xs) (hx : (Lit.int .i64 x).wf = true) : WfL (addL xs x) := fun y hy => by
  rcases (mem_add xs x y).1 hy with h1 | rfl
  · exact h y h1
  · exact hx
theorem wf_snoc {xs : List Int} {x : Int} (h : WfL xs) (hx : (Lit.int .i64 x).wf = true) : WfL (xs ++ [x]) := fun y hy => by
  rcases List.mem_append.1 hy with h1 | h1
  · exact h y h1
  · simp at h1; subst h1; exact hx
set_option maxHeartbeats 8000000 in
set_option maxRecDepth 100000 in
theorem drawSet (base g ca : Nat) (ao : Option Addr) (zs : List Int) (n : Int) (w : World) (hB : base ≤ w.heap.size) (hn : 1 ≤ n) (hm : n ≤ 256) (h : Cur w base g ao ca zs) :
    Calls Try.prog 63 #[.pointer (some ⟨g, 0, none⟩), .int .i64 n] w fun e w' => ∃ v, ∃ xs : List Int, e = .returned v ∧ xs.length ≤ 9 ∧ Hid (WfL xs) ∧ OI w' w.heap.size v xs ∧ Cur w' base g ao ca zs ∧ w.grownBy w' (some g) := by
  have hlt := h.lt
  have O0 : OI (w.alloc (.cells #[] 3)) w.heap.size (.slice (some ⟨w.heap.size, 0, none⟩) 0 0) [] := by
    have := World.ownsRow_lit (base := w.heap.size) (e := 3) (size := 1) w #[] 0 (Nat.le_refl _) (by unfold maxLen; omega) (by simp)
    simpa [OI] using this
  have b0 : Below w.heap.size w (w.alloc (.cells #[] 3)) := (Below.refl _ _).alloc (Nat.le_refl _) _
  have C0 := h.below hB b0
  have K0 : Kp w (w.alloc (.cells #[] 3)) (fun k => k = g) := Below.kpOf b0 _
  clear h b0
  go_enter Try.func63, Try.ntmps63
  go_wp2
  go_loopw [5, 6] (fun out j wr => ∃ (k : Nat) (xs : List Int), k ≤ 8 ∧ j = .int .i64 k ∧ xs.length ≤ k ∧ Hid (WfL xs) ∧ OI wr w.heap.size out xs ∧ Cur wr base g ao ca zs ∧ Kp w wr (fun k => k = g)) (fun _ j _ => 8 - (intOf j).toNat)
  case atStart => exact ⟨0, [], by omega, rfl, by simp, hide (fun x hx => by simp at hx), O0, C0, K0⟩
  case round =>
    clear O0 C0 K0
    obtain ⟨k, xs, hk, rfl, hxl, WX, ho, C, K⟩ := hrel
    have sk := K.size
    obtain ⟨oa, oc, rfl⟩ := ho.form
    go_wp2_with fail
    refine (below_any base g ca ao zs 8 _ (by omega) (by omega) (by omega) C).mono ?_
    rintro _ w1 ⟨r, rfl, r0, r1, C1, g1⟩
    have k1 := kp_of g1
    have s1 := k1.size
    have l0 := World.ownsRow.lt ho
    have O1 := OI.kp ho k1 (fun j hj e => by have := (l0 j hj).1; omega)
    have K1 := K.trans k1
    clear C K g1 k1 ho l0
    by_cases hlt2 : (k : Int) < r
    · have hd : decide ((k : Int) < r) = true := by simpa using hlt2
      go_wp2_with fail
      refine (below_any base g ca ao zs n _ (by omega) hn hm C1).mono ?_
      rintro _ w2 ⟨x, rfl, x0, x1, C2, g2⟩
      have k2 := kp_of g2
      have s2 := k2.size
      have l1 := World.ownsRow.lt O1
      have O2 := OI.kp O1 k2 (fun j hj e => by have := (l1 j hj).1; omega)
      have K2 := K1.trans k2
      have SA := hide (specSetAdd _ xs x w2 (O2.ri (by omega)) O2.cap (by omega))
      have hal := add_len xs x
      have WY := hide (wf_add (unhide WX) (wf_small (by omega) (by omega) : (Lit.int .i64 x).wf = true))
      clear C1 K1 g2 k2 O1 l1 O2
      generalize addL xs x = ys at *
      go_wp2_with fail
      refine (unhide SA).mono ?_
      rintro _ w3 ⟨u, rfl, o3, b3⟩
      have C3 := C2.below (by omega) b3
      have K3 := K2.trans (Below.kpOf b3 _)
      have O3 := OI.mono o3 (show w.heap.size ≤ w2.heap.size by omega)
      obtain ⟨ua, uc, rfl⟩ := o3.form
      clear SA C2 K2 b3 o3
      go_wp2
      go_roundw
      case rel => exact ⟨k + 1, ys, by omega, by go_num, by omega, WY, O3, C3, K3⟩
      case measure => simp [intOf]; omega
    · have hd : decide ((k : Int) < r) = false := by simpa using hlt2
      go_wp2_with fail
      refine (once_any base g ca ao zs 12 _ (by omega) (by omega) (by omega) C1).mono ?_
      rintro _ w2 ⟨q, rfl, C2, g2⟩
      have k2 := kp_of g2
      have s2 := k2.size
      have l1 := World.ownsRow.lt O1
      have O2 := OI.kp O1 k2 (fun j hj e => by have := (l1 j hj).1; omega)
      have K2 := K1.trans k2
      clear C1 K1 g2 k2 O1 l1
      cases q with
      | false =>
        go_wp2
        go_ret
        exact ⟨_, xs, rfl, by omega, WX, O2, C2, kp_to K2⟩
      | true =>
        obtain ⟨w3, hw3⟩ : ∃ w3, w2.alloc (.cells #[.int .i64 (-1), .int .i64 0, .int .i64 3, .int .i64 9] 3) = w3 := ⟨_, rfl⟩
        have b3 : Below w2.heap.size w2 w3 := hw3 ▸ (Below.refl _ _).alloc (Nat.le_refl _) _
        have h40 : w3.cell? ⟨w2.heap.size, 0, none⟩ = some (.int .i64 (-1)) := by rw [← hw3]; simp
        have h41 : w3.cell? ⟨w2.heap.size, 1, none⟩ = some (.int .i64 0) := by rw [← hw3]; simp
        have h42 : w3.cell? ⟨w2.heap.size, 2, none⟩ = some (.int .i64 3) := by rw [← hw3]; simp
        have h43 : w3.cell? ⟨w2.heap.size, 3, none⟩ = some (.int .i64 9) := by rw [← hw3]; simp
        have hc3 : ∀ k, k < ([-1, 0, 3, 9] : List Int).length → w3.cell? ⟨w2.heap.size, k, none⟩ = some (.int .i64 (([-1, 0, 3, 9] : List Int).getD k 0)) := fun k hk => by
          match k, hk with
          | 0, _ => exact h40
          | 1, _ => exact h41
          | 2, _ => exact h42
          | 3, _ => exact h43
          | k + 4, hk => simp at hk; omega
        have C3 := C2.below (by omega) b3
        have O3 := O2.below b3
        have K3 := K2.trans (Below.kpOf b3 _)
        have s3 := b3.size
        have hgl := C2.lt
        have PK := hide (pickInt_any base g ca w2.heap.size ao zs [-1, 0, 3, 9] w3 (by omega) (by omega) (by simp) (by simp) hc3 C3)
        clear C2 K2 O2 b3 hc3 h40 h41 h42 h43
        go_wp2_with fail
        refine (unhide PK).mono ?_
        rintro _ w4 ⟨kk, hkk, rfl, C4, g4⟩
        have k4 := kp_of g4
        have s4 := k4.size
        have l3 := World.ownsRow.lt O3
        have O4 := OI.kp O3 k4 (fun j hj e => by have := (l3 j hj).1; omega)
        have K4 := K3.trans k4
        have hdd : -256 ≤ ([-1, 0, 3, 9] : List Int).getD kk 0 ∧ ([-1, 0, 3, 9] : List Int).getD kk 0 ≤ 256 := by
          match kk, hkk with
          | 0, _ => decide
          | 1, _ => decide
          | 2, _ => decide
          | 3, _ => decide
          | k + 4, hk => simp at hk; omega
        generalize ([-1, 0, 3, 9] : List Int).getD kk 0 = dd at *
        have WY := hide (wf_snoc (unhide WX) (wf_small hdd.1 hdd.2))
        have b5 : Below w4.heap.size w4 (w4.alloc (.cells #[.int .i64 dd] 3)) := (Below.refl _ _).alloc (Nat.le_refl _) _
        have O5 := O4.below b5
        have C5 := C4.below (by omega) b5
        have K5 := K4.trans (Below.kpOf b5 _)
        have l5 := World.ownsRow.lt O5
        clear hw3 PK C3 K3 O3 C4 O4 K4 g4 k4 l3 b5
        go_wp2_with (first | (at_builtin; refine append_ints rfl _ _ rfl w.heap.size (.slice oa xs.length oc) (.slice (some ⟨w4.heap.size, 0, none⟩) 1 1) xs [dd] rfl rfl O5 ⟨_, _, rfl, .inr ⟨_, rfl, cell_one_new _ _ _⟩⟩ (by simp; omega) (by simp; omega) ?_; intro v' w6 ho6 hg6 _; have C6 := C5.grownNew hg6 (fun j e => by have := (l5 j e).1; omega); have K6 := grown_new (kp_to K5) hg6 (fun j e => (l5 j e).1); clear hg6))
        go_ret
        exact ⟨_, xs ++ [dd], rfl, by simp; omega, WY, ho6, C6, K6⟩

/-- What came in: the code of the draws. -/
structure SCode (w : World) (ao : Option Addr) (xs : List Int) : Prop where
  len : xs.length ≤ 1048576
  code : xs = [] ∨ ∃ b off, ao = some ⟨b, off, none⟩ ∧ ∀ k, k < xs.length → w.cell? ⟨b, off + k, none⟩ = some (.int .u8 (xs.getD k 0))
  fit : ∀ k, k < xs.length → 0 ≤ xs.getD k 0 ∧ xs.getD k 0 ≤ 255
theorem SCode.below {w w' : World} {ao : Option Addr} {xs : List Int} (h : SCode w ao xs) (hb : Below w.heap.size w w') : SCode w' ao xs := by
  refine ⟨h.len, ?_, h.fit⟩
  rcases h.code with h' | ⟨b, off, ha, hx⟩
  · exact .inl h'
  · exact .inr ⟨b, off, ha, fun k hk => (hb.cell (p := ⟨b, off + k, none⟩) (cell_lt (hx k hk))).trans (hx k hk)⟩

end Go.Proofs.Ytehdchpolgihlaa

/- An operation of a region that draws its order, taken first, its slot written out. -/
namespace Go.Proofs.Ytehdchpolgihlaa
open Go Go.RowKit
section
variable {P : Program} {ops : Array Oper} {Q : Exit → Act → World → Prop} {md : Region.Mode} {S : World → Prop}
theorem take_at {i d : Nat} {oi : Oper} {v : Value} {fuel : Nat} {listed : Array Bool} {a : Act} {w : World} (hi : ops[i]? = some oi) (hd : oi.dst = some d)
    (hs : Region.noSelect ops = true) (hf : Region.free md ops listed i = true) (hr : (Region.ready md ops listed).contains i = true)
    (hQ : ∀ c a w, Q (.panic c) (a.put (some d) v) w → Q (.panic c) a w) (hy : YieldsIf P ops S oi v a) (hS : S w)
    (h : wpAnyH P md ops Q S fuel (listed.setIfInBounds i true) (a.put (some d) v) w) : wpAnyH P md ops Q S (fuel + 1) listed a w :=
  wpAnyH_take hi hs hf hr (by rw [hd]; exact hQ) hy hS (by rw [hd]; exact h)
theorem ready_at {i : Nat} {o : Oper} {fuel : Nat} {listed : Array Bool} {a : Act} {w : World} (ho : ops[i]? = some o) (hr : Region.ready md ops listed = [i])
    (h : ∀ K' : Act → World → Prop, Shut (∀ a w, S w → (S w → wpAnyH P md ops Q S fuel (listed.setIfInBounds i true) a w) → K' a w) → if Region.wanted o (yielded ops a.tmps) = true then Oper.wp P o a w K' Q else K' (a.put o.dst undef) w) :
    wpAnyH P md ops Q S (fuel + 1) listed a w :=
  wpAnyH_ready hr (by simp) (AllReadyH.cons ho h AllReadyH.nil)
end
theorem undrew {B : Nat} {w w' : World} (h : Below B w.drew w') : Below B w w' := ⟨h.os, h.tape, h.output, h.size, h.block⟩
end Go.Proofs.Ytehdchpolgihlaa

/- PartOne: a part as a value; laws.eqPart, heldPart, markPart, szPart, toPart; spec.l10Copy. -/
namespace Go.Proofs.Ytehdchpolgihlaa
open Go.RowKit

set_option maxHeartbeats 1600000 in
set_option maxRecDepth 100000 in
theorem eqPart_yes (n : Int) (s : ByteArray) (a b : Value) (xs : List Int) (w : World) (ha : RI w a xs) (hb : RI w b xs) :
    Calls Try.prog 16 #[qv n s a, qv n s b] w fun e w' => e = .returned (.bool true) ∧ Below w.heap.size w w' := by
  have R1 := hide ha
  have R2 := hide hb
  have B := hide (qalloc2 w (.cells #[.int .i64 n, .string s, a] 31) (.cells #[.int .i64 n, .string s, b] 31))
  clear ha hb
  go_enter Try.func16, Try.ntmps16
  go_wp2_with fail
  refine (eqIntS_yes a b xs _ ((unhide R1).below (unhide B) (Nat.le_refl _)) ((unhide R2).below (unhide B) (Nat.le_refl _))).mono ?_
  rintro e w1 ⟨rfl, n, rfl⟩
  go_wp2
  go_ret
  exact ⟨rfl, below_drewN' (unhide B) _⟩

set_option maxHeartbeats 1600000 in
set_option maxRecDepth 100000 in
theorem heldPart_any (n : Int) (s : ByteArray) (v : Value) (m : Nat) (w : World) (h : RI w v (imarks 1 m)) :
    Calls Try.prog 20 #[qv n s v, .int .i64 1] w fun e w' => e = .returned (.int .i64 (1 + m)) ∧ Below w.heap.size w w' := by
  have R1 := hide h
  have B := hide (qalloc w (.cells #[.int .i64 n, .string s, v] 31))
  have hd : decide ((1 : Int) + (m : Int) < 0) = false := by simp; omega
  clear h
  go_enter Try.func20, Try.ntmps20
  go_wp2_with fail
  refine (iheld_any v m 1 _ (by omega) ((unhide R1).below (unhide B) (Nat.le_refl _))).mono ?_
  rintro e w1 ⟨rfl, rfl⟩
  go_wp2
  go_ret
  exact ⟨rfl, unhide B⟩

set_option maxHeartbeats 1600000 in
set_option maxRecDepth 100000 in
theorem markPart_any (n : Int) (s : ByteArray) (base : Nat) (v : Value) (xs : List Int) (k0 : Nat) (w : World) (hl : xs.length ≤ 4194304) (hk : k0 ≤ 100000000) (h : OI w base v xs) :
    Calls Try.prog 19 #[qv n s v, .int .i64 k0] w fun e w' => e = .returned (.int .i64 (k0 + xs.length)) ∧ OI w' base v (imarks k0 xs.length) ∧ Kp w w' (fun k => v.ownBlock = some k) := by
  have B := hide (qalloc w (.cells #[.int .i64 n, .string s, v] 31))
  have H := hide (h.below (unhide B))
  have hb := World.ownsRow.lt h
  have MK := hide fun w h => imark_any base k0 v xs w hl hk h
  clear h
  go_enter Try.func19, Try.ntmps19
  go_wp2_with fail
  refine (unhide MK _ (unhide H)).mono ?_
  rintro e w1 ⟨rfl, o1, g1⟩
  have K := (Below.kpOf (unhide B) (fun k => v.ownBlock = some k)).trans (kp_grown g1)
  go_wp2
  go_ret
  exact ⟨rfl, o1, K⟩

set_option maxHeartbeats 800000 in
set_option maxRecDepth 100000 in
theorem szPart_yes (n : Int) (s : ByteArray) (ao : Option Addr) (m ca : Nat) (left : Int) (w : World) (h : (s.size : Int) + m ≤ left) (hl : left ≤ 1048576) :
    Calls Try.prog 32 #[qv n s (.slice ao m ca), .int .i64 left] w fun e w' => e = .returned (.int .i64 (left - s.size - m)) ∧ Below w.heap.size w w' := by
  have h1 : decide ((left : Int) - (s.size : Int) < 0) = false := by simp; omega
  have h2 : decide ((left : Int) - (s.size : Int) - (m : Int) < 0) = false := by simp; omega
  go_enter Try.func32, Try.ntmps32
  go_wp2_with (first | (go_at_call 47; refine (szIntS_yes _ _ _ _ _ (by omega) (by omega)).mono ?_; rintro e w' ⟨rfl, rfl⟩))
  go_ret
  exact ⟨rfl, qalloc _ _⟩

set_option maxHeartbeats 800000 in
set_option maxRecDepth 100000 in
theorem szPart_no1 (n : Int) (s : ByteArray) (ao : Option Addr) (m ca : Nat) (left : Int) (w : World) (h0 : 0 ≤ left) (h : left < s.size) (hs : s.size ≤ 9223372036854775807) (hl : left ≤ 1048576) :
    Calls Try.prog 32 #[qv n s (.slice ao m ca), .int .i64 left] w fun e w' => e = .returned (.int .i64 (-1)) ∧ Below w.heap.size w w' := by
  have h1 : decide ((left : Int) - (s.size : Int) < 0) = true := by simp; omega
  go_enter Try.func32, Try.ntmps32
  go_wp2
  go_ret
  exact ⟨rfl, qalloc _ _⟩

set_option maxHeartbeats 800000 in
set_option maxRecDepth 100000 in
theorem szPart_no2 (n : Int) (s : ByteArray) (ao : Option Addr) (m ca : Nat) (left : Int) (w : World) (h0 : (s.size : Int) ≤ left) (h : left < s.size + m) (hm : m ≤ 9223372036854775807) (hl : left ≤ 1048576) :
    Calls Try.prog 32 #[qv n s (.slice ao m ca), .int .i64 left] w fun e w' => e = .returned (.int .i64 (-1)) ∧ Below w.heap.size w w' := by
  have h1 : decide ((left : Int) - (s.size : Int) < 0) = false := by simp; omega
  go_enter Try.func32, Try.ntmps32
  go_wp2_with fail
  refine (szIntS_no _ _ _ _ _ (by omega) (by omega) (by omega) hm).mono ?_
  rintro e w' ⟨rfl, rfl⟩
  go_wp2
  go_ret
  exact ⟨rfl, qalloc _ _⟩

theorem szPart_no (n : Int) (s : ByteArray) (ao : Option Addr) (m ca : Nat) (left : Int) (w : World) (h0 : 0 ≤ left) (h : left < s.size + m) (hs : s.size ≤ 9223372036854775807) (hm : m ≤ 9223372036854775807) (hl : left ≤ 1048576) :
    Calls Try.prog 32 #[qv n s (.slice ao m ca), .int .i64 left] w fun e w' => e = .returned (.int .i64 (-1)) ∧ Below w.heap.size w w' := by
  by_cases h1 : left < (s.size : Int)
  · exact szPart_no1 n s ao m ca left w h0 h1 hs hl
  · exact szPart_no2 n s ao m ca left w (by omega) h hm hl

set_option maxHeartbeats 1600000 in
set_option maxRecDepth 100000 in
theorem toPart_any (n : Int) (s : ByteArray) (a : Value) (xs : List Int) (w : World) (ha : RI w a xs) :
    Calls Try.prog 33 #[qv n s a] w fun e w' => ∃ u, e = .returned (qv n s u) ∧ OI w' w.heap.size u xs ∧ Below w.heap.size w w' := by
  have R1 := hide ha
  clear ha
  go_enter Try.func33, Try.ntmps33
  go_wp2_with fail
  refine Calls.mono (toIntS_any a xs _ ((unhide R1).below ((((Below.refl w.heap.size w).alloc (Nat.le_refl _) _).alloc (by simp) _).alloc (by simp; omega) _) (Nat.le_refl _))) ?_
  rintro e w1 ⟨u, rfl, o1, b1⟩
  have s1 := b1.size
  have L1 : Loc w1 (w.heap.size + 1) #[.int .i64 0, .string ⟨#[]⟩, .slice none 0 0] := Loc.below (Loc.alloc (loc_at (w.alloc _) #[.int .i64 0, .string ⟨#[]⟩, .slice none 0 0] _ (by simp)) _) b1 (by simp)
  have L2 : Loc w1 (w.heap.size + 1 + 1) #[.int .i64 n, .string s, .slice none 0 0] := Loc.below (loc_at ((w.alloc _).alloc _) #[.int .i64 n, .string s, .slice none 0 0] _ (by simp)) b1 (by simp)
  have B1 : Below w.heap.size w w1 := ((((Below.refl w.heap.size w).alloc (Nat.le_refl _) _).alloc (by simp) _).alloc (by simp; omega) _).trans (b1.mono (by simp; omega))
  have lt1 := World.ownsRow.lt o1
  simp at lt1 s1
  have y0 := L1.cell 0 rfl
  have y1 := L1.cell 1 rfl
  have y2 := L1.cell 2 rfl
  have fy0 := L1.frozen 0
  have fy1 := L1.frozen 1
  have fy2 := L1.frozen 2
  have z0 := L2.cell 0 rfl
  have z1 := L2.cell 1 rfl
  have z2 := L2.cell 2 rfl
  have fz2 := L2.frozen 2
  obtain ⟨ua, uc, hu⟩ := o1.form
  have O1 := hide o1
  clear o1 b1
  subst hu
  go_wp2
  refine bodyPost_ret (v := qv n s (.slice ua xs.length uc)) (by simp [results, Try.results33, go_sem, y0, y1, y2]) rfl ?_
  have K : Kp w1 ((((w1.setCell ⟨w.heap.size + 1 + 1, 2, none⟩ (.slice ua xs.length uc)).setCell ⟨w.heap.size + 1, 0, none⟩ (.int .i64 n)).setCell ⟨w.heap.size + 1, 1, none⟩ (.string s)).setCell ⟨w.heap.size + 1, 2, none⟩ (.slice ua xs.length uc)) (fun k => k = w.heap.size + 1 ∨ k = w.heap.size + 1 + 1) :=
    (((((set_kp _ _ _ _).mono (fun k h => .inr h))).trans ((set_kp _ _ _ _).mono (fun k h => .inl h))).trans ((set_kp _ _ _ _).mono (fun k h => .inl h))).trans ((set_kp _ _ _ _).mono (fun k h => .inl h))
  exact ⟨_, rfl, ((unhide O1).kp K (fun k hk => by have := lt1 k hk; omega)).mono (by simp; omega), Below.kp B1 K B1.size (fun k hk => by omega)⟩

abbrev zpo : Obj := .cells #[.int .i64 0, .string ⟨#[]⟩, .slice none 0 0] 31

set_option maxHeartbeats 1600000 in
set_option maxRecDepth 100000 in
theorem l10Copy_any (n : Int) (s : ByteArray) (v : Value) (xs : List Int) (w : World) (h : RI w v xs) :
    Calls Try.prog 30 #[qv n s v] w fun e w' => ∃ u, e = .returned (qv n s u) ∧ OI w' w.heap.size u xs ∧ Below w.heap.size w w' := by
  obtain ⟨ao, ca, rfl⟩ := h.form
  have hl := h.1
  obtain ⟨w0, hw0⟩ : ∃ w0, ((w.alloc (.cells #[.int .i64 n, .string s, .slice ao xs.length ca] 31)).alloc zpo).alloc (.cells #[] 3) = w0 := ⟨_, rfl⟩
  have B0 : Below w.heap.size w w0 := hw0 ▸ ((qalloc2 _ _ _).alloc (by simp; omega) _)
  have LA : Loc w0 w.heap.size #[.int .i64 n, .string s, .slice ao xs.length ca] := hw0 ▸ ((loc_at w _ _ rfl).alloc _).alloc _
  have LZ : Loc w0 (w.heap.size + 1) #[.int .i64 0, .string ⟨#[]⟩, .slice none 0 0] := hw0 ▸ (loc_at (w.alloc _) _ _ (by simp)).alloc _
  have s0 : w0.heap.size = w.heap.size + 1 + 1 + 1 := by rw [← hw0]; simp
  have O0 : OI w0 (w.heap.size + 1 + 1) (.slice (some ⟨w.heap.size + 1 + 1, 0, none⟩) 0 0) [] := by
    have := World.ownsRow_lit (base := w.heap.size + 1 + 1) (e := 3) (size := 1) ((w.alloc (.cells #[.int .i64 n, .string s, .slice ao xs.length ca] 31)).alloc zpo) #[] 0 (by simp) (by unfold maxLen; omega) (by simp)
    rw [hw0] at this
    simpa [OI] using this
  have P0 := hide (h.pi.below B0)
  have x2 := LA.cell 2 rfl
  have HL := hide LA
  have HZ := hide LZ
  clear h LA LZ
  go_enter Try.func30, Try.ntmps30
  go_wp2_with (first | (at_builtin; clear hw0; refine append_ints rfl _ _ rfl (w.heap.size + 1 + 1) (.slice (some ⟨w.heap.size + 1 + 1, 0, none⟩) 0 0) (.slice ao xs.length ca) [] xs rfl rfl O0 (unhide P0) (by simp; omega) (by omega) ?_; intro v' w2 ho2 hg2 _
                        have k2 := kp_grown hg2
                        have L2 := (unhide HL).kp k2 (by simp [Value.ownBlock]; omega)
                        have Z2 := (unhide HZ).kp k2 (by simp [Value.ownBlock])
                        have B2 := Below.kp B0 k2 B0.size (fun k hk => by simp [Value.ownBlock] at hk; omega)
                        have lt2 := World.ownsRow.lt ho2
                        have p0 := L2.cell 0 rfl
                        have p1 := L2.cell 1 rfl
                        have p2 := L2.cell 2 rfl
                        have fp := L2.frozen
                        have y0 := Z2.cell 0 rfl
                        have y1 := Z2.cell 1 rfl
                        have y2 := Z2.cell 2 rfl
                        have fy := Z2.frozen
                        obtain ⟨ua, uc, rfl⟩ := ho2.form
                        have O2 := hide ho2
                        clear ho2 hg2 k2 L2 Z2))
  refine bodyPost_ret (v := qv n s (.slice ua ([] ++ xs).length uc)) (by simp [results, Try.results30, go_sem, y0, y1, y2]) rfl ?_
  have K5 : Kp w2 ((((w2.setCell ⟨w.heap.size, 2, none⟩ (.slice ua ([] ++ xs).length uc)).setCell ⟨w.heap.size + 1, 0, none⟩ (.int .i64 n)).setCell ⟨w.heap.size + 1, 1, none⟩ (.string s)).setCell ⟨w.heap.size + 1, 2, none⟩ (.slice ua ([] ++ xs).length uc)) (fun k => k = w.heap.size ∨ k = w.heap.size + 1) :=
    (((((set_kp _ _ _ _).mono (fun k h => .inl h))).trans ((set_kp _ _ _ _).mono (fun k h => .inr h))).trans ((set_kp _ _ _ _).mono (fun k h => .inr h))).trans ((set_kp _ _ _ _).mono (fun k h => .inr h))
  exact ⟨_, rfl, ((unhide O2).kp K5 (fun k hk => by have := lt2 k hk; omega)).mono (by omega), Below.kp B2 K5 B2.size (fun k hk => by omega)⟩
end Go.Proofs.Ytehdchpolgihlaa

/- append as one step of a region that draws its order; small facts for draws. -/
namespace Go.Proofs.Ytehdchpolgihlaa
open Go.RowKit

theorem step_append_ints {ops : Array Oper} {o : Oper} {a : Act} {w : World} {K : Act → World → Prop} {Q : Exit → Act → World → Prop} {E : Prop} (hgd : o.guard = none) (s x : Operand)
    (ho : o.op = .call { callee := .builtin .append, args := #[s, x], argTypes := #[29, 29] }) (base : Nat) (v u : Value) (xs ys : List Int) (hs : a.eval s = v) (hx : a.eval x = u)
    (hown : OI w base v xs) (hp : PI w u ys) (hl : xs.length + ys.length ≤ 16777216) (hbase : base ≤ w.heap.size)
    (h : ∀ v' w', OI w' base v' (xs ++ ys) → w.grownBy w' v.ownBlock → (v'.ownBlock = v.ownBlock ∨ v'.ownBlock = some w.heap.size) → K (a.put o.dst v') w') :
    if Region.wanted o (yielded ops a.tmps) = true then Oper.wp Try.prog o a w K Q else E := by
  have hw : Region.wanted o (yielded ops a.tmps) = true := by simp [Region.wanted, hgd]
  rw [if_pos hw]
  obtain ⟨i0, hi, hz0, hz1, hz2⟩ := info_parts Try.info3
  obtain ⟨ao, cap, rfl, hp⟩ := hp
  match ao, hx with
  | none, hx =>
    have hy : ys = [] := by rcases hp with h | ⟨ad, e, _⟩; exact h; cases e
    subst hy
    have hrun := run_append_none1 o.type base cap v xs.length (xs.map (Value.int .i64)) w hown
    unfold Oper.wp
    simp only [List.length_nil] at hx
    simp [execOp, ho, resolve, invoke, builtin, hs, hx, hrun, Result.andThen]
    exact h v w (by simpa using hown) (grown_same _ _) (.inl rfl)
  | some ad, hx =>
    have hn : ∀ j u, (ys.map (Value.int .i64))[j]? = some u → w.cell? (ad.add j) = some u := by
      rcases hp with rfl | ⟨ad', e, h⟩
      · intro j u hj; simp at hj
      · cases e; exact h
    obtain ⟨v', w', hrun, r1, r2, _, r4⟩ := run_append_own_at (P := Try.prog) w base 29 o.type 3 i0 (.int .i64 0) 1 8 Try.underlying29 hi hz0 hz1 hz2 rfl (by decide) v xs.length (xs.map (Value.int .i64)) hown ad ys.length cap (ys.map (Value.int .i64)) (by simp) hn (ints_plain64 ys) (by unfold maxLen; omega) (by omega) hbase
    unfold Oper.wp
    simp [execOp, ho, resolve, invoke, builtin, hs, hx, hrun, Result.andThen]
    refine h v' w' ?_ r2 r4
    unfold OI
    rw [List.map_append, List.length_append]
    exact r1
theorem Loc.grown {w w' : World} {r g : Nat} {cs : Array Value} (h : Loc w r cs) (hg : w.grownBy w' (some g)) (hr : r ≠ g) : Loc w' r cs := h.kp (kp_of hg) hr
theorem Loc.grownNew {w w' : World} {r : Nat} {row : Option Nat} {cs : Array Value} (h : Loc w r cs) (hg : w.grownBy w' row) (hr : row ≠ some r) : Loc w' r cs := h.kp (kp_grown hg) hr
theorem OI.drawn {w w' : World} {base g : Nat} {v : Value} {xs : List Int} (h : OI w base v xs) (hg : w.grownBy w' (some g)) (hlt : g < base) : OI w' base v xs :=
  h.grown hg (fun k hk e => by have := World.ownsRow.lt h k hk; cases e; omega)
end Go.Proofs.Ytehdchpolgihlaa

/- More of the draws' cursor: numbers picked out of a written list. -/
namespace Go.Proofs.Ytehdchpolgihlaa
open Go.RowKit
set_option linter.unusedSectionVars false
variable [∀ (a b c d : Int), Decidable (Ok4 a b c d)]
variable [∀ (a b c d : Nat), Decidable (okN a b c d)]
variable [∀ (x : T4), Decidable (OkT x)]

end Go.Proofs.Ytehdchpolgihlaa

/- Conf: ConfOk, Faults, Quorum of the program and of the specification; laws.toConf. -/
namespace Go.Proofs.Ytehdchpolgihlaa
open Go.RowKit
set_option linter.unusedSectionVars false
variable [∀ (a b c d : Int), Decidable (Ok4 a b c d)]

/-- A Conf in memory. -/
abbrev cv (n f : Int) : Value := .agg #[.int .i64 n, .int .i64 f]
def COk (n f : Int) : Prop := (4 ≤ n ∧ n ≤ 7) ∧ 1 ≤ f ∧ f ≤ 6
variable [∀ (n f : Int), Decidable (COk n f)]
def faultsOf (n f : Int) : Int := if COk n f then (n - 1) / 3 else 0
def quorumOf (n f : Int) : Int := if COk n f then n - (n - 1) / 3 else 0
theorem cok_cases {n f : Int} (h : COk n f) : n = 4 ∨ n = 5 ∨ n = 6 ∨ n = 7 := by obtain ⟨h, _⟩ := h; omega
theorem conf_below (w : World) (o : Obj) : Below w.heap.size w (w.alloc o) := (Below.refl _ _).alloc (Nat.le_refl _) _

set_option maxHeartbeats 800000 in
set_option maxRecDepth 100000 in
theorem specConfOk (n f : Int) (w : World) :
    Calls Try.prog 69 #[cv n f] w fun e w' => e = .returned (.bool (decide (COk n f))) ∧ Below w.heap.size w w' := by
  by_cases h1 : 4 ≤ n ∧ n ≤ 7
  · by_cases h2 : 1 ≤ f ∧ f ≤ 6
    · have hd : decide (COk n f) = true := by simp [COk, h1, h2]
      rw [hd]
      go_enter Try.func69, Try.ntmps69
      go_wp2_with (first | (go_at_call 70; refine (in_yes _ _ _ _ (by omega) (by omega)).mono ?_; rintro e w' ⟨rfl, rfl⟩))
      go_ret
      exact ⟨rfl, conf_below _ _⟩
    · have hd : decide (COk n f) = false := by simp [COk, h1]; omega
      rw [hd]
      go_enter Try.func69, Try.ntmps69
      go_wp2_with fail
      refine (in_yes _ _ _ _ (by omega) (by omega)).mono ?_
      rintro e w' ⟨rfl, rfl⟩
      go_wp2_with fail
      refine (in_no _ _ _ _ (by omega)).mono ?_
      rintro e w' ⟨rfl, rfl⟩
      go_wp2
      go_ret
      exact ⟨rfl, conf_below _ _⟩
  · have hd : decide (COk n f) = false := by simp only [decide_eq_false_iff_not]; rintro ⟨h, _⟩; exact h1 h
    rw [hd]
    go_enter Try.func69, Try.ntmps69
    go_wp2_with fail
    refine (in_no _ _ _ _ (by omega)).mono ?_
    rintro e w' ⟨rfl, rfl⟩
    go_wp2
    go_ret
    exact ⟨rfl, conf_below _ _⟩

end Go.Proofs.Ytehdchpolgihlaa
