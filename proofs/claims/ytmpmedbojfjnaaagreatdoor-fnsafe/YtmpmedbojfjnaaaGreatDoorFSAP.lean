/- Texts that belong together: SpecNames, SpecTxsIn. -/
import Derived.Test.YtmpmedbojfjnaaaGreatDoorFSAO
import Derived.Test.YtmpmedbojfjnaaaGreatDoorFSAL
import Derived.Test.YtmpmedbojfjnaaaGreatDoorFSAA
import Derived.Laws.AppendOwnNone
namespace Go.Proofs.YtmpmedbojfjnaaaGreatDoor
open Go.RowKit
set_option linter.unusedSectionVars false
variable [∀ (a b c d : Int), Decidable (Ok4 a b c d)]
variable [∀ (a b c d : Nat), Decidable (okN a b c d)]
variable [∀ (last : Int) (s : St), Decidable (GoodSt last s)]
variable [∀ (x : T4), Decidable (OkT x)]

set_option maxHeartbeats 8000000 in
set_option maxRecDepth 100000 in
theorem specNameOk (s : ByteArray) (w : World) (hs : s.size ≤ 33554432) :
 Calls Tryz.prog 78 #[.string s] w fun e w' => e = .returned (.bool (stepsAns s).isSome) ∧ Below w.heap.size w w' := by
 have ST := hide fun w => specSteps s w hs
 generalize stepsAns s = A at *
 go_enter Tryz.func78, Tryz.ntmps78
 go_wp2_with fail
 refine (unhide ST _).mono ?_
 rintro e w1 ⟨v, rfl, _, b1⟩
 go_wp2
 go_ret
 exact ⟨rfl, b1⟩

set_option maxHeartbeats 8000000 in
set_option maxRecDepth 100000 in
theorem specViewOf (s : ByteArray) (w : World) (hs : s.size ≤ 33554432) :
 Calls Tryz.prog 62 #[.string s] w fun e w' => e = .returned (.int .i64 (viewAns s)) ∧ Below w.heap.size w w' := by
 have ST := hide fun w => specSteps s w hs
 have hl : ∀ ss, stepsAns s = some ss → ss.length ≤ 30 ∧ ∀ x ∈ ss, OkSt x := fun ss h => ⟨((names_iff _ _).1 h).2.1, ((names_iff _ _).1 h).2.2.1⟩
 unfold viewAns
 generalize stepsAns s = A at *
 go_enter Tryz.func62, Tryz.ntmps62
 go_wp2_with fail
 refine (unhide ST _).mono ?_
 rintro e w1 ⟨v, rfl, o1, b1⟩
 cases A with
 | none =>
  obtain ⟨ao, ca, rfl⟩ := o1.form
  clear o1 ST hl
  go_wp2
  go_ret
  exact ⟨rfl, b1⟩
 | some ss =>
  obtain ⟨hl, hok⟩ := hl ss rfl
  obtain ⟨ao, ca, hv, r⟩ := o1.rst (fun x hx => by have := (hok x hx).2.1; omega)
  subst hv
  clear o1 ST hok
  simp only [Option.getD_some] at *
  rcases r with rfl | ⟨g, rfl, r⟩
  ·go_wp2
   go_ret
   exact ⟨rfl, b1⟩
  ·by_cases h0 : ss.length = 0
   ·obtain rfl := List.length_eq_zero_iff.1 h0
    go_wp2
    go_ret
    exact ⟨rfl, b1⟩
   ·obtain ⟨n, hn⟩ : ∃ n, ss.length = n + 1 := ⟨ss.length - 1, by omega⟩
    obtain ⟨u, c0, c1, _⟩ := r n (by omega)
    have hlast := hide (show (ss.getLast?.map (·.1)).getD 0 = (ss.getD n zst).1 by
     rw [List.getLast?_eq_getElem?, List.getD_eq_getElem?_getD, List.getElem?_eq_getElem (show ss.length - 1 < ss.length by omega), List.getElem?_eq_getElem (show n < ss.length by omega)]
     simp [hn])
    have hi : ((n + 1 : Nat) : Int) - 1 = n := by omega
    generalize (ss.getD n zst).1 = x at *
    clear r h0
    go_wp2
    go_ret
    exact ⟨by rw [show ((some ss).getD []) = ss from rfl, unhide hlast]; rfl, b1⟩

set_option maxHeartbeats 8000000 in
set_option maxRecDepth 100000 in
theorem specExtends (s t : ByteArray) (w : World) (hs : s.size ≤ 33554432) (ht : t.size ≤ 33554432) :
 Calls Tryz.prog 73 #[.string s, .string t] w fun e w' => e = .returned (.bool (extB s t)) ∧ Below w.heap.size w w' := by
 have NS := hide fun w => specNameOk s w hs
 have NT := hide fun w => specNameOk t w ht
 have EB := hide (extB_bytes s t)
 generalize extB s t = x at *
 obtain ⟨a, ha⟩ : ∃ a, (stepsAns s).isSome = a := ⟨_, rfl⟩
 obtain ⟨b, hb⟩ : ∃ b, (stepsAns t).isSome = b := ⟨_, rfl⟩
 rw [ha] at NS EB
 rw [hb] at NT EB
 clear ha hb
 go_enter Tryz.func73, Tryz.ntmps73
 go_wp2_with fail
 refine (unhide NS _).mono ?_
 rintro e w1 ⟨rfl, b1⟩
 clear NS
 cases a with
 | false =>
  have F : x = false := by cases x with | false => rfl | true => have := ((unhide EB).1 rfl).1; cases this
  subst F
  go_wp2
  go_ret
  exact ⟨rfl, b1⟩
 | true =>
 go_wp2_with fail
 refine (unhide NT _).mono ?_
 rintro e w2 ⟨rfl, b2⟩
 clear NT
 have B2 := b1.trans (b2.mono b1.size)
 clear b1 b2
 cases b with
 | false =>
  have F : x = false := by cases x with | false => rfl | true => have := ((unhide EB).1 rfl).2.1; cases this
  subst F
  go_wp2
  go_ret
  exact ⟨rfl, B2⟩
 | true =>
 by_cases h1 : s.size < t.size
 ·have F : x = false := by cases x with | false => rfl | true => have := ((unhide EB).1 rfl).2.2.1; simp at this; omega
  subst F
  have h1' : decide ((s.size : Int) < (t.size : Int)) = true := by simp; omega
  go_wp2
  go_ret
  exact ⟨rfl, B2⟩
 have h1' : decide ((s.size : Int) < (t.size : Int)) = false := by simp; omega
 have h2' : t.size ≤ s.size := by omega
 have hpre : (s.extract 0 t.size).toList = s.data.toList.take t.size := by
  rw [ByteArray.toList_eq]; simp [ByteArray.data_extract]
 have htl : t.toList = t.data.toList := ByteArray.toList_eq _
 have EX : Hid (x = true ↔ (s.data.toList.take t.size = t.data.toList ∧ (s.size = t.size ∨ s.data.toList[t.size]? = some 47))) := hide (by
  rw [unhide EB]; unfold extL; simp only [true_and]
  have e1 : t.data.toList.length = t.size := by simp
  have e2 : s.data.toList.length = s.size := by simp
  rw [e1, e2]
  exact ⟨fun h => h.2, fun h => ⟨h2', h⟩⟩)
 have HPRE := hide hpre
 clear EB hpre
 go_wp2
 ·rename_i h
  have F : x = false := by
   rw [unhide HPRE] at h
   cases x with
   | false => rfl
   | true => have := ((unhide EX).1 rfl).1; simp [this] at h
  subst F
  go_ret
  exact ⟨rfl, B2⟩
 ·rename_i h h3
  have T : x = true := by
   rw [unhide HPRE] at h
   exact (unhide EX).2 ⟨by simpa using h, .inl (by omega)⟩
  subst T
  go_ret
  exact ⟨rfl, B2⟩
 ·rename_i h h3 h4
  have T : x = ((s.size : Int) == (t.size : Int) || ((s[t.size].toNat : Int) == 47)) := by
   rw [unhide HPRE] at h
   have h : s.data.toList.take t.size = t.data.toList := by simpa using h
   have e : s.data.toList[t.size]? = some s[t.size] := by
    rw [List.getElem?_eq_getElem (by simpa using h4)]; rfl
   have hx := unhide EX
   rw [e] at hx
   rw [Bool.eq_iff_iff, hx, Bool.or_eq_true, beq_iff_eq, beq_iff_eq]
   constructor
   ·rintro ⟨_, h5 | h5⟩
    ·exact .inl (by omega)
    ·right; rw [Option.some.inj h5]; rfl
   ·rintro (h5 | h5)
    ·exact ⟨h, .inl (by omega)⟩
    ·exact ⟨h, .inr (congrArg some (UInt8.toNat_inj.1 (show s[t.size].toNat = 47 by omega)))⟩
  go_ret
  exact ⟨by rw [T]; rfl, B2⟩

set_option maxHeartbeats 8000000 in
set_option maxRecDepth 100000 in
theorem specUpOf (s : ByteArray) (w : World) (hs : s.size ≤ 33554432) :
 Calls Tryz.prog 68 #[.string s] w fun e w' => e = .returned (.string (upAns s)) ∧ Below w.heap.size w w' := by
 have NS := hide fun w => specNameOk s w hs
 have UC := hide fun (ss : List St) (h : stepsAns s = some ss) (k : Nat) (hk : k ≤ s.data.toList.length) h1 h2 => up_cut h k hk h1 h2
 have UN : stepsAns s = none → upAns s = ⟨#[]⟩ := fun h => by unfold upAns; rw [h]; rfl
 generalize upAns s = x at *
 generalize stepsAns s = A at *
 go_enter Tryz.func68, Tryz.ntmps68
 go_wp2_with fail
 refine (unhide NS _).mono ?_
 rintro e w1 ⟨rfl, b1⟩
 clear NS
 cases A with
 | none =>
  have UN := UN rfl
  subst UN
  go_wp2
  go_ret
  exact ⟨rfl, b1⟩
 | some ss =>
 clear UN
 have UC := hide (unhide UC ss rfl)
 go_wp2
 go_loop [3] (fun kv => ∃ k : Nat, k ≤ s.size ∧ kv = .int .i64 k ∧ Hid ((47 : UInt8) ∉ s.data.toList.drop k)) (fun kv => (intOf kv).toNat)
 case atStart => exact ⟨s.size, Nat.le_refl _, rfl, hide (by rw [List.drop_eq_nil_of_le (by simp)]; simp)⟩
 case round =>
  obtain ⟨k, hk, rfl, HM⟩ := hrel
  have hlen : s.data.toList.length = s.size := by simp
  have DONE : Hid (∀ h2 : k = 0 ∨ s.data.toList[k - 1]? = some 47, s.extract 0 (k - 1) = x) := hide fun h2 => by
   rw [← unhide UC k (by omega) (unhide HM) h2]
   apply ba_ext; rw [toB_list]; simp [ByteArray.data_extract]
  have HL := hide hlen
  clear UC hlen
  go_wp2
  ·rename_i h2
   have hp : 0 < k := by assumption
   have hb : ((s[k - 1].toNat : Int) != 47) = true := by assumption
   have HM' : Hid ((47 : UInt8) ∉ s.data.toList.drop (k - 1)) := hide (by
    rw [List.drop_eq_getElem_cons (show k - 1 < s.data.toList.length by rw [unhide HL]; omega), show k - 1 + 1 = k by omega]
    intro h
    rcases List.mem_cons.1 h with h | h
    ·have e : s[k - 1] = 47 := h.symm
     rw [e] at hb
     revert hb; decide
    ·exact unhide HM h)
   go_round
   case rel => exact ⟨k - 1, by omega, by rw [show ((k - 1 : Nat) : Int) = (k : Int) - 1 by omega], HM'⟩
   case measure => simp [intOf]; omega
  ·have h2 : ((s[k - 1].toNat : Int) != 47) = false := by assumption
   have D := unhide DONE (.inr (by
    rw [List.getElem?_eq_getElem (by rw [unhide HL]; omega)]
    refine congrArg some (UInt8.toNat_inj.1 (show s[k - 1].toNat = 47 from ?_))
    have h2 := of_decide_eq_true (p := (s[k - 1].toNat : Int) = 47) (by simpa using h2)
    omega))
   go_ret
   exact ⟨by rw [← D]; rfl, b1⟩
  ·have h2 : ((s[k - 1].toNat : Int) != 47) = false := by assumption
   have D := unhide DONE (.inr (by
    rw [List.getElem?_eq_getElem (by rw [unhide HL]; omega)]
    refine congrArg some (UInt8.toNat_inj.1 (show s[k - 1].toNat = 47 from ?_))
    have h2 := of_decide_eq_true (p := (s[k - 1].toNat : Int) = 47) (by simpa using h2)
    omega))
   have D' : ByteArray.empty = x := by rw [← D, show k - 1 = 0 by omega]; simp
   go_ret
   exact ⟨by rw [← D']; rfl, b1⟩
  ·have D := unhide DONE (.inl (by omega))
   have D' : ByteArray.empty = x := by rw [← D, show k - 1 = 0 by omega]; simp
   go_ret
   exact ⟨by rw [← D']; rfl, b1⟩

theorem OStV.kept {w w' : World} {B : Nat} {v : Value} {ss : List St} {vs : List Value} {row : Option Nat} (h : OStV w B v ss vs) (hg : w.grownBy w' row) (hv : v.ownBlock = none ∨ v.ownBlock ≠ row) (hs : ∀ k, k < ss.length → (vs.getD k (.slice none 0 0)).ownBlock = none ∨ (vs.getD k (.slice none 0 0)).ownBlock ≠ row) : OStV w' B v ss vs :=
 ⟨h.len, World.ownsRow.kept h.row hg hv, fun k hk => World.ownsRow.kept (h.each k hk) hg (hs k hk), h.apart⟩
end Go.Proofs.YtmpmedbojfjnaaaGreatDoor
