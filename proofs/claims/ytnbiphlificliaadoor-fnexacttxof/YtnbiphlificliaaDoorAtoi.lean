/- strconv.Atoi at this program: at a numeral it answers the number; else a number or an error. -/
import Derived.Test.YtnbiphlificliaaDoorDigits
import Derived.Test.YtnbiphlificliaaDoorShelfAtoi
import Derived.Test.YtnbiphlificliaaDoorNumPlain
import Derived.Lib.AtoiErrMem
namespace Go.Proofs.YtnbiphlificliaaDoor
open Go.RowKit
set_option linter.unusedSectionVars false

theorem bytes_below (w : World) (e : TypeId) (t : ByteArray) : Below w.heap.size w (Lib.bytesWorld w e t) := Lib.bytesWorld_below w e t

theorem atoi_num (s : ByteArray) (n : Nat) (w : World) (h : Hid (numOf s.data.toList = some n)) :
    Calls Tryd.prog 82 #[.string s] w fun e w' => e = .returned (.tuple #[.int .i64 n, .nilIface]) ∧ Below w.heap.size w w' := by
  obtain ⟨h1, h2⟩ := numOf_some h.out
  have hl := numOf_len h.out
  have hs : s.size ≤ 18 := by simp at hl; omega
  refine (Tryd.strconv_Atoi s (n : Int) hs (by rw [← h2]; exact atoi_digits n) w).mono ?_
  rintro e w' ⟨rfl, t, rfl⟩
  exact ⟨rfl, bytes_below _ _ _⟩

/-- How Atoi ends at a text: a number, or an error that is not nil. -/
def AtoiEnd (e : Ending) : Prop := (∃ v : Int, e = .returned (.tuple #[.int .i64 v, .nilIface])) ∨ ∃ (v : Int) (t : TypeId) (x : Value), e = .returned (.tuple #[.int .i64 v, .iface t x])
theorem atoi_any (s : ByteArray) (hs : s.size ≤ 1048576) (w : World) (u1 u2 : TypeId) (p1 p2 : Value) (hy : w.cell? ⟨1, 0, none⟩ = some (.iface u1 p1)) (hr : w.cell? ⟨2, 0, none⟩ = some (.iface u2 p2)) :
    Calls Tryd.prog 82 #[.string s] w fun e w' => AtoiEnd e ∧ Below w.heap.size w w' := by
  cases h : Lib.atoiAll s.data.toList
  · refine (Tryd.strconv_Atoi_ok s (by omega) _ h w).mono ?_
    rintro e w' ⟨rfl, h1⟩
    refine ⟨.inl ⟨_, rfl⟩, ?_⟩
    · rcases h1 with rfl | ⟨t, rfl⟩
      · exact Below.refl _ _
      · exact bytes_below _ _ _
  · refine Calls.mono (Any.strconv_Atoi_syntax Tryd.laysC172 s (by omega) h _ w hy (.inr ⟨_, _, rfl⟩)) ?_
    rintro e w' ⟨N, rfl, _, _, hb⟩
    exact ⟨.inr ⟨_, _, _, rfl⟩, hb⟩
  · refine Calls.mono (Any.strconv_Atoi_range Tryd.laysC172 s (by omega) h _ w hr (.inr ⟨_, _, rfl⟩)) ?_
    rintro e w' ⟨N, rfl, _, _, hb⟩
    exact ⟨.inr ⟨_, _, _, rfl⟩, hb⟩
end Go.Proofs.YtnbiphlificliaaDoor
