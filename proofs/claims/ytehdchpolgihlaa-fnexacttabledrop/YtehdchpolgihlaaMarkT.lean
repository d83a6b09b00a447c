/- MarkT: laws.markText. -/
import Derived.Test.YtehdchpolgihlaaOneStr
import Derived.Test.YtehdchpolgihlaaDigPlain
namespace Go.Proofs.Ytehdchpolgihlaa
open Go.RowKit

/-- The text that marks number k. -/
def markT (k : Nat) : ByteArray := ⟨(109 :: Lib.decDigits k).toArray⟩

set_option maxHeartbeats 800000 in
set_option maxRecDepth 100000 in
theorem markText_any (n : Nat) (w : World) (hn : 0 < n) (hm : n ≤ 9223372036854775807) :
    Calls Try.prog 39 #[.int .i64 n] w fun e w' => e = .returned (.string (markT n)) ∧ Below w.heap.size w w' := by
  have hcv := one_str
  have hsz := one_size
  go_enter Try.func39, Try.ntmps39
  go_wp2
  go_loopw [0, 3] (fun x s wr => ∃ (m : Nat) (t : List UInt8), m ≤ 9223372036854775807 ∧ DAt n m t ∧ x = .int .i64 m ∧ s = .string ⟨t.toArray⟩ ∧ Below w.heap.size w wr) (fun x _ _ => (intOf x).toNat)
  case atStart => exact ⟨n, [], hm, dat_start n (by omega), rfl, rfl, Below.refl _ _⟩
  case round =>
    obtain ⟨m, t, hm', hd, rfl, rfl, hb⟩ := hrel
    have ht20 := hd.2.1
    by_cases h0 : m = 0
    · subst h0
      have HE := hide (dat_end hd (by omega))
      clear hd
      go_wp2
      go_ret
      have HE' := unhide HE
      subst HE'
      exact ⟨by apply congrArg Ending.returned; apply congrArg Value.string; apply ByteArray.ext; apply Array.toList_inj.1; simp [markT], hb⟩
    · have hpos : 0 < m := by omega
      obtain ⟨hd', hl⟩ := dat_step hd h0
      have HD := hide hd'
      clear hd hd'
      have hs0 := hb.size
      have hmo := one_more (m % 10) t (by omega)
      have hbl : Below w.heap.size w (wr.alloc (.cells #[.int .u8 (48 + (m : Int) % 10)] 5)) := hb.alloc hs0 _
      go_wp2
      go_roundw
      case rel => exact ⟨m / 10, _, by omega, unhide HD, by go_num, by rw [← hmo]; rfl, hbl⟩
      case measure => simp [intOf]; omega
end Go.Proofs.Ytehdchpolgihlaa
