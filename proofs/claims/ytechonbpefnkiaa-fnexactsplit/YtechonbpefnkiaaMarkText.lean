/- Lists of texts: what laws.eqStringS, markText, markStringS and heldStringS do with them. -/
import Derived.Test.YtechonbpefnkiaaClone
import Derived.Test.YtechonbpefnkiaaOneStr
import Derived.Test.YtechonbpefnkiaaDigPlain
namespace Go.Proofs.Ytechonbpefnkiaa
open Go.RowKit

/-- The slice value v reads as the texts xs. -/
def RS (w : World) (v : Value) (xs : List ByteArray) : Prop :=
  xs.length ≤ 140737488355328 ∧ ∃ ao cap, v = .slice ao xs.length cap ∧ (xs = [] ∨ ∃ b off, ao = some ⟨b, off, none⟩ ∧ ∀ k, k < xs.length → w.cell? ⟨b, off + k, none⟩ = some (.string (xs.getD k ByteArray.empty)))
theorem OS.rs {w : World} {base : Nat} {v : Value} {xs : List ByteArray} (h : OS w base v xs) (hl : xs.length ≤ 140737488355328) : RS w v xs := by
  refine ⟨hl, ?_⟩
  rcases h.2 with ⟨rfl, h0⟩ | ⟨g, cap, cur, rfl, _⟩
  · exact ⟨none, 0, by rw [h0], .inl (List.length_eq_zero_iff.1 h0)⟩
  · refine ⟨_, cap, rfl, .inr ⟨g, 0, rfl, fun k hk => ?_⟩⟩
    have := World.ownsRow.cellAt h k (by omega)
    rw [Nat.zero_add, this]
    simp [List.getElem?_map, List.getElem?_eq_getElem hk]
theorem OS.drewN {w : World} {base : Nat} {v : Value} {xs : List ByteArray} (h : OS w base v xs) (n : Nat) : OS (w.drewN n) base v xs := h
theorem OS.apart {w w' : World} {base N : Nat} {v u : Value} {xs : List ByteArray} (h : OS w base v xs) (hg : w.grownBy w' u.ownBlock) (hv : ∀ k, v.ownBlock = some k → k < N) (hu : ∀ k, u.ownBlock = some k → N ≤ k) : OS w' base v xs := by
  refine World.ownsRow.kept h hg ?_
  cases hv' : v.ownBlock with
  | none => exact .inl rfl
  | some k => exact .inr fun e => by have := hv k hv'; have := hu k e.symm; omega

set_option maxHeartbeats 800000 in
theorem eqs_yes (va vb : Value) (xs : List ByteArray) (w : World) (ha : RS w va xs) (hb : RS w vb xs) :
    Calls Try.prog 15 #[va, vb] w fun e w' => e = .returned (.bool true) ∧ ∃ n, w' = w.drewN n := by
  obtain ⟨hl, ao, ca, rfl, ha⟩ := ha
  obtain ⟨_, bo, cb, rfl, hb⟩ := hb
  generalize hn : xs.length = n at *
  have Hn : Hid (xs.length = n) := hn
  clear hn
  go_enter Try.func15, Try.ntmps15
  go_wp2
  go_loopw [5] (fun i wr => ∃ k : Nat, k ≤ n ∧ i = .int .i64 k ∧ ∃ m, wr = w.drewN m) (fun i _ => n - (intOf i).toNat)
  case atStart => exact ⟨0, Nat.zero_le _, rfl, 0, rfl⟩
  case round =>
    obtain ⟨k, hk, rfl, m, rfl⟩ := hrel
    by_cases hlt : k < n
    · rcases ha with ha | ⟨b, off, rfl, ha⟩
      · subst ha; have := Hn.out; simp at this; omega
      rcases hb with hb | ⟨b', off', rfl, hb⟩
      · subst hb; have := Hn.out; simp at this; omega
      have ha' := ha k hlt
      have hb' := hb k hlt
      clear ha hb
      generalize xs.getD k ByteArray.empty = x at *
      go_wp2_with fail
      go_quiet (fail)
      go_wp2
      go_roundw
      case rel => exact ⟨k + 1, by omega, by go_num, _, rfl⟩
      case measure => simp [intOf]; omega
    · clear ha hb
      go_wp2
      go_ret
      exact ⟨rfl, _, rfl⟩

/-- The text that marks number k. -/
def markT (k : Nat) : ByteArray := ⟨(109 :: Lib.decDigits k).toArray⟩

set_option maxHeartbeats 800000 in
theorem markText_any (n : Nat) (w : World) (hn : 0 < n) (hm : n ≤ 9223372036854775807) :
    Calls Try.prog 20 #[.int .i64 n] w fun e w' => e = .returned (.string (markT n)) ∧ Below w.heap.size w w' := by
  have hcv := one_str
  have hsz := one_size
  go_enter Try.func20, Try.ntmps20
  go_wp2
  go_loopw [0, 3] (fun x s wr => ∃ (m : Nat) (t : List UInt8), m ≤ 9223372036854775807 ∧ DAt n m t ∧ x = .int .i64 m ∧ s = .string ⟨t.toArray⟩ ∧ Below w.heap.size w wr) (fun x _ _ => (intOf x).toNat)
  case atStart => exact ⟨n, [], hm, dat_start n (by omega), rfl, rfl, Below.refl _ _⟩
  case round =>
    obtain ⟨m, t, hm', hd, rfl, rfl, hb⟩ := hrel
    have ht20 := hd.2.1
    by_cases h0 : m = 0
    · subst h0
      have HE := hide (dat_end hd (by omega))
      clear hd
      go_wp2
      go_ret
      have HE' := unhide HE
      subst HE'
      exact ⟨by apply congrArg Ending.returned; apply congrArg Value.string; apply ByteArray.ext; apply Array.toList_inj.1; simp [markT], hb⟩
    · have hpos : 0 < m := by omega
      obtain ⟨hd', hl⟩ := dat_step hd h0
      have HD := hide hd'
      clear hd hd'
      have hs0 := hb.size
      have hmo := one_more (m % 10) t (by omega)
      have hbl : Below w.heap.size w (wr.alloc (.cells #[.int .u8 (48 + (m : Int) % 10)] 5)) := hb.alloc hs0 _
      go_wp2
      go_roundw
      case rel => exact ⟨m / 10, _, by omega, unhide HD, by go_num, by rw [← hmo]; rfl, hbl⟩
      case measure => simp [intOf]; omega
end Go.Proofs.Ytechonbpefnkiaa
