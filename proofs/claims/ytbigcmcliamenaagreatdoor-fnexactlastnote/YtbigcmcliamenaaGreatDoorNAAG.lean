/- Texts that belong together: NoteAs, GetPlain. -/
import Derived.Test.YtbigcmcliamenaaGreatDoorNAAA
import Derived.LaidEql
import Derived.RowKitTokens
import Derived.WalkKit
import Derived.Laws.BitsAllLaws
namespace Go.Proofs.YtbigcmcliamenaaGreatDoor
open Go.RowKit Go.Extern

abbrev lackV (n : Int) : Value := .iface 123 (.agg #[.int .i64 n])
def EnvT (w : World) : Prop := w.cell? ⟨0, 0, none⟩ = some (.iface 186 (.agg #[.pointer (some ⟨8, 78, none⟩)]))
theorem EnvT.below {w w' : World} (h : EnvT w) (hb : Below w.heap.size w w') : EnvT w' := (hb.cell (cell_lt h)).trans h
theorem EnvT.kp {w w' : World} {X : Nat → Prop} (h : EnvT w) (k : Kp w w' X) (hx : ¬ X 0) : EnvT w' := k.cell h hx

set_option maxRecDepth 100000 in
theorem as_nil (t : Value) (w : World) :
 Calls Tryz.prog 96 #[.nilIface, t] w fun e w' => e = .returned (.bool false) ∧ w' = w := by
 go_enter Tryz.func96, Tryz.ntmps96
 go_wp2
 go_ret
 exact ⟨rfl, rfl⟩

theorem Tryz.valueOfP (t : Addr) (w : World) : (ReflectliteValue.unpack (.iface 125 (.pointer (some t)))).run Tryz.prog w
 = .ok (.agg #[.pointer (some ⟨8, 125, none⟩), .pointer (some ⟨w.heap.size, 0, none⟩), .int .u64 150]) (w.alloc (.cells #[.pointer (some t)] 125)) := by kernel_rfl
theorem Tryz.typeP (a : Addr) (w : World) : (ReflectliteValue.methodAny (ReflectliteValue.valueError "reflectlite.Value.Type" 0) (fun t _ _ _ => ReflectliteType.toType t) #[.agg #[.pointer (some ⟨8, 125, none⟩), .pointer (some a), .int .u64 150]]).run Tryz.prog w
 = .ok (.iface 186 (.agg #[.pointer (some ⟨8, 125, none⟩)])) w := by kernel_rfl
theorem Tryz.methodKind (h : Value) (w : World) : (Go.method 400 186 (.agg #[h]) "Kind").run Tryz.prog w = .ok (232, h) w := by kernel_rfl
theorem Tryz.kindP (w : World) : ((ReflectliteType.abiMethod fun t => (fun a : Nat => Value.int IntKind.u8 (a : Int)) <$> Rtype.kind t) #[.pointer (some ⟨8, 125, none⟩)]).run Tryz.prog w = .ok (.int .u8 22) w := by kernel_rfl
theorem Tryz.kindL (w : World) : ((ReflectliteType.abiMethod fun t => (fun a : Nat => Value.int IntKind.u8 (a : Int)) <$> Rtype.kind t) #[.pointer (some ⟨8, 123, none⟩)]).run Tryz.prog w = .ok (.int .u8 25) w := by kernel_rfl
theorem Tryz.partsP (a : Addr) (w : World) : (ReflectliteValue.parts (.agg #[.pointer (some ⟨8, 125, none⟩), .pointer (some a), .int .u64 150])).run Tryz.prog w = .ok (some (125, a, 150)) w := by kernel_rfl
theorem Tryz.isNilP (a p : Addr) (W : World) (ha : W.cell? a = some (.pointer (some p))) :
 (ReflectliteValue.method (ReflectliteValue.valueError "reflectlite.Value.IsNil" 0) ReflectliteValue.isNil #[.agg #[.pointer (some ⟨8, 125, none⟩), .pointer (some a), .int .u64 150]]).run Tryz.prog W = .ok (.bool false) W := by
 have h1 := Tryz.partsP a W
 have h2 := Tryz.underlying125
 generalize Tryz.prog = P at *
 generalize (.agg #[.pointer (some ⟨8, 125, none⟩), .pointer (some a), .int .u64 150] : Value) = v at *
 conv => lhs; arg 2; whnf
 change Sem.run P (ReflectliteValue.parts v >>= _) W = _
 simp only [Sem.run_bind, h1]
 simp only [Result.andThen]
 simp [ReflectliteValue.isNil, loadVar, isAgg, underlying, h2, ha, Result.andThen]
theorem Tryz.methodElem (h : Value) (w : World) : (Go.method 400 186 (.agg #[h]) "Elem").run Tryz.prog w = .ok (246, .agg #[h]) w := by kernel_rfl
theorem Tryz.methodImplements (h : Value) (w : World) : (Go.method 400 186 (.agg #[h]) "Implements").run Tryz.prog w = .ok (247, .agg #[h]) w := by kernel_rfl
theorem Tryz.methodAssignableTo (h : Value) (w : World) : (Go.method 400 186 (.agg #[h]) "AssignableTo").run Tryz.prog w = .ok (244, .agg #[h]) w := by kernel_rfl
theorem Tryz.elemP (w : World) : (ReflectliteType.method ReflectliteType.elem #[.agg #[.pointer (some ⟨8, 125, none⟩)]]).run Tryz.prog w = .ok (.iface 186 (.agg #[.pointer (some ⟨8, 123, none⟩)])) w := by kernel_rfl
theorem Tryz.implementsL (w : World) : (ReflectliteType.relation "Implements" ReflectliteType.implements_ #[.agg #[.pointer (some ⟨8, 123, none⟩)], .iface 186 (.agg #[.pointer (some ⟨8, 78, none⟩)])]).run Tryz.prog w = .ok (.bool true) w := by kernel_rfl
theorem Tryz.typeOfL (v : Value) (w : World) : (ReflectliteType.typeOf #[.iface 123 v]).run Tryz.prog w = .ok (.iface 186 (.agg #[.pointer (some ⟨8, 123, none⟩)])) w := by kernel_rfl
theorem Tryz.assignableL (w : World) : (ReflectliteType.relation "AssignableTo" ReflectliteType.assignableTo #[.agg #[.pointer (some ⟨8, 123, none⟩)], .iface 186 (.agg #[.pointer (some ⟨8, 123, none⟩)])]).run Tryz.prog w = .ok (.bool true) w := by kernel_rfl
theorem Tryz.valueOfL (n : Int) (w : World) : (ReflectliteValue.unpack (.iface 123 (.agg #[.int .i64 n]))).run Tryz.prog w
 = .ok (.agg #[.pointer (some ⟨8, 123, none⟩), .pointer (some ⟨w.heap.size, 0, none⟩), .int .u64 153]) (w.alloc (.cells #[.int .i64 n] 123)) := by kernel_rfl
theorem Tryz.elemOfP (w : World) : (Rtype.elem? 125).run Tryz.prog w = .ok (some 123) w := by kernel_rfl
theorem Tryz.mkL (p : Addr) (w : World) : (ReflectliteValue.mk 123 p ReflectliteValue.flagAddr).run Tryz.prog w = .ok (.agg #[.pointer (some ⟨8, 123, none⟩), .pointer (some p), .int .u64 409]) w := by kernel_rfl
theorem Tryz.elemVP (a p : Addr) (W : World) (ha : W.cell? a = some (.pointer (some p))) :
 (ReflectliteValue.method (ReflectliteValue.valueError "reflectlite.Value.Elem" 0) ReflectliteValue.elem #[.agg #[.pointer (some ⟨8, 125, none⟩), .pointer (some a), .int .u64 150]]).run Tryz.prog W
  = .ok (.agg #[.pointer (some ⟨8, 123, none⟩), .pointer (some p), .int .u64 409]) W := by
 have h1 := Tryz.partsP a W
 have h2 := Tryz.underlying125
 have h3 := Tryz.elemOfP
 have h4 := Tryz.mkL
 generalize Tryz.prog = P at *
 generalize (.agg #[.pointer (some ⟨8, 125, none⟩), .pointer (some a), .int .u64 150] : Value) = v at *
 conv => lhs; arg 2; whnf
 change Sem.run P (ReflectliteValue.parts v >>= _) W = _
 simp only [Sem.run_bind, h1, Result.andThen]
 simp [ReflectliteValue.elem, loadVar, isAgg, underlying, h2, ha, Result.andThen, h3, h4]
theorem Tryz.partsLa (a : Addr) (w : World) : (ReflectliteValue.parts (.agg #[.pointer (some ⟨8, 123, none⟩), .pointer (some a), .int .u64 409])).run Tryz.prog w = .ok (some (123, a, 409)) w := by kernel_rfl
theorem Tryz.partsL (a : Addr) (w : World) : (ReflectliteValue.parts (.agg #[.pointer (some ⟨8, 123, none⟩), .pointer (some a), .int .u64 153])).run Tryz.prog w = .ok (some (123, a, 153)) w := by kernel_rfl
theorem Tryz.directL (w : World) : (Rtype.directlyAssignable 123 123).run Tryz.prog w = .ok true w := by kernel_rfl
theorem Tryz.sizeL (w : World) : (sizeOf 123).run Tryz.prog w = .ok 1 w := by kernel_rfl
theorem Tryz.isAggL (w : World) : (isAgg 123).run Tryz.prog w = .ok true w := by kernel_rfl
theorem Tryz.setL (g b : Nat) (n : Int) (old : Value) (W : World) (hb : W.cell? ⟨b, 0, none⟩ = some (.int .i64 n)) (ht : W.cell? ⟨g, 0, none⟩ = some old) (hf : W.frozen? ⟨g, 0, none⟩ = false) :
 (ReflectliteValue.set #[.agg #[.pointer (some ⟨8, 123, none⟩), .pointer (some ⟨g, 0, none⟩), .int .u64 409], .agg #[.pointer (some ⟨8, 123, none⟩), .pointer (some ⟨b, 0, none⟩), .int .u64 153]]).run Tryz.prog W
  = .ok (.tuple #[]) (W.setCell ⟨g, 0, none⟩ (.int .i64 n)) := by
 have h1 := Tryz.partsLa ⟨g, 0, none⟩ W
 have h2 := Tryz.partsL ⟨b, 0, none⟩ W
 have h3 := Tryz.isAggL
 have h4 := Tryz.sizeL
 have h5 := Tryz.directL
 generalize Tryz.prog = P at *
 generalize (.agg #[.pointer (some ⟨8, 123, none⟩), .pointer (some ⟨g, 0, none⟩), .int .u64 409] : Value) = v at *
 generalize (.agg #[.pointer (some ⟨8, 123, none⟩), .pointer (some ⟨b, 0, none⟩), .int .u64 153] : Value) = x at *
 conv => lhs; arg 2; whnf
 change Sem.run P (ReflectliteValue.parts v >>= _) W = _
 have h2' : Sem.run P (ReflectliteValue.parts (#[v, x].getLit 1 rfl (by simp))) W = _ := h2
 simp only [Sem.run_bind, h1, h2', Result.andThen]
 simp [loadCells, loadCellsFrom, ReflectliteValue.flagAddr, loadVar, h3, h4, hb, Result.andThen, h5, storeVar, Value.cells, storeCells, Addr.add]
 rw [run_store P W ⟨g, 0, none⟩ _ _ (by rfl)]
 simp [ht, hf]

set_option maxHeartbeats 8000000 in
set_option maxRecDepth 100000 in
theorem as_hit (n : Int) (g : Nat) (old : Value) (w : World) (hg : EnvT w) (hl : Loc w g #[old]) :
 Calls Tryz.prog 96 #[lackV n, .iface 125 (.pointer (some ⟨g, 0, none⟩))] w fun e w' => e = .returned (.bool true) ∧ Loc w' g #[.int .i64 n] ∧ Kp w w' (fun k => k = g) := by
 have h6 := @run_callFunc_extern Tryz.prog 126 _ (fun args => ReflectliteValue.unpack (args.getD 0 (.tuple #[]))) Tryz.func126 (by kernel_rfl) (by kernel_rfl) (by kernel_rfl) (by kernel_rfl)
 have h7 := @run_callFunc_extern Tryz.prog 127 _ (ReflectliteValue.methodAny (ReflectliteValue.valueError "reflectlite.Value.Type" 0) (fun t _ _ _ => ReflectliteType.toType t)) Tryz.func127 (by kernel_rfl) (by kernel_rfl) (by kernel_rfl) (by kernel_rfl)
 have h8 := @run_callFunc_extern Tryz.prog 128 _ (ReflectliteValue.method (ReflectliteValue.valueError "reflectlite.Value.IsNil" 0) ReflectliteValue.isNil) Tryz.func128 (by kernel_rfl) (by kernel_rfl) (by kernel_rfl) (by kernel_rfl)
 have h27 := @run_callFunc_extern Tryz.prog 232 _ (ReflectliteType.abiMethod fun t => do pure (.int .u8 (← Rtype.kind t))) Tryz.func232 (by kernel_rfl) (by kernel_rfl) (by kernel_rfl) (by kernel_rfl)
 have h37 := @run_callFunc_extern Tryz.prog 246 _ (ReflectliteType.method ReflectliteType.elem) Tryz.func246 (by kernel_rfl) (by kernel_rfl) (by kernel_rfl) (by kernel_rfl)
 have h38 := @run_callFunc_extern Tryz.prog 247 _ (ReflectliteType.relation "Implements" ReflectliteType.implements_) Tryz.func247 (by kernel_rfl) (by kernel_rfl) (by kernel_rfl) (by kernel_rfl)
 have h10 := @run_callFunc_extern Tryz.prog 146 _ ReflectliteType.typeOf Tryz.func146 (by kernel_rfl) (by kernel_rfl) (by kernel_rfl) (by kernel_rfl)
 have h35 := @run_callFunc_extern Tryz.prog 244 _ (ReflectliteType.relation "AssignableTo" ReflectliteType.assignableTo) Tryz.func244 (by kernel_rfl) (by kernel_rfl) (by kernel_rfl) (by kernel_rfl)
 have h11 := @run_callFunc_extern Tryz.prog 147 _ (ReflectliteValue.method (ReflectliteValue.valueError "reflectlite.Value.Elem" 0) ReflectliteValue.elem) Tryz.func147 (by kernel_rfl) (by kernel_rfl) (by kernel_rfl) (by kernel_rfl)
 have h12 := @run_callFunc_extern Tryz.prog 148 _ ReflectliteValue.set Tryz.func148 (by kernel_rfl) (by kernel_rfl) (by kernel_rfl) (by kernel_rfl)
 have tO := Tryz.typeOfL
 have mA := Tryz.methodAssignableTo
 have aL := Tryz.assignableL
 have vL := Tryz.valueOfL
 have f6 := Tryz.valueOfP
 have f7 := Tryz.typeP
 have mK := Tryz.methodKind
 have mE := Tryz.methodElem
 have mI := Tryz.methodImplements
 have kP := Tryz.kindP
 have kL := Tryz.kindL
 have eP := Tryz.elemP
 have iL := Tryz.implementsL
 have n8 := Tryz.isNilP ⟨w.heap.size, 0, none⟩ ⟨g, 0, none⟩ ((w.alloc (.cells #[.pointer (some ⟨g, 0, none⟩)] 125)).alloc (.cells #[.pointer (some ⟨8, 125, none⟩), .pointer (some ⟨w.heap.size, 0, none⟩), .int .u64 150] 158)) (by simp)
 have L4 : Loc ((((w.alloc (.cells #[.pointer (some ⟨g, 0, none⟩)] 125)).alloc (.cells #[.pointer (some ⟨8, 125, none⟩), .pointer (some ⟨w.heap.size, 0, none⟩), .int .u64 150] 158)).alloc (.cells #[.pointer (some ⟨8, 125, none⟩), .pointer (some ⟨w.heap.size, 0, none⟩), .int .u64 150] 158)).alloc (.cells #[.int .i64 n] 123)) g #[old] := (((hl.alloc _).alloc _).alloc _).alloc _
 have hg2 : ((w.alloc (.cells #[.pointer (some ⟨g, 0, none⟩)] 125)).alloc (.cells #[.pointer (some ⟨8, 125, none⟩), .pointer (some ⟨w.heap.size, 0, none⟩), .int .u64 150] 158)).cell? ⟨0, 0, none⟩ = some (.iface 186 (.agg #[.pointer (some ⟨8, 78, none⟩)])) := (hg.below ((Below.refl _ _).alloc (Nat.le_refl _) _)).below ((Below.refl _ _).alloc (Nat.le_refl _) _)
 have el := Tryz.elemVP ⟨w.heap.size, 0, none⟩ ⟨g, 0, none⟩ (((w.alloc (.cells #[.pointer (some ⟨g, 0, none⟩)] 125)).alloc (.cells #[.pointer (some ⟨8, 125, none⟩), .pointer (some ⟨w.heap.size, 0, none⟩), .int .u64 150] 158)).alloc (.cells #[.pointer (some ⟨8, 125, none⟩), .pointer (some ⟨w.heap.size, 0, none⟩), .int .u64 150] 158)) (by rw [World.cell?_alloc_lt _ _ ⟨w.heap.size, 0, none⟩ (by simp; omega)]; simp)
 have st := Tryz.setL g (w.heap.size + 1 + 1 + 1) n old ((((w.alloc (.cells #[.pointer (some ⟨g, 0, none⟩)] 125)).alloc (.cells #[.pointer (some ⟨8, 125, none⟩), .pointer (some ⟨w.heap.size, 0, none⟩), .int .u64 150] 158)).alloc (.cells #[.pointer (some ⟨8, 125, none⟩), .pointer (some ⟨w.heap.size, 0, none⟩), .int .u64 150] 158)).alloc (.cells #[.int .i64 n] 123)) (by rw [World.cell?_alloc_at _ _ _ _ (by simp)]; rfl) (L4.cell 0 rfl) (L4.frozen 0)
 go_enter Tryz.func96, Tryz.ntmps96
 go_wp2
 refine wp_loop_rounds 1 ?_
 rw [rounds_succ]
 go_wp2
 go_ret
 have K4 : Kp w ((((w.alloc (.cells #[.pointer (some ⟨g, 0, none⟩)] 125)).alloc (.cells #[.pointer (some ⟨8, 125, none⟩), .pointer (some ⟨w.heap.size, 0, none⟩), .int .u64 150] 158)).alloc (.cells #[.pointer (some ⟨8, 125, none⟩), .pointer (some ⟨w.heap.size, 0, none⟩), .int .u64 150] 158)).alloc (.cells #[.int .i64 n] 123)) (fun k => k = g) := Below.kpOf (((((Below.refl _ _).alloc (Nat.le_refl _) _).alloc (by simp) _).alloc (by simp; omega) _).alloc (by simp; omega) _) _
 exact ⟨rfl, L4.set 0 _ rfl, K4.trans (set_kp _ _ _ _)⟩
end Go.Proofs.YtbigcmcliamenaaGreatDoor
namespace Go.Proofs.YtbigcmcliamenaaGreatDoor

def getF (xs : List Int) : Nat → Nat → Nat → Int → Option (Int × Int)
 | 0, _, _, _ => none
 | f + 1, i, p, n =>
  if p < xs.length then
   (if 128 ≤ xs.getD p 0 then getF xs f (i + 1) (p + 1) (n + xs.getD p 0 % 128 * 128 ^ i)
    else if 2147483647 < n + xs.getD p 0 % 128 * 128 ^ i ∨ (xs.getD p 0 = 0 ∧ 0 < i) then none
    else some (n + xs.getD p 0 % 128 * 128 ^ i, (p : Int) + 1))
  else none
def getNum (xs : List Int) (p : Int) : Option (Int × Int) := if p < 0 then none else getF xs 5 0 p.toNat 0

theorem getF_out (xs : List Int) (f i p : Nat) (n : Int) (h : ¬ p < xs.length) : getF xs f i p n = none := by cases f <;> simp [getF, h]
theorem getF_more (xs : List Int) (f i p : Nat) (n : Int) (h : p < xs.length) (hd : 128 ≤ xs.getD p 0) : getF xs (f + 1) i p n = getF xs f (i + 1) (p + 1) (n + xs.getD p 0 % 128 * 128 ^ i) := by
 rw [getF, if_pos h, if_pos hd]
theorem getF_bad (xs : List Int) (f i p : Nat) (n : Int) (h : p < xs.length) (hd : ¬ 128 ≤ xs.getD p 0) (hb : 2147483647 < n + xs.getD p 0 % 128 * 128 ^ i ∨ (xs.getD p 0 = 0 ∧ 0 < i)) : getF xs (f + 1) i p n = none := by
 rw [getF, if_pos h, if_neg hd, if_pos hb]
theorem getF_end (xs : List Int) (f i p : Nat) (n : Int) (h : p < xs.length) (hd : ¬ 128 ≤ xs.getD p 0) (hb : ¬ (2147483647 < n + xs.getD p 0 % 128 * 128 ^ i ∨ (xs.getD p 0 = 0 ∧ 0 < i))) : getF xs (f + 1) i p n = some (n + xs.getD p 0 % 128 * 128 ^ i, (p : Int) + 1) := by
 rw [getF, if_pos h, if_neg hd, if_neg hb]
theorem getF_step {xs : List Int} {f i q : Nat} {n d c : Int} {r : Option (Int × Int)} (hc : (128 : Int) ^ i = c) (hr : r = getF xs (f + 1) i q n) (hq : q < xs.length) (hd : xs.getD q 0 = d) (h1 : 128 ≤ d) : r = getF xs f (i + 1) (q + 1) (n + d % 128 * c) := by
 subst hc; subst hd; rw [hr]; exact getF_more xs f i q n hq h1
theorem getF_no {xs : List Int} {f i q : Nat} {n d c : Int} {r : Option (Int × Int)} (hc : (128 : Int) ^ i = c) (hr : r = getF xs (f + 1) i q n) (hq : q < xs.length) (hd : xs.getD q 0 = d) (h1 : ¬ 128 ≤ d) (hb : 2147483647 < n + d % 128 * c ∨ (d = 0 ∧ 0 < i)) : r = none := by
 subst hc; subst hd; rw [hr]; exact getF_bad xs f i q n hq h1 hb
theorem getF_yes {xs : List Int} {f i q : Nat} {n d c : Int} {r : Option (Int × Int)} (hc : (128 : Int) ^ i = c) (hr : r = getF xs (f + 1) i q n) (hq : q < xs.length) (hd : xs.getD q 0 = d) (h1 : ¬ 128 ≤ d) (hb : ¬ (2147483647 < n + d % 128 * c ∨ (d = 0 ∧ 0 < i))) : r = some (n + d % 128 * c, (q : Int) + 1) := by
 subst hc; subst hd; rw [hr]; exact getF_end xs f i q n hq h1 hb
theorem getNum_neg (xs : List Int) (p : Int) (h : p < 0) : getNum xs p = none := by simp [getNum, h]
theorem getNum_nat (xs : List Int) (p : Nat) : getNum xs p = getF xs 5 0 p 0 := by rw [getNum, if_neg (by omega), Int.toNat_natCast]
theorem or_mul (a b i m : Nat) (hm : m = 2 ^ i) (h : a < m) : a ||| (b * m) = b * m + a := by
 subst hm
 rw [Nat.or_comm, ← Nat.shiftLeft_eq, Nat.shiftLeft_add_eq_or_of_lt h]
theorem i64_or_nat (a b : Nat) (ha : a < 9223372036854775808) (hb : b < 9223372036854775808) : bits .or .i64 (a : Int) (b : Int) = ((a ||| b : Nat) : Int) := by
 have hx : a ||| b < 2 ^ 63 := Nat.or_lt_two_pow (by omega) (by omega)
 show IntKind.i64.wrap ((BitVec.ofInt 64 (a : Int) ||| BitVec.ofInt 64 (b : Int)).toNat : Int) = _
 rw [BitVec.toNat_or, ofInt_u64 a (by omega), ofInt_u64 b (by omega), IntKind.wrap_i64]
 omega
theorem or_sum (n d : Int) (m i : Nat) (hm : m = 2 ^ i) (hs : m ≤ 268435456) (a0 : 0 ≤ n) (b0 : n < m) (a1 : 0 ≤ d) (b1 : d < 128) : bits BinOp.or IntKind.i64 n (d * (m : Int)) = n + d * (m : Int) := by
 obtain ⟨a, rfl⟩ := Int.eq_ofNat_of_zero_le a0
 obtain ⟨b, rfl⟩ := Int.eq_ofNat_of_zero_le a1
 have hbm : b * m ≤ 127 * 268435456 := Nat.mul_le_mul (by omega) hs
 rw [← Int.natCast_mul, i64_or_nat a (b * m) (by omega) (by omega), or_mul a b i m hm (by omega)]
 rw [Int.natCast_add, Int.add_comm]
end Go.Proofs.YtbigcmcliamenaaGreatDoor
