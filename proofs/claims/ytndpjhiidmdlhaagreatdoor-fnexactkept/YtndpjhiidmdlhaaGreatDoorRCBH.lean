/- Texts that belong together: NoteAs, NotePlain, GetText. -/
import Derived.Test.YtndpjhiidmdlhaaGreatDoorRCAA
import Derived.LaidEql
import Derived.RowKitTokens
import Derived.Test.YtndpjhiidmdlhaaGreatDoorRCAQ
import Derived.Test.YtndpjhiidmdlhaaGreatDoorRCAW
import Derived.Test.YtndpjhiidmdlhaaGreatDoorRCAX
set_option maxRecDepth 100000
set_option maxHeartbeats 8000000
namespace Go.Proofs.YtndpjhiidmdlhaaGreatDoor
open Go.RowKit Go.Extern

abbrev lackV (n : Int) : Value := .iface 275 (.agg #[.int .i64 n])
def EnvT (w : World) : Prop := w.cell? ⟨0, 0, none⟩ = some (.iface 327 (.agg #[.pointer (some ⟨8, 214, none⟩)]))
theorem EnvT.below {w w' : World} (h : EnvT w) (hb : Below w.heap.size w w') : EnvT w' := (hb.cell (cell_lt h)).trans h
theorem EnvT.kp {w w' : World} {X : Nat → Prop} (h : EnvT w) (k : Kp w w' X) (hx : ¬ X 0) : EnvT w' := k.cell h hx

theorem as_nil (t : Value) (w : World) :
 Calls Tryz.prog 224 #[.nilIface, t] w fun e w' => e = .returned (.bool false) ∧ w' = w := by
 go_enter Tryz.func224, Tryz.ntmps224
 go_wp2
 go_ret
 exact ⟨rfl, rfl⟩

theorem Tryz.valueOfP (t : Addr) (w : World) : (ReflectliteValue.unpack (.iface 277 (.pointer (some t)))).run Tryz.prog w
 = .ok (.agg #[.pointer (some ⟨8, 277, none⟩),.pointer (some ⟨w.heap.size, 0, none⟩),.int .u64 150]) (w.alloc (.cells #[.pointer (some t)] 277)) := by kernel_rfl
theorem Tryz.typeP (a : Addr) (w : World) : (ReflectliteValue.methodAny (ReflectliteValue.valueError "reflectlite.Value.Type" 0) (fun t _ _ _ => ReflectliteType.toType t) #[.agg #[.pointer (some ⟨8, 277, none⟩), .pointer (some a), .int .u64 150]]).run Tryz.prog w
 = .ok (.iface 327 (.agg #[.pointer (some ⟨8, 277, none⟩)])) w := by kernel_rfl
theorem Tryz.methodKind (h : Value) (w : World) : (Go.method 527 327 (.agg #[h]) "Kind").run Tryz.prog w = .ok (356, h) w := by kernel_rfl
theorem Tryz.kindP (w : World) : ((ReflectliteType.abiMethod fun t => (fun a : Nat => Value.int IntKind.u8 (a : Int)) <$> Rtype.kind t) #[.pointer (some ⟨8, 277, none⟩)]).run Tryz.prog w = .ok (.int .u8 22) w := by kernel_rfl
theorem Tryz.kindL (w : World) : ((ReflectliteType.abiMethod fun t => (fun a : Nat => Value.int IntKind.u8 (a : Int)) <$> Rtype.kind t) #[.pointer (some ⟨8, 275, none⟩)]).run Tryz.prog w = .ok (.int .u8 25) w := by kernel_rfl
theorem Tryz.partsP (a : Addr) (w : World) : (ReflectliteValue.parts (.agg #[.pointer (some ⟨8, 277, none⟩),.pointer (some a),.int .u64 150])).run Tryz.prog w = .ok (some (277, a, 150)) w := by kernel_rfl
theorem Tryz.isNilP (a p : Addr) (W : World) (ha : W.cell? a = some (.pointer (some p))) :
 (ReflectliteValue.method (ReflectliteValue.valueError "reflectlite.Value.IsNil" 0) ReflectliteValue.isNil #[.agg #[.pointer (some ⟨8, 277, none⟩), .pointer (some a), .int .u64 150]]).run Tryz.prog W = .ok (.bool false) W := by
 have h1:=Tryz.partsP a W
 have h2:=Tryz.underlying277
 generalize Tryz.prog = P at *
 generalize (.agg #[.pointer (some ⟨8, 277, none⟩),.pointer (some a),.int .u64 150] : Value) = v at *
 conv => lhs; arg 2; whnf
 change Sem.run P (ReflectliteValue.parts v >>= _) W = _
 simp only [Sem.run_bind, h1]
 simp only [Result.andThen]
 simp [ReflectliteValue.isNil, loadVar, isAgg, underlying, h2, ha, Result.andThen]
theorem Tryz.methodElem (h : Value) (w : World) : (Go.method 527 327 (.agg #[h]) "Elem").run Tryz.prog w = .ok (386, .agg #[h]) w := by kernel_rfl
theorem Tryz.methodImplements (h : Value) (w : World) : (Go.method 527 327 (.agg #[h]) "Implements").run Tryz.prog w = .ok (387, .agg #[h]) w := by kernel_rfl
theorem Tryz.methodAssignableTo (h : Value) (w : World) : (Go.method 527 327 (.agg #[h]) "AssignableTo").run Tryz.prog w = .ok (384, .agg #[h]) w := by kernel_rfl
theorem Tryz.elemP (w : World) : (ReflectliteType.method ReflectliteType.elem #[.agg #[.pointer (some ⟨8, 277, none⟩)]]).run Tryz.prog w = .ok (.iface 327 (.agg #[.pointer (some ⟨8, 275, none⟩)])) w := by kernel_rfl
theorem Tryz.implementsL (w : World) : (ReflectliteType.relation "Implements" ReflectliteType.implements_ #[.agg #[.pointer (some ⟨8, 275, none⟩)], .iface 327 (.agg #[.pointer (some ⟨8, 214, none⟩)])]).run Tryz.prog w = .ok (.bool true) w := by kernel_rfl
theorem Tryz.typeOfL (v : Value) (w : World) : (ReflectliteType.typeOf #[.iface 275 v]).run Tryz.prog w = .ok (.iface 327 (.agg #[.pointer (some ⟨8, 275, none⟩)])) w := by kernel_rfl
theorem Tryz.assignableL (w : World) : (ReflectliteType.relation "AssignableTo" ReflectliteType.assignableTo #[.agg #[.pointer (some ⟨8, 275, none⟩)], .iface 327 (.agg #[.pointer (some ⟨8, 275, none⟩)])]).run Tryz.prog w = .ok (.bool true) w := by kernel_rfl
theorem Tryz.valueOfL (n : Int) (w : World) : (ReflectliteValue.unpack (.iface 275 (.agg #[.int .i64 n]))).run Tryz.prog w
 = .ok (.agg #[.pointer (some ⟨8, 275, none⟩),.pointer (some ⟨w.heap.size, 0, none⟩),.int .u64 153]) (w.alloc (.cells #[.int .i64 n] 275)) := by kernel_rfl
theorem Tryz.elemOfP (w : World) : (Rtype.elem? 277).run Tryz.prog w = .ok (some 275) w := by kernel_rfl
theorem Tryz.mkL (p : Addr) (w : World) : (ReflectliteValue.mk 275 p ReflectliteValue.flagAddr).run Tryz.prog w = .ok (.agg #[.pointer (some ⟨8, 275, none⟩),.pointer (some p),.int .u64 409]) w := by kernel_rfl
theorem Tryz.elemVP (a p : Addr) (W : World) (ha : W.cell? a = some (.pointer (some p))) :
 (ReflectliteValue.method (ReflectliteValue.valueError "reflectlite.Value.Elem" 0) ReflectliteValue.elem #[.agg #[.pointer (some ⟨8, 277, none⟩), .pointer (some a), .int .u64 150]]).run Tryz.prog W
  = .ok (.agg #[.pointer (some ⟨8, 275, none⟩),.pointer (some p),.int .u64 409]) W := by
 have h1:=Tryz.partsP a W
 have h2:=Tryz.underlying277
 have h3:=Tryz.elemOfP
 have h4:=Tryz.mkL
 generalize Tryz.prog = P at *
 generalize (.agg #[.pointer (some ⟨8, 277, none⟩),.pointer (some a),.int .u64 150] : Value) = v at *
 conv => lhs; arg 2; whnf
 change Sem.run P (ReflectliteValue.parts v >>= _) W = _
 simp only [Sem.run_bind, h1, Result.andThen]
 simp [ReflectliteValue.elem, loadVar, isAgg, underlying, h2, ha, Result.andThen, h3, h4]
theorem Tryz.partsLa (a : Addr) (w : World) : (ReflectliteValue.parts (.agg #[.pointer (some ⟨8, 275, none⟩),.pointer (some a),.int .u64 409])).run Tryz.prog w = .ok (some (275, a, 409)) w := by kernel_rfl
theorem Tryz.partsL (a : Addr) (w : World) : (ReflectliteValue.parts (.agg #[.pointer (some ⟨8, 275, none⟩),.pointer (some a),.int .u64 153])).run Tryz.prog w = .ok (some (275, a, 153)) w := by kernel_rfl
theorem Tryz.directL (w : World) : (Rtype.directlyAssignable 275 275).run Tryz.prog w = .ok true w := by kernel_rfl
theorem Tryz.sizeL (w : World) : (sizeOf 275).run Tryz.prog w = .ok 1 w := by kernel_rfl
theorem Tryz.isAggL (w : World) : (isAgg 275).run Tryz.prog w = .ok true w := by kernel_rfl
theorem Tryz.setL (g b : Nat) (n : Int) (old : Value) (W : World) (hb : W.cell? ⟨b, 0, none⟩ = some (.int .i64 n)) (ht : W.cell? ⟨g, 0, none⟩ = some old) (hf : W.frozen? ⟨g, 0, none⟩ = false) :
 (ReflectliteValue.set #[.agg #[.pointer (some ⟨8, 275, none⟩),.pointer (some ⟨g, 0, none⟩),.int .u64 409],.agg #[.pointer (some ⟨8, 275, none⟩),.pointer (some ⟨b, 0, none⟩),.int .u64 153]]).run Tryz.prog W
  = .ok (.tuple #[]) (W.setCell ⟨g, 0, none⟩ (.int .i64 n)) := by
 have h1:=Tryz.partsLa ⟨g, 0, none⟩ W
 have h2:=Tryz.partsL ⟨b, 0, none⟩ W
 have h3:=Tryz.isAggL
 have h4:=Tryz.sizeL
 have h5:=Tryz.directL
 generalize Tryz.prog = P at *
 generalize (.agg #[.pointer (some ⟨8, 275, none⟩),.pointer (some ⟨g, 0, none⟩),.int .u64 409] : Value) = v at *
 generalize (.agg #[.pointer (some ⟨8, 275, none⟩),.pointer (some ⟨b, 0, none⟩),.int .u64 153] : Value) = x at *
 conv => lhs; arg 2; whnf
 change Sem.run P (ReflectliteValue.parts v >>= _) W = _
 have h2' : Sem.run P (ReflectliteValue.parts (#[v, x].getLit 1 rfl (by simp))) W = _:=h2
 simp only [Sem.run_bind, h1, h2', Result.andThen]
 simp [loadCells, loadCellsFrom, ReflectliteValue.flagAddr, loadVar, h3, h4, hb, Result.andThen, h5, storeVar, Value.cells, storeCells, Addr.add]
 rw [run_store P W ⟨g, 0, none⟩ _ _ (by rfl)]
 simp [ht, hf]

theorem as_hit (n : Int) (g : Nat) (old : Value) (w : World) (hg : EnvT w) (hl : Loc w g #[old]) :
 Calls Tryz.prog 224 #[lackV n,.iface 277 (.pointer (some ⟨g, 0, none⟩))] w fun e w' => e = .returned (.bool true) ∧ Loc w' g #[.int .i64 n] ∧ Kp w w' (fun k => k = g) := by
 have h6:=@run_callFunc_extern Tryz.prog 250 _ (fun args => ReflectliteValue.unpack (args.getD 0 (.tuple #[]))) Tryz.func250 (by kernel_rfl) (by kernel_rfl) (by kernel_rfl) (by kernel_rfl)
 have h7:=@run_callFunc_extern Tryz.prog 251 _ (ReflectliteValue.methodAny (ReflectliteValue.valueError "reflectlite.Value.Type" 0) (fun t _ _ _ => ReflectliteType.toType t)) Tryz.func251 (by kernel_rfl) (by kernel_rfl) (by kernel_rfl) (by kernel_rfl)
 have h8:=@run_callFunc_extern Tryz.prog 252 _ (ReflectliteValue.method (ReflectliteValue.valueError "reflectlite.Value.IsNil" 0) ReflectliteValue.isNil) Tryz.func252 (by kernel_rfl) (by kernel_rfl) (by kernel_rfl) (by kernel_rfl)
 have h27:=@run_callFunc_extern Tryz.prog 356 _ (ReflectliteType.abiMethod fun t => do pure (.int .u8 (← Rtype.kind t))) Tryz.func356 (by kernel_rfl) (by kernel_rfl) (by kernel_rfl) (by kernel_rfl)
 have h37:=@run_callFunc_extern Tryz.prog 386 _ (ReflectliteType.method ReflectliteType.elem) Tryz.func386 (by kernel_rfl) (by kernel_rfl) (by kernel_rfl) (by kernel_rfl)
 have h38:=@run_callFunc_extern Tryz.prog 387 _ (ReflectliteType.relation "Implements" ReflectliteType.implements_) Tryz.func387 (by kernel_rfl) (by kernel_rfl) (by kernel_rfl) (by kernel_rfl)
 have h10:=@run_callFunc_extern Tryz.prog 271 _ ReflectliteType.typeOf Tryz.func271 (by kernel_rfl) (by kernel_rfl) (by kernel_rfl) (by kernel_rfl)
 have h35:=@run_callFunc_extern Tryz.prog 384 _ (ReflectliteType.relation "AssignableTo" ReflectliteType.assignableTo) Tryz.func384 (by kernel_rfl) (by kernel_rfl) (by kernel_rfl) (by kernel_rfl)
 have h11:=@run_callFunc_extern Tryz.prog 272 _ (ReflectliteValue.method (ReflectliteValue.valueError "reflectlite.Value.Elem" 0) ReflectliteValue.elem) Tryz.func272 (by kernel_rfl) (by kernel_rfl) (by kernel_rfl) (by kernel_rfl)
 have h12:=@run_callFunc_extern Tryz.prog 273 _ ReflectliteValue.set Tryz.func273 (by kernel_rfl) (by kernel_rfl) (by kernel_rfl) (by kernel_rfl)
 have tO:=Tryz.typeOfL
 have mA:=Tryz.methodAssignableTo
 have aL:=Tryz.assignableL
 have vL:=Tryz.valueOfL
 have f6:=Tryz.valueOfP
 have f7:=Tryz.typeP
 have mK:=Tryz.methodKind
 have mE:=Tryz.methodElem
 have mI:=Tryz.methodImplements
 have kP:=Tryz.kindP
 have kL:=Tryz.kindL
 have eP:=Tryz.elemP
 have iL:=Tryz.implementsL
 have n8:=Tryz.isNilP ⟨w.heap.size, 0, none⟩ ⟨g, 0, none⟩ ((w.alloc (.cells #[.pointer (some ⟨g, 0, none⟩)] 277)).alloc (.cells #[.pointer (some ⟨8, 277, none⟩),.pointer (some ⟨w.heap.size, 0, none⟩),.int .u64 150] 302)) (by simp)
 have L4 : Loc ((((w.alloc (.cells #[.pointer (some ⟨g, 0, none⟩)] 277)).alloc (.cells #[.pointer (some ⟨8, 277, none⟩),.pointer (some ⟨w.heap.size, 0, none⟩),.int .u64 150] 302)).alloc (.cells #[.pointer (some ⟨8, 277, none⟩),.pointer (some ⟨w.heap.size, 0, none⟩),.int .u64 150] 302)).alloc (.cells #[.int .i64 n] 275)) g #[old]:=(((hl.alloc _).alloc _).alloc _).alloc _
 have hg2 : ((w.alloc (.cells #[.pointer (some ⟨g, 0, none⟩)] 277)).alloc (.cells #[.pointer (some ⟨8, 277, none⟩),.pointer (some ⟨w.heap.size, 0, none⟩),.int .u64 150] 302)).cell? ⟨0, 0, none⟩ = some (.iface 327 (.agg #[.pointer (some ⟨8, 214, none⟩)])):=(hg.below ((Below.refl _ _).alloc (Nat.le_refl _) _)).below ((Below.refl _ _).alloc (Nat.le_refl _) _)
 have el:=Tryz.elemVP ⟨w.heap.size, 0, none⟩ ⟨g, 0, none⟩ (((w.alloc (.cells #[.pointer (some ⟨g, 0, none⟩)] 277)).alloc (.cells #[.pointer (some ⟨8, 277, none⟩),.pointer (some ⟨w.heap.size, 0, none⟩),.int .u64 150] 302)).alloc (.cells #[.pointer (some ⟨8, 277, none⟩),.pointer (some ⟨w.heap.size, 0, none⟩),.int .u64 150] 302)) (by rw [World.cell?_alloc_lt _ _ ⟨w.heap.size, 0, none⟩ (by simp; omega)]; simp)
 have st:=Tryz.setL g (w.heap.size + 1 + 1 + 1) n old ((((w.alloc (.cells #[.pointer (some ⟨g, 0, none⟩)] 277)).alloc (.cells #[.pointer (some ⟨8, 277, none⟩),.pointer (some ⟨w.heap.size, 0, none⟩),.int .u64 150] 302)).alloc (.cells #[.pointer (some ⟨8, 277, none⟩),.pointer (some ⟨w.heap.size, 0, none⟩),.int .u64 150] 302)).alloc (.cells #[.int .i64 n] 275)) (by rw [World.cell?_alloc_at _ _ _ _ (by simp)]; rfl) (L4.cell 0 rfl) (L4.frozen 0)
 go_enter Tryz.func224, Tryz.ntmps224
 go_wp2
 refine wp_loop_rounds 1 ?_
 rw [rounds_succ]
 go_wp2
 go_ret
 have K4 : Kp w ((((w.alloc (.cells #[.pointer (some ⟨g, 0, none⟩)] 277)).alloc (.cells #[.pointer (some ⟨8, 277, none⟩),.pointer (some ⟨w.heap.size, 0, none⟩),.int .u64 150] 302)).alloc (.cells #[.pointer (some ⟨8, 277, none⟩),.pointer (some ⟨w.heap.size, 0, none⟩),.int .u64 150] 302)).alloc (.cells #[.int .i64 n] 275)) (fun k => k = g):=Below.kpOf (((((Below.refl _ _).alloc (Nat.le_refl _) _).alloc (by simp) _).alloc (by simp; omega) _).alloc (by simp; omega) _) _
 exact ⟨rfl, L4.set 0 _ rfl, K4.trans (set_kp _ _ _ _)⟩
end Go.Proofs.YtndpjhiidmdlhaaGreatDoor
namespace Go.Proofs.YtndpjhiidmdlhaaGreatDoor
set_option linter.unusedSectionVars false
variable [∀ (a b c d : Int), Decidable (Ok4 a b c d)]
variable [∀ (a b c d : Nat), Decidable (okN a b c d)]
variable [∀ (last : Int) (s : St), Decidable (GoodSt last s)]
variable [∀ (x : T4), Decidable (OkT x)]
variable [∀ (n : Int) (s : List Int), Decidable (OkL n s)]
variable [∀ (n f : Int), Decidable (COk n f)]

def StandsAt (xs : List Int) (p : Int) (ys : List Int) (q : Int) : Prop := ∃ pre post, xs = pre ++ ys ++ post ∧ p = (pre.length : Int) ∧ q = (pre.length : Int) + ys.length
theorem stands_le {xs : List Int} {p : Int} {a : List Int} {q : Int} (h : StandsAt xs p a q) : 0 ≤ p ∧ q = p + a.length ∧ q ≤ xs.length := by
 obtain ⟨pre, post, rfl, rfl, rfl⟩:=h
 refine ⟨by omega, by omega, ?_⟩
 simp only [List.length_append]; omega
theorem stands_nil {xs : List Int} {p q : Int} : StandsAt xs p [] q ↔ q = p ∧ 0 ≤ p ∧ p ≤ xs.length := by
 constructor
 ·intro h
  have:=stands_le h
  simp at this
  omega
 ·rintro ⟨rfl, h0, h1⟩
  obtain ⟨k, rfl⟩:=Int.eq_ofNat_of_zero_le h0
  refine ⟨xs.take k, xs.drop k, by simp, ?_, ?_⟩ <;> simp <;> omega
theorem stands_app {xs : List Int} {p : Int} {a b : List Int} {q : Int} : StandsAt xs p (a ++ b) q ↔ ∃ r, StandsAt xs p a r ∧ StandsAt xs r b q := by
 constructor
 ·rintro ⟨pre, post, rfl, rfl, rfl⟩
  refine ⟨(pre.length : Int) + a.length, ⟨pre, b ++ post, by simp, rfl, rfl⟩, ⟨pre ++ a, post, by simp, by simp, by simp; omega⟩⟩
 ·rintro ⟨r, ⟨pre, post, h, rfl, rfl⟩, ⟨pre', post', h', hr, rfl⟩⟩
  have hl : (pre ++ a).length = pre'.length:=by simp; omega
  have e : (pre ++ a) ++ post = pre' ++ (b ++ post'):=by rw [← h, h', List.append_assoc]
  obtain ⟨e1, e2⟩:=List.append_inj e hl
  refine ⟨pre, post', ?_, rfl, ?_⟩
  ·rw [h, e2]; simp
  ·rw [← hl]; simp; omega
theorem stands_cut {xs : List Int} {p : Int} {a : List Int} {q : Int} (h : StandsAt xs p a q) : ∃ k : Nat, p = k ∧ q = ((k + a.length : Nat) : Int) ∧ k + a.length ≤ xs.length ∧ (xs.drop k).take a.length = a := by
 obtain ⟨pre, post, rfl, rfl, rfl⟩:=h
 exact ⟨pre.length, rfl, by omega, by simp, by simp⟩
theorem stands_mk {xs : List Int} {k e : Nat} {a : List Int} (hl : k + e ≤ xs.length) (h : (xs.drop k).take e = a) : StandsAt xs k a ((k : Int) + e) := by
 have hal : a.length = e:=by rw [← h]; simp; omega
 refine ⟨xs.take k, xs.drop (k + e), ?_, ?_, ?_⟩
 ·rw [← h, List.append_assoc, ← List.drop_drop, List.take_append_drop, List.take_append_drop]
 ·simp; omega
 ·rw [hal]; simp; omega
theorem stands_one {xs : List Int} {k : Nat} {c : Int} (hk : k < xs.length) (h : xs.getD k 0 = c) : StandsAt xs k [c] ((k : Int) + 1) := by
 refine stands_mk (e := 1) (by omega) ?_
 rw [List.drop_eq_getElem_cons hk, List.take_succ_cons, List.take_zero]
 rw [List.getD_eq_getElem?_getD, List.getElem?_eq_getElem hk] at h
 simpa using h

theorem getNum_iff {xs : List Int} (hb : BytesL xs) (p m q : Int) : getNum xs p = some (m, q) ↔ (0 ≤ m ∧ m ≤ 2147483647) ∧ StandsAt xs p (putAns m) q := by
 constructor
 ·intro h
  obtain ⟨k, e, rfl, rfl, h5, h0, h1, h6⟩:=getNum_back xs hb p m q h
  exact ⟨⟨h0, h1⟩, stands_mk h5 h6⟩
 ·rintro ⟨⟨h0, h1⟩, pre, post, rfl, rfl, rfl⟩
  obtain ⟨n, rfl⟩:=Int.eq_ofNat_of_zero_le h0
  rw [putAns_yes n (by omega), getNum_nat]
  have:=getF_put pre post 4 n 0 0 (by omega) (by omega) (by omega) (by simp; omega)
  simpa using this
theorem getText_iff {xs : List Int} (hb : BytesL xs) (p : Int) (s : ByteArray) (q : Int) : getText xs p = some (s, q) ↔ s.size ≤ 2147483647 ∧ StandsAt xs p (textAns s) q := by
 unfold textAns
 constructor
 ·intro h
  unfold getText at h
  cases hg : getNum xs p with
  | none => rw [hg] at h; cases h
  | some x =>
   obtain ⟨n, r⟩:=x
   rw [hg] at h
   obtain ⟨⟨h0, h1⟩, hs⟩:=(getNum_iff hb p n r).1 hg
   have hle:=stands_le hs
   obtain ⟨n, rfl⟩:=Int.eq_ofNat_of_zero_le h0
   obtain ⟨r, rfl⟩:=Int.eq_ofNat_of_zero_le (show 0 ≤ r by omega)
   by_cases hn : (n : Int) ≤ (xs.length : Int) - r
   ·simp only [if_pos hn, Option.some.injEq, Prod.mk.injEq] at h
    obtain ⟨rfl, rfl⟩:=h
    have hw : ((xs.drop r).take n).length = n:=win_len xs r n (by omega)
    have hbw : BytesL ((xs.drop r).take n):=fun y hy => hb y (List.mem_of_mem_drop (List.mem_of_mem_take hy))
    have hsz : (textAt xs ((r : Int)).toNat ((n : Int)).toNat).size = n:=by
     unfold textAt; rw [strOfNums_size, Int.toNat_natCast, Int.toNat_natCast, hw]
    refine ⟨by omega, ?_⟩
    rw [stands_app]
    refine ⟨r, ?_, ?_⟩
    ·rw [hsz, ← putAns_yes n (by omega)]; exact hs
    ·refine stands_mk (by omega) ?_
     unfold textAt
     rw [Int.toNat_natCast, Int.toNat_natCast, bs_str _ hbw]
   ·simp [if_neg hn] at h
 ·rintro ⟨hs, h⟩
  rw [stands_app] at h
  obtain ⟨r, h1, h2⟩:=h
  rw [← putAns_yes s.size (by omega)] at h1
  have hg:=(getNum_iff hb p s.size r).2 ⟨⟨by omega, by omega⟩, h1⟩
  obtain ⟨k, rfl, rfl, hk, ht⟩:=stands_cut h2
  rw [bs_len] at hk ht ⊢
  unfold getText
  rw [hg]
  simp only
  rw [if_pos (by omega)]
  congr 1
  refine Prod.ext ?_ (by show (k : Int) + _ = _; omega)
  show textAt _ _ _ = s
  unfold textAt
  rw [Int.toNat_natCast, Int.toNat_natCast, ht, str_bs]

def getN (xs : List Int) : Nat → Int → Option (List Int × Int)
 | 0, p => some ([], p)
 | k + 1, p => match getNum xs p with
  | none => none
  | some x => match getN xs k x.2 with
   | none => none
   | some y => some (x.1 :: y.1, y.2)
def Nums (ys : List Int) : Prop := ∀ y ∈ ys, 0 ≤ y ∧ y ≤ 2147483647
def flatP (ys : List Int) : List Int := (ys.map putAns).flatten
theorem flatP_cons (y : Int) (ys : List Int) : flatP (y :: ys) = putAns y ++ flatP ys := rfl
theorem flatP_len (ys : List Int) : (flatP ys).length ≤ 5 * ys.length := by
 induction ys with
 | nil => simp [flatP]
 | cons y ys ih => rw [flatP_cons, List.length_append, List.length_cons]; have := putAns_len y; omega
theorem getN_iff {xs : List Int} (hb : BytesL xs) (k : Nat) (p : Int) (h0 : 0 ≤ p) (h1 : p ≤ xs.length) (ys : List Int) (q : Int) : getN xs k p = some (ys, q) ↔ ys.length = k ∧ Nums ys ∧ StandsAt xs p (flatP ys) q := by
 induction k generalizing p ys with
 | zero =>
  constructor
  ·intro h
   simp only [getN, Option.some.injEq, Prod.mk.injEq] at h
   obtain ⟨rfl, rfl⟩:=h
   exact ⟨rfl, (fun y hy => by cases hy), stands_nil.2 ⟨rfl, h0, h1⟩⟩
  ·rintro ⟨hl, _, hs⟩
   obtain rfl:=List.length_eq_zero_iff.1 hl
   have:=(stands_nil.1 hs).1
   subst this
   rfl
 | succ k ih =>
  constructor
  ·intro h
   rw [getN] at h
   cases hg : getNum xs p with
   | none => rw [hg] at h; cases h
   | some x =>
    rw [hg] at h
    simp only at h
    obtain ⟨m, r⟩:=x
    obtain ⟨hm, hs⟩:=(getNum_iff hb p m r).1 hg
    have hle:=stands_le hs
    cases hg2 : getN xs k r with
    | none => rw [hg2] at h; cases h
    | some y =>
     rw [hg2] at h
     obtain ⟨zs, t⟩:=y
     simp only [Option.some.injEq, Prod.mk.injEq] at h
     obtain ⟨rfl, rfl⟩:=h
     obtain ⟨hl, hn, hz⟩:=(ih r (by omega) (by omega) zs).1 hg2
     refine ⟨by simp [hl], fun y hy => ?_, by rw [flatP_cons, stands_app]; exact ⟨_, hs, hz⟩⟩
     rcases List.mem_cons.1 hy with rfl | hy
     ·exact hm
     ·exact hn y hy
  ·rintro ⟨hl, hn, hs⟩
   obtain ⟨m, zs, rfl⟩ : ∃ m zs, ys = m :: zs:=by
    cases ys with
    | nil => simp at hl
    | cons m zs => exact ⟨m, zs, rfl⟩
   rw [flatP_cons, stands_app] at hs
   obtain ⟨r, hs, hz⟩:=hs
   have hle:=stands_le hs
   have hg:=(getNum_iff hb p m r).2 ⟨hn m (by simp), hs⟩
   have hg2:=(ih r (by omega) (by omega) zs).2 ⟨by simpa using hl, fun y hy => hn y (by simp [hy]), hz⟩
   rw [getN, hg]
   simp only
   rw [hg2]
theorem getN_more (xs : List Int) (k : Nat) (p : Int) {m r : Int} (h : getNum xs p = some (m, r)) : getN xs (k + 1) p = (getN xs k r).map fun y => (m :: y.1, y.2) := by
 rw [getN, h]
 simp only
 cases getN xs k r <;> rfl
theorem getN_stop (xs : List Int) (k : Nat) (p : Int) (h : getNum xs p = none) : getN xs (k + 1) p = none := by rw [getN, h]

def getWho (L : Int) (xs : List Int) (p : Int) : Option (List Int × Int) := match getNum xs p with
 | none => none
 | some x => if x.1 ≤ L then getN xs x.1.toNat x.2 else none
def whoRaw (ys : List Int) : List Int := putAns ys.length ++ flatP ys
theorem whoRaw_len (ys : List Int) : (whoRaw ys).length ≤ 5 + 5 * ys.length := by
 unfold whoRaw; rw [List.length_append]; have := putAns_len ys.length; have := flatP_len ys; omega
theorem getWho_iff {xs : List Int} (hb : BytesL xs) (L : Int) (hL : L ≤ 2147483647) (p : Int) (ys : List Int) (q : Int) : getWho L xs p = some (ys, q) ↔ (ys.length : Int) ≤ L ∧ Nums ys ∧ StandsAt xs p (whoRaw ys) q := by
 unfold whoRaw
 rw [stands_app]
 constructor
 ·intro h
  unfold getWho at h
  cases hg : getNum xs p with
  | none => rw [hg] at h; cases h
  | some x =>
   obtain ⟨m, r⟩:=x
   rw [hg] at h
   simp only at h
   obtain ⟨hm, hs⟩:=(getNum_iff hb p m r).1 hg
   have hle:=stands_le hs
   by_cases hl : m ≤ L
   ·rw [if_pos hl] at h
    obtain ⟨e, hn, hz⟩:=(getN_iff hb m.toNat r (by omega) (by omega) ys q).1 h
    refine ⟨by omega, hn, r, ?_, hz⟩
    rw [show ((ys.length : Nat) : Int) = m from by omega]; exact hs
   ·rw [if_neg hl] at h; cases h
 ·rintro ⟨hl, hn, r, hs, hz⟩
  have hle:=stands_le hs
  have hg:=(getNum_iff hb p ys.length r).2 ⟨by omega, hs⟩
  unfold getWho
  rw [hg]
  simp only
  rw [if_pos hl]
  exact (getN_iff hb _ r (by omega) (by omega) ys q).2 ⟨by simp, hn, hz⟩

abbrev QcT := Int × ByteArray × List Int
abbrev SafT := Int × Int × QcT × ByteArray
def getQc (L : Int) (xs : List Int) (p : Int) : Option (QcT × Int) := match getNum xs p with
 | none => none
 | some x => match getText xs x.2 with
  | none => none
  | some y => match getWho L xs y.2 with
   | none => none
   | some z => some ((x.1, y.1, z.1), z.2)
def qcRaw (v : Int) (s : ByteArray) (ys : List Int) : List Int := putAns v ++ textAns s ++ whoRaw ys
theorem getQc_iff {xs : List Int} (hb : BytesL xs) (L : Int) (hL : L ≤ 2147483647) (p v : Int) (s : ByteArray) (ys : List Int) (q : Int) : getQc L xs p = some ((v, s, ys), q) ↔ (0 ≤ v ∧ v ≤ 2147483647) ∧ s.size ≤ 2147483647 ∧ (ys.length : Int) ≤ L ∧ Nums ys ∧ StandsAt xs p (qcRaw v s ys) q := by
 unfold qcRaw
 rw [stands_app]
 constructor
 ·intro h
  unfold getQc at h
  cases hg : getNum xs p with
  | none => rw [hg] at h; cases h
  | some x =>
   rw [hg] at h
   obtain ⟨m, r⟩:=x
   simp only at h
   obtain ⟨hm, hs⟩:=(getNum_iff hb p m r).1 hg
   cases hg2 : getText xs r with
   | none => rw [hg2] at h; cases h
   | some y =>
    rw [hg2] at h
    obtain ⟨t, r2⟩:=y
    simp only at h
    obtain ⟨ht, hs2⟩:=(getText_iff hb r t r2).1 hg2
    cases hg3 : getWho L xs r2 with
    | none => rw [hg3] at h; cases h
    | some z =>
     rw [hg3] at h
     obtain ⟨zs, r3⟩:=z
     obtain ⟨hl, hn, hs3⟩:=(getWho_iff hb L hL r2 zs r3).1 hg3
     simp only [Option.some.injEq, Prod.mk.injEq] at h
     obtain ⟨⟨rfl, rfl, rfl⟩, rfl⟩:=h
     exact ⟨hm, ht, hl, hn, r2, stands_app.2 ⟨r, hs, hs2⟩, hs3⟩
 ·rintro ⟨hm, ht, hl, hn, r2, h12, hs3⟩
  obtain ⟨r, hs, hs2⟩:=stands_app.1 h12
  unfold getQc
  rw [(getNum_iff hb p v r).2 ⟨hm, hs⟩]
  simp only
  rw [(getText_iff hb r s r2).2 ⟨ht, hs2⟩]
  simp only
  rw [(getWho_iff hb L hL r2 ys q).2 ⟨hl, hn, hs3⟩]
def getSafe (L : Int) (xs : List Int) (p : Int) : Option (SafT × Int) := match getNum xs p with
 | none => none
 | some x => match getNum xs x.2 with
  | none => none
  | some y => match getQc L xs y.2 with
   | none => none
   | some z => match getText xs z.2 with
    | none => none
    | some t => some ((x.1, y.1, z.1, t.1), t.2)
def safRaw (vo lo v : Int) (s : ByteArray) (ys : List Int) (d : ByteArray) : List Int := putAns vo ++ putAns lo ++ qcRaw v s ys ++ textAns d
theorem getSafe_iff {xs : List Int} (hb : BytesL xs) (L : Int) (hL : L ≤ 2147483647) (p vo lo v : Int) (s : ByteArray) (ys : List Int) (d : ByteArray) (q : Int) :
 getSafe L xs p = some ((vo, lo, (v, s, ys), d), q) ↔ (0 ≤ vo ∧ vo ≤ 2147483647) ∧ (0 ≤ lo ∧ lo ≤ 2147483647) ∧ ((0 ≤ v ∧ v ≤ 2147483647) ∧ s.size ≤ 2147483647 ∧ (ys.length : Int) ≤ L ∧ Nums ys) ∧ d.size ≤ 2147483647 ∧ StandsAt xs p (safRaw vo lo v s ys d) q := by
 unfold safRaw
 rw [stands_app]
 constructor
 ·intro h
  unfold getSafe at h
  cases hg : getNum xs p with
  | none => rw [hg] at h; cases h
  | some x =>
   rw [hg] at h
   obtain ⟨m, r⟩:=x
   simp only at h
   obtain ⟨hm, hs⟩:=(getNum_iff hb p m r).1 hg
   cases hg1 : getNum xs r with
   | none => rw [hg1] at h; cases h
   | some x1 =>
    rw [hg1] at h
    obtain ⟨m1, r1⟩:=x1
    simp only at h
    obtain ⟨hm1, hs1⟩:=(getNum_iff hb r m1 r1).1 hg1
    cases hg2 : getQc L xs r1 with
    | none => rw [hg2] at h; cases h
    | some y =>
     rw [hg2] at h
     obtain ⟨⟨a, b, c⟩, r2⟩:=y
     simp only at h
     obtain ⟨ha, hb2, hc, hn, hs2⟩:=(getQc_iff hb L hL r1 a b c r2).1 hg2
     cases hg3 : getText xs r2 with
     | none => rw [hg3] at h; cases h
     | some z =>
      rw [hg3] at h
      obtain ⟨t, r3⟩:=z
      obtain ⟨ht, hs3⟩:=(getText_iff hb r2 t r3).1 hg3
      simp only [Option.some.injEq, Prod.mk.injEq] at h
      obtain ⟨⟨rfl, rfl, ⟨rfl, rfl, rfl⟩, rfl⟩, rfl⟩:=h
      exact ⟨hm, hm1, ⟨ha, hb2, hc, hn⟩, ht, r2, stands_app.2 ⟨r1, stands_app.2 ⟨r, hs, hs1⟩, hs2⟩, hs3⟩
 ·rintro ⟨hm, hm1, ⟨ha, hb2, hc, hn⟩, ht, r2, h12, hs3⟩
  obtain ⟨r1, h01, hs2⟩:=stands_app.1 h12
  obtain ⟨r, hs, hs1⟩:=stands_app.1 h01
  unfold getSafe
  rw [(getNum_iff hb p vo r).2 ⟨hm, hs⟩]
  simp only
  rw [(getNum_iff hb r lo r1).2 ⟨hm1, hs1⟩]
  simp only
  rw [(getQc_iff hb L hL r1 v s ys r2).2 ⟨ha, hb2, hc, hn, hs2⟩]
  simp only
  rw [(getText_iff hb r2 d q).2 ⟨ht, hs3⟩]

theorem okl_len {n : Int} {l : List Int} (hn : 0 ≤ n) (ho : OkL n l) : (l.length : Int) ≤ n := by
 generalize hk : l.length = k
 induction k generalizing l n with
 | zero => simpa using hn
 | succ k ih =>
  obtain ⟨l', x, rfl⟩ : ∃ l' x, l = l' ++ [x]:=⟨l.dropLast, l.getLast (fun e => by rw [e] at hk; simp at hk), (List.dropLast_concat_getLast _).symm⟩
  have hx:=ho.1 x (by simp)
  have hp:=ho.2
  rw [List.pairwise_append] at hp
  have:=ih hx.1 (l:=l') ⟨fun y hy => ⟨(ho.1 y (by simp [hy])).1, hp.2.2 y hy x (by simp)⟩, hp.1⟩ (by simpa using hk)
  push_cast
  omega
theorem qok_small {n f v : Int} {s : ByteArray} {ys : List Int} (h : qokB n f v s ys = true) : (0 ≤ v ∧ v ≤ 60) ∧ s.size ≤ 1920 ∧ ys.length ≤ 7 ∧ Nums ys := by
 have h':=h
 unfold qokB at h'
 simp only [Bool.and_eq_true, decide_eq_true_eq, beq_iff_eq] at h'
 obtain ⟨⟨⟨hc, hs⟩, hv⟩, hw⟩:=h'
 have hv2:=view_le s
 refine ⟨by omega, name_len hs, ?_⟩
 by_cases he : s = ⟨#[]⟩
 ·rw [if_pos he] at hw
  have : ys = []:=by simpa using hw
  subst this
  exact ⟨by simp, (fun y hy => by cases hy)⟩
 ·obtain ⟨hc, ho, _⟩:=qok_has h he
  have:=okl_len (by have:=hc.1; omega) ho
  have hc1:=hc.1
  exact ⟨by omega, fun y hy => by have := ho.1 y hy; omega⟩
def sokT (n f : Int) (t : SafT) : Bool := sokB n f t.1 t.2.1 t.2.2.1.1 t.2.2.1.2.1 t.2.2.1.2.2 t.2.2.2
def rawT (t : SafT) : List Int := safRaw t.1 t.2.1 t.2.2.1.1 t.2.2.1.2.1 t.2.2.1.2.2 t.2.2.2
theorem sok_small {n f : Int} {t : SafT} (h : sokT n f t = true) : (0 ≤ t.1 ∧ t.1 ≤ 60) ∧ (0 ≤ t.2.1 ∧ t.2.1 ≤ 60) ∧ ((0 ≤ t.2.2.1.1 ∧ t.2.2.1.1 ≤ 60) ∧ t.2.2.1.2.1.size ≤ 1920 ∧ t.2.2.1.2.2.length ≤ 7 ∧ Nums t.2.2.1.2.2) ∧ t.2.2.2.size ≤ 1920 := by
 obtain ⟨h1, h2, h3, h4⟩:=sok_done h
 exact ⟨h1, h2, qok_small h3, name_len h4⟩
theorem textAns_le (s : ByteArray) : (textAns s).length ≤ 5 + s.size := by rw [textAns_len]; have := (put_len 4 s.size).1; omega
theorem qcRaw_len (v : Int) (s : ByteArray) (ys : List Int) : (qcRaw v s ys).length ≤ 15 + s.size + 5 * ys.length := by
 unfold qcRaw; rw [List.length_append, List.length_append]; have := putAns_len v; have := textAns_le s; have := whoRaw_len ys; omega
theorem rawT_len {n f : Int} {t : SafT} (h : sokT n f t = true) : (rawT t).length ≤ 4000 := by
 obtain ⟨_, _, ⟨_, h1, h2, _⟩, h3⟩:=sok_small h
 unfold rawT safRaw
 rw [List.length_append, List.length_append, List.length_append]
 have:=putAns_len t.1; have:=putAns_len t.2.1; have:=qcRaw_len t.2.2.1.1 t.2.2.1.2.1 t.2.2.1.2.2; have:=textAns_le t.2.2.2
 omega
theorem putAns_pos (m : Int) (h0 : 0 ≤ m) (h1 : m ≤ 2147483647) : 0 < (putAns m).length := by
 obtain ⟨n, rfl⟩:=Int.eq_ofNat_of_zero_le h0
 rw [putAns_yes n (by omega)]; exact (put_len 4 n).2
theorem rawT_pos {n f : Int} {t : SafT} (h : sokT n f t = true) : 0 < (rawT t).length := by
 obtain ⟨h0, _⟩:=sok_small h
 unfold rawT safRaw
 rw [List.length_append, List.length_append, List.length_append]
 have:=putAns_pos t.1 (by omega) (by omega)
 omega
theorem getSafe_sok {xs : List Int} (hb : BytesL xs) (L : Int) (h7 : 7 ≤ L) (hL : L ≤ 2147483647) (n f p : Int) (t : SafT) (q : Int) (ht : sokT n f t = true) : getSafe L xs p = some (t, q) ↔ StandsAt xs p (rawT t) q := by
 obtain ⟨h1, h2, ⟨h3, h4, h5, h6⟩, h8⟩:=sok_small ht
 obtain ⟨vo, lo, ⟨v, s, ys⟩, d⟩:=t
 rw [getSafe_iff hb L hL]
 simp only at h1 h2 h3 h4 h5 h6 h8
 constructor
 ·intro h; exact h.2.2.2.2
 ·intro h; exact ⟨by omega, by omega, ⟨by omega, by omega, by omega, h6⟩, by omega, h⟩
def safOfA (L n f : Int) (xs : List Int) : Option SafT := match getSafe L xs 0 with
 | none => none
 | some x => if (sokT n f x.1 && (x.2 == (xs.length : Int))) = true then some x.1 else none
theorem stands_all {xs a : List Int} : StandsAt xs 0 a xs.length ↔ xs = a := by
 constructor
 ·rintro ⟨pre, post, h, hp, hq⟩
  have e : pre = []:=List.length_eq_zero_iff.1 (by omega)
  subst e
  have hl:=congrArg List.length h
  simp only [List.nil_append, List.length_append, List.length_nil] at hl hq h
  have e2 : post = []:=List.length_eq_zero_iff.1 (by omega)
  subst e2
  simpa using h
 ·rintro rfl
  exact ⟨[], [], by simp, rfl, by simp⟩
theorem safOf_iff {xs : List Int} (hb : BytesL xs) (L : Int) (h7 : 7 ≤ L) (hL : L ≤ 2147483647) (n f : Int) (t : SafT) : safOfA L n f xs = some t ↔ sokT n f t = true ∧ xs = rawT t := by
 constructor
 ·intro h
  unfold safOfA at h
  cases hg : getSafe L xs 0 with
  | none => rw [hg] at h; cases h
  | some x =>
   rw [hg] at h
   obtain ⟨u, r⟩:=x
   simp only at h
   by_cases hq : (sokT n f u && (r == (xs.length : Int))) = true
   ·rw [if_pos hq] at h
    simp only [Option.some.injEq] at h
    subst h
    simp only [Bool.and_eq_true, beq_iff_eq] at hq
    obtain ⟨h1, rfl⟩:=hq
    exact ⟨h1, stands_all.1 ((getSafe_sok hb L h7 hL n f 0 u _ h1).1 hg)⟩
   ·rw [if_neg hq] at h; cases h
 ·rintro ⟨hq, hx⟩
  have:=(getSafe_sok hb L h7 hL n f 0 t xs.length hq).2 (stands_all.2 hx)
  unfold safOfA
  rw [this]
  simp only
  rw [if_pos (by simp [hq])]
theorem safOf_lim {xs : List Int} (hb : BytesL xs) (n f : Int) : safOfA 2147483647 n f xs = safOfA 7 n f xs := by
 apply Option.ext
 intro t
 rw [safOf_iff hb 2147483647 (by omega) (by omega), safOf_iff hb 7 (by omega) (by omega)]
end Go.Proofs.YtndpjhiidmdlhaaGreatDoor
namespace Go.Proofs.YtndpjhiidmdlhaaGreatDoor
open Go.RowKit

theorem textClo_some (B : Nat) (v : Value) (xs : List Int) (p : Int) (s : ByteArray) (q : Int) (x y : Value) (u : TypeId) (pv : Value) (w : World) (h : RB w v xs) (hb : Bytes xs) (he : w.cell? ⟨1, 0, none⟩ = some (.iface u pv)) (hr : Hid (getText xs p = some (s, q)))
 (h0 : w.cell? ⟨B, 0, none⟩ = some v) (h1 : w.cell? ⟨B + 1, 0, none⟩ = some (.int .i64 p)) (h2 : w.cell? ⟨B + 2, 0, none⟩ = some x) (h3 : w.cell? ⟨B + 3, 0, none⟩ = some y)
 (f2 : w.frozen? ⟨B + 2, 0, none⟩ = false) (f3 : w.frozen? ⟨B + 3, 0, none⟩ = false) :
 Calls Tryz.prog 293 #[.pointer (some ⟨B, 0, none⟩),.pointer (some ⟨B + 1, 0, none⟩),.pointer (some ⟨B + 2, 0, none⟩),.pointer (some ⟨B + 3, 0, none⟩)] w fun e w' =>
  e = .returned (.tuple #[]) ∧ w' = (w.setCell ⟨B + 2, 0, none⟩ (.string s)).setCell ⟨B + 3, 0, none⟩ (.int .i64 q) := by
 go_enter Tryz.func293, Tryz.ntmps293
 go_wp2_with fail
 refine (readText_yes v xs p s q u pv _ h hb he hr.out).mono ?_
 rintro e w' ⟨rfl, rfl⟩
 go_wp2
 go_end0
 exact ⟨rfl, rfl⟩

theorem textClo_none (B : Nat) (v : Value) (xs : List Int) (p : Int) (u : TypeId) (pv : Value) (w : World) (h : RB w v xs) (hb : Bytes xs) (he : w.cell? ⟨1, 0, none⟩ = some (.iface u pv)) (hr : Hid (getText xs p = none))
 (h0 : w.cell? ⟨B, 0, none⟩ = some v) (h1 : w.cell? ⟨B + 1, 0, none⟩ = some (.int .i64 p)) :
 Calls Tryz.prog 293 #[.pointer (some ⟨B, 0, none⟩),.pointer (some ⟨B + 1, 0, none⟩),.pointer (some ⟨B + 2, 0, none⟩),.pointer (some ⟨B + 3, 0, none⟩)] w fun e w' =>
  e = .panicked [{ v := .iface u pv, recovered := false }] ∧ w' = w := by
 go_enter Tryz.func293, Tryz.ntmps293
 go_wp2_with fail
 refine (readText_no v xs p u pv _ h hb he hr.out).mono ?_
 rintro e w' ⟨rfl, rfl⟩
 go_wp2
 exact ⟨rfl, rfl, rfl⟩

abbrev tboxes (w : World) (v : Value) (p : Int) : World := (((w.alloc (.cells #[v] 31)).alloc (.cells #[.int .i64 p] 3)).alloc (.cells #[.string ⟨#[]⟩] 9)).alloc (.cells #[.int .i64 0] 3)
theorem tboxes_below (w : World) (v : Value) (p : Int) : Below w.heap.size w (tboxes w v p) :=
 ((((Below.refl _ _).alloc (Nat.le_refl _) _).alloc (by simp) _).alloc (by simp; omega) _).alloc (by simp; omega) _
theorem tboxes_size (w : World) (v : Value) (p : Int) : (tboxes w v p).heap.size = w.heap.size + 4 := by simp
theorem tboxes_ok (w : World) (v : Value) (p : Int) (o : Obj) :
 ((tboxes w v p).alloc o).cell? ⟨w.heap.size, 0, none⟩ = some v ∧ ((tboxes w v p).alloc o).cell? ⟨w.heap.size + 1, 0, none⟩ = some (.int .i64 p) ∧ ((tboxes w v p).alloc o).cell? ⟨w.heap.size + 2, 0, none⟩ = some (.string ⟨#[]⟩) ∧ ((tboxes w v p).alloc o).cell? ⟨w.heap.size + 3, 0, none⟩ = some (.int .i64 0) ∧
 ((tboxes w v p).alloc o).frozen? ⟨w.heap.size + 2, 0, none⟩ = false ∧ ((tboxes w v p).alloc o).frozen? ⟨w.heap.size + 3, 0, none⟩ = false := by
 simp [tboxes, go_sem]

theorem rdText_some (v : Value) (xs : List Int) (p : Int) (s : ByteArray) (q : Int) (u : TypeId) (pv : Value) (w : World) (h : RB w v xs) (hb : Bytes xs) (he : w.cell? ⟨1, 0, none⟩ = some (.iface u pv)) (hr : Hid (getText xs p = some (s, q))) :
 Calls Tryz.prog 266 #[.func (.func 293) #[] #[.pointer (some ⟨w.heap.size, 0, none⟩),.pointer (some ⟨w.heap.size + 1, 0, none⟩),.pointer (some ⟨w.heap.size + 1 + 1, 0, none⟩),.pointer (some ⟨w.heap.size + 1 + 1 + 1, 0, none⟩)]] (tboxes w v p) fun e w' =>
  e = .returned (.bool true) ∧ w'.cell? ⟨w.heap.size + 1 + 1, 0, none⟩ = some (.string s) ∧ w'.cell? ⟨w.heap.size + 1 + 1 + 1, 0, none⟩ = some (.int .i64 q) ∧ Below w.heap.size w w' := by
 have hlt:=cell_lt he
 obtain ⟨c0, c1, c2, c3, f2, f3⟩:=tboxes_ok w v p (.cells #[.bool false] 4)
 have hbl : Below w.heap.size w ((tboxes w v p).alloc (.cells #[.bool false] 4)):=(tboxes_below w v p).alloc (by rw [tboxes_size]; omega) _
 have hbs:=tboxes_size w v p
 refine (readable_ok 293 _ (tboxes w v p) (fun w1 => w1 = (((tboxes w v p).alloc (.cells #[.bool false] 4)).setCell ⟨w.heap.size + 2, 0, none⟩ (.string s)).setCell ⟨w.heap.size + 3, 0, none⟩ (.int .i64 q)) (fun _ => by simp [go_sem]) ?_).mono ?_
 ·refine (textClo_some w.heap.size v xs p s q _ _ u pv _ (h.below hbl) hb ((hbl.cell hlt).trans he) hr c0 c1 c2 c3 f2 f3).mono ?_
  rintro e w' ⟨rfl, rfl⟩
  refine ⟨rfl, rfl, ?_, ?_⟩
  ·rw [World.cell?_setCell_other _ _ _ _ (by simp), World.cell?_setCell_other _ _ _ _ (by simp)]; exact alloc_new _ _ _
  ·rw [World.frozen?_setCell, World.frozen?_setCell]; exact alloc_free _ _ _
 ·rintro e w' ⟨rfl, w1, rfl, rfl⟩
  refine ⟨rfl, ?_, ?_, ?_⟩
  ·rw [World.cell?_setCell_other _ _ _ _ (by simp), World.cell?_setCell_other _ _ _ _ (by simp), World.cell?_setCell_same _ _ _ c2]
  ·rw [World.cell?_setCell_other _ _ _ _ (by simp)]
   exact World.cell?_setCell_same _ _ _ ((World.cell?_setCell_other _ _ _ _ (by simp)).trans c3)
  ·exact ((hbl.setCell (by simp) _).setCell (by simp) _).setCell (by rw [hbs]; simp) _

theorem getTextI_some (v : Value) (xs : List Int) (p : Int) (s : ByteArray) (q : Int) (u : TypeId) (pv : Value) (w : World) (h : RB w v xs) (hb : Bytes xs) (he : w.cell? ⟨1, 0, none⟩ = some (.iface u pv)) (hr : Hid (getText xs p = some (s, q))) :
 Calls Tryz.prog 270 #[v,.int .i64 p] w fun e w' => e = .returned (.tuple #[.string s,.int .i64 q,.bool true]) ∧ Below w.heap.size w w' := by
 have hmf : ∀ (fn : Fn) (first cap : Array Value) (w : World), (Instr.makeFunc fn first cap).run Tryz.prog w = .ok (.func fn first cap) w:=fun _ _ _ _ => rfl
 have hrd:=rdText_some v xs p s q u pv w h hb he hr
 obtain ⟨hl, ao, ca, rfl, _, h'⟩:=h
 clear h'
 go_enter Tryz.func270, Tryz.ntmps270
 go_wp2_with fail
 refine hrd.mono ?_
 rintro e w' ⟨rfl, c2, c3, bel⟩
 go_wp2_with fail
 go_quiet (fail)
 go_wp2
 go_ret3
 exact ⟨rfl, below_drewN bel _⟩

theorem rdText_none (v : Value) (xs : List Int) (p : Int) (u : TypeId) (pv : Value) (w : World) (h : RB w v xs) (hb : Bytes xs) (he : w.cell? ⟨1, 0, none⟩ = some (.iface u pv)) (hr : Hid (getText xs p = none)) :
 Calls Tryz.prog 266 #[.func (.func 293) #[] #[.pointer (some ⟨w.heap.size, 0, none⟩),.pointer (some ⟨w.heap.size + 1, 0, none⟩),.pointer (some ⟨w.heap.size + 1 + 1, 0, none⟩),.pointer (some ⟨w.heap.size + 1 + 1 + 1, 0, none⟩)]] (tboxes w v p) fun e w' =>
  e = .returned (.bool false) ∧ w'.cell? ⟨w.heap.size + 1 + 1, 0, none⟩ = some (.string ⟨#[]⟩) ∧ w'.cell? ⟨w.heap.size + 1 + 1 + 1, 0, none⟩ = some (.int .i64 0) ∧ Below w.heap.size w w' := by
 have hlt:=cell_lt he
 obtain ⟨c0, c1, c2, c3, f2, f3⟩:=tboxes_ok w v p (.cells #[.bool false] 4)
 have hbl : Below w.heap.size w ((tboxes w v p).alloc (.cells #[.bool false] 4)):=(tboxes_below w v p).alloc (by rw [tboxes_size]; omega) _
 have hbs:=tboxes_size w v p
 refine (readable_no 293 _ (tboxes w v p) (fun w1 => w1 = (tboxes w v p).alloc (.cells #[.bool false] 4)) u pv (fun _ => by simp [go_sem]) ?_).mono ?_
 ·refine (textClo_none w.heap.size v xs p u pv _ (h.below hbl) hb ((hbl.cell hlt).trans he) hr c0 c1).mono ?_
  rintro e w' ⟨rfl, rfl⟩
  exact ⟨rfl, rfl, alloc_new _ _ _, alloc_free _ _ _⟩
 ·rintro e w' ⟨rfl, w1, rfl, rfl⟩
  refine ⟨rfl, ?_, ?_, ?_⟩
  ·rw [World.cell?_setCell_other _ _ _ _ (by simp)]; exact c2
  ·rw [World.cell?_setCell_other _ _ _ _ (by simp)]; exact c3
  ·exact hbl.setCell (by rw [hbs]; simp) _

theorem getTextI_none (v : Value) (xs : List Int) (p : Int) (u : TypeId) (pv : Value) (w : World) (h : RB w v xs) (hb : Bytes xs) (he : w.cell? ⟨1, 0, none⟩ = some (.iface u pv)) (hr : Hid (getText xs p = none)) :
 Calls Tryz.prog 270 #[v,.int .i64 p] w fun e w' => e = .returned (.tuple #[.string ⟨#[]⟩,.int .i64 0,.bool false]) ∧ Below w.heap.size w w' := by
 have hmf : ∀ (fn : Fn) (first cap : Array Value) (w : World), (Instr.makeFunc fn first cap).run Tryz.prog w = .ok (.func fn first cap) w:=fun _ _ _ _ => rfl
 have hrd:=rdText_none v xs p u pv w h hb he hr
 obtain ⟨hl, ao, ca, rfl, _, h'⟩:=h
 clear h'
 go_enter Tryz.func270, Tryz.ntmps270
 go_wp2_with fail
 refine hrd.mono ?_
 rintro e w' ⟨rfl, c2, c3, bel⟩
 go_wp2_with fail
 go_quiet (fail)
 go_wp2
 go_ret3
 exact ⟨rfl, below_drewN bel _⟩

def tans1 (r : Option (ByteArray × Int)) : ByteArray := match r with | some x => x.1 | none => ⟨#[]⟩
def tans2 (r : Option (ByteArray × Int)) : Int := match r with | some x => x.2 | none => 0
end Go.Proofs.YtndpjhiidmdlhaaGreatDoor
