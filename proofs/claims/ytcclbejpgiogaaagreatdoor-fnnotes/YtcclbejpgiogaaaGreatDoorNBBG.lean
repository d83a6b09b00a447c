/- DrawDent: bytes with something put in or taken away. -/
import Derived.Test.YtcclbejpgiogaaaGreatDoorNBBD
import Derived.Test.YtcclbejpgiogaaaGreatDoorNBBE
import Derived.Test.YtcclbejpgiogaaaGreatDoorNBBF
import Derived.Test.YtcclbejpgiogaaaGreatDoorNBAZ
set_option maxRecDepth 100000
set_option maxHeartbeats 16000000
namespace Go.Proofs.YtcclbejpgiogaaaGreatDoor
open Go.RowKit
set_option linter.unusedSectionVars false
variable [∀ (a b c d : Int), Decidable (Ok4 a b c d)]
variable [∀ (a b c d : Nat), Decidable (okN a b c d)]
variable [∀ (x : T4), Decidable (OkT x)]
variable [∀ (last : Int) (s : St), Decidable (GoodSt last s)]
variable [∀ (n : Int) (s : List Int), Decidable (OkL n s)]
variable [∀ (n f : Int), Decidable (COk n f)]
variable [∀ (ts : List T4), Decidable (AllOk ts)]

theorem bcut_to (ao : Option Addr) (n ca k : Nat) (w : World) (hk : k ≤ ca) :
 (Instr.slice 22 (.slice ao n ca) none (some (.int .i64 (k : Int))) none).run Tryz.prog w = .ok (.slice ao k ca) w := by
 obtain ⟨i0, hi, hz0, hz1, hz2⟩ := info_parts Tryz.info5
 rw [run_slice_h (ht := Tryz.underlying22) (kh := .i64) (h := (k : Int)) (h0 := by omega) (h2 := by omega)]
 have he : Tryz.prog.elem 22 = 5 := by simp [Program.elem, Tryz.underlying22]
 have hs : (sizeOf (Tryz.prog.elem 22)).run Tryz.prog w = .ok 1 w := by rw [he]; simp [sizeOf, typeInfo, hi, hz1]
 rw [hs]
 simp [sliced, Result.andThen]
 intro _; cases ao <;> rfl
theorem bcut_from (ao : Option Addr) (n ca k : Nat) (w : World) (hk : k ≤ n) :
 (Instr.slice 22 (.slice ao n ca) (some (.int .i64 (k : Int))) none none).run Tryz.prog w = .ok (.slice (if ca = k then ao else ao.map (·.add (k * 1))) (n - k) (ca - k)) w := by
 obtain ⟨i0, hi, hz0, hz1, hz2⟩ := info_parts Tryz.info5
 rw [run_slice_l (ht := Tryz.underlying22) (kl := .i64) (l := (k : Int)) (h0 := by omega) (h1 := by omega)]
 have he : Tryz.prog.elem 22 = 5 := by simp [Program.elem, Tryz.underlying22]
 have hs : (sizeOf (Tryz.prog.elem 22)).run Tryz.prog w = .ok 1 w := by rw [he]; simp [sizeOf, typeInfo, hi, hz1]
 rw [hs]
 simp [sliced, Result.andThen]
theorem PB.kept {w w' : World} {ao : Option Addr} {n ca : Nat} {xs : List Int} {row : Option Nat} (h : PB w (.slice ao n ca) xs) (hg : w.grownBy w' row) (hr : ∀ j, row = some j → (Value.slice ao n ca).ownBlock = some j → False) : PB w' (.slice ao n ca) xs := by
 obtain ⟨a, c, e, h⟩ := h
 refine ⟨a, c, e, ?_⟩
 rcases h with h | ⟨ad, rfl, h⟩
 ·exact .inl h
 ·refine .inr ⟨ad, rfl, fun j u hj => ?_⟩
  have hc := h j u hj
  cases e
  have hb : (ad.add j).block = ad.block := by unfold Addr.add; split <;> rfl
  exact (kp_grown hg).cell hc (fun e => hr _ e (by simp [Value.ownBlock, hb]))
theorem PB.take {w : World} {ao : Option Addr} {n ca : Nat} {xs : List Int} (h : PB w (.slice ao n ca) xs) (k : Nat) (hk : k ≤ xs.length) (c : Nat) : PB w (.slice ao k c) (xs.take k) := by
 obtain ⟨a, c', e, h⟩ := h
 cases e
 refine ⟨_, _, by rw [List.length_take]; congr 1; omega, ?_⟩
 rcases h with rfl | ⟨ad, rfl, h⟩
 ·left; simp
 ·right
  refine ⟨ad, rfl, fun j u hj => h j u ?_⟩
  rw [List.map_take, List.getElem?_take] at hj
  split at hj
  ·exact hj
  ·cases hj
theorem PB.drop {w : World} {ao : Option Addr} {n ca : Nat} {xs : List Int} (h : PB w (.slice ao n ca) xs) (k c : Nat) {bo : Option Addr} (hb : k < xs.length → bo = ao.map (·.add (k * 1))) : PB w (.slice bo (xs.length - k) c) (xs.drop k) := by
 obtain ⟨a, c', e, h⟩ := h
 cases e
 refine ⟨bo, c, by rw [List.length_drop], ?_⟩
 by_cases hk : k < xs.length
 ·rcases h with rfl | ⟨ad, rfl, h⟩
  ·simp at hk
  ·right
   refine ⟨ad.add (k * 1), by rw [hb hk]; rfl, fun j u hj => ?_⟩
   have e : (ad.add (k * 1)).add j = ad.add (k + j) := by unfold Addr.add; by_cases h1 : k = 0 <;> by_cases h2 : j = 0 <;> simp [h1, h2, Nat.add_assoc]
   rw [e]
   refine h (k + j) u ?_
   rw [List.map_drop, List.getElem?_drop] at hj
   exact hj
 ·left
  exact List.drop_eq_nil_of_le (by omega)
theorem RB.front {w : World} {ao : Option Addr} {n ca : Nat} {xs : List Int} (h : RB w (.slice ao n ca) xs) (k : Nat) (hk : k ≤ xs.length) : RB w (.slice ao k ca) (xs.take k) := by
 obtain ⟨hl, a, c, e, hc, h⟩ := h
 cases e
 have hw : (xs.take k).length = k := by rw [List.length_take]; omega
 refine ⟨by omega, _, _, by rw [hw], ⟨by omega, hc.2⟩, ?_⟩
 rcases h with rfl | ⟨b, off, e, h⟩
 ·left; simp
 ·right
  refine ⟨b, off, e, fun j hj => ?_⟩
  rw [hw] at hj
  rw [h j (by omega)]
  congr 2
  rw [List.getD_eq_getElem?_getD, List.getD_eq_getElem?_getD, List.getElem?_take_of_lt hj]
def Far (g : Nat) (u : Value) : Prop := ∀ ad n c, u = .slice (some ad) n c → g < ad.block
theorem RB.kp {w w' : World} {g : Nat} {X : Nat → Prop} {u : Value} {xs : List Int} (h : RB w u xs) (hf : Far g u) (k : Kp w w' X) (hX : ∀ j, X j → j ≤ g) : RB w' u xs := by
 obtain ⟨hl, a, c, rfl, hc, h⟩ := h
 refine ⟨hl, a, c, rfl, hc, ?_⟩
 rcases h with h | ⟨b, off, rfl, h⟩
 ·exact .inl h
 ·have hb := hf _ _ _ rfl
  refine .inr ⟨b, off, rfl, fun j hj => k.cell (h j hj) (fun e => ?_)⟩
  have := hX _ e
  simp only at hb this
  omega
theorem OB.far {w : World} {base g : Nat} {u : Value} {xs : List Int} (h : OB w base u xs) (hg : g < base) : Far g u := by
 intro ad n c e
 subst e
 have := World.ownsRow.lt h ad.block rfl
 omega
theorem BytesL.take {xs : List Int} (h : BytesL xs) (k : Nat) : BytesL (xs.take k) := fun y hy => h y (List.mem_of_mem_take hy)
theorem BytesL.mid {xs : List Int} (h : BytesL xs) (k : Nat) {x : Int} (h0 : 0 ≤ x) (h1 : x ≤ 255) : BytesL (xs.take k ++ ([x] ++ xs.drop k)) := by
 intro y hy
 rcases List.mem_append.1 hy with hy | hy
 ·exact h y (List.mem_of_mem_take hy)
 ·rcases List.mem_append.1 hy with hy | hy
  ·simp at hy; omega
  ·exact h y (List.mem_of_mem_drop hy)

set_option linter.unusedSimpArgs false in
theorem bdent_any (base g ca : Nat) (ao : Option Addr) (zs : List Int) (vb : Value) (xs : List Int) (w : World) (hB : base ≤ w.heap.size) (h : Cur w base g ao ca zs) (O : OB w (g + 1) vb xs) (hb : BytesL xs) (hl : xs.length ≤ 900000) :
 Calls Tryz.prog 32 #[.pointer (some ⟨g, 0, none⟩), vb] w fun e w' => ∃ (u : Value) (ys : List Int), e = .returned u ∧ BytesL ys ∧ ys.length ≤ xs.length + 1 ∧ RB w' u ys ∧ Far g u ∧ Cur w' base g ao ca zs ∧ w.grownBy w' (some g) := by
 have hlt := h.lt
 have tO := World.ownsRow.lt O
 have HF := hide (O.far (Nat.lt_succ_self g))
 have R := O.rb (by omega)
 obtain ⟨ba, bc, rfl⟩ := O.form
 have hcap : xs.length ≤ bc ∧ bc ≤ maxLen := by obtain ⟨_, _, _, e, hc, _⟩ := R; cases e; exact hc
 obtain ⟨hcn, hcm⟩ := hcap
 unfold maxLen at hcm
 obtain ⟨m, hm⟩ : ∃ m, xs.length = m := ⟨_, rfl⟩
 rw [hm] at R O tO HF hcn hl ⊢
 have PA := hide R.pb
 have RR := hide R
 have HM := hide hm
 have HBY := hide hb
 have hw1 : IntKind.i64.wrap ((m : Int) + 1) = (m : Int) + 1 := by rw [IntKind.wrap_i64]; omega
 have BE := hide (below_all base g ca ao zs ((m : Int) + 1) w hB (by omega) (by omega) h)
 clear R O h hm hb
 go_enter Tryz.func32, Tryz.ntmps32
 go_wp2_with fail
 refine BE.out.mono ?_
 rintro e w1 ⟨k, rfl, k0, k1, C, G⟩
 obtain ⟨k, rfl⟩ := Int.eq_ofNat_of_zero_le k0
 have s1 := G.size
 clear BE
 have BE := hide (below_any base g ca ao zs 5 w1 (by omega) (by omega) (by omega) C)
 clear C
 go_wp2_with fail
 refine BE.out.mono ?_
 rintro e w2 ⟨x, rfl, x0, x1, C, G2⟩
 replace G := grown_trans G G2
 have s2 := G.size
 clear BE G2
 have kw := kp_of G
 have RR2 : Hid (RB w2 (.slice ba m bc) xs) := hide (RR.out.kp HF.out kw (fun j e => by have : j = g := e; omega))
 have PA2 := hide RR2.out.pb
 clear kw RR PA
 have hs1 : ∀ w, (Instr.slice 22 (.slice ba m bc) none (some (.int .i64 (k : Int))) none).run Tryz.prog w = .ok (.slice ba k bc) w := fun w => bcut_to ba m bc k w (by omega)
 by_cases hx : x = 0
 ·subst hx
  go_wp2
  go_ret
  refine ⟨_, _, rfl, HBY.out.take k, ?_, RR2.out.front k (by have := HM.out; omega), ?_, C, G⟩
  ·rw [List.length_take]; omega
  ·intro ad n c e; cases e; exact HF.out _ _ _ rfl
 ·by_cases hx1 : x = 1
  ·subst hx1
   have PF := hide (PA2.out.take k (by have := HM.out; omega) bc)
   have q5 := PA2.out.drop k (bc - k) (bo := if bc = k then ba else ba.map (·.add (k * 1))) (fun hk => if_neg (by have := HM.out; omega))
   rw [HM.out] at q5
   have hs2 : ∀ w, (Instr.slice 22 (.slice ba m bc) (some (.int .i64 (k : Int))) none none).run Tryz.prog w = .ok (.slice (if bc = k then ba else ba.map (·.add (k * 1))) (m - k) (bc - k)) w := fun w => bcut_from ba m bc k w (by omega)
   have hbo : ∀ j, (Value.slice (if bc = k then ba else ba.map (·.add (k * 1))) (m - k) (bc - k)).ownBlock = some j → j < w2.heap.size := by
    intro j hj
    have hu : ba.map (·.block) = some j := by
     split at hj
     ·cases ba with
      | none => cases hj
      | some a => simpa [Value.ownBlock] using hj
     ·cases ba with
      | none => cases hj
      | some a =>
       have hb : ∀ m, (a.add m).block = a.block := fun m => by unfold Addr.add; split <;> rfl
       simpa [Value.ownBlock, hb] using hj
    have := (tO j (by cases ba with | none => cases hu | some a => simpa [Value.ownBlock] using hu)).2
    omega
   have NG : Hid ((Value.slice (if bc = k then ba else ba.map (·.add (k * 1))) (m - k) (bc - k)).ownBlock = some g → False) := hide fun hj => by
    have hu : ba.map (·.block) = some g := by
     split at hj
     ·cases ba with
      | none => cases hj
      | some a => simpa [Value.ownBlock] using hj
     ·cases ba with
      | none => cases hj
      | some a =>
       have hb : ∀ m, (a.add m).block = a.block := fun m => by unfold Addr.add; split <;> rfl
       simpa [Value.ownBlock, hb] using hj
    have := (tO g (by cases ba with | none => cases hu | some a => simpa [Value.ownBlock] using hu)).1
    omega
   generalize (if bc = k then ba else ba.map (·.add (k * 1))) = bo at *
   have PQ := hide q5
   have HL1 : Hid ((xs.take k).length = k) := hide (by rw [List.length_take, HM.out]; omega)
   have HL2 : Hid ((xs.drop k).length = m - k) := hide (by rw [List.length_drop, HM.out])
   have HBM := hide fun x h0 h1 => HBY.out.mid k (x := x) h0 h1
   clear q5 PA2 RR2 HBY
   generalize xs.take k = fs at *
   generalize xs.drop k = bs at *
   go_upto_region 6 with fail
   refine wp_region_noPanic ?_
   refine wp_region_held_drew (S := fun _ => True) (by kernel_rfl) trivial (fun hHeld => ?_)
   obtain ⟨wd, hd⟩ : ∃ wd, w2.drew = wd := ⟨_, rfl⟩
   have D5 : Below w2.heap.size w2 wd := hd ▸ Below.drew (Below.refl _ _)
   have sd := D5.size
   replace C := C.below (by omega) D5
   replace G := grown_trans G (grown_below D5 (some g))
   replace PF := hide (PF.out.below D5)
   replace PQ := hide (PQ.out.below D5)
   rw [hd]
   clear hd D5
   refine' tj 1 21 rfl ?_ ?_;rotate_left
   ·intro w h; (try dsimp only at h); go_simp; try with_reducible rfl
   simp only [pU]
   refine' tj 2 22 rfl ?_ ?_;rotate_left
   ·intro w h; (try dsimp only at h); go_simp; try with_reducible rfl
   simp only [pU]
   refine' tj 3 23 rfl ?_ ?_;rotate_left
   ·intro w h; (try dsimp only at h); go_simp; try with_reducible rfl
   simp only [pU]
   refine' tj 5 25 rfl ?_ ?_;rotate_left
   ·intro w h; (try dsimp only at h); go_simp; try with_reducible rfl
   simp only [pU]
   refine' tj 10 30 rfl ?_ ?_;rotate_left
   ·intro w h; (try dsimp only at h); go_simp; try with_reducible rfl
   simp only [pU]
   refine' tj 11 31 rfl ?_ ?_;rotate_left
   ·intro w h; (try dsimp only at h); go_simp; try with_reducible rfl
   simp only [pU]
   refine' tj 12 32 rfl ?_ ?_;rotate_left
   ·intro w h; (try dsimp only at h); go_simp; try with_reducible rfl
   simp only [pU]
   refine wpAnyH_ready (rs := [0, 6]) (by kernel_rfl) (by simp) (AllReadyH.cons rfl (fun KK hKK => ?_) (AllReadyH.cons rfl (fun KK hKK => ?_) AllReadyH.nil))
   ·go_simp
    obtain ⟨wx1, hwx1⟩ : ∃ y, wd.alloc (.cells #[] 5) = y := ⟨_, rfl⟩
    have bb : Below wd.heap.size wd wx1 := hwx1 ▸ qalloc _ _
    have OA : OB wx1 wd.heap.size (.slice (some ⟨wd.heap.size, 0, none⟩) 0 0) [] := hwx1 ▸ OB.lit wd _ rfl
    have swx1 : wd.heap.size + 1 ≤ wx1.heap.size := by rw [← hwx1]; simp
    replace C := C.below (by omega) bb
    replace G := grown_trans G (grown_below bb (some g))
    replace PF := hide (PF.out.below bb)
    replace PQ := hide (PQ.out.below bb)
    rw [hwx1]
    clear hwx1 bb
    clear hHeld
    refine hKK.out _ _ trivial (fun hHeld => ?_)
    clear hKK KK
    try simp only [pU]
    refine wpAnyH_ready (rs := [4, 6]) (by kernel_rfl) (by simp) (AllReadyH.cons rfl (fun KK hKK => ?_) (AllReadyH.cons rfl (fun KK hKK => ?_) AllReadyH.nil))
    ·have tA := World.ownsRow.lt OA
     refine step_append_bytes rfl (.tmp 20) (.tmp 23) rfl (wd.heap.size) (.slice (some ⟨wd.heap.size, 0, none⟩) 0 0) (.slice ba k bc) ([]) (fs) rfl rfl OA PF.out (by have := HL1.out; simp; omega) (by omega) ?_
     intro v1 wx2 OF g7 _
     have swx2 := g7.size
     replace C := C.grownNew g7 (fun j e => by have := tA _ e; omega)
     replace G := grown_new G g7 (fun j e => by have := tA _ e; omega)
     replace PQ := hide (PQ.out.kept g7 (fun j e e2 => by have := tA _ e; have := hbo _ e2; omega))
     clear g7 tA
     rw [List.nil_append] at OF
     have tF := World.ownsRow.lt OF
     have lF : ∀ j, v1.ownBlock = some j → j < wx2.heap.size := fun j hj => (tF j hj).2
     clear OA PF
     clear hHeld
     refine hKK.out _ _ trivial (fun hHeld => ?_)
     clear hKK KK
     try simp only [pU]
     refine rd 6 rfl (fun KK hKK => ?_)
     go_simp
     obtain ⟨wx3, hwx3⟩ : ∃ y, wx2.alloc (.cells #[.int .i64 0, .int .i64 1, .int .i64 128, .int .i64 3] 3) = y := ⟨_, rfl⟩
     have bb : Below wx2.heap.size wx2 wx3 := hwx3 ▸ qalloc _ _
     have LL : Loc wx3 wx2.heap.size #[.int .i64 0, .int .i64 1, .int .i64 128, .int .i64 3] := hwx3 ▸ loc_at wx2 _ _ rfl
     have swx3 : wx2.heap.size + 1 ≤ wx3.heap.size := by rw [← hwx3]; simp
     replace C := C.below (by omega) bb
     replace G := grown_trans G (grown_below bb (some g))
     replace PQ := hide (PQ.out.below bb)
     replace OF := OF.below bb
     rw [hwx3]
     clear hwx3 bb
     clear hHeld
     refine hKK.out _ _ trivial (fun hHeld => ?_)
     clear hKK KK
     try simp only [pU]
     refine rd 7 rfl (fun KK hKK => ?_)
     go_simp
     have lL := LL.lt
     refine (pickInt_any base g ca wx2.heap.size ao zs [0, 1, 128, 3] wx3 (by omega) (by omega) (by simp) (by simp) (fun j hj => by match j, hj with | 0, _ => exact LL.cell 0 rfl | 1, _ => exact LL.cell 1 rfl | 2, _ => exact LL.cell 2 rfl | 3, _ => exact LL.cell 3 rfl) C).mono ?_
     rintro e wx4 ⟨j, hj, rfl, c1, e1⟩
     obtain ⟨x, hxx⟩ : ∃ x, ([0, 1, 128, 3] : List Int).getD j 0 = x := ⟨_, rfl⟩
     have hx0 : 0 ≤ x ∧ x ≤ 255 := by subst hxx; match j, hj with | 0, _ => decide | 1, _ => decide | 2, _ => decide | 3, _ => decide
     rw [hxx]
     clear hj hxx j
     have hwx : IntKind.u8.wrap x = x := by rw [IntKind.wrap_u8]; omega
     have swx4 := e1.size
     replace G := grown_trans G e1
     replace OF := OF.kp (kp_of e1) (fun j hj e => by have := tF j hj; have : j = g := e; omega)
     replace PQ := hide (PQ.out.kept e1 (fun j e e2 => by cases e; exact NG.out e2))
     replace C := c1
     clear c1 e1 LL lL
     clear hHeld
     refine hKK.out _ _ trivial (fun hHeld => ?_)
     clear hKK KK
     try simp only [pU]
     refine' tj 8 28 rfl ?_ ?_;rotate_left
     ·intro w h; (try dsimp only at h); go_simp; try with_reducible rfl
     simp only [pU]
     refine rd 9 rfl (fun KK hKK => ?_)
     go_simp
     obtain ⟨wx5, hwx5⟩ : ∃ y, wx4.alloc (.cells #[.int .u8 x] 5) = y := ⟨_, rfl⟩
     have bb : Below wx4.heap.size wx4 wx5 := hwx5 ▸ qalloc _ _
     have O9 : OB wx5 wx4.heap.size (.slice (some ⟨wx4.heap.size, 0, none⟩) 1 1) [x] := hwx5 ▸ World.ownsRow_lit wx4 #[.int .u8 x] 1 (Nat.le_refl _) (by unfold maxLen; omega) rfl
     have swx5 : wx4.heap.size + 1 ≤ wx5.heap.size := by rw [← hwx5]; simp
     replace C := C.below (by omega) bb
     replace G := grown_trans G (grown_below bb (some g))
     replace PQ := hide (PQ.out.below bb)
     replace OF := OF.below bb
     rw [hwx5]
     clear hwx5 bb
     clear hHeld
     refine hKK.out _ _ trivial (fun hHeld => ?_)
     clear hKK KK
     try simp only [pU]
     refine rd 13 rfl (fun KK hKK => ?_)
     have tA := World.ownsRow.lt O9
     have s9 := swx5
     refine step_append_bytes rfl (.tmp 29) (.tmp 32) rfl (wx4.heap.size) (.slice (some ⟨wx4.heap.size, 0, none⟩) 1 1) (.slice bo (m - k) (bc - k)) ([x]) (bs) rfl rfl O9 PQ.out (by have := HL2.out; simp; omega) (by omega) ?_
     intro v2 wx6 OG g7 _
     have swx6 := g7.size
     replace C := C.grownNew g7 (fun j e => by have := tA _ e; omega)
     replace G := grown_new G g7 (fun j e => by have := tA _ e; omega)
     replace OF := OF.kp (kp_grown g7) (fun j hj e => by have := tA _ e; have := tF j hj; omega)
     clear g7 tA
     have PG := OG.pb (by have := HL2.out; simp; omega)
     clear O9 OG PQ
     clear hHeld
     refine hKK.out _ _ trivial (fun hHeld => ?_)
     clear hKK KK
     try simp only [pU]
     refine rd 14 rfl (fun KK hKK => ?_)
     have tA := World.ownsRow.lt OF
     refine step_append_bytes rfl (.tmp 24) (.tmp 33) rfl (wd.heap.size) (v1) (v2) (fs) ([x] ++ bs) rfl rfl OF PG (by have := HL1.out; have := HL2.out; simp; omega) (by omega) ?_
     intro v3 wx7 OH g7 _
     have swx7 := g7.size
     replace C := C.grownNew g7 (fun j e => by have := tA _ e; omega)
     replace G := grown_new G g7 (fun j e => by have := tA _ e; omega)
     clear g7 tA
     clear OF PG tF lF
     clear hHeld
     refine hKK.out _ _ trivial (fun hHeld => ?_)
     clear hKK KK
     refine' tj 15 4 rfl ?_ ?_;rotate_left
     ·intro w h; (try dsimp only at h); go_simp; try with_reducible rfl
     simp only [Act.put, List.setIfInBounds_toArray]
     clear hHeld
     refine wdn ?_
     go_wp2
     go_ret
     refine ⟨v3, by simp, _, HBM.out x hx0.1 hx0.2, ?_, OH.rb ?_, OH.far (by omega), C, G⟩
     ·have := HL1.out; have := HL2.out; simp; omega
     ·have := HL1.out; have := HL2.out; simp; omega
    ·go_simp
     obtain ⟨wx8, hwx8⟩ : ∃ y, wx1.alloc (.cells #[.int .i64 0, .int .i64 1, .int .i64 128, .int .i64 3] 3) = y := ⟨_, rfl⟩
     have bb : Below wx1.heap.size wx1 wx8 := hwx8 ▸ qalloc _ _
     have LL : Loc wx8 wx1.heap.size #[.int .i64 0, .int .i64 1, .int .i64 128, .int .i64 3] := hwx8 ▸ loc_at wx1 _ _ rfl
     have swx8 : wx1.heap.size + 1 ≤ wx8.heap.size := by rw [← hwx8]; simp
     replace C := C.below (by omega) bb
     replace G := grown_trans G (grown_below bb (some g))
     replace PF := hide (PF.out.below bb)
     replace PQ := hide (PQ.out.below bb)
     replace OA := OA.below bb
     rw [hwx8]
     clear hwx8 bb
     clear hHeld
     refine hKK.out _ _ trivial (fun hHeld => ?_)
     clear hKK KK
     try simp only [pU]
     refine rd 4 rfl (fun KK hKK => ?_)
     have tA := World.ownsRow.lt OA
     refine step_append_bytes rfl (.tmp 20) (.tmp 23) rfl (wd.heap.size) (.slice (some ⟨wd.heap.size, 0, none⟩) 0 0) (.slice ba k bc) ([]) (fs) rfl rfl OA PF.out (by have := HL1.out; simp; omega) (by omega) ?_
     intro v1 wx9 OF g7 _
     have swx9 := g7.size
     replace C := C.grownNew g7 (fun j e => by have := tA _ e; omega)
     replace G := grown_new G g7 (fun j e => by have := tA _ e; omega)
     replace PQ := hide (PQ.out.kept g7 (fun j e e2 => by have := tA _ e; have := hbo _ e2; omega))
     replace LL := LL.grownNew g7 (fun e => by simp [Value.ownBlock] at e; omega)
     clear g7 tA
     rw [List.nil_append] at OF
     have tF := World.ownsRow.lt OF
     have lF : ∀ j, v1.ownBlock = some j → j < wx9.heap.size := fun j hj => (tF j hj).2
     clear OA PF
     clear hHeld
     refine hKK.out _ _ trivial (fun hHeld => ?_)
     clear hKK KK
     try simp only [pU]
     refine rd 7 rfl (fun KK hKK => ?_)
     go_simp
     have lL := LL.lt
     refine (pickInt_any base g ca wx1.heap.size ao zs [0, 1, 128, 3] wx9 (by omega) (by omega) (by simp) (by simp) (fun j hj => by match j, hj with | 0, _ => exact LL.cell 0 rfl | 1, _ => exact LL.cell 1 rfl | 2, _ => exact LL.cell 2 rfl | 3, _ => exact LL.cell 3 rfl) C).mono ?_
     rintro e wx10 ⟨j, hj, rfl, c1, e1⟩
     obtain ⟨x, hxx⟩ : ∃ x, ([0, 1, 128, 3] : List Int).getD j 0 = x := ⟨_, rfl⟩
     have hx0 : 0 ≤ x ∧ x ≤ 255 := by subst hxx; match j, hj with | 0, _ => decide | 1, _ => decide | 2, _ => decide | 3, _ => decide
     rw [hxx]
     clear hj hxx j
     have hwx : IntKind.u8.wrap x = x := by rw [IntKind.wrap_u8]; omega
     have swx10 := e1.size
     replace G := grown_trans G e1
     replace OF := OF.kp (kp_of e1) (fun j hj e => by have := tF j hj; have : j = g := e; omega)
     replace PQ := hide (PQ.out.kept e1 (fun j e e2 => by cases e; exact NG.out e2))
     replace C := c1
     clear c1 e1 LL lL
     clear hHeld
     refine hKK.out _ _ trivial (fun hHeld => ?_)
     clear hKK KK
     try simp only [pU]
     refine' tj 8 28 rfl ?_ ?_;rotate_left
     ·intro w h; (try dsimp only at h); go_simp; try with_reducible rfl
     simp only [pU]
     refine rd 9 rfl (fun KK hKK => ?_)
     go_simp
     obtain ⟨wx11, hwx11⟩ : ∃ y, wx10.alloc (.cells #[.int .u8 x] 5) = y := ⟨_, rfl⟩
     have bb : Below wx10.heap.size wx10 wx11 := hwx11 ▸ qalloc _ _
     have O9 : OB wx11 wx10.heap.size (.slice (some ⟨wx10.heap.size, 0, none⟩) 1 1) [x] := hwx11 ▸ World.ownsRow_lit wx10 #[.int .u8 x] 1 (Nat.le_refl _) (by unfold maxLen; omega) rfl
     have swx11 : wx10.heap.size + 1 ≤ wx11.heap.size := by rw [← hwx11]; simp
     replace C := C.below (by omega) bb
     replace G := grown_trans G (grown_below bb (some g))
     replace PQ := hide (PQ.out.below bb)
     replace OF := OF.below bb
     rw [hwx11]
     clear hwx11 bb
     clear hHeld
     refine hKK.out _ _ trivial (fun hHeld => ?_)
     clear hKK KK
     try simp only [pU]
     refine rd 13 rfl (fun KK hKK => ?_)
     have tA := World.ownsRow.lt O9
     have s9 := swx11
     refine step_append_bytes rfl (.tmp 29) (.tmp 32) rfl (wx10.heap.size) (.slice (some ⟨wx10.heap.size, 0, none⟩) 1 1) (.slice bo (m - k) (bc - k)) ([x]) (bs) rfl rfl O9 PQ.out (by have := HL2.out; simp; omega) (by omega) ?_
     intro v2 wx12 OG g7 _
     have swx12 := g7.size
     replace C := C.grownNew g7 (fun j e => by have := tA _ e; omega)
     replace G := grown_new G g7 (fun j e => by have := tA _ e; omega)
     replace OF := OF.kp (kp_grown g7) (fun j hj e => by have := tA _ e; have := tF j hj; omega)
     clear g7 tA
     have PG := OG.pb (by have := HL2.out; simp; omega)
     clear O9 OG PQ
     clear hHeld
     refine hKK.out _ _ trivial (fun hHeld => ?_)
     clear hKK KK
     try simp only [pU]
     refine rd 14 rfl (fun KK hKK => ?_)
     have tA := World.ownsRow.lt OF
     refine step_append_bytes rfl (.tmp 24) (.tmp 33) rfl (wd.heap.size) (v1) (v2) (fs) ([x] ++ bs) rfl rfl OF PG (by have := HL1.out; have := HL2.out; simp; omega) (by omega) ?_
     intro v3 wx13 OH g7 _
     have swx13 := g7.size
     replace C := C.grownNew g7 (fun j e => by have := tA _ e; omega)
     replace G := grown_new G g7 (fun j e => by have := tA _ e; omega)
     clear g7 tA
     clear OF PG tF lF
     clear hHeld
     refine hKK.out _ _ trivial (fun hHeld => ?_)
     clear hKK KK
     refine' tj 15 4 rfl ?_ ?_;rotate_left
     ·intro w h; (try dsimp only at h); go_simp; try with_reducible rfl
     simp only [Act.put, List.setIfInBounds_toArray]
     clear hHeld
     refine wdn ?_
     go_wp2
     go_ret
     refine ⟨v3, by simp, _, HBM.out x hx0.1 hx0.2, ?_, OH.rb ?_, OH.far (by omega), C, G⟩
     ·have := HL1.out; have := HL2.out; simp; omega
     ·have := HL1.out; have := HL2.out; simp; omega
   ·go_simp
    obtain ⟨wx14, hwx14⟩ : ∃ y, wd.alloc (.cells #[.int .i64 0, .int .i64 1, .int .i64 128, .int .i64 3] 3) = y := ⟨_, rfl⟩
    have bb : Below wd.heap.size wd wx14 := hwx14 ▸ qalloc _ _
    have LL : Loc wx14 wd.heap.size #[.int .i64 0, .int .i64 1, .int .i64 128, .int .i64 3] := hwx14 ▸ loc_at wd _ _ rfl
    have swx14 : wd.heap.size + 1 ≤ wx14.heap.size := by rw [← hwx14]; simp
    replace C := C.below (by omega) bb
    replace G := grown_trans G (grown_below bb (some g))
    replace PF := hide (PF.out.below bb)
    replace PQ := hide (PQ.out.below bb)
    rw [hwx14]
    clear hwx14 bb
    clear hHeld
    refine hKK.out _ _ trivial (fun hHeld => ?_)
    clear hKK KK
    try simp only [pU]
    refine rd 0 rfl (fun KK hKK => ?_)
    go_simp
    obtain ⟨wx15, hwx15⟩ : ∃ y, wx14.alloc (.cells #[] 5) = y := ⟨_, rfl⟩
    have bb : Below wx14.heap.size wx14 wx15 := hwx15 ▸ qalloc _ _
    have OA : OB wx15 wx14.heap.size (.slice (some ⟨wx14.heap.size, 0, none⟩) 0 0) [] := hwx15 ▸ OB.lit wx14 _ rfl
    have swx15 : wx14.heap.size + 1 ≤ wx15.heap.size := by rw [← hwx15]; simp
    replace C := C.below (by omega) bb
    replace G := grown_trans G (grown_below bb (some g))
    replace PF := hide (PF.out.below bb)
    replace PQ := hide (PQ.out.below bb)
    replace LL := LL.up bb
    rw [hwx15]
    clear hwx15 bb
    clear hHeld
    refine hKK.out _ _ trivial (fun hHeld => ?_)
    clear hKK KK
    try simp only [pU]
    refine rd 4 rfl (fun KK hKK => ?_)
    have tA := World.ownsRow.lt OA
    refine step_append_bytes rfl (.tmp 20) (.tmp 23) rfl (wx14.heap.size) (.slice (some ⟨wx14.heap.size, 0, none⟩) 0 0) (.slice ba k bc) ([]) (fs) rfl rfl OA PF.out (by have := HL1.out; simp; omega) (by omega) ?_
    intro v1 wx16 OF g7 _
    have swx16 := g7.size
    replace C := C.grownNew g7 (fun j e => by have := tA _ e; omega)
    replace G := grown_new G g7 (fun j e => by have := tA _ e; omega)
    replace PQ := hide (PQ.out.kept g7 (fun j e e2 => by have := tA _ e; have := hbo _ e2; omega))
    replace LL := LL.grownNew g7 (fun e => by simp [Value.ownBlock] at e; omega)
    clear g7 tA
    rw [List.nil_append] at OF
    have tF := World.ownsRow.lt OF
    have lF : ∀ j, v1.ownBlock = some j → j < wx16.heap.size := fun j hj => (tF j hj).2
    clear OA PF
    clear hHeld
    refine hKK.out _ _ trivial (fun hHeld => ?_)
    clear hKK KK
    try simp only [pU]
    refine rd 7 rfl (fun KK hKK => ?_)
    go_simp
    have lL := LL.lt
    refine (pickInt_any base g ca wd.heap.size ao zs [0, 1, 128, 3] wx16 (by omega) (by omega) (by simp) (by simp) (fun j hj => by match j, hj with | 0, _ => exact LL.cell 0 rfl | 1, _ => exact LL.cell 1 rfl | 2, _ => exact LL.cell 2 rfl | 3, _ => exact LL.cell 3 rfl) C).mono ?_
    rintro e wx17 ⟨j, hj, rfl, c1, e1⟩
    obtain ⟨x, hxx⟩ : ∃ x, ([0, 1, 128, 3] : List Int).getD j 0 = x := ⟨_, rfl⟩
    have hx0 : 0 ≤ x ∧ x ≤ 255 := by subst hxx; match j, hj with | 0, _ => decide | 1, _ => decide | 2, _ => decide | 3, _ => decide
    rw [hxx]
    clear hj hxx j
    have hwx : IntKind.u8.wrap x = x := by rw [IntKind.wrap_u8]; omega
    have swx17 := e1.size
    replace G := grown_trans G e1
    replace OF := OF.kp (kp_of e1) (fun j hj e => by have := tF j hj; have : j = g := e; omega)
    replace PQ := hide (PQ.out.kept e1 (fun j e e2 => by cases e; exact NG.out e2))
    replace C := c1
    clear c1 e1 LL lL
    clear hHeld
    refine hKK.out _ _ trivial (fun hHeld => ?_)
    clear hKK KK
    try simp only [pU]
    refine' tj 8 28 rfl ?_ ?_;rotate_left
    ·intro w h; (try dsimp only at h); go_simp; try with_reducible rfl
    simp only [pU]
    refine rd 9 rfl (fun KK hKK => ?_)
    go_simp
    obtain ⟨wx18, hwx18⟩ : ∃ y, wx17.alloc (.cells #[.int .u8 x] 5) = y := ⟨_, rfl⟩
    have bb : Below wx17.heap.size wx17 wx18 := hwx18 ▸ qalloc _ _
    have O9 : OB wx18 wx17.heap.size (.slice (some ⟨wx17.heap.size, 0, none⟩) 1 1) [x] := hwx18 ▸ World.ownsRow_lit wx17 #[.int .u8 x] 1 (Nat.le_refl _) (by unfold maxLen; omega) rfl
    have swx18 : wx17.heap.size + 1 ≤ wx18.heap.size := by rw [← hwx18]; simp
    replace C := C.below (by omega) bb
    replace G := grown_trans G (grown_below bb (some g))
    replace PQ := hide (PQ.out.below bb)
    replace OF := OF.below bb
    rw [hwx18]
    clear hwx18 bb
    clear hHeld
    refine hKK.out _ _ trivial (fun hHeld => ?_)
    clear hKK KK
    try simp only [pU]
    refine rd 13 rfl (fun KK hKK => ?_)
    have tA := World.ownsRow.lt O9
    have s9 := swx18
    refine step_append_bytes rfl (.tmp 29) (.tmp 32) rfl (wx17.heap.size) (.slice (some ⟨wx17.heap.size, 0, none⟩) 1 1) (.slice bo (m - k) (bc - k)) ([x]) (bs) rfl rfl O9 PQ.out (by have := HL2.out; simp; omega) (by omega) ?_
    intro v2 wx19 OG g7 _
    have swx19 := g7.size
    replace C := C.grownNew g7 (fun j e => by have := tA _ e; omega)
    replace G := grown_new G g7 (fun j e => by have := tA _ e; omega)
    replace OF := OF.kp (kp_grown g7) (fun j hj e => by have := tA _ e; have := tF j hj; omega)
    clear g7 tA
    have PG := OG.pb (by have := HL2.out; simp; omega)
    clear O9 OG PQ
    clear hHeld
    refine hKK.out _ _ trivial (fun hHeld => ?_)
    clear hKK KK
    try simp only [pU]
    refine rd 14 rfl (fun KK hKK => ?_)
    have tA := World.ownsRow.lt OF
    refine step_append_bytes rfl (.tmp 24) (.tmp 33) rfl (wx14.heap.size) (v1) (v2) (fs) ([x] ++ bs) rfl rfl OF PG (by have := HL1.out; have := HL2.out; simp; omega) (by omega) ?_
    intro v3 wx20 OH g7 _
    have swx20 := g7.size
    replace C := C.grownNew g7 (fun j e => by have := tA _ e; omega)
    replace G := grown_new G g7 (fun j e => by have := tA _ e; omega)
    clear g7 tA
    clear OF PG tF lF
    clear hHeld
    refine hKK.out _ _ trivial (fun hHeld => ?_)
    clear hKK KK
    refine' tj 15 4 rfl ?_ ?_;rotate_left
    ·intro w h; (try dsimp only at h); go_simp; try with_reducible rfl
    simp only [Act.put, List.setIfInBounds_toArray]
    clear hHeld
    refine wdn ?_
    go_wp2
    go_ret
    refine ⟨v3, by simp, _, HBM.out x hx0.1 hx0.2, ?_, OH.rb ?_, OH.far (by omega), C, G⟩
    ·have := HL1.out; have := HL2.out; simp; omega
    ·have := HL1.out; have := HL2.out; simp; omega
  ·have hd0 : decide (x = 0) = false := by simp [hx]
   have hd1 : decide (x = 1) = false := by simp [hx1]
   go_wp2
   go_ret
   exact ⟨_, xs, rfl, HBY.out, by have := HM.out; omega, RR2.out, HF.out, C, G⟩
end Go.Proofs.YtcclbejpgiogaaaGreatDoor
