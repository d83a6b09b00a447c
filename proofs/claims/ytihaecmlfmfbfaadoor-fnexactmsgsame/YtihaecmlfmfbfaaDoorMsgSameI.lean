/- MsgSameI: what impl.MsgSame answers. -/
import Derived.Test.YtihaecmlfmfbfaaDoorMsgSames
import Derived.Test.YtihaecmlfmfbfaaDoorQcLater
namespace Go.Proofs.YtihaecmlfmfbfaaDoor
open Go.RowKit
set_option linter.unusedSectionVars false
variable [∀ (a b c d : Int), Decidable (Ok4 a b c d)]

/-- The numbers of a message that are told as texts. -/
def MI (t : MT) : Prop := (-9223372036854775808 ≤ t.bv ∧ t.bv ≤ 9223372036854775807) ∧ In64 t.bw
set_option maxHeartbeats 16000000 in
set_option maxRecDepth 100000 in
theorem implMsgSame (t t' : MT) (ao bo co ao' bo' co' : Option Addr) (ca cb cc ca' cb' cc' : Nat) (w : World) (hm : MI t) (hm' : MI t') (hP : Pow w) (ha : RI w (.slice ao t.bw.length ca) t.bw) (hb : RI w (.slice bo t.pw.length cb) t.pw) (hc : RI w (.slice co t.qw.length cc) t.qw) (ha' : RI w (.slice ao' t'.bw.length ca') t'.bw) (hb' : RI w (.slice bo' t'.pw.length cb') t'.pw) (hc' : RI w (.slice co' t'.qw.length cc') t'.qw) :
    Calls Tryd.prog 7 #[mgv t (.slice ao t.bw.length ca) (.slice bo t.pw.length cb) (.slice co t.qw.length cc), mgv t' (.slice ao' t'.bw.length ca') (.slice bo' t'.pw.length cb') (.slice co' t'.qw.length cc')] w fun e w' => e = .returned (.bool (msamB t t')) ∧ Below w.heap.size w w' := by
  have C1 := hide fun w hP h h' => implBlockSame t.bn t'.bn t.bv t'.bv t.bs t'.bs ao ao' ca ca' t.bw t'.bw w hm.1.1 hm.1.2 hm'.1.1 hm'.1.2 hm.2 hm'.2 hP h h'
  have C2 := hide fun w h h' => implQcSame t.pv t'.pv t.ps t'.ps (.slice bo t.pw.length cb) (.slice bo' t'.pw.length cb') t.pw t'.pw w h h'
  have C3 := hide fun w h h' => implQcSame t.qv t'.qv t.qs t'.qs (.slice co t.qw.length cc) (.slice co' t'.qw.length cc') t.qw t'.qw w h h'
  have E4 := fun w => eq_tx t.fr t.tu t.am t.no t'.fr t'.tu t'.am t'.no w
  have GU := guard_tx
  have hP1 := hide hP
  have ha1 := hide ha
  have hb1 := hide hb
  have hc1 := hide hc
  have ha2 := hide ha'
  have hb2 := hide hb'
  have hc2 := hide hc'
  clear ha hb hc ha' hb' hc' hm hm' hP
  unfold msamB
  generalize bsamB t.bn t'.bn t.bv t'.bv t.bs t'.bs t.bw t'.bw = b1 at *
  generalize alikeB t.pv t'.pv t.ps t'.ps t.pw t'.pw = b2 at *
  generalize alikeB t.qv t'.qv t.qs t'.qs t.qw t'.qw = b3 at *
  have HT : Hid (decide (t.fr = t'.fr ∧ t.tu = t'.tu ∧ t.am = t'.am ∧ t.no = t'.no) = txB t t') := hide rfl
  rw [unhide HT] at E4
  generalize txB t t' = b4 at *
  clear HT
  obtain ⟨w0, hw0⟩ : ∃ w0, ((w.alloc (.cells #[.int .i64 t.k, .int .i64 t.vw, .string t.bn, .int .i64 t.bv, .string t.bs, .slice ao t.bw.length ca, .int .i64 t.pv, .string t.ps, .slice bo t.pw.length cb, .int .i64 t.qv, .string t.qs, .slice co t.qw.length cc, .int .i64 t.wh, .int .i64 t.fr, .int .i64 t.tu, .int .i64 t.am, .int .i64 t.no] 40)).alloc (.cells #[.int .i64 t'.k, .int .i64 t'.vw, .string t'.bn, .int .i64 t'.bv, .string t'.bs, .slice ao' t'.bw.length ca', .int .i64 t'.pv, .string t'.ps, .slice bo' t'.pw.length cb', .int .i64 t'.qv, .string t'.qs, .slice co' t'.qw.length cc', .int .i64 t'.wh, .int .i64 t'.fr, .int .i64 t'.tu, .int .i64 t'.am, .int .i64 t'.no] 40)) = w0 := ⟨_, rfl⟩
  have Bw0 : Below w.heap.size w w0 := hw0 ▸ ((Below.refl _ _).alloc (Nat.le_refl _) _).alloc (by simp) _
  have A : Loc w0 (w.heap.size) #[.int .i64 t.k, .int .i64 t.vw, .string t.bn, .int .i64 t.bv, .string t.bs, .slice ao t.bw.length ca, .int .i64 t.pv, .string t.ps, .slice bo t.pw.length cb, .int .i64 t.qv, .string t.qs, .slice co t.qw.length cc, .int .i64 t.wh, .int .i64 t.fr, .int .i64 t.tu, .int .i64 t.am, .int .i64 t.no] := hw0 ▸ (loc_at (w) _ _ rfl).alloc _
  have B : Loc w0 (w.heap.size + 1) #[.int .i64 t'.k, .int .i64 t'.vw, .string t'.bn, .int .i64 t'.bv, .string t'.bs, .slice ao' t'.bw.length ca', .int .i64 t'.pv, .string t'.ps, .slice bo' t'.pw.length cb', .int .i64 t'.qv, .string t'.qs, .slice co' t'.qw.length cc', .int .i64 t'.wh, .int .i64 t'.fr, .int .i64 t'.tu, .int .i64 t'.am, .int .i64 t'.no] := hw0 ▸ loc_at (w.alloc _) _ _ (by simp)
  have zw0 : w.heap.size + 1 + 1 ≤ w0.heap.size := by rw [← hw0]; simp
  go_enter Tryd.func7, Tryd.ntmps7
  by_cases h1 : t.k = t'.k
  · have dh1 : decide (t.k = t'.k) = true := by simpa using h1
    have Hh1 := hide h1
    clear h1
    by_cases h2 : t.vw = t'.vw
    · have dh2 : decide (t.vw = t'.vw) = true := by simpa using h2
      have Hh2 := hide h2
      clear h2
      have hPx := (unhide hP1).below Bw0
      have cA0 := A.cell 0 rfl
      have cA1 := A.cell 1 rfl
      have cA2 := A.cell 2 rfl
      have cA3 := A.cell 3 rfl
      have cA4 := A.cell 4 rfl
      have cA5 := A.cell 5 rfl
      have cB0 := B.cell 0 rfl
      have cB1 := B.cell 1 rfl
      have cB2 := B.cell 2 rfl
      have cB3 := B.cell 3 rfl
      have cB4 := B.cell 4 rfl
      have cB5 := B.cell 5 rfl
      go_wp2_with fail
      clear hw0
      refine (unhide C1 _ hPx ((unhide ha1).below Bw0 (Nat.le_refl _)) ((unhide ha2).below Bw0 (Nat.le_refl _))).mono ?_
      rintro _ w1 ⟨rfl, bb⟩
      clear cA0 cA1 cA2 cA3 cA4 cA5 cB0 cB1 cB2 cB3 cB4 cB5
      have Bw1 := Bw0.trans (bb.mono Bw0.size)
      have sw1 := bb.size
      replace A := A.below bb A.lt
      replace B := B.below bb B.lt
      clear Bw0
      clear bb
      cases b1
      · go_wp2
        go_ret
        exact ⟨by simp [unhide Hh1, unhide Hh2], Bw1⟩
      · have cA6 := A.cell 6 rfl
        have cA7 := A.cell 7 rfl
        have cA8 := A.cell 8 rfl
        have cB6 := B.cell 6 rfl
        have cB7 := B.cell 7 rfl
        have cB8 := B.cell 8 rfl
        go_wp2_with fail
        refine (unhide C2 _ ((unhide hb1).below Bw1 (Nat.le_refl _)) ((unhide hb2).below Bw1 (Nat.le_refl _))).mono ?_
        rintro _ w2 ⟨rfl, bb⟩
        clear cA6 cA7 cA8 cB6 cB7 cB8
        have Bw2 := Bw1.trans (bb.mono Bw1.size)
        have sw2 := bb.size
        replace A := A.below bb A.lt
        replace B := B.below bb B.lt
        clear Bw1
        clear bb
        cases b2
        · go_wp2
          go_ret
          exact ⟨by simp [unhide Hh1, unhide Hh2], Bw2⟩
        · have cA9 := A.cell 9 rfl
          have cA10 := A.cell 10 rfl
          have cA11 := A.cell 11 rfl
          have cB9 := B.cell 9 rfl
          have cB10 := B.cell 10 rfl
          have cB11 := B.cell 11 rfl
          go_wp2_with fail
          refine (unhide C3 _ ((unhide hc1).below Bw2 (Nat.le_refl _)) ((unhide hc2).below Bw2 (Nat.le_refl _))).mono ?_
          rintro _ w3 ⟨rfl, bb⟩
          clear cA9 cA10 cA11 cB9 cB10 cB11
          have Bw3 := Bw2.trans (bb.mono Bw2.size)
          have sw3 := bb.size
          replace A := A.below bb A.lt
          replace B := B.below bb B.lt
          clear Bw2
          clear bb
          cases b3
          · go_wp2
            go_ret
            exact ⟨by simp [unhide Hh1, unhide Hh2], Bw3⟩
          · by_cases h3 : t.wh = t'.wh
            · have dh3 : decide (t.wh = t'.wh) = true := by simpa using h3
              have Hh3 := hide h3
              clear h3
              have cA12 := A.cell 12 rfl
              have cA13 := A.cell 13 rfl
              have cA14 := A.cell 14 rfl
              have cA15 := A.cell 15 rfl
              have cA16 := A.cell 16 rfl
              have cB12 := B.cell 12 rfl
              have cB13 := B.cell 13 rfl
              have cB14 := B.cell 14 rfl
              have cB15 := B.cell 15 rfl
              have cB16 := B.cell 16 rfl
              go_wp2
              go_ret
              exact ⟨by simp [unhide Hh1, unhide Hh2, unhide Hh3], Bw3⟩
            · have dh3 : decide (t.wh = t'.wh) = false := by simpa using h3
              have cA12 := A.cell 12 rfl
              have cB12 := B.cell 12 rfl
              go_wp2
              go_ret
              exact ⟨by simp [unhide Hh1, unhide Hh2, h3], Bw3⟩
    · have dh2 : decide (t.vw = t'.vw) = false := by simpa using h2
      have cA0 := A.cell 0 rfl
      have cA1 := A.cell 1 rfl
      have cB0 := B.cell 0 rfl
      have cB1 := B.cell 1 rfl
      go_wp2
      go_ret
      exact ⟨by simp [unhide Hh1, h2], Bw0⟩
  · have dh1 : decide (t.k = t'.k) = false := by simpa using h1
    have cA0 := A.cell 0 rfl
    have cB0 := B.cell 0 rfl
    go_wp2
    go_ret
    exact ⟨by simp [h1], Bw0⟩
end Go.Proofs.YtihaecmlfmfbfaaDoor
