/- Lemmas; their conditions stand in each statement. -/
import Derived.Test.YtkmnfeihjjccmaaGreatDoorTLAZ
import Derived.Laws.Cover1
set_option maxRecDepth 100000
set_option maxHeartbeats 8000000
set_option linter.unusedSectionVars false
namespace Go.Proofs.YtkmnfeihjjccmaaGreatDoor
section
open Go.RowKit
variable [∀(n:Int)(s:List Int),Decidable (Dt n s)]
theorem nE(x:Int)(w:World):Calls Tryz.prog 179 #[.int .i64 x] w fun e w'=>e= .returned (.bool false)∧w'=w:=by
 go_enter Tryz.func179,Tryz.ntmps179
 go_wp2
 go_ret
 exact⟨by simp,rfl⟩

theorem eT(x y:Int)(w:World):Calls Tryz.prog 169 #[.int .i64 x,.int .i64 y] w fun e w'=>e= .returned (.int .i64 (Ex x y))∧w'=w:=by
 have NN:=hide nE
 unfold Ex
 by_cases h1:x<y
 ·rw[if_pos h1]
  go_enter Tryz.func169,Tryz.ntmps169
  go_wp2_with (first|(go_at_call 179;refine(NN.out _ _).mono ?_;rintro e w' ⟨rfl,rfl⟩))
  go_ret
  exact⟨rfl,rfl⟩
 rw[if_neg h1]
 by_cases h2:y<x
 ·rw[if_pos h2]
  go_enter Tryz.func169,Tryz.ntmps169
  go_wp2_with (first|(go_at_call 179;refine(NN.out _ _).mono ?_;rintro e w' ⟨rfl,rfl⟩))
  go_ret
  exact⟨rfl,rfl⟩
 rw[if_neg h2]
 go_enter Tryz.func169,Tryz.ntmps169
 go_wp2_with (first|(go_at_call 179;refine(NN.out _ _).mono ?_;rintro e w' ⟨rfl,rfl⟩))
 go_ret
 exact⟨rfl,rfl⟩

theorem nD(s:ByteArray)(w:World):Calls Tryz.prog 180 #[.string s] w fun e w'=>e= .returned (.bool false)∧w'=w:=by
 go_enter Tryz.func180,Tryz.ntmps180
 go_wp2
 go_ret
 exact⟨by simp,rfl⟩

theorem eQ(s t:ByteArray)(w:World):Calls Tryz.prog 171 #[.string s,.string t] w fun e w'=>e= .returned (.int .i64 (QE s t))∧w'=w:=by
 have NN:=hide nD
 unfold QE
 by_cases h1:Op.bytesLess s.toList t.toList=true
 ·rw[if_pos h1]
  go_enter Tryz.func171,Tryz.ntmps171
  go_wp2_with (first|(go_at_call 180;refine(NN.out _ _).mono ?_;rintro e w' ⟨rfl,rfl⟩))
  go_ret
  exact⟨rfl,rfl⟩
 rw[if_neg h1]
 have h1:Op.bytesLess s.toList t.toList=false:=by simpa using h1
 by_cases h2:Op.bytesLess t.toList s.toList=true
 ·rw[if_pos h2]
  have h3:(s.toList==t.toList)=false:=by
   simp only[beq_eq_false_iff_ne];intro e;rw[e,VH]at h2;cases h2
  go_enter Tryz.func171,Tryz.ntmps171
  go_wp2_with (first|(go_at_call 180;refine(NN.out _ _).mono ?_;rintro e w' ⟨rfl,rfl⟩))
  go_ret
  exact⟨rfl,rfl⟩
 rw[if_neg h2]
 have h2:Op.bytesLess t.toList s.toList=false:=by simpa using h2
 have h3:(s.toList==t.toList)=true:=by
  rw[beq_iff_eq];exact Classical.byContradiction fun e=>by have:=Xr h1 e;rw[h2]at this;cases this
 go_enter Tryz.func171,Tryz.ntmps171
 go_wp2_with (first|(go_at_call 180;refine(NN.out _ _).mono ?_;rintro e w' ⟨rfl,rfl⟩))
 go_ret
 exact⟨rfl,rfl⟩

theorem iR(a b:Int)(g:Nat)(w:World)(h0:w.cell? ⟨g,0,none⟩=some (.int .i64 a))(h1:w.cell? ⟨g,1,none⟩=some (.int .i64 b)):
 Calls Tryz.prog 168 #[.slice (some ⟨g,0,none⟩) 2 2] w fun e w'=>e= .returned (.int .i64 (if a≠0 then a else b))∧w'=w:=by
 by_cases ha:a=0
 ·have e:(if a≠0 then a else b)=b:=by simp[ha]
  rw[e]
  subst ha
  clear e
  by_cases hb:b=0
  ·subst hb
   go_enter Tryz.func168,Tryz.ntmps168
   go_wp2
   refine wp_loop_rounds 3 ?_
   rw[rounds_succ]
   go_wp2
   rw[rounds_succ]
   go_wp2
   rw[rounds_succ]
   go_wp2
   go_ret
   exact⟨rfl,rfl⟩
  go_enter Tryz.func168,Tryz.ntmps168
  go_wp2
  refine wp_loop_rounds 2 ?_
  rw[rounds_succ]
  go_wp2
  rw[rounds_succ]
  go_wp2
  go_ret
  exact⟨rfl,rfl⟩
 have e:(if a≠0 then a else b)=a:=by simp[ha]
 rw[e]
 clear e
 go_enter Tryz.func168,Tryz.ntmps168
 go_wp2
 refine wp_loop_rounds 1 ?_
 rw[rounds_succ]
 go_wp2
 go_ret
 exact⟨rfl,rfl⟩
end
section
open Go.RowKit
variable [∀(a b c d:Int),Decidable (BD a b c d)]
def NQ(w:World)(g k:Nat)(t:T4):Prop:=w.cell? ⟨g,k*4,none⟩=some (.int .i64 t.1)∧w.cell? ⟨g,k*4+1,none⟩=some (.int .i64 t.2.1)∧w.cell? ⟨g,k*4+2,none⟩=some (.int .i64 t.2.2.1)∧w.cell? ⟨g,k*4+3,none⟩=some (.int .i64 t.2.2.2)
end
section
open Go.RowKit
variable [∀(n:Int)(s:List Int),Decidable (Dt n s)]
variable [∀(a b c d:Int),Decidable (BD a b c d)]
def Gm(x y:T4):Prop:=x.1<y.1∨(x.1=y.1∧x.2.2.2<y.2.2.2)
variable [∀(x y:T4),Decidable (Gm x y)]
def eZ(x y:T4):Int:=if Ex x.1 y.1≠0 then Ex x.1 y.1 else Ex x.2.2.2 y.2.2.2
theorem nZ(x y:T4):eZ x y<0↔Gm x y:=by
 unfold eZ Ex Gm
 repeat' split
 all_goals omega
theorem Gm.trans{x y z:T4}(h:Gm x y)(k:Gm y z):Gm x z:=by unfold Gm at *; omega
theorem jC(x:Int)(w:World):Calls Tryz.prog 179 #[.int .i64 x] w fun e w'=>e= .returned (.bool false)∧w'=w:=by
 go_enter Tryz.func179,Tryz.ntmps179
 go_wp2
 go_ret
 exact⟨by simp,rfl⟩

theorem L9(x y:Int)(w:World):Calls Tryz.prog 169 #[.int .i64 x,.int .i64 y] w fun e w'=>e= .returned (.int .i64 (Ex x y))∧w'=w:=by
 have NN:=hide jC
 unfold Ex
 by_cases h1:x<y
 ·rw[if_pos h1]
  go_enter Tryz.func169,Tryz.ntmps169
  go_wp2_with (first|(go_at_call 179;refine(NN.out _ _).mono ?_;rintro e w' ⟨rfl,rfl⟩))
  go_ret
  exact⟨rfl,rfl⟩
 rw[if_neg h1]
 by_cases h2:y<x
 ·rw[if_pos h2]
  go_enter Tryz.func169,Tryz.ntmps169
  go_wp2_with (first|(go_at_call 179;refine(NN.out _ _).mono ?_;rintro e w' ⟨rfl,rfl⟩))
  go_ret
  exact⟨rfl,rfl⟩
 rw[if_neg h2]
 go_enter Tryz.func169,Tryz.ntmps169
 go_wp2_with (first|(go_at_call 179;refine(NN.out _ _).mono ?_;rintro e w' ⟨rfl,rfl⟩))
 go_ret
 exact⟨rfl,rfl⟩

theorem QD(x y:T4)(w:World):
 Calls Tryz.prog 154 #[G9 x.1 x.2.1 x.2.2.1 x.2.2.2,G9 y.1 y.2.1 y.2.2.1 y.2.2.2] w fun e w'=>e= .returned (.int .i64 (eZ x y))∧Below w.heap.size w w':=by
 have OR:Hid (∀g w,w.cell? ⟨g,0,none⟩=some (.int .i64 (Ex x.1 y.1))→w.cell? ⟨g,1,none⟩=some (.int .i64 (Ex x.2.2.2 y.2.2.2))→Calls Tryz.prog 168 #[.slice (some ⟨g,0,none⟩) 2 2] w fun e w'=>e= .returned (.int .i64 (eZ x y))∧w'=w):=hide fun g w h0 h1=>iR _ _ g w h0 h1
 generalize eZ x y=q at *
 obtain⟨xa,xb,xc,xd⟩:=x
 obtain⟨ya,yb,yc,yd⟩:=y
 dsimp only at OR⊢
 obtain⟨w0,hw0⟩:∃w0,(w.alloc (.cells (r4 xa xb xc xd) 63)).alloc (.cells (r4 ya yb yc yd) 63)=w0:=⟨_,rfl⟩
 have B0:Below w.heap.size w w0:=hw0▸((Below.refl _ _).alloc (Nat.le_refl _) _).alloc (by simp) _
 have LX:Loc w0 w.heap.size (r4 xa xb xc xd):=hw0▸(AB w _ _ rfl).alloc _
 have LY:Loc w0 (w.heap.size+1) (r4 ya yb yc yd):=hw0▸AB _ _ _ (by simp)
 have K:Hid (∀w',Below w0.heap.size w0 w'→(w'.cell? ⟨w.heap.size,0,none⟩=some (.int .i64 xa)∧w'.cell? ⟨w.heap.size,3,none⟩=some (.int .i64 xd))∧(w'.cell? ⟨w.heap.size+1,0,none⟩=some (.int .i64 ya)∧w'.cell? ⟨w.heap.size+1,3,none⟩=some (.int .i64 yd))):=hide fun w' hb=>by
  have l:=LX.up hb
  have m:=LY.up hb
  exact⟨⟨l.cell 0 rfl,l.cell 3 rfl⟩,⟨m.cell 0 rfl,m.cell 3 rfl⟩⟩
 go_enter Tryz.func154,Tryz.ntmps154
 go_wp2_with fail
 clear hw0
 refine kJ K (Below.drew (Below.refl _ _)) (fun hHeld=>?_)
 obtain⟨wd,hd⟩:∃wd,w0.drew=wd:=⟨_,rfl⟩
 have bd:Below w0.heap.size w0 wd:=hd▸Below.drew (Below.refl _ _)
 have uj:=bd.size
 rw[hd]at hHeld⊢
 clear hd
 refine tx 0 5 ?_
 refine tx 1 6 ?_
 refine tx 2 7 ?_
 refine tx 3 8 ?_
 refine tx 5 10 ?_
 refine tx 6 11 ?_
 refine tx 7 12 ?_
 refine tx 8 13 ?_
 refine rd 4 rfl (fun KK AA=>?_)
 go_simp
 refine(L9 xa ya _).mono ?_
 rintro _ w9 ⟨rfl,e9⟩
 rw[e9]
 clear e9 hHeld
 refine AA.out _ _ (K.out _ bd) (fun hHeld=>?_)
 clear AA KK
 refine rd 9 rfl (fun KK AA=>?_)
 go_simp
 refine(L9 xd yd _).mono ?_
 rintro _ w9 ⟨rfl,e9⟩
 rw[e9]
 clear e9 hHeld
 refine AA.out _ _ (K.out _ bd) (fun hHeld=>?_)
 clear AA KK
 refine rd 10 rfl (fun KK AA=>?_)
 go_simp
 obtain⟨we,he⟩:∃x,wd.alloc (.cells #[.int .i64 (Ex xa ya),.int .i64 (Ex xd yd)] 3)=x:=⟨_,rfl⟩
 have be:Below w0.heap.size w0 we:=he▸bd.alloc uj _
 have LE:Loc we wd.heap.size #[.int .i64 (Ex xa ya),.int .i64 (Ex xd yd)]:=he▸AB wd _ _ rfl
 rw[he]
 clear hHeld
 refine AA.out _ _ (K.out _ be) (fun hHeld=>?_)
 clear AA KK
 refine rd 11 rfl (fun KK AA=>?_)
 go_simp
 refine(OR.out _ _ (LE.cell 0 rfl) (LE.cell 1 rfl)).mono ?_
 rintro _ w9 ⟨rfl,e9⟩
 rw[e9]
 clear e9 hHeld
 refine AA.out _ _ (K.out _ be) (fun hHeld=>?_)
 clear AA KK
 refine tx 12 4 ?_
 clear hHeld
 refine Bt ?_
 go_wp2
 go_ret
 exact⟨rfl,bu B0 be⟩

theorem Yv(x y:T4)(w:World):
 Calls Tryz.prog 95 #[G9 x.1 x.2.1 x.2.2.1 x.2.2.2,G9 y.1 y.2.1 y.2.2.1 y.2.2.2] w fun e w'=>e= .returned (.bool (decide (Gm x y)))∧Below w.heap.size w w':=by
 obtain⟨xa,xb,xc,xd⟩:=x
 obtain⟨ya,yb,yc,yd⟩:=y
 dsimp only
 by_cases h1:xa<ya
 ·rw[show decide (Gm (xa,xb,xc,xd) (ya,yb,yc,yd))=true from decide_eq_true (Or.inl h1)]
  go_enter Tryz.func95,Tryz.ntmps95
  go_wp2
  go_ret
  exact⟨rfl,((Below.refl _ _).alloc (Nat.le_refl _) _).alloc (by simp) _⟩
 by_cases h2:xa=ya
 ·have e:decide (Gm (xa,xb,xc,xd) (ya,yb,yc,yd))=decide (xd<yd):=by
   have:Gm (xa,xb,xc,xd) (ya,yb,yc,yd)↔xd<yd:=by unfold Gm;dsimp only;omega
   simp only[this]
  rw[e]
  clear e
  subst h2
  go_enter Tryz.func95,Tryz.ntmps95
  go_wp2
  go_ret
  exact⟨rfl,((Below.refl _ _).alloc (Nat.le_refl _) _).alloc (by simp) _⟩
 rw[show decide (Gm (xa,xb,xc,xd) (ya,yb,yc,yd))=false from decide_eq_false (by unfold Gm;dsimp only;omega)]
 have h2:(xa==ya)=false:=by simpa using h2
 go_enter Tryz.func95,Tryz.ntmps95
 go_wp2
 go_ret
 exact⟨rfl,((Below.refl _ _).alloc (Nat.le_refl _) _).alloc (by simp) _⟩
end
section
open Go.RowKit
variable [∀(n:Int)(s:List Int),Decidable (Dt n s)]
variable [∀(a b c d:Int),Decidable (BD a b c d)]
variable [∀(x y:T4),Decidable (Gm x y)]
abbrev z4:T4:=(0,0,0,0)
def Asc(ts:List T4):Prop:=∀k,k<ts.length-1→Gm (ts.getD k z4) (ts.getD (k+1) z4)
def DU(ts:List T4):Prop:=∀k,k<ts.length→BD (ts.getD k z4).1 (ts.getD k z4).2.1 (ts.getD k z4).2.2.1 (ts.getD k z4).2.2.2
variable [∀(ts:List T4),Decidable (Asc ts)]
variable [∀(ts:List T4),Decidable (DU ts)]
def JP(ts:List T4):Prop:=ts.length≤12∧DU ts∧Asc ts
variable [∀(ts:List T4),Decidable (JP ts)]
theorem RT.at{w:World}{ao:Option Addr}{n ca:Nat}{xs:List T4}(h:RT w (.slice ao n ca) xs)(k:Nat)(hk:k<xs.length):∃g,ao=some ⟨g,0,none⟩∧NQ w g k (xs.getD k z4):=by
 obtain⟨_,QH,V4,e,h⟩:=h
 cases e
 rcases h with rfl|⟨g,rfl,h⟩
 ·simp at hk
 exact⟨g,rfl,h k hk⟩
theorem RT.form{w:World}{v:Value}{xs:List T4}(h:RT w v xs):∃ao ca,v= .slice ao xs.length ca:=by obtain⟨_,ao,ca,e,_⟩:=h;exact⟨ao,ca,e⟩
theorem NQ.below{w w':World}{B g k:Nat}{t:T4}(h:NQ w g k t)(hb:Below B w w')(hg:w.heap.size≤B:=by exact Nat.le_refl _):NQ w' g k t:=by
 have hl:g<B:=Nat.lt_of_lt_of_le (AY h.1) hg
 exact⟨(hb.cell (p:=⟨g,k*4,none⟩) hl).trans h.1,(hb.cell (p:=⟨g,k*4+1,none⟩) hl).trans h.2.1,(hb.cell (p:=⟨g,k*4+2,none⟩) hl).trans h.2.2.1,(hb.cell (p:=⟨g,k*4+3,none⟩) hl).trans h.2.2.2⟩

theorem bP(a b c d:Int)(w:World):
 Calls Tryz.prog 125 #[G9 a b c d] w fun e w'=>e= .returned (.bool (!decide (BD a b c d)))∧Below w.heap.size w w':=by
 have TO:=hide fun w=>VT a b c d w
 go_enter Tryz.func125,Tryz.ntmps125
 go_wp2_with (first|(go_at_call 153;refine(TO.out _).mono ?_;rintro e w' ⟨rfl,bb⟩))
 go_ret
 exact⟨rfl,((Below.refl _ _).alloc (Nat.le_refl _) _).trans (bb.mono (by simp))⟩

theorem dS(v:Value)(ts:List T4)(w:World)(h:RT w v ts):
 Calls Tryz.prog 152 #[v,.func (.func 125) #[] #[]] w fun e w'=>∃i:Int,e= .returned (.int .i64 i)∧(0≤i↔¬DU ts)∧Below w.heap.size w w':=by
 obtain⟨ao,ca,rfl⟩:=h.form
 have hl:=h.1
 have H:=hide h
 obtain⟨n,hn⟩:∃n,ts.length=n:=⟨_,rfl⟩
 have Hn:=hide hn
 rw[hn]at hl H⊢
 clear h hn
 go_enter Tryz.func152,Tryz.ntmps152
 go_wp2
 go_loopw [8] (fun i wr=>∃k:Nat,k≤n∧i= .int .i64 k∧Hid (∀j,j<k→BD (ts.getD j z4).1 (ts.getD j z4).2.1 (ts.getD j z4).2.2.1 (ts.getD j z4).2.2.2)∧Below w.heap.size w wr) (fun i _=>n-(intOf i).toNat)
 case atStart=>exact⟨0,Nat.zero_le _,rfl,hide (fun j hj=>absurd hj (Nat.not_lt_zero j)),Below.refl _ _⟩
 case round=>
  obtain⟨k,hk,rfl,HA,br⟩:=hrel
  by_cases hlt:k<n
  ·obtain⟨g,rfl,hc⟩:=H.out.at k (by rw[Hn.out];exact hlt)
   obtain⟨c0,c1,c2,c3⟩:=hc.below br
   have NT:=hide fun w=>bP (ts.getD k z4).1 (ts.getD k z4).2.1 (ts.getD k z4).2.2.1 (ts.getD k z4).2.2.2 w
   have HS:=hide fun(h:BD (ts.getD k z4).1 (ts.getD k z4).2.1 (ts.getD k z4).2.2.1 (ts.getD k z4).2.2.2)=>(show∀j,j<k+1→BD (ts.getD j z4).1 (ts.getD j z4).2.1 (ts.getD j z4).2.2.1 (ts.getD j z4).2.2.2 from fun j hj=>by
    by_cases e:j=k
    ·rw[e];exact h
    exact HA.out j (by omega))
   have HN:Hid (¬BD (ts.getD k z4).1 (ts.getD k z4).2.1 (ts.getD k z4).2.2.1 (ts.getD k z4).2.2.2→¬DU ts):=hide fun h ha=>h (ha k (by rw[Hn.out];exact hlt))
   clear HA hc
   generalize ts.getD k z4=x at *
   obtain⟨xa,xb,xc,xd⟩:=x
   dsimp only at c0 c1 c2 c3 NT HS HN
   by_cases ho:BD xa xb xc xd
   ·rw[decide_eq_true ho]at NT
    have HS:=hide (HS.out ho)
    clear HN ho
    go_wp2_with (first|(go_at_call 125;refine(NT.out _).mono ?_;rintro e w2 ⟨rfl,b2⟩))
    go_roundw
    case rel=>exact⟨k+1,by omega,by go_num,HS,bu br b2⟩
    case measure=>simp[intOf];omega
   rw[decide_eq_false ho]at NT
   have HN:=hide (HN.out ho)
   clear HS ho
   go_wp2_with (first|(go_at_call 125;refine(NT.out _).mono ?_;rintro e w2 ⟨rfl,b2⟩))
   go_ret
   exact⟨k,rfl,by simp[HN.out],bu br b2⟩
  have hkn:k=n:=by omega
  have HN:Hid (DU ts):=hide fun j hj=>HA.out j (by have:=Hn.out;omega)
  clear HA
  subst hkn
  go_wp2
  go_ret
  exact⟨-1,rfl,by simp[HN.out],br⟩

theorem Sj(v:Value)(ts:List T4)(w:World)(h:RT w v ts):
 Calls Tryz.prog 124 #[v,.func (.func 125) #[] #[]] w fun e w'=>e= .returned (.bool (!decide (DU ts)))∧Below w.heap.size w w':=by
 have IX:=hide fun w h=>dS v ts w h
 have H:=hide h
 obtain⟨ao,ca,rfl⟩:=h.form
 clear h
 go_enter Tryz.func124,Tryz.ntmps124
 go_wp2_with fail
 refine(IX.out _ H.out).mono ?_
 rintro e w2 ⟨i,rfl,hi,b2⟩
 go_wp2
 go_ret
 refine⟨?_,b2⟩
 by_cases hA:DU ts
 ·rw[decide_eq_true hA]
  have:¬0≤i:=fun h=>hi.1 h hA
  simp
 rw[decide_eq_false hA]
 have:0≤i:=hi.2 hA
 simp

theorem Tv(ao:Option Addr)(n ca:Nat)(w:World):
 Calls Tryz.prog 126 #[.slice ao n ca] w fun e w'=>e= .returned (.agg #[.slice ao n ca,.func (.func 154) #[] #[]])∧Below w.heap.size w w':=by
 go_enter Tryz.func126,Tryz.ntmps126
 go_wp2
 refine bodyPost_ret (v:= .agg #[.slice ao n ca,.func (.func 154) #[] #[]]) (by simp[results,Tryz.results126,go_sem]) rfl ?_
 exact⟨rfl,(Below.refl _ _).alloc (Nat.le_refl _) _⟩

theorem WB(v:Value)(ts:List T4)(w:World)(h:RT w v ts):
 Calls Tryz.prog 127 #[.agg #[v,.func (.func 154) #[] #[]]] w fun e w'=>e= .returned (.bool (decide (Asc ts)))∧Below w.heap.size w w':=by
 obtain⟨ao,ca,rfl⟩:=h.form
 have hl:=h.1
 have H:=hide h
 obtain⟨n,hn⟩:∃n,ts.length=n:=⟨_,rfl⟩
 have Hn:=hide hn
 rw[hn]at hl H⊢
 clear h hn
 obtain⟨w0,hw0⟩:∃w0,w.alloc (.cells #[.slice ao n ca,.func (.func 154) #[] #[]] 164)=w0:=⟨_,rfl⟩
 have B0:Below w.heap.size w w0:=hw0▸(Below.refl _ _).alloc (Nat.le_refl _) _
 have L0:Loc w0 w.heap.size #[.slice ao n ca,.func (.func 154) #[] #[]]:=hw0▸AB w _ _ rfl
 go_enter Tryz.func127,Tryz.ntmps127
 go_wp2
 clear hw0
 go_loopw [3] (fun i wr=>∃m:Nat,1≤m∧m≤n+1∧i= .int .i64 m∧Hid (∀j,j+1<m→j<n-1→Gm (ts.getD j z4) (ts.getD (j+1) z4))∧Loc wr w.heap.size #[.slice ao n ca,.func (.func 154) #[] #[]]∧Below w.heap.size w wr) (fun i _=>n+1-(intOf i).toNat)
 case atStart=>exact⟨1,Nat.le_refl _,by omega,by go_num,hide (fun j hj=>absurd hj (by omega)),L0,B0⟩
 case round=>
  clear L0 B0
  obtain⟨m,hm1,hm,rfl,HA,L,br⟩:=hrel
  have q0:=L.cell 0 rfl
  have q1:=L.cell 1 rfl
  by_cases hlt:m<n
  ·obtain⟨k,hk⟩:∃k,m=k+1:=⟨m-1,by omega⟩
   have hk1:(m:Int)-1=(k:Int):=by omega
   have hwk:IntKind.i64.wrap (k:Int)=(k:Int):=by rw[IntKind.wrap_i64];omega
   have hkn:k<n:=by omega
   obtain⟨g,rfl,hx⟩:=H.out.at k (by rw[Hn.out];omega)
   obtain⟨g',e,hy⟩:=H.out.at m (by rw[Hn.out];omega)
   cases e
   have CX:=hide (hx.below br)
   have CY:=hide (hy.below br)
   have CT:=hide fun w=>QD (ts.getD k z4) (ts.getD m z4) w
   have HS:=hide fun(h:Gm (ts.getD k z4) (ts.getD m z4))=>(show∀j,j+1<m+1→j<n-1→Gm (ts.getD j z4) (ts.getD (j+1) z4) from fun j hj hj2=>by
    by_cases e:j=k
    ·rw[e,←hk];exact h
    exact HA.out j (by omega) hj2)
   have HN:Hid (¬Gm (ts.getD k z4) (ts.getD m z4)→¬Asc ts):=hide fun h ha=>h (by have:=ha k (by rw[Hn.out];omega);rwa [←hk]at this)
   have hcm:=hide (nZ (ts.getD k z4) (ts.getD m z4))
   clear HA hx hy
   generalize eZ (ts.getD k z4) (ts.getD m z4)=q at *
   generalize Gm (ts.getD k z4) (ts.getD m z4)=BF at *
   generalize ts.getD k z4=x at *
   generalize ts.getD m z4=y at *
   obtain⟨xa,xb,xc,xd⟩:=x
   obtain⟨ya,yb,yc,yd⟩:=y
   dsimp only at CT
   have K:Hid (∀w',Below wr.heap.size wr w'→(w'.cell? ⟨w.heap.size,0,none⟩=some (.slice (some ⟨g,0,none⟩) n ca)∧w'.cell? ⟨w.heap.size,1,none⟩=some (.func (.func 154) #[] #[]))∧(w'.cell? ⟨g,k*4,none⟩=some (.int .i64 xa)∧w'.cell? ⟨g,k*4+1,none⟩=some (.int .i64 xb)∧w'.cell? ⟨g,k*4+2,none⟩=some (.int .i64 xc)∧w'.cell? ⟨g,k*4+3,none⟩=some (.int .i64 xd))∧(w'.cell? ⟨g,m*4,none⟩=some (.int .i64 ya)∧w'.cell? ⟨g,m*4+1,none⟩=some (.int .i64 yb)∧w'.cell? ⟨g,m*4+2,none⟩=some (.int .i64 yc)∧w'.cell? ⟨g,m*4+3,none⟩=some (.int .i64 yd))):=hide fun w' hb=>by
    have l:=L.up hb
    have x:=CX.out.below hb
    have y:=CY.out.below hb
    exact⟨⟨l.cell 0 rfl,l.cell 1 rfl⟩,x,y⟩
   have bA:Below wr.heap.size wr wr.drew:=Below.drew (Below.refl _ _)
   have Dg:=K.out _ bA
   replace hk:=hide hk
   clear CX CY
   go_wp2_with fail
   refine wp_region_noPanic ?_
   refine wp_region_held_drew (S:=(fun w'=>(w'.cell? ⟨w.heap.size,0,none⟩=some (.slice (some ⟨g,0,none⟩) n ca)∧w'.cell? ⟨w.heap.size,1,none⟩=some (.func (.func 154) #[] #[]))∧(w'.cell? ⟨g,k*4,none⟩=some (.int .i64 xa)∧w'.cell? ⟨g,k*4+1,none⟩=some (.int .i64 xb)∧w'.cell? ⟨g,k*4+2,none⟩=some (.int .i64 xc)∧w'.cell? ⟨g,k*4+3,none⟩=some (.int .i64 xd))∧(w'.cell? ⟨g,m*4,none⟩=some (.int .i64 ya)∧w'.cell? ⟨g,m*4+1,none⟩=some (.int .i64 yb)∧w'.cell? ⟨g,m*4+2,none⟩=some (.int .i64 yc)∧w'.cell? ⟨g,m*4+3,none⟩=some (.int .i64 yd)))) (by kernel_rfl) Dg (fun hHeld=>?_)
   refine tx 0 11 ?_
   refine tx 1 12 ?_
   refine tx 2 13 ?_
   refine tx 3 14 ?_
   refine tx 4 15 ?_
   refine tx 5 16 ?_
   refine tx 6 17 ?_
   refine tx 7 18 ?_
   refine tx 8 19 ?_
   refine tx 9 20 ?_
   refine tx 10 21 ?_
   refine tx 11 22 ?_
   refine tx 12 23 ?_
   refine rd 13 rfl (fun KK AA=>?_)
   go_simp
   refine(CT.out _).mono ?_
   rintro _ wa ⟨rfl,ba⟩
   have bB:Below wr.heap.size wr wa:=bA.trans ba
   clear hHeld
   refine AA.out _ _ (K.out _ bB) (fun hHeld=>?_)
   clear AA KK
   refine tx 14 25 ?_
   clear hHeld
   refine Bt ?_
   have LB:=L.up bB
   have BB:=bu br bB
   by_cases hq:q<0
   ·have HS:=hide (HS.out (hcm.out.1 hq))
    have hq0:¬0≤q:=by omega
    clear hcm HN
    go_wp2
    go_roundw
    case rel=>exact⟨m+1,by omega,by omega,by go_num,HS,LB,BB⟩
    case measure=>simp[intOf];omega
   have hno:decide (Asc ts)=false:=decide_eq_false (HN.out (fun h=>hq (hcm.out.2 h)))
   have hq0:0≤q:=by omega
   clear hcm HS HN
   go_wp2
   go_ret
   exact⟨by first|rfl|(rw[hno];rfl),BB⟩
  have r_:decide (Asc ts)=true:=decide_eq_true fun j hj=>HA.out j (by have:=Hn.out;omega) (by have:=Hn.out;omega)
  clear HA
  go_wp2
  go_ret
  exact⟨by first|rfl|(rw[r_];rfl),br⟩
end
section
open Go.RowKit
variable [∀(n:Int)(s:List Int),Decidable (Dt n s)]
variable [∀(a b c d:Int),Decidable (BD a b c d)]
variable [∀(x y:T4),Decidable (Gm x y)]
variable [∀(ts:List T4),Decidable (Asc ts)]
variable [∀(ts:List T4),Decidable (DU ts)]
variable [∀(ts:List T4),Decidable (JP ts)]
theorem X9(v:Value)(ts:List T4)(w:World)(h:RT w v ts):
 Calls Tryz.prog 105 #[v] w fun e w'=>e= .returned (.bool (decide (JP ts)))∧Below w.heap.size w w':=by
 have CF:=hide fun w h=>Sj v ts w h
 have AS:=hide fun w h=>WB v ts w h
 have H:=hide h
 have hl:=h.1
 obtain⟨ao,ca,rfl⟩:=h.form
 clear h
 by_cases h1:ts.length≤12
 ·by_cases h2:DU ts
  ·rw[decide_eq_true h2]at CF
   have e:decide (JP ts)=decide (Asc ts):=by
    by_cases h3:Asc ts
    ·rw[decide_eq_true h3,decide_eq_true (show JP ts from⟨h1,h2,h3⟩)]
    rw[decide_eq_false h3,decide_eq_false (fun h:JP ts=>h3 h.2.2)]
   rw[e]
   clear e h2
   go_enter Tryz.func105,Tryz.ntmps105
   go_wp2_with fail
   refine(CF.out _ H.out).mono ?_
   rintro _ w1 ⟨rfl,b1⟩
   go_wp2_with fail
   refine(Tv _ _ _ _).mono ?_
   rintro _ w2 ⟨rfl,b2⟩
   have B2:=bu b1 b2
   go_wp2_with fail
   refine(AS.out _ (H.out.below B2)).mono ?_
   rintro _ w3 ⟨rfl,b3⟩
   have B3:=bu B2 b3
   go_wp2
   go_ret
   exact⟨rfl,B3⟩
  rw[decide_eq_false h2]at CF
  rw[decide_eq_false (fun h:JP ts=>h2 h.2.1)]
  clear h2 AS
  go_enter Tryz.func105,Tryz.ntmps105
  go_wp2_with fail
  refine(CF.out _ H.out).mono ?_
  rintro _ w1 ⟨rfl,b1⟩
  go_wp2
  go_ret
  exact⟨rfl,b1⟩
 rw[decide_eq_false (fun h:JP ts=>h1 h.1)]
 have h1:decide ((ts.length:Int)≤12)=false:=by simp;omega
 clear CF AS
 go_enter Tryz.func105,Tryz.ntmps105
 go_wp2
 go_ret
 exact⟨rfl,Below.refl _ _⟩

def fH(ts:List T4)(m:Nat):Prop:=∀j,j<m→BD (ts.getD j z4).1 (ts.getD j z4).2.1 (ts.getD j z4).2.2.1 (ts.getD j z4).2.2.2∧(∀i,j=i+1→Gm (ts.getD i z4) (ts.getD j z4))
theorem fH.succ{ts:List T4}{m:Nat}(h:fH ts m)(h1:BD (ts.getD m z4).1 (ts.getD m z4).2.1 (ts.getD m z4).2.2.1 (ts.getD m z4).2.2.2)(h2:∀i,m=i+1→Gm (ts.getD i z4) (ts.getD m z4)):fH ts (m+1):=fun j hj=>by
 by_cases e:j=m
 ·subst e;exact⟨h1,h2⟩
 exact h j (by omega)
theorem fH.all{ts:List T4}(h:fH ts ts.length):DU ts∧Asc ts:=⟨fun k hk=>(h k hk).1,fun k hk=>(h (k+1) (by omega)).2 k rfl⟩

theorem XW(v:Value)(ts:List T4)(w:World)(h:RT w v ts):
 Calls Tryz.prog 67 #[v] w fun e w'=>e= .returned (.bool (decide (JP ts)))∧Below w.heap.size w w':=by
 obtain⟨ao,ca,rfl⟩:=h.form
 have hl:=h.1
 have H:=hide h
 obtain⟨n,hn⟩:∃n,ts.length=n:=⟨_,rfl⟩
 have Hn:=hide hn
 rw[hn]at hl H⊢
 clear h hn
 go_enter Tryz.func67,Tryz.ntmps67
 go_wp2
 go_loopw [3] (fun i wr=>∃m:Nat,m≤n∧i= .int .i64 m∧Hid (fH ts m)∧Below w.heap.size w wr) (fun i _=>n-(intOf i).toNat)
 case atStart=>exact⟨0,Nat.zero_le _,rfl,hide (fun j hj=>absurd hj (Nat.not_lt_zero j)),Below.refl _ _⟩
 case round=>
  obtain⟨m,hm,rfl,HA,br⟩:=hrel
  by_cases hlt:m<n
  ·obtain⟨g,rfl,hy⟩:=H.out.at m (by rw[Hn.out];exact hlt)
   have CY:=hide (hy.below br)
   have TO:=hide fun w=>Gt (ts.getD m z4).1 (ts.getD m z4).2.1 (ts.getD m z4).2.2.1 (ts.getD m z4).2.2.2 w
   have bA:Below wr.heap.size wr wr.drew:=Below.drew (Below.refl _ _)
   by_cases ho:BD (ts.getD m z4).1 (ts.getD m z4).2.1 (ts.getD m z4).2.2.1 (ts.getD m z4).2.2.2
   ·rw[decide_eq_true ho]at TO
    by_cases h0:m=0
    ·have HS:=hide (HA.out.succ ho (fun i hi=>by omega))
     subst h0
     clear ho HA hy
     generalize ts.getD 0 z4=y at *
     obtain⟨ya,yb,yc,yd⟩:=y
     dsimp only at TO
     have K:Hid (∀w',Below wr.heap.size wr w'→(w'.cell? ⟨g,0*4,none⟩=some (.int .i64 ya)∧w'.cell? ⟨g,0*4+1,none⟩=some (.int .i64 yb)∧w'.cell? ⟨g,0*4+2,none⟩=some (.int .i64 yc)∧w'.cell? ⟨g,0*4+3,none⟩=some (.int .i64 yd))):=hide fun w' hb=>CY.out.below hb
     clear CY
     go_wp2_with fail
     refine kJ K bA (fun hHeld=>?_)
     refine tx 0 10 ?_
     refine tx 1 11 ?_
     refine tx 2 12 ?_
     refine tx 3 13 ?_
     refine rd 4 rfl (fun KK AA=>?_)
     go_simp
     refine(TO.out _).mono ?_
     rintro _ wa ⟨rfl,ba⟩
     have bB:Below wr.heap.size wr wa:=bA.trans ba
     clear hHeld
     refine AA.out _ _ (K.out _ bB) (fun hHeld=>?_)
     clear AA KK
     refine tx 5 15 ?_
     refine tx 6 16 ?_
     refine tx 7 17 ?_
     refine tx 8 18 ?_
     refine tx 9 19 ?_
     refine sx 10 20 ?_
     refine sx 11 21 ?_
     refine sx 12 22 ?_
     refine sx 13 23 ?_
     refine sx 14 24 ?_
     refine sx 15 25 ?_
     refine sx 16 26 ?_
     refine sx 17 27 ?_
     refine sx 18 28 ?_
     refine sx 19 29 ?_
     refine sx 20 30 ?_
     refine tx 21 31 ?_
     refine tx 22 32 ?_
     clear hHeld
     refine Bt ?_
     have BB:=bu br bB
     go_wp2
     go_roundw
     case rel=>exact⟨1,by omega,by go_num,HS,BB⟩
     case measure=>simp[intOf];omega
    obtain⟨k,hk⟩:∃k,m=k+1:=⟨m-1,by omega⟩
    have hk1:(m:Int)-1=(k:Int):=by omega
    have hwk:IntKind.i64.wrap (k:Int)=(k:Int):=by rw[IntKind.wrap_i64];omega
    have hkn:k<n:=by omega
    have hm0:0<m:=by omega
    have hmd:decide ((0:Int)<(m:Int))=true:=by simp;omega
    obtain⟨g',e,hx⟩:=H.out.at k (by rw[Hn.out];exact hkn)
    cases e
    have CX:=hide (hx.below br)
    have BF:=hide fun w=>Yv (ts.getD k z4) (ts.getD m z4) w
    have HS:=hide fun(hb:Gm (ts.getD k z4) (ts.getD m z4))=>HA.out.succ ho (fun i hi=>by rw[show i=k from by omega];exact hb)
    have HN:Hid (¬Gm (ts.getD k z4) (ts.getD m z4)→¬JP ts):=hide fun h ha=>h (by have:=ha.2.2 k (by rw[Hn.out];omega);rwa [←hk]at this)
    replace hk:=hide hk
    clear ho HA hy hx h0
    by_cases hb:Gm (ts.getD k z4) (ts.getD m z4)
    ·rw[decide_eq_true hb]at BF
     replace HS:=hide (HS.out hb)
     clear HN hb
     generalize ts.getD m z4=y at *
     generalize ts.getD k z4=x at *
     obtain⟨ya,yb,yc,yd⟩:=y
     obtain⟨xa,xb,xc,xd⟩:=x
     dsimp only at TO BF
     have K:Hid (∀w',Below wr.heap.size wr w'→(w'.cell? ⟨g,k*4,none⟩=some (.int .i64 xa)∧w'.cell? ⟨g,k*4+1,none⟩=some (.int .i64 xb)∧w'.cell? ⟨g,k*4+2,none⟩=some (.int .i64 xc)∧w'.cell? ⟨g,k*4+3,none⟩=some (.int .i64 xd))∧(w'.cell? ⟨g,m*4,none⟩=some (.int .i64 ya)∧w'.cell? ⟨g,m*4+1,none⟩=some (.int .i64 yb)∧w'.cell? ⟨g,m*4+2,none⟩=some (.int .i64 yc)∧w'.cell? ⟨g,m*4+3,none⟩=some (.int .i64 yd))):=hide fun w' hb=>⟨CX.out.below hb,CY.out.below hb⟩
     clear CX CY
     go_wp2_with fail
     refine kJ K bA (fun hHeld=>?_)
     refine tx 0 10 ?_
     refine tx 1 11 ?_
     refine tx 2 12 ?_
     refine tx 3 13 ?_
     refine rd 4 rfl (fun KK AA=>?_)
     go_simp
     refine(TO.out _).mono ?_
     rintro _ wa ⟨rfl,ba⟩
     have bB:Below wr.heap.size wr wa:=bA.trans ba
     clear hHeld
     refine AA.out _ _ (K.out _ bB) (fun hHeld=>?_)
     clear AA KK
     refine tx 5 15 ?_
     refine tx 6 16 ?_
     refine tx 7 17 ?_
     refine tx 8 18 ?_
     refine tx 9 19 ?_
     refine tx 10 20 ?_
     refine tx 11 21 ?_
     refine tx 12 22 ?_
     refine tx 13 23 ?_
     refine tx 14 24 ?_
     refine tx 15 25 ?_
     refine tx 16 26 ?_
     refine tx 17 27 ?_
     refine tx 18 28 ?_
     refine rd 19 rfl (fun KK AA=>?_)
     go_simp
     refine(BF.out _).mono ?_
     rintro _ wb ⟨rfl,bb⟩
     have bC:Below wr.heap.size wr wb:=bu bB bb
     clear hHeld
     refine AA.out _ _ (K.out _ bC) (fun hHeld=>?_)
     clear AA KK
     refine tx 20 30 ?_
     refine tx 21 31 ?_
     refine tx 22 32 ?_
     clear hHeld
     refine Bt ?_
     have BB:=bu br bC
     go_wp2
     go_roundw
     case rel=>exact⟨m+1,by omega,by go_num,HS,BB⟩
     case measure=>simp[intOf];omega
    rw[decide_eq_false hb]at BF
    have hno:=decide_eq_false (HN.out hb)
    clear HN hb HS
    generalize ts.getD m z4=y at *
    generalize ts.getD k z4=x at *
    obtain⟨ya,yb,yc,yd⟩:=y
    obtain⟨xa,xb,xc,xd⟩:=x
    dsimp only at TO BF
    have K:Hid (∀w',Below wr.heap.size wr w'→(w'.cell? ⟨g,k*4,none⟩=some (.int .i64 xa)∧w'.cell? ⟨g,k*4+1,none⟩=some (.int .i64 xb)∧w'.cell? ⟨g,k*4+2,none⟩=some (.int .i64 xc)∧w'.cell? ⟨g,k*4+3,none⟩=some (.int .i64 xd))∧(w'.cell? ⟨g,m*4,none⟩=some (.int .i64 ya)∧w'.cell? ⟨g,m*4+1,none⟩=some (.int .i64 yb)∧w'.cell? ⟨g,m*4+2,none⟩=some (.int .i64 yc)∧w'.cell? ⟨g,m*4+3,none⟩=some (.int .i64 yd))):=hide fun w' hb=>⟨CX.out.below hb,CY.out.below hb⟩
    clear CX CY
    go_wp2_with fail
    refine kJ K bA (fun hHeld=>?_)
    refine tx 0 10 ?_
    refine tx 1 11 ?_
    refine tx 2 12 ?_
    refine tx 3 13 ?_
    refine rd 4 rfl (fun KK AA=>?_)
    go_simp
    refine(TO.out _).mono ?_
    rintro _ wa ⟨rfl,ba⟩
    have bB:Below wr.heap.size wr wa:=bA.trans ba
    clear hHeld
    refine AA.out _ _ (K.out _ bB) (fun hHeld=>?_)
    clear AA KK
    refine tx 5 15 ?_
    refine tx 6 16 ?_
    refine tx 7 17 ?_
    refine tx 8 18 ?_
    refine tx 9 19 ?_
    refine tx 10 20 ?_
    refine tx 11 21 ?_
    refine tx 12 22 ?_
    refine tx 13 23 ?_
    refine tx 14 24 ?_
    refine tx 15 25 ?_
    refine tx 16 26 ?_
    refine tx 17 27 ?_
    refine tx 18 28 ?_
    refine rd 19 rfl (fun KK AA=>?_)
    go_simp
    refine(BF.out _).mono ?_
    rintro _ wb ⟨rfl,bb⟩
    have bC:Below wr.heap.size wr wb:=bu bB bb
    clear hHeld
    refine AA.out _ _ (K.out _ bC) (fun hHeld=>?_)
    clear AA KK
    refine tx 20 30 ?_
    refine tx 21 31 ?_
    refine tx 22 32 ?_
    clear hHeld
    refine Bt ?_
    have BB:=bu br bC
    go_wp2
    go_ret
    exact⟨by first|rfl|(rw[hno];rfl),BB⟩
   rw[decide_eq_false ho]at TO
   have hno:=decide_eq_false (fun h:JP ts=>ho (h.2.1 m (by rw[Hn.out];exact hlt)))
   clear ho HA hy
   generalize ts.getD m z4=y at *
   obtain⟨ya,yb,yc,yd⟩:=y
   dsimp only at TO
   have K:Hid (∀w',Below wr.heap.size wr w'→(w'.cell? ⟨g,m*4,none⟩=some (.int .i64 ya)∧w'.cell? ⟨g,m*4+1,none⟩=some (.int .i64 yb)∧w'.cell? ⟨g,m*4+2,none⟩=some (.int .i64 yc)∧w'.cell? ⟨g,m*4+3,none⟩=some (.int .i64 yd))):=hide fun w' hb=>CY.out.below hb
   clear CY
   go_wp2_with fail
   refine kJ K bA (fun hHeld=>?_)
   refine tx 0 10 ?_
   refine tx 1 11 ?_
   refine tx 2 12 ?_
   refine tx 3 13 ?_
   refine rd 4 rfl (fun KK AA=>?_)
   go_simp
   refine(TO.out _).mono ?_
   rintro _ wa ⟨rfl,ba⟩
   have bB:Below wr.heap.size wr wa:=bA.trans ba
   clear hHeld
   refine AA.out _ _ (K.out _ bB) (fun hHeld=>?_)
   clear AA KK
   refine tx 5 15 ?_
   refine tx 6 16 ?_
   refine sx 7 17 ?_
   refine sx 8 18 ?_
   refine sx 9 19 ?_
   refine sx 10 20 ?_
   refine sx 11 21 ?_
   refine sx 12 22 ?_
   refine sx 13 23 ?_
   refine sx 14 24 ?_
   refine sx 15 25 ?_
   refine sx 16 26 ?_
   refine sx 17 27 ?_
   refine sx 18 28 ?_
   refine sx 19 29 ?_
   refine sx 20 30 ?_
   refine sx 21 31 ?_
   refine tx 22 32 ?_
   clear hHeld
   refine Bt ?_
   have BB:=bu br bB
   go_wp2
   go_ret
   exact⟨by first|rfl|(rw[hno];rfl),BB⟩
  have hmn:m=n:=by omega
  have e:decide (JP ts)=decide ((n:Int)≤12):=by
   have hA:=HA.out
   rw[hmn,←Hn.out]at hA
   have:=hA.all
   by_cases h12:n≤12
   ·rw[decide_eq_true (show JP ts from⟨by rw[Hn.out];exact h12,this.1,this.2⟩)];simp;omega
   rw[decide_eq_false (fun h:JP ts=>h12 (by rw[←Hn.out];exact h.1))];simp;omega
  clear HA
  subst hmn
  replace e:=hide e
  go_wp2
  go_ret
  exact⟨by rw[e.out];rfl,br⟩
end
section
open Go.RowKit
variable [∀(a b c d:Int),Decidable (BD a b c d)]
variable [∀(n f:Int),Decidable (A8 n f)]
variable [∀(n:Int)(s:List Int),Decidable (Dt n s)]
variable [∀(a b c d:Nat),Decidable (Dj a b c d)]
variable [∀(last:Int)(s:St),Decidable (Au last s)]
variable [∀(x:T4),Decidable (Dr x)]
def DV(n f m:Int)(s:ByteArray)(xs:List Int):Bool:=decide (A8 n f)&&decide (1≤m∧m≤60)&&decide (Dt n xs)&&decide (xs≠[])&&(decide (s=⟨#[]⟩)||((AQ s).isSome&&decide (Aq s=m)))
theorem GI(x lo hi:Int)(w:World):Calls Tryz.prog 65 #[.int .i64 x,.int .i64 lo,.int .i64 hi] w fun e w'=>e= .returned (.bool (decide (lo≤x∧x≤hi)))∧w'=w:=by
 by_cases h:lo≤x∧x≤hi
 ·rw[decide_eq_true h];exact Hr x lo hi w h.1 h.2
 rw[decide_eq_false h];exact Lx x lo hi w (by omega)

theorem Et(n f m:Int)(s:ByteArray)(u:Value)(xs:List Int)(w:World)(hs:s.size≤1048576)(hu:RI w u xs):
 Calls Tryz.prog 96 #[cv n f,qv m s u] w fun e w'=>e= .returned (.bool (DV n f m s xs))∧Below w.heap.size w w':=by
 obtain⟨ua,uc,rfl⟩:=hu.form
 obtain⟨w0,hw0,AO,LC,LP,_⟩:=GM w #[.int .i64 n,.int .i64 f] 57 #[.int .i64 m,.string s,.slice ua xs.length uc] 62
 have RU:=hu.below AO
 have CO:=hide fun w=>Ba n f w
 have IN:=hide fun w=>GI m 1 60 w
 have SO:=hide fun w h=>D5 n (.slice ua xs.length uc) xs w h
 have NO:=hide fun w=>CV s w (by omega)
 have VO:=hide fun w=>Db s w (by omega)
 have hp:DV n f m s xs=(decide (A8 n f)&&decide (1≤m∧m≤60)&&decide (Dt n xs)&&decide (xs≠[])&&(decide (s=⟨#[]⟩)||((AQ s).isSome&&decide (Aq s=m)))):=rfl
 have hxe:decide (xs≠[])=!((xs.length:Int)==0):=by cases xs with|nil=>rfl|cons a l=>simp;omega
 rw[hp,hxe]
 obtain⟨k,hk⟩:∃k,xs.length=k:=⟨_,rfl⟩
 rw[hk]at SO LP hw0 RU⊢
 clear hp hxe hu hk
 generalize decide (A8 n f)=c at *
 generalize decide (1≤m∧m≤60)=r at *
 generalize decide (Dt n xs)=o at *
 generalize (AQ s).isSome=nk at *
 generalize Aq s=vw at *
 cases c
 ·simp only[Bool.false_and]
  go_enter Tryz.func96,Tryz.ntmps96
  obtain⟨Ae,Aj⟩:=Cr LC 0 1
  go_wp2_with fail
  clear hw0
  refine(CO.out _).mono ?_
  rintro _ w1 ⟨rfl,bb⟩
  clear Ae Aj
  have AP:=bu AO bb
  have Ct:=bb.size
  replace LC:=LC.up bb
  replace LP:=LP.up bb
  clear AO
  replace RU:=RU.below bb
  clear bb CO
  obtain⟨Ae,Aj⟩:=Cr LC 0 1
  obtain⟨BL,BK,BJ⟩:=Bv LP 0 1 2
  go_wp2
  go_ret
  exact⟨rfl,AP⟩
 simp only[Bool.true_and]
 cases r
 ·simp only[Bool.false_and]
  go_enter Tryz.func96,Tryz.ntmps96
  obtain⟨Ae,Aj⟩:=Cr LC 0 1
  go_wp2_with fail
  clear hw0
  refine(CO.out _).mono ?_
  rintro _ w1 ⟨rfl,bb⟩
  clear Ae Aj
  have AP:=bu AO bb
  have Ct:=bb.size
  replace LC:=LC.up bb
  replace LP:=LP.up bb
  clear AO
  replace RU:=RU.below bb
  clear bb CO
  obtain⟨BL,BK,BJ⟩:=Bv LP 0 1 2
  go_wp2_with fail
  refine(IN.out _).mono ?_
  rintro _ w9 ⟨rfl,e9⟩
  rw[e9]
  clear e9 IN BL BK BJ
  obtain⟨Ae,Aj⟩:=Cr LC 0 1
  obtain⟨BL,BK,BJ⟩:=Bv LP 0 1 2
  go_wp2
  go_ret
  exact⟨rfl,AP⟩
 simp only[Bool.true_and]
 cases o
 ·simp only[Bool.false_and]
  go_enter Tryz.func96,Tryz.ntmps96
  obtain⟨Ae,Aj⟩:=Cr LC 0 1
  go_wp2_with fail
  clear hw0
  refine(CO.out _).mono ?_
  rintro _ w1 ⟨rfl,bb⟩
  clear Ae Aj
  have AP:=bu AO bb
  have Ct:=bb.size
  replace LC:=LC.up bb
  replace LP:=LP.up bb
  clear AO
  replace RU:=RU.below bb
  clear bb CO
  obtain⟨BL,BK,BJ⟩:=Bv LP 0 1 2
  go_wp2_with fail
  refine(IN.out _).mono ?_
  rintro _ w9 ⟨rfl,e9⟩
  rw[e9]
  clear e9 IN BL BK BJ
  obtain⟨Ae,Aj⟩:=Cr LC 0 1
  obtain⟨BL,BK,BJ⟩:=Bv LP 0 1 2
  go_wp2_with fail
  refine(SO.out _ RU).mono ?_
  rintro _ w2 ⟨rfl,bb⟩
  clear Ae Aj BL BK BJ
  have Am:=bu AP bb
  have El:=bb.size
  replace LC:=LC.up bb
  replace LP:=LP.up bb
  clear AP bb SO RU
  obtain⟨Ae,Aj⟩:=Cr LC 0 1
  obtain⟨BL,BK,BJ⟩:=Bv LP 0 1 2
  go_wp2
  go_ret
  exact⟨rfl,Am⟩
 simp only[Bool.true_and]
 by_cases hk:k=0
 ·subst hk
  have hd0:((((0:Nat):Int)==0))=true:=rfl
  rw[hd0]
  simp only[Bool.not_true,Bool.false_and]
  go_enter Tryz.func96,Tryz.ntmps96
  obtain⟨Ae,Aj⟩:=Cr LC 0 1
  go_wp2_with fail
  clear hw0
  refine(CO.out _).mono ?_
  rintro _ w1 ⟨rfl,bb⟩
  clear Ae Aj
  have AP:=bu AO bb
  have Ct:=bb.size
  replace LC:=LC.up bb
  replace LP:=LP.up bb
  clear AO
  replace RU:=RU.below bb
  clear bb CO
  obtain⟨BL,BK,BJ⟩:=Bv LP 0 1 2
  go_wp2_with fail
  refine(IN.out _).mono ?_
  rintro _ w9 ⟨rfl,e9⟩
  rw[e9]
  clear e9 IN BL BK BJ
  obtain⟨Ae,Aj⟩:=Cr LC 0 1
  obtain⟨BL,BK,BJ⟩:=Bv LP 0 1 2
  go_wp2_with fail
  refine(SO.out _ RU).mono ?_
  rintro _ w2 ⟨rfl,bb⟩
  clear Ae Aj BL BK BJ
  have Am:=bu AP bb
  have El:=bb.size
  replace LC:=LC.up bb
  replace LP:=LP.up bb
  clear AP bb SO RU
  obtain⟨Ae,Aj⟩:=Cr LC 0 1
  obtain⟨BL,BK,BJ⟩:=Bv LP 0 1 2
  go_wp2
  go_ret
  exact⟨rfl,Am⟩
 have hd0:((k:Int)==0)=false:=by simp;omega
 rw[hd0]
 simp only[Bool.not_false,Bool.true_and]
 by_cases he:s=⟨#[]⟩
 ·have hd:decide (s=⟨#[]⟩)=true:=by simpa using he
  have hy:(s.toList==[])=true:=by rw[he,ByteArray.toList_eq];rfl
  rw[hd,Bool.true_or]
  clear he hd
  go_enter Tryz.func96,Tryz.ntmps96
  obtain⟨Ae,Aj⟩:=Cr LC 0 1
  go_wp2_with fail
  clear hw0
  refine(CO.out _).mono ?_
  rintro _ w1 ⟨rfl,bb⟩
  clear Ae Aj
  have AP:=bu AO bb
  have Ct:=bb.size
  replace LC:=LC.up bb
  replace LP:=LP.up bb
  clear AO
  replace RU:=RU.below bb
  clear bb CO
  obtain⟨BL,BK,BJ⟩:=Bv LP 0 1 2
  go_wp2_with fail
  refine(IN.out _).mono ?_
  rintro _ w9 ⟨rfl,e9⟩
  rw[e9]
  clear e9 IN BL BK BJ
  obtain⟨Ae,Aj⟩:=Cr LC 0 1
  obtain⟨BL,BK,BJ⟩:=Bv LP 0 1 2
  go_wp2_with fail
  refine(SO.out _ RU).mono ?_
  rintro _ w2 ⟨rfl,bb⟩
  clear Ae Aj BL BK BJ
  have Am:=bu AP bb
  have El:=bb.size
  replace LC:=LC.up bb
  replace LP:=LP.up bb
  clear AP bb SO RU
  obtain⟨BL,BK,BJ⟩:=Bv LP 0 1 2
  have K:=kw (VN LP 0 1 2)
  go_upto_region 3 with fail
  refine Ey K (fun bA hHeld=>?_)
  refine tx 0 28 ?_
  refine tx 1 29 ?_
  refine tx 2 30 ?_
  refine tx 3 31 ?_
  refine sx 4 32 ?_
  refine sx 5 33 ?_
  refine sx 6 34 ?_
  refine sx 7 35 ?_
  refine sx 8 36 ?_
  refine sx 11 39 ?_
  refine sx 9 37 ?_
  refine sx 12 40 ?_
  refine sx 10 38 ?_
  refine sx 13 41 ?_
  refine sx 14 42 ?_
  refine tx 15 43 ?_
  refine tx 16 4 ?_
  clear hHeld
  refine Bt ?_
  obtain⟨wd3,hwd⟩:∃y,w2.drew=y:=⟨_,rfl⟩
  rw[hwd]at bA⊢
  clear hwd
  have bb:=bA
  have Yz:=bu Am bb
  have vV:=bb.size
  replace LC:=LC.up bb
  replace LP:=LP.up bb
  clear Am bb bA K BL BK BJ
  go_wp2
  go_ret
  exact⟨rfl,Yz⟩
 have hd:decide (s=⟨#[]⟩)=false:=by simpa using he
 have hne:=uH he
 rw[hd,Bool.false_or]
 clear he hd
 cases nk
 ·simp only[Bool.false_and]
  go_enter Tryz.func96,Tryz.ntmps96
  obtain⟨Ae,Aj⟩:=Cr LC 0 1
  go_wp2_with fail
  clear hw0
  refine(CO.out _).mono ?_
  rintro _ w1 ⟨rfl,bb⟩
  clear Ae Aj
  have AP:=bu AO bb
  have Ct:=bb.size
  replace LC:=LC.up bb
  replace LP:=LP.up bb
  clear AO
  replace RU:=RU.below bb
  clear bb CO
  obtain⟨BL,BK,BJ⟩:=Bv LP 0 1 2
  go_wp2_with fail
  refine(IN.out _).mono ?_
  rintro _ w9 ⟨rfl,e9⟩
  rw[e9]
  clear e9 IN BL BK BJ
  obtain⟨Ae,Aj⟩:=Cr LC 0 1
  obtain⟨BL,BK,BJ⟩:=Bv LP 0 1 2
  go_wp2_with fail
  refine(SO.out _ RU).mono ?_
  rintro _ w2 ⟨rfl,bb⟩
  clear Ae Aj BL BK BJ
  have Am:=bu AP bb
  have El:=bb.size
  replace LC:=LC.up bb
  replace LP:=LP.up bb
  clear AP bb SO RU
  obtain⟨BL,BK,BJ⟩:=Bv LP 0 1 2
  have K:=kw (VN LP 0 1 2)
  go_upto_region 3 with fail
  refine Ey K (fun bA hHeld=>?_)
  refine tx 0 28 ?_
  refine tx 1 29 ?_
  refine tx 2 30 ?_
  refine tx 3 31 ?_
  refine tx 4 32 ?_
  refine tx 5 33 ?_
  refine rd 6 rfl (fun KK AA=>?_)
  go_simp
  have hgo:=bA
  refine(NO.out _).mono ?_
  rintro e Tm ⟨rfl,bb⟩
  have Ao:Below w2.heap.size w2 Tm:=bu bA bb
  clear bA hgo bb hHeld
  refine AA.out _ _ (K.out _ Ao) (fun hHeld=>?_)
  clear AA KK
  refine tx 7 35 ?_
  refine sx 8 36 ?_
  refine sx 11 39 ?_
  refine sx 9 37 ?_
  refine sx 12 40 ?_
  refine sx 10 38 ?_
  refine sx 13 41 ?_
  refine tx 14 42 ?_
  refine tx 15 43 ?_
  refine tx 16 4 ?_
  clear hHeld
  refine Bt ?_
  have bb:=Ao
  have tV:=bu Am bb
  have AAD:=bb.size
  replace LC:=LC.up bb
  replace LP:=LP.up bb
  clear Am bb Ao K BL BK BJ
  go_wp2
  go_ret
  exact⟨rfl,tV⟩
 simp only[Bool.true_and]
 by_cases hv:vw=m
 ·have hd:decide (vw=m)=true:=by simpa using hv
  rw[hd]
  clear hd
  have hv2:=hv.symm
  subst hv2
  go_enter Tryz.func96,Tryz.ntmps96
  obtain⟨Ae,Aj⟩:=Cr LC 0 1
  go_wp2_with fail
  clear hw0
  refine(CO.out _).mono ?_
  rintro _ w1 ⟨rfl,bb⟩
  clear Ae Aj
  have AP:=bu AO bb
  have Ct:=bb.size
  replace LC:=LC.up bb
  replace LP:=LP.up bb
  clear AO
  replace RU:=RU.below bb
  clear bb CO
  obtain⟨BL,BK,BJ⟩:=Bv LP 0 1 2
  go_wp2_with fail
  refine(IN.out _).mono ?_
  rintro _ w9 ⟨rfl,e9⟩
  rw[e9]
  clear e9 IN BL BK BJ
  obtain⟨Ae,Aj⟩:=Cr LC 0 1
  obtain⟨BL,BK,BJ⟩:=Bv LP 0 1 2
  go_wp2_with fail
  refine(SO.out _ RU).mono ?_
  rintro _ w2 ⟨rfl,bb⟩
  clear Ae Aj BL BK BJ
  have Am:=bu AP bb
  have El:=bb.size
  replace LC:=LC.up bb
  replace LP:=LP.up bb
  clear AP bb SO RU
  obtain⟨BL,BK,BJ⟩:=Bv LP 0 1 2
  have K:=kw (VN LP 0 1 2)
  go_upto_region 3 with fail
  refine Ey K (fun bA hHeld=>?_)
  refine tx 0 28 ?_
  refine tx 1 29 ?_
  refine tx 2 30 ?_
  refine tx 3 31 ?_
  refine tx 4 32 ?_
  refine tx 5 33 ?_
  refine rd 6 rfl (fun KK AA=>?_)
  go_simp
  have hgo:=bA
  refine(NO.out _).mono ?_
  rintro e Tm ⟨rfl,bb⟩
  have Ao:Below w2.heap.size w2 Tm:=bu bA bb
  clear bA hgo bb hHeld
  refine AA.out _ _ (K.out _ Ao) (fun hHeld=>?_)
  clear AA KK
  refine tx 7 35 ?_
  refine tx 8 36 ?_
  refine tx 11 39 ?_
  refine tx 9 37 ?_
  refine tx 12 40 ?_
  refine rd 10 rfl (fun KK AA=>?_)
  go_simp
  have hgo:=Ao
  refine(VO.out _).mono ?_
  rintro e fw ⟨rfl,bb⟩
  have BN:Below w2.heap.size w2 fw:=bu Ao bb
  clear Ao hgo bb hHeld
  refine AA.out _ _ (K.out _ BN) (fun hHeld=>?_)
  clear AA KK
  refine tx 13 41 ?_
  refine tx 14 42 ?_
  refine tx 15 43 ?_
  refine tx 16 4 ?_
  clear hHeld
  refine Bt ?_
  have bb:=BN
  have Yx:=bu Am bb
  have qp:=bb.size
  replace LC:=LC.up bb
  replace LP:=LP.up bb
  clear Am bb BN K BL BK BJ
  go_wp2
  go_ret
  exact⟨rfl,Yx⟩
 have hd:decide (vw=m)=false:=by simpa using hv
 rw[hd]
 go_enter Tryz.func96,Tryz.ntmps96
 obtain⟨Ae,Aj⟩:=Cr LC 0 1
 go_wp2_with fail
 clear hw0
 refine(CO.out _).mono ?_
 rintro _ w1 ⟨rfl,bb⟩
 clear Ae Aj
 have AP:=bu AO bb
 have Ct:=bb.size
 replace LC:=LC.up bb
 replace LP:=LP.up bb
 clear AO
 replace RU:=RU.below bb
 clear bb CO
 obtain⟨BL,BK,BJ⟩:=Bv LP 0 1 2
 go_wp2_with fail
 refine(IN.out _).mono ?_
 rintro _ w9 ⟨rfl,e9⟩
 rw[e9]
 clear e9 IN BL BK BJ
 obtain⟨Ae,Aj⟩:=Cr LC 0 1
 obtain⟨BL,BK,BJ⟩:=Bv LP 0 1 2
 go_wp2_with fail
 refine(SO.out _ RU).mono ?_
 rintro _ w2 ⟨rfl,bb⟩
 clear Ae Aj BL BK BJ
 have Am:=bu AP bb
 have El:=bb.size
 replace LC:=LC.up bb
 replace LP:=LP.up bb
 clear AP bb SO RU
 obtain⟨BL,BK,BJ⟩:=Bv LP 0 1 2
 have K:=kw (VN LP 0 1 2)
 go_upto_region 3 with fail
 refine Ey K (fun bA hHeld=>?_)
 refine tx 0 28 ?_
 refine tx 1 29 ?_
 refine tx 2 30 ?_
 refine tx 3 31 ?_
 refine tx 4 32 ?_
 refine tx 5 33 ?_
 refine rd 6 rfl (fun KK AA=>?_)
 go_simp
 have hgo:=bA
 refine(NO.out _).mono ?_
 rintro e Tm ⟨rfl,bb⟩
 have Ao:Below w2.heap.size w2 Tm:=bu bA bb
 clear bA hgo bb hHeld
 refine AA.out _ _ (K.out _ Ao) (fun hHeld=>?_)
 clear AA KK
 refine tx 7 35 ?_
 refine tx 8 36 ?_
 refine tx 11 39 ?_
 refine tx 9 37 ?_
 refine tx 12 40 ?_
 refine rd 10 rfl (fun KK AA=>?_)
 go_simp
 have hgo:=Ao
 refine(VO.out _).mono ?_
 rintro e fw ⟨rfl,bb⟩
 have BN:Below w2.heap.size w2 fw:=bu Ao bb
 clear Ao hgo bb hHeld
 refine AA.out _ _ (K.out _ BN) (fun hHeld=>?_)
 clear AA KK
 refine tx 13 41 ?_
 refine tx 14 42 ?_
 refine tx 15 43 ?_
 refine tx 16 4 ?_
 clear hHeld
 refine Bt ?_
 have bb:=BN
 have Yx:=bu Am bb
 have qp:=bb.size
 replace LC:=LC.up bb
 replace LP:=LP.up bb
 clear Am bb BN K BL BK BJ
 go_wp2
 go_ret
 exact⟨by simp[hv],Yx⟩
end
section
open Go.RowKit
theorem P9(m n:Int)(s t:ByteArray)(u v:Value)(xs ys:List Int)(w:World):
 Calls Tryz.prog 97 #[qv m s u,qv n t v] w fun e w'=>e= .returned (.bool (F7 (m,s,xs) (n,t,ys)))∧Below w.heap.size w w':=by
 have B:=hide (Bh w (.cells #[.int .i64 m,.string s,u] 62) (.cells #[.int .i64 n,.string t,v] 62))
 unfold F7
 simp only
 by_cases h1:m<n
 ·rw[decide_eq_true h1,Bool.true_or]
  go_enter Tryz.func97,Tryz.ntmps97
  go_wp2
  go_ret
  exact⟨rfl,B.out⟩
 have hd1:=decide_eq_false h1
 rw[hd1,Bool.false_or]
 by_cases h2:m=n
 ·subst h2
  rw[decide_eq_true rfl,Bool.true_and]
  clear hd1
  generalize hb:Op.bytesLess s.toList t.toList=q
  go_enter Tryz.func97,Tryz.ntmps97
  go_wp2
  go_ret
  exact⟨rfl,B.out⟩
 have hd2:=decide_eq_false h2
 rw[hd2,Bool.false_and]
 go_enter Tryz.func97,Tryz.ntmps97
 go_wp2
 go_ret
 exact⟨rfl,B.out⟩
end
end Go.Proofs.YtkmnfeihjjccmaaGreatDoor
