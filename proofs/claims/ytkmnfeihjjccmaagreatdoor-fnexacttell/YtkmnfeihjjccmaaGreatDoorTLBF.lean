/- Lemmas; their conditions stand in each statement. -/
import Derived.Test.YtkmnfeihjjccmaaGreatDoorTLBE
set_option maxRecDepth 100000
set_option maxHeartbeats 16000000
set_option linter.unusedSectionVars false
set_option linter.unusedSimpArgs false
namespace Go.Proofs.YtkmnfeihjjccmaaGreatDoor
section
open Go.RowKit
variable [∀(n:Int)(s:List Int),Decidable (Dt n s)]
theorem Yb(x y:Int)(w:World):Calls Tryz.prog 169 #[.int .i64 x,.int .i64 y] w fun e w'=>e= .returned (.int .i64 (Ex x y))∧Below w.heap.size w w':=
 (eT x y w).mono fun _ _ h=>⟨h.1,h.2▸Below.refl _ _⟩
theorem Ya(s t:ByteArray)(w:World):Calls Tryz.prog 171 #[.string s,.string t] w fun e w'=>e= .returned (.int .i64 (QE s t))∧Below w.heap.size w w':=
 (eQ s t w).mono fun _ _ h=>⟨h.1,h.2▸Below.refl _ _⟩
theorem LV(m n:Int)(s t:ByteArray)(u v:Value)(xs ys:List Int)(w:World):
 Calls Tryz.prog 158 #[qv m s u,qv n t v] w fun e w'=>e= .returned (.int .i64 (Vz (m,s,xs) (n,t,ys)))∧Below w.heap.size w w':=by
 have OR:Hid (∀g w,w.cell? ⟨g,0,none⟩=some (.int .i64 (Ex m n))→w.cell? ⟨g,1,none⟩=some (.int .i64 (QE s t))→Calls Tryz.prog 168 #[.slice (some ⟨g,0,none⟩) 2 2] w fun e w'=>e= .returned (.int .i64 (Vz (m,s,xs) (n,t,ys)))∧Below w.heap.size w w'):=
  hide fun g w h0 h1=>(iR (Ex m n) (QE s t) g w h0 h1).mono fun _ _ h=>⟨h.1,h.2▸Below.refl _ _⟩
 generalize Vz (m,s,xs) (n,t,ys)=q at *
 obtain⟨w0,hw0,AO,LX,LY,_⟩:=GM w #[.int .i64 m,.string s,u] 62 #[.int .i64 n,.string t,v] 62
 go_enter Tryz.func158,Tryz.ntmps158
 have K:=kw (ka (VN LX 0 1 2) (VN LY 0 1 2))
 go_upto_region 1 with fail
 clear hw0
 refine Ey K (fun bA hHeld=>?_)
 refine tx 0 5 ?_
 refine tx 2 7 ?_
 refine tx 5 10 ?_
 refine tx 7 12 ?_
 refine tx 1 6 ?_
 refine tx 3 8 ?_
 refine tx 6 11 ?_
 refine tx 8 13 ?_
 refine rd 4 rfl (fun KK AA=>?_)
 go_simp
 have hgo:=bA
 refine(Yb m n _).mono ?_
 rintro e DY ⟨rfl,bb⟩
 have Ao:Below w0.heap.size w0 DY:=bu bA bb
 clear bA hgo bb hHeld
 refine AA.out _ _ (K.out _ Ao) (fun hHeld=>?_)
 clear AA KK
 refine rd 9 rfl (fun KK AA=>?_)
 go_simp
 have hgo:=Ao
 refine(Ya s t _).mono ?_
 rintro e Dz ⟨rfl,bb⟩
 have BN:Below w0.heap.size w0 Dz:=bu Ao bb
 clear Ao hgo bb hHeld
 refine AA.out _ _ (K.out _ BN) (fun hHeld=>?_)
 clear AA KK
 refine rd 10 rfl (fun KK AA=>?_)
 go_simp
 obtain⟨JI,SK⟩:∃x,(Dz).alloc (.cells #[.int .i64 (Ex m n),.int .i64 (QE s t)] 3)=x:=⟨_,rfl⟩
 have Fe:Below w0.heap.size w0 JI:=SK▸BN.alloc BN.size _
 have LE:Loc JI (Dz).heap.size #[.int .i64 (Ex m n),.int .i64 (QE s t)]:=SK▸AB (Dz) _ _ rfl
 rw[SK]
 clear BN SK hHeld
 refine AA.out _ _ (K.out _ Fe) (fun hHeld=>?_)
 clear AA KK
 refine rd 11 rfl (fun KK AA=>?_)
 go_simp
 have hgo:=Fe
 refine(OR.out _ _ (LE.cell 0 rfl) (LE.cell 1 rfl)).mono ?_
 rintro e uT ⟨rfl,bb⟩
 have Sq:Below w0.heap.size w0 uT:=bu Fe bb
 replace LE:=LE.up bb
 clear Fe hgo bb hHeld
 refine AA.out _ _ (K.out _ Sq) (fun hHeld=>?_)
 clear AA KK
 refine tx 12 4 ?_
 clear hHeld
 refine Bt ?_
 have bb:=Sq
 have tX:=bu AO bb
 have AAE:=bb.size
 replace LX:=LX.up bb
 replace LY:=LY.up bb
 clear AO bb Sq K
 go_wp2
 go_ret
 exact⟨rfl,tX⟩
end
section
open Go.RowKit
variable [∀(n:Int)(s:List Int),Decidable (Dt n s)]
variable [∀(a b c d:Int),Decidable (BD a b c d)]
variable [∀(n f:Int),Decidable (A8 n f)]
variable [∀(a b c d:Nat),Decidable (Dj a b c d)]
variable [∀(last:Int)(s:St),Decidable (Au last s)]
variable [∀(x:T4),Decidable (Dr x)]
theorem Td(v:Value)(ps:List Pt)(w:World)(hl:ps.length≤4194304)(h:NP w v ps):
 Calls Tryz.prog 132 #[.agg #[v,.func (.func 158) #[] #[]]] w fun e w'=>e= .returned (.bool (rowP ps))∧Below w.heap.size w w':=by
 obtain⟨ao,ca,rfl⟩:=h.form
 have H:=hide h
 obtain⟨n,hn⟩:∃n,ps.length=n:=⟨_,rfl⟩
 have Hn:=hide hn
 have HI:=hide (row_iff ps)
 rw[hn]at hl H⊢
 clear h hn
 generalize rowP ps=rb at *
 obtain⟨w0,hw0⟩:∃y,w.alloc (.cells #[.slice ao n ca,.func (.func 158) #[] #[]] 171)=y:=⟨_,rfl⟩
 have B0:Below w.heap.size w w0:=hw0▸Ag _ _
 have L0:Loc w0 w.heap.size #[.slice ao n ca,.func (.func 158) #[] #[]]:=hw0▸AB w _ _ rfl
 go_enter Tryz.func132,Tryz.ntmps132
 go_wp2
 clear hw0
 go_loopw [3] (fun i wr=>∃m:Nat,1≤m∧m≤n+1∧i= .int .i64 m∧Hid (∀j,j+1<m→j+1<n→F7 (ps.getD j BG) (ps.getD (j+1) BG)=true)∧Loc wr w.heap.size #[.slice ao n ca,.func (.func 158) #[] #[]]∧Below w.heap.size w wr) (fun i _=>n+1-(intOf i).toNat)
 case atStart=>exact⟨1,Nat.le_refl _,by omega,by go_num,hide (fun j hj=>absurd hj (by omega)),L0,B0⟩
 case round=>
  clear L0 B0
  obtain⟨m,hm1,hm,rfl,HA,L,br⟩:=hrel
  have q0:=L.cell 0 rfl
  have q1:=L.cell 1 rfl
  by_cases hlt:m<n
  ·obtain⟨k,hk⟩:∃k,m=k+1:=⟨m-1,by omega⟩
   have hk1:(m:Int)-1=(k:Int):=by omega
   have hwk:IntKind.i64.wrap (k:Int)=(k:Int):=by rw[IntKind.wrap_i64];omega
   have hkn:k<n:=by omega
   have HR:=H.out.below br
   obtain⟨g,off,u,rfl,c0,c1,c2,ru⟩:=HR.at k (by rw[Hn.out];omega)
   obtain⟨g',off',u',e,d0,d1,d2,pF⟩:=HR.at m (by rw[Hn.out];omega)
   cases e
   obtain⟨xc,xe,rfl⟩:=ru.form
   obtain⟨yc,ye,rfl⟩:=pF.form
   have CT:=hide fun w=>LV (ps.getD k BG).1 (ps.getD m BG).1 (ps.getD k BG).2.1 (ps.getD m BG).2.1 (.slice xc (ps.getD k BG).2.2.length xe) (.slice yc (ps.getD m BG).2.2.length ye) (ps.getD k BG).2.2 (ps.getD m BG).2.2 w
   have HS:=hide fun(h:F7 (ps.getD k BG) (ps.getD m BG)=true)=>(show∀j,j+1<m+1→j+1<n→F7 (ps.getD j BG) (ps.getD (j+1) BG)=true from fun j hj hj2=>by
    by_cases e:j=k
    ·rw[e,←hk];exact h
    exact HA.out j (by omega) hj2)
   have HN:Hid (¬F7 (ps.getD k BG) (ps.getD m BG)=true→rb=false):=hide fun h=>by
    cases hrb:rb with
    |false=>rfl
    |true=>exact absurd (by have:=HI.out.1 hrb k (by rw[Hn.out];omega);rwa [←hk]at this) h
   have hcm:=hide (ni (ps.getD k BG) (ps.getD m BG))
   have xH:Vz ((ps.getD k BG).1,(ps.getD k BG).2.1,(ps.getD k BG).2.2) ((ps.getD m BG).1,(ps.getD m BG).2.1,(ps.getD m BG).2.2)=Vz (ps.getD k BG) (ps.getD m BG):=rfl
   rw[xH]at CT
   clear HA HR ru pF xH
   generalize Vz (ps.getD k BG) (ps.getD m BG)=q at *
   generalize F7 (ps.getD k BG) (ps.getD m BG)=BF at *
   generalize (ps.getD k BG).1=xa at *
   generalize (ps.getD k BG).2.1=xb at *
   generalize (ps.getD k BG).2.2.length=xd at *
   generalize (ps.getD m BG).1=ya at *
   generalize (ps.getD m BG).2.1=yb at *
   generalize (ps.getD m BG).2.2.length=yd at *
   have lg:=AY c0
   have K:Hid (∀w',Below wr.heap.size wr w'→(fun w'=>(w'.cell? ⟨w.heap.size,0,none⟩=some (.slice (some ⟨g,off,none⟩) n ca)∧w'.cell? ⟨w.heap.size,1,none⟩=some (.func (.func 158) #[] #[]))∧(w'.cell? ⟨g,off+k*3,none⟩=some (.int .i64 xa)∧w'.cell? ⟨g,off+k*3+1,none⟩=some (.string xb)∧w'.cell? ⟨g,off+k*3+2,none⟩=some (.slice xc xd xe))∧(w'.cell? ⟨g,off+m*3,none⟩=some (.int .i64 ya)∧w'.cell? ⟨g,off+m*3+1,none⟩=some (.string yb)∧w'.cell? ⟨g,off+m*3+2,none⟩=some (.slice yc yd ye))) w'):=hide fun w' hb=>by
    have l:=L.up hb
    exact⟨⟨l.cell 0 rfl,l.cell 1 rfl⟩,⟨(hb.cell (p:=⟨g,off+k*3,none⟩) lg).trans c0,(hb.cell (p:=⟨g,off+k*3+1,none⟩) lg).trans c1,(hb.cell (p:=⟨g,off+k*3+2,none⟩) lg).trans c2⟩,⟨(hb.cell (p:=⟨g,off+m*3,none⟩) lg).trans d0,(hb.cell (p:=⟨g,off+m*3+1,none⟩) lg).trans d1,(hb.cell (p:=⟨g,off+m*3+2,none⟩) lg).trans d2⟩⟩
   have bA:Below wr.heap.size wr wr.drew:=Below.drew (Below.refl _ _)
   replace hk:=hide hk
   clear c0 c1 c2 d0 d1 d2
   go_upto_region 4 with fail
   refine kJ K bA (fun hHeld=>?_)
   refine tx 0 11 ?_
   refine tx 1 12 ?_
   refine tx 2 13 ?_
   refine tx 3 14 ?_
   refine tx 4 15 ?_
   refine tx 5 16 ?_
   refine tx 6 17 ?_
   refine tx 7 18 ?_
   refine tx 8 19 ?_
   refine tx 9 20 ?_
   refine tx 10 21 ?_
   refine tx 11 22 ?_
   refine tx 12 23 ?_
   refine rd 13 rfl (fun KK AA=>?_)
   go_simp
   refine(CT.out _).mono ?_
   rintro _ wa ⟨rfl,ba⟩
   have bB:Below wr.heap.size wr wa:=bu bA ba
   clear hHeld
   refine AA.out _ _ (K.out _ bB) (fun hHeld=>?_)
   clear AA KK
   refine tx 14 25 ?_
   clear hHeld
   refine Bt ?_
   have LB:=L.up bB
   have BB:=bu br bB
   by_cases hq:q<0
   ·have HM:=hide (HS.out (hcm.out.1 hq))
    have hqd:decide (q≥0)=false:=by simp;omega
    clear HS HN hcm
    go_wp2
    go_roundw
    case rel=>exact⟨m+1,by omega,by omega,by go_num,HM,LB,BB⟩
    case measure=>simp[intOf];omega
   have HM:=HN.out (fun h=>hq (hcm.out.2 h))
   have hqd:decide (q≥0)=true:=by simp;omega
   clear HS HN hcm
   go_wp2
   go_ret
   exact⟨rfl,BB⟩
  have HM:rb=true:=HI.out.2 (fun j hj=>by have:=Hn.out;exact HA.out j (by omega) (by omega))
  have hd2:decide ((m:Int)<(n:Int))=false:=by simp;omega
  clear HA H
  go_wp2
  go_ret
  exact⟨by rw[HM];rfl,br⟩
theorem U9(n f m:Int)(s:ByteArray)(u:Value)(xs:List Int)(g:Nat)(w:World)(hs:s.size≤33554432)(hE:Env w)(hu:RI w u xs)(hg:Loc w g #[.int .i64 n,.int .i64 f]):
 Calls Tryz.prog 128 #[qv m s u,.pointer (some ⟨g,0,none⟩)] w fun e w'=>e= .returned (.bool (!DV n f m s xs))∧Below w.heap.size w w':=by
 obtain⟨ua,uc,rfl⟩:=hu.form
 obtain⟨ul,hul⟩:∃l,xs.length=l:=⟨_,rfl⟩
 obtain⟨w0,hw0⟩:∃y,w.alloc (.cells #[.int .i64 m,.string s,.slice ua xs.length uc] 62)=y:=⟨_,rfl⟩
 have B0:Below w.heap.size w w0:=hw0▸Ag _ _
 have L0:Loc w0 w.heap.size #[.int .i64 m,.string s,.slice ua xs.length uc]:=hw0▸AB w _ _ rfl
 have LG:=hg.up B0
 have PO:=hide (Oz n f m s (.slice ua xs.length uc) xs w0 hs (hE.below B0) (hu.below B0))
 rw[hul]at L0 PO hw0⊢
 have a0:=L0.cell 0 rfl
 have a1:=L0.cell 1 rfl
 have a2:=L0.cell 2 rfl
 have c0:=LG.cell 0 rfl
 have c1:=LG.cell 1 rfl
 generalize DV n f m s xs=b at *
 clear L0 LG hg hu hE hul
 go_enter Tryz.func128,Tryz.ntmps128
 go_wp2_with fail
 clear hw0
 refine PO.out.mono ?_
 rintro e w2 ⟨rfl,b2⟩
 have B2:=bu B0 b2
 go_wp2
 go_ret
 exact⟨rfl,B2⟩

theorem jy{n f:Int}{ps:List Pt}{k:Nat}(hk:k<ps.length)(h:(ps.take k).all (fun p=>DV n f p.1 p.2.1 p.2.2)=true)(h1:DV n f (ps.getD k BG).1 (ps.getD k BG).2.1 (ps.getD k BG).2.2=true):(ps.take (k+1)).all (fun p=>DV n f p.1 p.2.1 p.2.2)=true:=by
 have e:ps.take (k+1)=ps.take k++[ps.getD k BG]:=by
  rw[List.take_succ_eq_append_getElem hk];simp[List.getElem?_eq_getElem hk]
 rw[e,List.all_append,h,List.all_cons,h1]
 rfl
theorem oh{n f:Int}{ps:List Pt}{k:Nat}(hk:k<ps.length)(h1:DV n f (ps.getD k BG).1 (ps.getD k BG).2.1 (ps.getD k BG).2.2=false):ps.all (fun p=>DV n f p.1 p.2.1 p.2.2)=false:=by
 cases e:ps.all (fun p=>DV n f p.1 p.2.1 p.2.2)with
 |false=>rfl
 |true=>rw[List.all_eq_true]at e;have:=e _ (Jb hk);rw[h1]at this;cases this

theorem jD(n f:Int)(v:Value)(ps:List Pt)(g:Nat)(w:World)(hl:ps.length≤4194304)(hs:∀p ∈ ps,p.2.1.size≤33554432)(hE:Env w)(h:NP w v ps)(hg:Loc w g #[.int .i64 n,.int .i64 f]):
 Calls Tryz.prog 157 #[v,.func (.func 128) #[] #[.pointer (some ⟨g,0,none⟩)]] w fun e w'=>∃q:Int,e= .returned (.int .i64 q)∧decide (q≥0)=!(ps.all fun p=>DV n f p.1 p.2.1 p.2.2)∧Below w.heap.size w w':=by
 obtain⟨ao,ca,rfl⟩:=h.form
 obtain⟨len,hn⟩:∃n,ps.length=n:=⟨_,rfl⟩
 have Hn:=hide hn
 have H:=hide h
 rw[hn]at hl H⊢
 have HS:=hide hs
 have HG:=hide hg
 have HE:=hide hE
 clear h hn hg hs hE
 go_enter Tryz.func157,Tryz.ntmps157
 go_wp2
 go_loopw [8] (fun j wr=>∃k:Nat,k≤len∧j= .int .i64 k∧Hid ((ps.take k).all (fun p=>DV n f p.1 p.2.1 p.2.2)=true)∧Below w.heap.size w wr) (fun j _=>len-(intOf j).toNat)
 case atStart=>exact⟨0,Nat.zero_le _,rfl,hide (by simp),Below.refl _ _⟩
 case round=>
  obtain⟨k,hk,rfl,HK,br⟩:=hrel
  by_cases hlt:k<len
  ·have hkx:k<ps.length:=by rw[Hn.out];exact hlt
   obtain⟨b,off,u,rfl,c0,c1,c2,ru⟩:=(H.out.below br).at k hkx
   have GC:=hide (U9 n f (ps.getD k BG).1 (ps.getD k BG).2.1 u (ps.getD k BG).2.2 g wr (HS.out _ (Jb hkx)) (HE.out.below br) ru (HG.out.below br HG.out.lt))
   have HF:=hide fun h1=>oh (n:=n) (f:=f) hkx h1
   have HM:=hide fun h1=>jy (n:=n) (f:=f) hkx HK.out h1
   obtain⟨ua,uc,rfl⟩:=ru.form
   clear ru HK H
   generalize DV n f (ps.getD k BG).1 (ps.getD k BG).2.1 (ps.getD k BG).2.2=pb at *
   generalize (ps.getD k BG).1=m at *
   generalize (ps.getD k BG).2.1=s at *
   generalize (ps.getD k BG).2.2.length=xl at *
   cases pb with
   |false=>
    have F:=hide (HF.out rfl)
    clear HF HM
    go_wp2_with fail
    refine GC.out.mono ?_
    rintro _ w2 ⟨rfl,b2⟩
    go_wp2
    go_ret
    exact⟨k,rfl,by rw[F.out];simp,bu br b2⟩
   |true=>
    have F:=hide (HM.out rfl)
    clear HF HM
    go_wp2_with fail
    refine GC.out.mono ?_
    rintro _ w2 ⟨rfl,b2⟩
    go_wp2
    go_roundw
    case rel=>exact⟨k+1,by omega,by go_num,F,bu br b2⟩
    case measure=>simp[intOf];omega
  have hkn:ps.take k=ps:=List.take_of_length_le (by have:=Hn.out;omega)
  have h0:=HK.out
  rw[hkn]at h0
  have F:=hide h0
  have hd2:decide ((k:Int)<(len:Int))=false:=by simp;omega
  clear HK h0 hkn H
  go_wp2
  go_ret
  exact⟨-1,rfl,by rw[F.out];simp,br⟩

theorem Vx(n f:Int)(v:Value)(ps:List Pt)(g:Nat)(w:World)(hl:ps.length≤4194304)(hs:∀p ∈ ps,p.2.1.size≤33554432)(hE:Env w)(h:NP w v ps)(hg:Loc w g #[.int .i64 n,.int .i64 f]):
 Calls Tryz.prog 130 #[v,.func (.func 128) #[] #[.pointer (some ⟨g,0,none⟩)]] w fun e w'=>e= .returned (.bool (!(ps.all fun p=>DV n f p.1 p.2.1 p.2.2)))∧Below w.heap.size w w':=by
 have IX:=hide (jD n f v ps g w hl hs hE h hg)
 obtain⟨ao,ca,rfl⟩:=h.form
 generalize ps.length=len at *
 generalize (ps.all fun p=>DV n f p.1 p.2.1 p.2.2)=b at *
 clear h hg hE hs
 go_enter Tryz.func130,Tryz.ntmps130
 go_wp2_with fail
 refine IX.out.mono ?_
 rintro e w2 ⟨q,rfl,hq,b2⟩
 go_wp2
 go_ret
 exact⟨by rw[←hq];rfl,b2⟩

theorem lM(n f:Int)(ps:List Pt):JW n f ps=(decide ((ps.length:Int)≤20)&&((ps.all fun p=>DV n f p.1 p.2.1 p.2.2)&&rowP ps)):=by
 unfold JW
 have:decide (ps.length≤20)=decide ((ps.length:Int)≤20):=by rw[decide_eq_decide];omega
 rw[this,Bool.and_comm]

theorem VU(n f:Int)(v:Value)(ps:List Pt)(w:World)(hl:ps.length≤4194304)(hs:∀p ∈ ps,p.2.1.size≤33554432)(hE:Env w)(h:NP w v ps):
 Calls Tryz.prog 106 #[cv n f,v] w fun e w'=>e= .returned (.bool (JW n f ps))∧Below w.heap.size w w':=by
 rw[lM]
 obtain⟨ao,ca,rfl⟩:=h.form
 obtain⟨w0,hw0⟩:∃y,w.alloc (.cells #[.int .i64 n,.int .i64 f] 57)=y:=⟨_,rfl⟩
 have B0:Below w.heap.size w w0:=hw0▸Ag _ _
 have L0:Loc w0 w.heap.size #[.int .i64 n,.int .i64 f]:=hw0▸AB w _ _ rfl
 have CN:=hide (Vx n f (.slice ao ps.length ca) ps w.heap.size w0 hl hs (hE.below B0) (h.below B0) L0)
 have AS:=hide fun w h=>Td (.slice ao ps.length ca) ps w hl h
 have TO:=hide fun w=>UO ao ps.length ca w
 have HR:=hide fun w'(hb:Below w.heap.size w w')=>h.below hb
 generalize ps.length=len at *
 generalize (ps.all fun p=>DV n f p.1 p.2.1 p.2.2)=b at *
 generalize rowP ps=r at *
 clear h hE hs L0
 by_cases h20:(len:Int)≤20
 ·have hd:decide ((len:Int)≤20)=true:=by simpa using h20
  rw[hd,Bool.true_and]
  cases b with
  |false=>
   rw[Bool.false_and]
   go_enter Tryz.func106,Tryz.ntmps106
   go_wp2_with fail
   clear hw0
   refine CN.out.mono ?_
   rintro e w1 ⟨rfl,b1⟩
   have B1:=bu B0 b1
   go_wp2
   go_ret
   exact⟨rfl,B1⟩
  |true=>
   rw[Bool.true_and]
   go_enter Tryz.func106,Tryz.ntmps106
   go_wp2_with fail
   clear hw0
   refine CN.out.mono ?_
   rintro e w1 ⟨rfl,b1⟩
   have B1:=bu B0 b1
   clear b1 CN
   go_wp2_with fail
   refine(TO.out _).mono ?_
   rintro e w2 ⟨rfl,b2⟩
   have B2:=bu B1 b2
   clear b2 TO
   go_wp2_with fail
   refine(AS.out _ (HR.out _ B2)).mono ?_
   rintro e w3 ⟨rfl,b3⟩
   have B3:=bu B2 b3
   go_wp2
   go_ret
   exact⟨rfl,B3⟩
 have hd:decide ((len:Int)≤20)=false:=by simpa using h20
 rw[hd,Bool.false_and]
 go_enter Tryz.func106,Tryz.ntmps106
 go_wp2
 go_ret
 exact⟨rfl,B0⟩
end
section
open Go Go.RowKit
variable [∀(a b c d:Int),Decidable (BD a b c d)]
variable [∀(n f:Int),Decidable (A8 n f)]
variable [∀(a b c d:Nat),Decidable (Dj a b c d)]
variable [∀(x:T4),Decidable (Dr x)]
variable [∀(last:Int)(s:St),Decidable (Au last s)]
variable [∀(n:Int)(s:List Int),Decidable (Dt n s)]
variable [∀(x y:T4),Decidable (Gm x y)]
variable [∀(ts:List T4),Decidable (Asc ts)]
variable [∀(ts:List T4),Decidable (DU ts)]
variable [∀(ts:List T4),Decidable (JP ts)]
theorem U8(n f id m:Int)(u:MT)(oa ob oc:Option Addr)(ka kb kc gc gr:Nat)(x1 x2 x3 x4 x5 x6 x7 x8 x9 ko kg kW kV:Value)(w:World)(hs:MH u)(hi:MI u)(DT:IntKind.i64.wrap (n-1)=n-1)(hE:Env w)(ra:RI w (.slice oa u.bw.length ka) u.bw)(rb:RI w (.slice ob u.pw.length kb) u.pw)(rc:RI w (.slice oc u.qw.length kc) u.qw)(hg:Loc w gc #[.int .i64 n,.int .i64 f])(hr:Loc w gr #[.int .i64 id,x1,x2,x3,x4,x5,x6,x7,x8,x9,ko,kg,kW,kV]):
 Calls Tryz.prog 113 #[MV m u (.slice oa u.bw.length ka) (.slice ob u.pw.length kb) (.slice oc u.qw.length kc),.pointer (some ⟨gc,0,none⟩),.pointer (some ⟨gr,0,none⟩)] w fun e w'=>e= .returned (.bool (!MQ n f id (m,u)))∧Below w.heap.size w w':=by
 have I4:=hide fun w=>DZ m 0 (n-1) w
 have MO:=hide fun w he h1 h2 h3=>dZ n f u oa ob oc ka kb kc w hs hi he h1 h2 h3
 have HE:=hide hE
 have H1:=hide ra
 have H2:=hide rb
 have H3:=hide rc
 have wn:=DT
 have hq3:(m==id)=decide (m=id):=by by_cases h:m=id<;>simp[h]
 unfold MQ
 generalize Ry n f u=p1 at *
 generalize decide (0≤m∧m≤n-1)=p2 at *
 generalize hp3:decide (m=id)=p3 at *
 clear hE ra rb rc hs hi DT hp3
 have gl:=hg.lt
 have rl:=hr.lt
 obtain⟨w0,hw0,AO,P,DN⟩:=bx1 w #[.int .i64 m,.int .i64 u.k,.int .i64 u.vw,.string u.bn,.int .i64 u.bv,.string u.bs,.slice oa u.bw.length ka,.int .i64 u.pv,.string u.ps,.slice ob u.pw.length kb,.int .i64 u.qv,.string u.qs,.slice oc u.qw.length kc,.int .i64 u.wh,.int .i64 u.fr,.int .i64 u.tu,.int .i64 u.am,.int .i64 u.no] 94
 go_enter Tryz.func113,Tryz.ntmps113
 have GC:=hg.below AO gl
 have GR:=hr.below AO rl
 clear hg hr gl rl
 have fZ:=P.cell 0 rfl
 have tF:=GC.cell 0 rfl
 go_wp2_with fail
 clear hw0
 refine(I4.out _).mono ?_
 rintro _ w1 ⟨rfl,bb⟩
 clear fZ tF
 have AP:=bu AO bb
 have Ct:=bb.size
 replace P:=P.up bb
 replace GC:=GC.up bb
 replace GR:=GR.up bb
 clear AO bb
 cases p2
 ·go_wp2
  go_ret
  exact⟨by simp,AP⟩
 cases p3
 ·have fZ:=P.cell 0 rfl
  have xP:=GR.cell 0 rfl
  obtain⟨tF,ABc⟩:=Cr GC 0 1
  go_wp2_with (first|(refine Az [.int .i64 u.k,.int .i64 u.vw,.string u.bn,.int .i64 u.bv,.string u.bs,.slice oa u.bw.length ka,.int .i64 u.pv,.string u.ps,.slice ob u.pw.length kb,.int .i64 u.qv,.string u.qs,.slice oc u.qw.length kc,.int .i64 u.wh,.int .i64 u.fr,.int .i64 u.tu,.int .i64 u.am,.int .i64 u.no] (P.range 1 17 rfl) 65 _ rfl _ rfl rfl Tryz.underlying65 rfl (by kernel_rfl) ?_))
  refine(MO.out _ (HE.out.below AP) (H1.out.below AP) (H2.out.below AP) (H3.out.below AP)).mono ?_
  rintro _ w2 ⟨rfl,bb⟩
  clear fZ xP tF ABc
  have Am:=bu AP bb
  have El:=bb.size
  replace P:=P.up bb
  replace GC:=GC.up bb
  replace GR:=GR.up bb
  clear AP bb
  go_wp2
  go_ret
  exact⟨by simp,Am⟩
 have fZ:=P.cell 0 rfl
 have xP:=GR.cell 0 rfl
 go_wp2
 go_ret
 exact⟨by simp,AP⟩
theorem dU(n f id:Int)(ao:Option Addr)(ca:Nat)(ps:List Bf)(gc gr:Nat)(x1 x2 x3 x4 x5 x6 x7 x8 x9 ko kg kW kV:Value)(w:World)(hl:ps.length≤1048577)(hs:∀j,j<ps.length→MH (ps.getD j AL).2∧MI (ps.getD j AL).2)(DT:IntKind.i64.wrap (n-1)=n-1)(hE:Env w)(h:Ib w (.slice ao ps.length ca) ps)(hg:Loc w gc #[.int .i64 n,.int .i64 f])(hr:Loc w gr #[.int .i64 id,x1,x2,x3,x4,x5,x6,x7,x8,x9,ko,kg,kW,kV]):
 Calls Tryz.prog 139 #[.slice ao ps.length ca,(.func (.func 113) #[] #[.pointer (some ⟨gc,0,none⟩),.pointer (some ⟨gr,0,none⟩)])] w fun e w'=>∃q:Int,e= .returned (.int .i64 q)∧decide (q≥0)=!(Ev n f id ps)∧Below w.heap.size w w':=by
 obtain⟨len,hn⟩:∃n,ps.length=n:=⟨_,rfl⟩
 have Hn:=hide hn
 have H:=hide h
 rw[hn]at hl H⊢
 have HS:=hide hs
 have HG:=hide hg
 have HR:=hide hr
 have HE:=hide hE
 have WN:=hide DT
 clear h hn hg hr hs hE DT
 go_enter Tryz.func139,Tryz.ntmps139
 go_wp2
 go_loopw [8] (fun j wr=>∃k:Nat,k≤len∧j= .int .i64 k∧Hid (Ev n f id (ps.take k)=true)∧Below w.heap.size w wr) (fun j _=>len-(intOf j).toNat)
 case atStart=>exact⟨0,Nat.zero_le _,rfl,hide (by simp[Ev]),Below.refl _ _⟩
 case round=>
  obtain⟨k,hk,rfl,HK,br⟩:=hrel
  by_cases hlt:k<len
  ·have hkx:k<ps.length:=by rw[Hn.out];exact hlt
   have RP:=H.out.below br
   obtain⟨g,off,cs,rfl,_,c1,a,b,c,e,ra,rb,rc⟩:=RG.at RP k hkx
   subst e
   obtain⟨oa,ka,rfl⟩:=ra.form
   obtain⟨ob,kb,rfl⟩:=rb.form
   obtain⟨oc,kc,rfl⟩:=rc.form
   have GC:=hide (U8 n f id (ps.getD k AL).1 (ps.getD k AL).2 oa ob oc ka kb kc gc gr x1 x2 x3 x4 x5 x6 x7 x8 x9 ko kg kW kV wr (HS.out _ hkx).1 (HS.out _ hkx).2 WN.out (HE.out.below br) ra rb rc (HG.out.below br HG.out.lt) (HR.out.below br HR.out.lt))
   have HF:=hide fun h1=>jI (n:=n) (f:=f) (id:=id) hkx h1
   have HM:=hide fun h1=>Vh (n:=n) (f:=f) (id:=id) hkx HK.out h1
   have ep:((ps.getD k AL).1,(ps.getD k AL).2)=ps.getD k AL:=rfl
   rw[ep]at GC
   clear ra rb rc HK H RP ep
   generalize MQ n f id (ps.getD k AL)=pb at *
   generalize (ps.getD k AL).1=m at *
   generalize (ps.getD k AL).2=u at *
   cases pb with
   |false=>
    have F:=hide (HF.out rfl)
    clear HF HM
    go_wp2_with (first|(refine Az _ c1 94 _ rfl _ rfl rfl Tryz.underlying94 rfl (by kernel_rfl) ?_))
    refine GC.out.mono ?_
    rintro _ w2 ⟨rfl,b2⟩
    go_wp2
    go_ret
    exact⟨k,rfl,by rw[F.out];simp,bu br b2⟩
   |true=>
    have F:=hide (HM.out rfl)
    clear HF HM
    go_wp2_with (first|(refine Az _ c1 94 _ rfl _ rfl rfl Tryz.underlying94 rfl (by kernel_rfl) ?_))
    refine GC.out.mono ?_
    rintro _ w2 ⟨rfl,b2⟩
    go_wp2
    go_roundw
    case rel=>exact⟨k+1,by omega,by go_num,F,bu br b2⟩
    case measure=>simp[intOf];omega
  have hkn:ps.take k=ps:=List.take_of_length_le (by have:=Hn.out;omega)
  have h0:=HK.out
  rw[hkn]at h0
  have F:=hide h0
  have hd2:decide ((k:Int)<(len:Int))=false:=by simp;omega
  clear HK h0 hkn H
  go_wp2
  go_ret
  exact⟨-1,rfl,by rw[F.out];simp,br⟩
theorem Sk(n f id:Int)(ao:Option Addr)(ca:Nat)(ps:List Bf)(gc gr:Nat)(x1 x2 x3 x4 x5 x6 x7 x8 x9 ko kg kW kV:Value)(w:World)(hl:ps.length≤1048577)(hs:∀j,j<ps.length→MH (ps.getD j AL).2∧MI (ps.getD j AL).2)(DT:IntKind.i64.wrap (n-1)=n-1)(hE:Env w)(h:Ib w (.slice ao ps.length ca) ps)(hg:Loc w gc #[.int .i64 n,.int .i64 f])(hr:Loc w gr #[.int .i64 id,x1,x2,x3,x4,x5,x6,x7,x8,x9,ko,kg,kW,kV]):
 Calls Tryz.prog 115 #[.slice ao ps.length ca,(.func (.func 113) #[] #[.pointer (some ⟨gc,0,none⟩),.pointer (some ⟨gr,0,none⟩)])] w fun e w'=>e= .returned (.bool (!(Ev n f id ps)))∧Below w.heap.size w w':=by
 have IX:=hide (dU n f id ao ca ps gc gr x1 x2 x3 x4 x5 x6 x7 x8 x9 ko kg kW kV w hl hs DT hE h hg hr)
 generalize ps.length=len at *
 generalize Ev n f id ps=b at *
 clear h hg hE hs hr DT
 go_enter Tryz.func115,Tryz.ntmps115
 go_wp2_with fail
 refine IX.out.mono ?_
 rintro e w2 ⟨q,rfl,hq,b2⟩
 go_wp2
 go_ret
 exact⟨by rw[←hq];rfl,b2⟩
theorem Im(n f:Int)(t:Bu)(ao bo co od oe:Option Addr)(ca cb cc cd ce:Nat)(w:World)(hl:t.held.length≤1048577)(hh:∀j,j<t.held.length→MH (t.held.getD j AL).2∧MI (t.held.getD j AL).2)(DT:IntKind.i64.wrap (n-1)=n-1)(hE:Env w)(h:Ib w (.slice oe t.held.length ce) t.held):
 Calls Tryz.prog 82 #[ES t (.slice ao t.qw.length ca) (.slice bo t.pool.length cb) (.slice co t.tab.length cc) (.slice od t.AZ.length cd) (.slice oe t.held.length ce),cv n f] w fun e w'=>e= .returned (.bool (decide (t.held.length≤30)&&Ev n f t.id t.held))∧Below w.heap.size w w':=by
 have CP:=hide fun gc gr x1 x2 x3 x4 x5 x6 x7 x8 x9 ko kg kW kV w he h hg hr=>Sk n f t.id oe ce t.held gc gr x1 x2 x3 x4 x5 x6 x7 x8 x9 ko kg kW kV w hl hh DT he h hg hr
 have HE:=hide hE
 have HR:=hide h
 clear hE h hh DT
 have hb5:decide ((t.held.length:Int)≤30)=decide (t.held.length≤30):=by rw[decide_eq_decide];omega
 generalize Ev n f t.id t.held=b1 at *
 generalize decide (t.held.length≤30)=b0 at *
 generalize t.held.length=hn at *
 obtain⟨w0,hw0,AO,A,LC,DN⟩:=GM w #[.int .i64 t.id,.int .i64 t.vw,.int .i64 t.ak,.int .i64 t.vo,.int .i64 t.lo,.int .i64 t.n,.string t.s,.slice ao t.qw.length ca,.string t.d,.slice bo t.pool.length cb,.slice co t.tab.length cc,.slice od t.AZ.length cd,.int .i64 t.su,.slice oe hn ce] 54 #[.int .i64 n,.int .i64 f] 57
 go_enter Tryz.func82,Tryz.ntmps82
 have BU:=A.cell 13 rfl
 cases b0
 ·go_wp2
  go_ret
  exact⟨by simp,AO⟩
 go_wp2_with fail
 clear hw0
 refine(CP.out _ _ _ _ _ _ _ _ _ _ _ _ _ _ _ _ (HE.out.below AO) (HR.out.below AO) LC A).mono ?_
 rintro _ w1 ⟨rfl,bb⟩
 clear BU
 have AP:=bu AO bb
 have Ct:=bb.size
 replace A:=A.up bb
 replace LC:=LC.up bb
 clear AO bb
 go_wp2
 go_ret
 exact⟨by simp,AP⟩
theorem mE(n f:Int)(t:Bu):Eg n f t=(decide (0≤t.id∧t.id≤IntKind.i64.wrap (n-1))&&(decide (1≤t.vw∧t.vw≤60)&&(decide (0≤t.ak∧t.ak≤60)&&(Kz n f t.vo t.lo t.n t.s t.qw t.d&&(decide (JP t.pool)&&(JW n f t.tab&&(Ji t.AZ.length t.su&&(decide (t.held.length≤30)&&Ev n f t.id t.held)))))))):=by
 unfold Eg
 by_cases h:A8 n f
 ·have:IntKind.i64.wrap (n-1)=n-1:=by unfold A8 at h;rw[IntKind.wrap_i64]<;>omega
  rw[this,decide_eq_true h,Bool.true_and]
 have:Kz n f t.vo t.lo t.n t.s t.qw t.d=false:=by
  cases e:Kz n f t.vo t.lo t.n t.s t.qw t.d with
  |false=>rfl
  |true=>
   have:=(Uh e).2.2.1
   unfold Ga at this
   rw[decide_eq_false h]at this
   simp at this
 rw[decide_eq_false h,this]
 simp
structure uK(t:Bu):Prop where
 s:t.s.size≤33554432
 d:t.d.size≤33554432
 tb:∀p ∈ t.tab,p.2.1.size≤33554432
 h:∀j,j<t.held.length→MH (t.held.getD j AL).2∧MI (t.held.getD j AL).2
theorem dW(n f:Int)(t:Bu)(ao bo co od oe:Option Addr)(ca cb cc cd ce:Nat)(w:World)(hm:JF t)(hs:uK t)(hE:Env w)(h:Ei w t (.slice ao t.qw.length ca) (.slice bo t.pool.length cb) (.slice co t.tab.length cc) (.slice od t.AZ.length cd) (.slice oe t.held.length ce)):
 Calls Tryz.prog 79 #[cv n f,ES t (.slice ao t.qw.length ca) (.slice bo t.pool.length cb) (.slice co t.tab.length cc) (.slice od t.AZ.length cd) (.slice oe t.held.length ce)] w fun e w'=>e= .returned (.bool (Eg n f t))∧Below w.heap.size w w':=by
 rw[mE]
 obtain⟨nm,wn⟩:∃m,IntKind.i64.wrap (n-1)=m:=⟨_,rfl⟩
 rw[wn]
 have i1:=hide fun w=>DZ t.id 0 nm w
 have i2:=hide fun w=>DZ t.vw 1 60 w
 have i3:=hide fun w=>DZ t.ak 0 60 w
 have SO:=hide fun w he h=>X3 n f t.vo t.lo t.n t.s ao ca t.qw t.d w hs.s hs.d he h
 have PO:=hide fun w h=>X9 (.slice bo t.pool.length cb) t.pool w h
 have TO:=hide fun w he h=>VU n f (.slice co t.tab.length cc) t.tab w (by have:=hm.tb;omega) hs.tb he h
 have DO:=hide fun w=>YB od t.AZ.length cd t.su w
 have HO:Hid (Kz n f t.vo t.lo t.n t.s t.qw t.d=true→∀w,Env w→Ib w (.slice oe t.held.length ce) t.held→Calls Tryz.prog 82 #[ES t (.slice ao t.qw.length ca) (.slice bo t.pool.length cb) (.slice co t.tab.length cc) (.slice od t.AZ.length cd) (.slice oe t.held.length ce),cv n f] w fun e w'=>e= .returned (.bool (decide (t.held.length≤30)&&Ev n f t.id t.held))∧Below w.heap.size w w'):=hide fun hb w he h=>Im n f t ao bo co od oe ca cb cc cd ce w hm.h hs.h (by
  have h1:=(Uh hb).2.2.1
  have h2:A8 n f:=by
   unfold Ga at h1
   simp only[Bool.and_eq_true,decide_eq_true_eq]at h1
   exact h1.1.1.1
  unfold A8 at h2
  rw[IntKind.wrap_i64]<;>omega) he h
 have HR:=hide h
 have HE:=hide hE
 clear h hs hm hE
 generalize decide (0≤t.id∧t.id≤nm)=b1 at *
 generalize decide (1≤t.vw∧t.vw≤60)=b2 at *
 generalize decide (0≤t.ak∧t.ak≤60)=b3 at *
 generalize Kz n f t.vo t.lo t.n t.s t.qw t.d=b4 at *
 generalize decide (JP t.pool)=b5 at *
 generalize JW n f t.tab=b6 at *
 generalize Ji t.AZ.length t.su=b7 at *
 generalize (decide (t.held.length≤30)&&Ev n f t.id t.held)=b8 at *
 obtain⟨w0,hw0,AO,LC,A,DN⟩:=GM w #[.int .i64 n,.int .i64 f] 57 #[.int .i64 t.id,.int .i64 t.vw,.int .i64 t.ak,.int .i64 t.vo,.int .i64 t.lo,.int .i64 t.n,.string t.s,.slice ao t.qw.length ca,.string t.d,.slice bo t.pool.length cb,.slice co t.tab.length cc,.slice od t.AZ.length cd,.int .i64 t.su,.slice oe t.held.length ce] 54
 go_enter Tryz.func79,Tryz.ntmps79
 obtain⟨Ae,Aj⟩:=Cr LC 0 1
 have Bn:=A.cell 0 rfl
 go_wp2_with fail
 clear hw0
 refine(i1.out _).mono ?_
 rintro _ w1 ⟨rfl,bb⟩
 clear Ae Aj Bn
 have AP:=bu AO bb
 have Ct:=bb.size
 replace LC:=LC.up bb
 replace A:=A.up bb
 clear AO bb
 cases b1
 ·go_wp2
  go_ret
  exact⟨by simp,AP⟩
 have Ae:=LC.cell 0 rfl
 obtain⟨Bn,DX⟩:=Cr A 0 1
 go_wp2_with fail
 refine(i2.out _).mono ?_
 rintro _ w2 ⟨rfl,bb⟩
 clear Ae Bn DX
 have Am:=bu AP bb
 have El:=bb.size
 replace LC:=LC.up bb
 replace A:=A.up bb
 clear AP bb
 cases b2
 ·go_wp2
  go_ret
  exact⟨by simp,Am⟩
 have Ae:=LC.cell 0 rfl
 obtain⟨Bn,DX,DW⟩:=Bv A 0 1 2
 go_wp2_with fail
 refine(i3.out _).mono ?_
 rintro _ w3 ⟨rfl,bb⟩
 clear Ae Bn DX DW
 have BP:=bu Am bb
 have IZ:=bb.size
 replace LC:=LC.up bb
 replace A:=A.up bb
 clear Am bb
 cases b3
 ·go_wp2
  go_ret
  exact⟨by simp,BP⟩
 obtain⟨Ae,Aj⟩:=Cr LC 0 1
 go_wp2_with (first|(refine Az [.int .i64 t.vo,.int .i64 t.lo,.int .i64 t.n,.string t.s,.slice ao t.qw.length ca,.string t.d] (A.range 3 6 rfl) 48 _ rfl _ rfl rfl Tryz.underlying48 rfl (by kernel_rfl) ?_))
 refine(SO.out _ (HE.out.below BP) (HR.out.q.below BP)).mono ?_
 rintro _ w4 ⟨rfl,bb⟩
 clear Ae Aj
 have Cs:=bu BP bb
 have Ph:=bb.size
 replace LC:=LC.up bb
 replace A:=A.up bb
 clear BP bb
 cases b4
 ·go_wp2
  go_ret
  exact⟨by simp,Cs⟩
 have xh:=HO.out rfl
 replace xh:=hide xh
 clear HO
 obtain⟨Ae,Aj⟩:=Cr LC 0 1
 have Fb:=A.cell 9 rfl
 go_wp2_with fail
 refine(PO.out _ (HR.out.p.below Cs)).mono ?_
 rintro _ w5 ⟨rfl,bb⟩
 clear Ae Aj Fb
 have GZ:=bu Cs bb
 have fQ:=bb.size
 replace LC:=LC.up bb
 replace A:=A.up bb
 clear Cs bb
 cases b5
 ·go_wp2
  go_ret
  exact⟨by simp,GZ⟩
 obtain⟨Ae,Aj⟩:=Cr LC 0 1
 have CG:=A.cell 10 rfl
 go_wp2_with fail
 refine(TO.out _ (HE.out.below GZ) (HR.out.tb.below GZ)).mono ?_
 rintro _ w6 ⟨rfl,bb⟩
 clear Ae Aj CG
 have J4:=bu GZ bb
 have pE:=bb.size
 replace LC:=LC.up bb
 replace A:=A.up bb
 clear GZ bb
 cases b6
 ·go_wp2
  go_ret
  exact⟨by simp,J4⟩
 obtain⟨Ae,Aj⟩:=Cr LC 0 1
 go_wp2_with (first|(refine Az [.slice od t.AZ.length cd,.int .i64 t.su] (A.range 11 2 rfl) 51 _ rfl _ rfl rfl Tryz.underlying51 rfl (by kernel_rfl) ?_))
 refine(DO.out _).mono ?_
 rintro _ w7 ⟨rfl,bb⟩
 clear Ae Aj
 have Li:=bu J4 bb
 have vX:=bb.size
 replace LC:=LC.up bb
 replace A:=A.up bb
 clear J4 bb
 cases b7
 ·go_wp2
  go_ret
  exact⟨by simp,Li⟩
 obtain⟨Ae,Aj⟩:=Cr LC 0 1
 go_wp2_with (first|(refine Ap A 54 _ rfl _ rfl rfl Tryz.underlying54 rfl (by kernel_rfl) ?_))
 refine(xh.out _ (HE.out.below Li) (HR.out.h.below Li)).mono ?_
 rintro _ w8 ⟨rfl,bb⟩
 clear Ae Aj
 have Q7:=bu Li bb
 have vW:=bb.size
 replace LC:=LC.up bb
 replace A:=A.up bb
 clear Li bb
 go_wp2
 go_ret
 exact⟨by simp,Q7⟩
end
section
open Go Go.RowKit
variable [∀(a b c d:Int),Decidable (BD a b c d)]
variable [∀(n f:Int),Decidable (A8 n f)]
theorem RG.rows{R:World→Nat→List Value→Prop}{m:Nat}{w:World}{g off:Nat}:∀n:Nat,(∀k,k<n→∃cs:List Value,cs.length=m∧w.rangeAt g (off+k*m) cs∧R w k cs)→
 ∃rows:List (List Value),rows.length=n∧(∀c ∈ rows,c.length=m)∧rows.flatten.length=n*m∧(∀k,k<n→R w k (rows.getD k []))∧∀j u,rows.flatten[j]? =some u→w.cell? ⟨g,off+j,none⟩=some u
 |0,_=>⟨[],rfl,fun c hc=>by simp at hc,by simp,fun k hk=>by omega,fun j u hj=>by simp at hj⟩
 | n+1,h=>by
  obtain⟨rows,h1,h2,h3,h4,h5⟩:=RG.rows n (fun k hk=>h k (by omega))
  obtain⟨cs,c1,c2,c3⟩:=h n (by omega)
  refine⟨rows++[cs],by simp[h1],?_,?_,?_,?_⟩
  ·intro c hc
   rcases List.mem_append.1 hc with hc|hc
   ·exact h2 c hc
   rw[List.mem_singleton.1 hc];exact c1
  ·rw[List.flatten_append,List.length_append,h3];simp[c1,Nat.succ_mul]
  ·intro k hk
   by_cases e:k<n
   ·rw[List.getD_eq_getElem?_getD,List.getElem?_append_left (by omega),←List.getD_eq_getElem?_getD];exact h4 k e
   obtain rfl:k=n:=by omega
   rw[List.getD_eq_getElem?_getD,List.getElem?_append_right (by omega),h1,Nat.sub_self];exact c3
  intro j u hj
  rw[List.flatten_append]at hj
  simp only[List.flatten_cons,List.flatten_nil,List.append_nil]at hj
  by_cases e:j<n*m
  ·rw[List.getElem?_append_left (by rw[h3];exact e)]at hj;exact h5 j u hj
  rw[List.getElem?_append_right (by rw[h3];omega),h3]at hj
  have:=Ak c2 (j-n*m) hj
  rwa [show off+n*m+(j-n*m)=off+j by omega]at this
def Te(W0 w:World)(v:Value)(ps:List Bf):Prop:=RG (fun _ k cs=>Mg ps W0 k cs) 18 w v ps.length
theorem Te.below{W0 w w':World}{v:Value}{ps:List Bf}(h:Te W0 w v ps)(b:Below w.heap.size w w'):Te W0 w' v ps:=RG.below h (by decide) b (Nat.le_refl _) (fun _ _ h=>h)
theorem Ib.b{W0 w:World}{v:Value}{ps:List Bf}(h:Ib W0 v ps)(b:Below W0.heap.size W0 w):Te W0 w v ps:=
 RG.below (w:=W0) (R:=fun _ k cs=>Mg ps W0 k cs) h (by decide) b (Nat.le_refl _) (fun _ _ h=>h)
def Ec(w:World)(ps:List Bf)(rows:List (List Value)):Prop:=rows.length=ps.length∧∀k,k<ps.length→Mg ps w k (rows.getD k [])
theorem Ec.below{w w':World}{B:Nat}{ps:List Bf}{rows:List (List Value)}(h:Ec w ps rows)(hb:Below B w w')(hB:w.heap.size≤B:=by exact Nat.le_refl _):Ec w' ps rows:=
 ⟨h.1,fun k hk=>by obtain⟨a,b,c,e,h1,h2,h3⟩:=h.2 k hk;exact⟨a,b,c,e,h1.below hb hB,h2.below hb hB,h3.below hb hB⟩⟩
theorem Ec.nil(w:World):Ec w [] []:=⟨rfl,fun k hk=>by simp at hk⟩
theorem Ec.append{w:World}{ps qs:List Bf}{r s:List (List Value)}(h:Ec w ps r)(k:Ec w qs s):Ec w (ps++qs) (r++s):=by
 refine⟨by simp[h.1,k.1],fun j hj=>?_⟩
 rw[List.length_append]at hj
 by_cases e:j<ps.length
 ·obtain⟨a,b,c,e1,h1,h2,h3⟩:=h.2 j e
  have ep:(ps++qs).getD j AL=ps.getD j AL:=by rw[List.getD_eq_getElem?_getD,List.getElem?_append_left e,←List.getD_eq_getElem?_getD]
  rw[show(r++s).getD j []=r.getD j [] by rw[List.getD_eq_getElem?_getD,List.getElem?_append_left (by rw[h.1];exact e),←List.getD_eq_getElem?_getD]]
  unfold Mg
  rw[ep]
  exact⟨a,b,c,e1,h1,h2,h3⟩
 obtain⟨a,b,c,e1,h1,h2,h3⟩:=k.2 (j-ps.length) (by omega)
 have ep:(ps++qs).getD j AL=qs.getD (j-ps.length) AL:=by rw[List.getD_eq_getElem?_getD,List.getElem?_append_right (by omega),←List.getD_eq_getElem?_getD]
 rw[show(r++s).getD j []=s.getD (j-ps.length) [] by rw[List.getD_eq_getElem?_getD,List.getElem?_append_right (by rw[h.1];omega),h.1,←List.getD_eq_getElem?_getD]]
 unfold Mg
 rw[ep]
 exact⟨a,b,c,e1,h1,h2,h3⟩
theorem OG.fT{w:World}{base:Nat}{v:Value}{ps:List Bf}{rows:List (List Value)}(h:OG 94 18 w base v rows)(hr:Ec w ps rows):Ib w v ps:=by
 have:=h.rg (R:=Mg ps) (fun k hk=>hr.2 k (by rw[←hr.1];exact hk))
 rw[hr.1]at this
 exact this
theorem OG.wR{T:TypeId}{m:Nat}{w w':World}{base:Nat}{v v':Value}{rows r:List (List Value)}(h:OG T m w base v rows)(hr:∀c ∈ r,c.length=m)(ho:w'.ownsRow base T m v' (rows.length+r.length) (rows.flatten++r.flatten)):OG T m w' base v' (rows++r):=by
 refine⟨fun c hc=>?_,by rw[List.length_append,List.flatten_append];exact ho⟩
 rcases List.mem_append.1 hc with h1|h1
 ·exact h.each c h1
 exact hr c h1
theorem OI.Xi{w:World}{v:Value}{xs:List Int}(h:RI w v xs):v.oneCell'=true:=by obtain⟨_,ao,ca,rfl,_⟩:=h;rfl
theorem Xh{w:World}{ps:List Bf}{rows:List (List Value)}(h:Ec w ps rows):∀u ∈ rows.flatten,u.oneCell'=true:=by
 intro u hu
 obtain⟨c,hc,hu⟩:=List.mem_flatten.1 hu
 obtain⟨k,hk,rfl⟩:=List.getElem_of_mem hc
 obtain⟨a,b,d,e,h1,h2,h3⟩:=h.2 k (by rw[←h.1];exact hk)
 rw[show rows.getD k []=rows[k] by rw[List.getD_eq_getElem?_getD,List.getElem?_eq_getElem hk];rfl]at e
 rw[e]at hu
 simp only[FW,List.mem_cons,List.not_mem_nil,or_false]at hu
 rcases hu with rfl|rfl|rfl|rfl|rfl|rfl|rfl|rfl|rfl|rfl|rfl|rfl|rfl|rfl|rfl|rfl|rfl|rfl<;>first|rfl|exact OI.Xi h1|exact OI.Xi h2|exact OI.Xi h3
theorem Ij(ty:TypeId)(base cap:Nat)(v:Value)(n:Nat)(xs:List Value)(w:World)(hown:w.ownsRow base 94 18 v n xs):
 (Builtin.append_ #[52,52] ty #[v,.slice none 0 cap]).run Tryz.prog w= .ok v w:=by
 obtain⟨i0,hi,hz0,hz1,hz2⟩:=info_parts Tryz.infoPo
 rcases hown.2 with⟨rfl,rfl⟩|⟨g,cp,cur,rfl,_,_,hnc,_⟩
 ·simp[Builtin.append_,run_underlying Tryz.underlying52,sizeOf,typeInfo,hi,Builtin.lenOf,Builtin.firstCells]
 simp[Builtin.append_,run_underlying Tryz.underlying52,sizeOf,typeInfo,hi,Builtin.lenOf,Builtin.firstCells,hnc,storeCells]
theorem Km{ops:Array Oper}{rest:List Oper}{o:Oper}{a:Act}{Q:Exit→Act→World→Prop}{w:World}(hgd:o.guard=none)(s x:Operand)
 (ho:o.op= .call { callee:= .builtin .append,args:= #[s,x],argTypes:= #[52,52] }) (base:Nat) (v u:Value) (rows:List (List Value)) (ps qs:List Bf) (hs:a.eval s=v) (hx:a.eval x=u)
 (hog:OG 94 18 w base v rows) (W0:World) (hr:Ec W0 ps rows) (hp:Te W0 w u qs) (hl:ps.length+qs.length≤4194304) (hbase:base≤w.heap.size)
 (h:∀v' w' r,OG 94 18 w' base v' r→Ec W0 (ps++qs) r→w.grownBy w' v.ownBlock→wpList Tryz.prog ops Q rest (a.put o.dst v') w'):
 wpList Tryz.prog ops Q (o :: rest) a w:=by
 obtain⟨i0,hi,hz0,hz1,hz2⟩:=info_parts Tryz.infoPo
 have hrl:=hr.1
 obtain⟨ao,cap,rfl,hp2⟩:=(show RG (fun _ k cs=>Mg qs W0 k cs) 18 w u qs.length from hp)
 clear hp
 by_cases hq:qs.length=0
 ·obtain rfl:qs=[]:=List.length_eq_zero_iff.1 hq
  rw[List.append_nil]at h
  match ao,hx with
  |none,hx=>
   refine wpList_plain hgd fun K hK=>?_
   have hrun:=Ij o.type base cap v rows.length rows.flatten w hog.row
   unfold Oper.wp
   simp only[List.length_nil]at hx
   simp[execOp,ho,resolve,invoke,builtin,hs,hx,hrun,Result.andThen]
   exact hK _ _ (h v w rows hog hr (Dx _ _))
  |some ad,hx=>
   refine wpList_append_own_at _ hgd s x 52 ho base 94 i0 (MV 0 FR (.slice none 0 0) (.slice none 0 0) (.slice none 0 0)) 18 224 Tryz.underlying52 hi hz0 hz1 hz2 rfl (by decide) v rows.length rows.flatten hs hog.row ad 0 cap [] hx rfl (fun j u hj=>by simp at hj) (fun u hu=>by simp at hu) (by unfold maxLen;omega) (by omega) hbase ?_
   intro v' w' ho' hg' _ hb'
   exact h v' w' rows ⟨hog.each,by simpa using ho'⟩ hr hg'
 rcases hp2 with h0|⟨g,off,rfl,hp2⟩
 ·exact absurd h0 hq
 obtain⟨r,r1,r2,r3,r4,r5⟩:=RG.rows (R:=fun _ k cs=>Mg qs W0 k cs) (m:=18) qs.length hp2
 have hr2:Ec W0 qs r:=⟨r1,r4⟩
 refine wpList_append_own_at _ hgd s x 52 ho base 94 i0 (MV 0 FR (.slice none 0 0) (.slice none 0 0) (.slice none 0 0)) 18 224 Tryz.underlying52 hi hz0 hz1 hz2 rfl (by decide) v rows.length rows.flatten hs hog.row ⟨g,off,none⟩ qs.length cap r.flatten hx r3 (fun j u hj=>by rw[PZ];exact r5 j u hj) (Xh hr2) (by unfold maxLen;omega) (by omega) hbase ?_
 intro v' w' ho' hg' _ hb'
 exact h v' w' (rows++r) (hog.wR r2 (by rw[r1];exact ho')) (hr.append hr2) hg'
theorem YR(n:Nat)(w:World)(hn:0<n)(hl:n≤4194304):
 Calls Tryz.prog 112 #[.slice none 0 0,.int .i64 n] w fun e w'=>∃v,e= .returned v∧OG 94 18 w' w.heap.size v []∧Below w.heap.size w w':=by
 obtain⟨i0,hi,hz0,hz1,hz2⟩:=info_parts Tryz.infoPo
 have hold:(Builtin.firstCells i0.size 0 (.slice none 0 0)).run Tryz.prog w.drew= .ok ([]:List Value).toArray w.drew:=run_firstCells_none w.drew i0.size 0 0 0
 have hrz:∀ty,(Builtin.append_ #[52,3] ty #[.slice none 0 0,.int .i64 (n:Int)]).run Tryz.prog w =
  .ok (.slice (some ⟨w.heap.size,0,none⟩) (0+n) (grownCap w (0+n) 0 94)) (w.drew.alloc (.cells (([]:List Value).toArray++Builtin.zeroCells (MV 0 FR (.slice none 0 0) (.slice none 0 0) (.slice none 0 0)).cells n++Builtin.zeroCells (MV 0 FR (.slice none 0 0) (.slice none 0 0) (.slice none 0 0)).cells (grownCap w (0+n) 0 94-(0+n))) 94)):=fun ty=>
  Lib.run_append_grow_zeros w 52 3 ty 94 i0 (MV 0 FR (.slice none 0 0) (.slice none 0 0) (.slice none 0 0)) .i64 .i64 Tryz.underlying52 Tryz.underlying3 hi hz0 none 0 0 [] hold n hn (by rw[hz1];decide) (by omega) (by omega)
   (by rw[hz2];omega) (growslice_fits (by omega) (by rw[hz2];omega))
 have hG:0+n≤grownCap w (0+n) 0 94:=grownCap_ge w _ _ _
 have hG63:grownCap w (0+n) 0 94≤maxLen:=grownCap_le_maxLen w (0+n) 0 _ (by unfold maxLen;omega)
 generalize grownCap w (0+n) 0 94=G at *
 have hcs:(([]:List Value).toArray++Builtin.zeroCells (MV 0 FR (.slice none 0 0) (.slice none 0 0) (.slice none 0 0)).cells n++Builtin.zeroCells (MV 0 FR (.slice none 0 0) (.slice none 0 0) (.slice none 0 0)).cells (G-(0+n))).size=G*18:=by
  have e4:(MV 0 FR (.slice none 0 0) (.slice none 0 0) (.slice none 0 0)).cells.size=18:=rfl
  simp[Builtin.zeroCells,e4]
  omega
 generalize ([]:List Value).toArray++Builtin.zeroCells (MV 0 FR (.slice none 0 0) (.slice none 0 0) (.slice none 0 0)).cells n++Builtin.zeroCells (MV 0 FR (.slice none 0 0) (.slice none 0 0) (.slice none 0 0)).cells (G-(0+n))=cs at *
 have HO:Hid (OG 94 18 (w.drew.alloc (.cells cs 94)) w.heap.size (.slice (some ⟨w.heap.size,0,none⟩) 0 G) []):=hide ⟨fun c hc=>by simp at hc,World.ownsRow_made w.drew cs G (Nat.le_refl _) hG63 hcs⟩
 rw[Nat.zero_add]at hrz hG
 have h2:¬((n:Int)<0):=by omega
 have ADI:G≤9223372036854775807:=by unfold maxLen at hG63;omega
 clear hold hcs hG63
 go_enter Tryz.func112,Tryz.ntmps112
 go_wp2_with (at_builtin;refine Lib.wpList_append_run _ rfl _ _ _ _ rfl _ _ rfl rfl _ _ (hrz _) ?_)
 go_ret
 exact⟨_,rfl,HO.out,(Below.drew (Below.refl _ _)).alloc (Nat.le_refl _) _⟩
theorem jf(g:Nat)(v1 v2:Value)(ps qs:List Bf)(w:World)(h0:w.cell? ⟨g,0,none⟩=some v1)(h1:w.cell? ⟨g,1,none⟩=some v2)
 (W0:World) (p1:Te W0 w v1 ps) (p2:Te W0 w v2 qs) (hq:0<qs.length) (hl:ps.length+qs.length≤4194304):
 Calls Tryz.prog 81 #[.slice (some ⟨g,0,none⟩) 2 2] w fun e w'=>∃v rows,e= .returned v∧OG 94 18 w' w.heap.size v rows∧Ec W0 (ps++qs) rows∧Below w.heap.size w w':=by
 have P1:=hide p1
 have P2:=hide p2
 have GR:=hide fun w=>YR (ps.length+qs.length) w (by omega) hl
 have lg:g<w.heap.size:=AY h0
 obtain⟨a1,k1,rfl⟩:=RG.form p1
 obtain⟨a2,k2,rfl⟩:=RG.form p2
 have e1:IntKind.i64.wrap ((ps.length:Int)+(qs.length:Int))=((ps.length+qs.length:Nat):Int):=by rw[IntKind.wrap_i64];omega
 have HL:=hide hl
 obtain⟨n,hn⟩:∃n,ps.length+qs.length=n:=⟨_,rfl⟩
 rw[hn]at GR e1
 have n1:¬((n:Int)<0):=by omega
 clear p1 p2
 go_enter Tryz.func81,Tryz.ntmps81
 go_wp2
 refine wp_loop_rounds 3 ?_
 rw[rounds_succ]
 go_wp2
 rw[rounds_succ]
 go_wp2
 rw[rounds_succ]
 go_wp2_with fail
 refine(GR.out _).mono ?_
 rintro _ w0 ⟨v0,rfl,o0,b0⟩
 have HO0:=hide o0
 have HB0:=hide b0
 have c0:=b0.cell (p:=⟨g,0,none⟩) lg
 rw[h0]at c0
 have c1:=b0.cell (p:=⟨g,1,none⟩) lg
 rw[h1]at c1
 clear o0 b0
 go_wp2
 refine wp_loop_rounds 3 ?_
 rw[rounds_succ]
 go_wp2_with (first|(at_builtin;refine Km rfl _ _ rfl w.heap.size v0 (.slice a1 ps.length k1) [] [] ps rfl rfl HO0.out W0 (Ec.nil _) (P1.out.below HB0.out) (by have:=HL.out;simp;omega) HB0.out.size ?_;intro v1 w1 r1 ho1 hr1 hg1;have HB1:=hide (HB0.out.grown hg1 HB0.out.size (fun j hj=>(HO0.out.lt j hj).1));have HO1:=hide ho1;have HR1:=hide hr1;have c0:=HB1.out.cell (p:=⟨g,0,none⟩) lg;rw[h0]at c0;have c1:=HB1.out.cell (p:=⟨g,1,none⟩) lg;rw[h1]at c1;clear ho1 hg1 hr1))
 rw[rounds_succ]
 go_wp2_with (first|(at_builtin;refine Km rfl _ _ rfl w.heap.size v1 (.slice a2 qs.length k2) r1 ([]++ps) qs rfl rfl HO1.out W0 HR1.out (P2.out.below HB1.out) (by have:=HL.out;simp;omega) HB1.out.size ?_;intro v2 w2 r2 ho2 hr2 hg2;have HB2:=hide (HB1.out.grown hg2 HB1.out.size (fun j hj=>(HO1.out.lt j hj).1));have xh:=hide ho2;have HR2:=hide hr2;have c0:=HB2.out.cell (p:=⟨g,0,none⟩) lg;rw[h0]at c0;have c1:=HB2.out.cell (p:=⟨g,1,none⟩) lg;rw[h1]at c1;clear ho2 hg2 hr2))
 rw[rounds_succ]
 go_wp2
 go_ret
 exact⟨_,_,rfl,xh.out,by simpa using HR2.out,HB2.out⟩
end
section
open Go Go.RowKit
variable [∀(a b c d:Int),Decidable (BD a b c d)]
variable [∀(n f:Int),Decidable (A8 n f)]
variable [∀(a b c d:Nat),Decidable (Dj a b c d)]
variable [∀(x:T4),Decidable (Dr x)]
variable [∀(last:Int)(s:St),Decidable (Au last s)]
variable [∀(n:Int)(s:List Int),Decidable (Dt n s)]
variable [∀(x y:T4),Decidable (Gm x y)]
variable [∀(ts:List T4),Decidable (Asc ts)]
variable [∀(ts:List T4),Decidable (DU ts)]
variable [∀(ts:List T4),Decidable (JP ts)]
def Ho(id:Int):Bu:=⟨id,1,0,0,0,0,⟨#[]⟩,[],⟨#[]⟩,[],[],[],0,[]⟩
def Gn:Bu:=⟨0,0,0,0,0,0,⟨#[]⟩,[],⟨#[]⟩,[],[],[],0,[]⟩
theorem Ei.new(w:World)(id:Int):Ei w (Ho id) (.slice none 0 0) (.slice none 0 0) (.slice none 0 0) (.slice none 0 0) (.slice none 0 0):=
 ⟨⟨by simp[Ho],none,0,rfl,.inl rfl⟩,⟨by simp[Ho],none,0,rfl,.inl rfl⟩,⟨none,0,rfl,.inl rfl⟩,⟨by simp[Ho],none,0,rfl,⟨by simp[Ho],by unfold maxLen;omega⟩,.inl rfl⟩,Ib.nil w⟩
theorem JF.new(id:Int):JF (Ho id):=⟨by simp[Ho],by simp[Ho],by simp[Ho],by simp[Ho],by simp[Ho],fun p hp=>by simp[Ho]at hp,fun j hj=>by simp[Ho]at hj⟩
theorem RS.new(id:Int):RS (Ho id):=⟨(Nat.zero_le _:0≤1048576),(Nat.zero_le _:0≤1048576),fun p hp=>by simp[Ho]at hp,fun j hj=>by simp[Ho]at hj⟩
theorem Co{P:Program}{fn:Func}{p u:Tmp}{ty:TypeId}(h:fn.results= #[.cell p ty,.tmp u]){tmps:Array Value}{w:World}{g:Nat}{cs:Array Value}(d:TypeDesc)(L:Loc w g cs)(hp:tmps.getD p undef= .pointer (some ⟨g,0,none⟩))
 (hu:P.underlying ty=some d) (hd:isRow d=true) (hi:(P.info? ty).map (·.size)=some cs.size):(results fn tmps).run P w= .ok (.tuple #[.agg cs,tmps.getD u undef]) w:=by
 rw[results_cell_tmp h,hp]
 have:=VD L ty d hu hd hi
 simp[asAddr,this,Result.andThen]
end
end Go.Proofs.YtkmnfeihjjccmaaGreatDoor
