/- Lemmas; their conditions stand in each statement. -/
import Derived.Test.YtkmnfeihjjccmaaGreatDoorTLBA
set_option maxRecDepth 100000
set_option maxHeartbeats 16000000
set_option linter.unusedSectionVars false
namespace Go.Proofs.YtkmnfeihjjccmaaGreatDoor
section
open Go.RowKit
variable [∀(a b c d:Int),Decidable (BD a b c d)]
variable [∀(n f:Int),Decidable (A8 n f)]
variable [∀(n:Int)(s:List Int),Decidable (Dt n s)]
variable [∀(a b c d:Nat),Decidable (Dj a b c d)]
variable [∀(last:Int)(s:St),Decidable (Au last s)]
variable [∀(x:T4),Decidable (Dr x)]
def JW(n f:Int)(ps:List Pt):Bool:=ps.all (fun p=>DV n f p.1 p.2.1 p.2.2)&&rowP ps&&decide (ps.length≤20)
theorem row_iff(ps:List Pt):rowP ps=true↔∀j,j+1<ps.length→F7 (ps.getD j BG) (ps.getD (j+1) BG)=true:=by
 induction ps with
 |nil=>simp[rowP]
 | cons a t ih=>
  cases t with
  |nil=>simp[rowP]
  | cons b t=>
   rw[rowP,Bool.and_eq_true,ih]
   constructor
   ·rintro⟨h1,h2⟩ j hj
    cases j with
    |zero=>simpa using h1
    |succ j=>simpa using h2 j (by simpa using hj)
   intro h
   refine⟨by simpa using h 0 (by simp),fun j hj=>?_⟩
   have:=h (j+1) (by simpa using hj)
   simpa using this
theorem lL{n f:Int}{ps:List Pt}{k:Nat}(hk:k<ps.length)(h:DV n f (ps.getD k BG).1 (ps.getD k BG).2.1 (ps.getD k BG).2.2=false):JW n f ps=false:=by
 unfold JW
 have:ps.all (fun p=>DV n f p.1 p.2.1 p.2.2)=false:=by
  rw[List.all_eq_false]
  exact⟨_,Jb hk,by rw[h];simp⟩
 rw[this];rfl
theorem lK{n f:Int}{ps:List Pt}{j:Nat}(hj:j+1<ps.length)(h:F7 (ps.getD j BG) (ps.getD (j+1) BG)=false):JW n f ps=false:=by
 unfold JW
 have:rowP ps=false:=by
  rw[Bool.eq_false_iff]
  intro e
  have:=(row_iff ps).1 e j hj
  rw[h]at this
  cases this
 rw[this];simp
theorem lJ{n f:Int}{ps:List Pt}(h1:∀j,j<ps.length→DV n f (ps.getD j BG).1 (ps.getD j BG).2.1 (ps.getD j BG).2.2=true)(h2:∀j,j+1<ps.length→F7 (ps.getD j BG) (ps.getD (j+1) BG)=true):JW n f ps=decide (ps.length≤20):=by
 unfold JW
 have e1:ps.all (fun p=>DV n f p.1 p.2.1 p.2.2)=true:=by
  rw[List.all_eq_true]
  intro p hp
  obtain⟨j,hj,rfl⟩:=List.getElem_of_mem hp
  have:=h1 j hj
  simpa[List.getElem?_eq_getElem hj]using this
 rw[e1,(row_iff ps).2 h2];rfl

theorem Ua(n f:Int)(v:Value)(ps:List Pt)(w:World)(hl:ps.length≤4194304)(hs:∀p ∈ ps,p.2.1.size≤1048576)(h:NP w v ps):
 Calls Tryz.prog 68 #[cv n f,v] w fun e w'=>e= .returned (.bool (JW n f ps))∧Below w.heap.size w w':=by
 obtain⟨ao,ca,rfl⟩:=h.form
 obtain⟨len,hn⟩:∃len,ps.length=len:=⟨_,rfl⟩
 have Hn:=hide hn
 have HSZ:=hide hs
 obtain⟨w0,hw0⟩:∃y,w.alloc (.cells #[.int .i64 n,.int .i64 f] 57)=y:=⟨_,rfl⟩
 have B0:Below w.heap.size w w0:=hw0▸Ag _ _
 have L0:Loc w0 w.heap.size #[.int .i64 n,.int .i64 f]:=hw0▸AB w _ _ rfl
 have H:=hide (h.below B0)
 obtain⟨r,hr⟩:∃r,JW n f ps=r:=⟨_,rfl⟩
 have N1:Hid (∀k,k<ps.length→DV n f (ps.getD k BG).1 (ps.getD k BG).2.1 (ps.getD k BG).2.2=false→r=false):=hide fun k hk h=>hr▸lL hk h
 have N2:Hid (∀j,j+1<ps.length→F7 (ps.getD j BG) (ps.getD (j+1) BG)=false→r=false):=hide fun j hj h=>hr▸lK hj h
 have YE:Hid ((∀j,j<ps.length→DV n f (ps.getD j BG).1 (ps.getD j BG).2.1 (ps.getD j BG).2.2=true)→(∀j,j+1<ps.length→F7 (ps.getD j BG) (ps.getD (j+1) BG)=true)→r=decide (len≤20)):=hide fun h1 h2=>by rw[←hr,lJ h1 h2,hn]
 rw[hn]at hl H⊢
 rw[hr]
 clear h hn hs hr
 go_enter Tryz.func68,Tryz.ntmps68
 go_wp2
 clear hw0
 go_loopw [5] (fun i wr=>∃k:Nat,k≤len∧i= .int .i64 k∧Hid (∀j,j<k→DV n f (ps.getD j BG).1 (ps.getD j BG).2.1 (ps.getD j BG).2.2=true)∧Hid (∀j,j+1<k→F7 (ps.getD j BG) (ps.getD (j+1) BG)=true)∧Below w0.heap.size w0 wr) (fun i _=>len-(intOf i).toNat)
 case atStart=>exact⟨0,Nat.zero_le _,rfl,hide (fun j hj=>by omega),hide (fun j hj=>by omega),Below.refl _ _⟩
 case round=>
  obtain⟨k,hk,rfl,HA,HB,bb⟩:=hrel
  have oq:=bu B0 bb
  have LC:=L0.up bb
  have Br:=bb
  have HW:=H.out.below bb
  by_cases hlt:k<len
  ·have hkx:k<ps.length:=by have:=Hn.out;omega
   obtain⟨g,off,u,hao,c0,c1,c2,ru⟩:=HW.at k hkx
   have hsz:=HSZ.out _ (Jb hkx)
   have zV:=hide (N1.out k hkx)
   have zT:Hid (∀j,k=j+1→F7 (ps.getD j BG) (ps.getD k BG)=false→r=false):=hide fun j hj h=>N2.out j (by omega) (by rw[←hj];exact h)
   have HA2:Hid (DV n f (ps.getD k BG).1 (ps.getD k BG).2.1 (ps.getD k BG).2.2=true→∀j,j<k+1→DV n f (ps.getD j BG).1 (ps.getD j BG).2.1 (ps.getD j BG).2.2=true):=hide fun h j hj=>by by_cases e:j=k;subst e;exact h;exact HA.out j (by omega)
   have HB2:Hid ((∀j,k=j+1→F7 (ps.getD j BG) (ps.getD k BG)=true)→∀j,j+1<k+1→F7 (ps.getD j BG) (ps.getD (j+1) BG)=true):=hide fun h j hj=>by by_cases e:k=j+1;have:=h j e;rwa [e]at this;exact HB.out j (by omega)
   have oo:Hid (∀j,k=j+1→∃u',wr.cell? ⟨g,off+j*3,none⟩=some (.int .i64 (ps.getD j BG).1)∧wr.cell? ⟨g,off+j*3+1,none⟩=some (.string (ps.getD j BG).2.1)∧wr.cell? ⟨g,off+j*3+2,none⟩=some u'∧RI wr u' (ps.getD j BG).2.2):=hide fun j hj=>by
    obtain⟨g',off',u',e,d0,d1,d2,pF⟩:=HW.at j (by omega)
    rw[hao]at e
    injection e with e
    injection e with e1 e2
    subst e1 e2
    exact⟨u',d0,d1,d2,pF⟩
   subst hao
   generalize hx:ps.getD k BG=x at *
   obtain⟨m,s,xs⟩:=x
   simp only at c0 c1 ru hsz zV HA2
   have PO:=hide fun w h=>Et n f m s u xs w hsz h
   obtain⟨ua,uc,rfl⟩:=ru.form
   have RU:=hide fun w'(hb':Below wr.heap.size wr w')=>ru.below hb'
   generalize DV n f m s xs=pk at *
   obtain⟨xl,hxl⟩:∃l,xs.length=l:=⟨_,rfl⟩
   rw[hxl]at PO RU c2
   clear ru HW H N1 N2 YE HA HB hx hxl
   cases pk
   ·have e:=zV.out rfl
    subst e
    clear zV zT HA2 HB2 oo
    obtain⟨Ae,Aj⟩:=Cr LC 0 1
    have K:Hid (∀w',Below wr.heap.size wr w'→(fun w'=>Below wr.heap.size wr w'∧(w'.cell? ⟨w.heap.size,0,none⟩=some (.int .i64 n)∧w'.cell? ⟨w.heap.size,1,none⟩=some (.int .i64 f))∧w'.cell? ⟨g,off+k*3,none⟩=some (.int .i64 m)∧w'.cell? ⟨g,off+k*3+1,none⟩=some (.string s)∧w'.cell? ⟨g,off+k*3+2,none⟩=some (.slice ua xl uc)) w'):=hide fun w' hb'=>⟨hb',⟨(LC.up hb').cell 0 rfl,(LC.up hb').cell 1 rfl⟩,(hb'.cell (p:=⟨g,off+k*3,none⟩) (AY c0)).trans c0,(hb'.cell (p:=⟨g,off+k*3+1,none⟩) (AY c1)).trans c1,(hb'.cell (p:=⟨g,off+k*3+2,none⟩) (AY c2)).trans c2⟩
    go_upto_region 4 with fail
    refine Ey K (fun bA hHeld=>?_)
    refine tx 0 12 ?_
    refine tx 1 13 ?_
    refine tx 2 14 ?_
    refine tx 3 15 ?_
    refine tx 4 16 ?_
    refine rd 5 rfl (fun KK AA=>?_)
    go_simp
    have hgo:=bA
    refine(PO.out _ (RU.out _ hgo)).mono ?_
    rintro e NV ⟨rfl,bb⟩
    have Ao:Below wr.heap.size wr NV:=bu bA bb
    clear RU bA hgo bb hHeld
    refine AA.out _ _ (K.out _ Ao) (fun hHeld=>?_)
    clear AA KK
    refine tx 6 18 ?_
    refine tx 7 19 ?_
    refine sx 8 20 ?_
    refine sx 9 21 ?_
    refine sx 10 22 ?_
    refine sx 11 23 ?_
    refine sx 12 24 ?_
    refine sx 16 28 ?_
    refine sx 17 29 ?_
    refine sx 13 25 ?_
    refine sx 18 30 ?_
    refine sx 14 26 ?_
    refine sx 19 31 ?_
    refine sx 15 27 ?_
    refine sx 20 32 ?_
    refine sx 21 33 ?_
    refine sx 22 34 ?_
    refine tx 23 35 ?_
    clear hHeld
    refine Bt ?_
    have bb:=Ao
    have kI:=bu oq bb
    have qo:=bb.size
    replace LC:=LC.up bb
    replace Br:=bu Br bb
    clear oq bb Ao K Ae Aj
    go_wp2
    go_ret
    exact⟨rfl,kI⟩
   have HA3:=hide (HA2.out rfl)
   clear zV HA2
   by_cases hk0:k=0
   ·have HB3:=hide (HB2.out (fun j hj=>by omega))
    clear zT HB2 oo
    subst hk0
    simp only[Nat.zero_mul,Nat.add_zero]at c0 c1 c2
    obtain⟨Ae,Aj⟩:=Cr LC 0 1
    have K:Hid (∀w',Below wr.heap.size wr w'→(fun w'=>Below wr.heap.size wr w'∧(w'.cell? ⟨w.heap.size,0,none⟩=some (.int .i64 n)∧w'.cell? ⟨w.heap.size,1,none⟩=some (.int .i64 f))∧w'.cell? ⟨g,off,none⟩=some (.int .i64 m)∧w'.cell? ⟨g,off+1,none⟩=some (.string s)∧w'.cell? ⟨g,off+2,none⟩=some (.slice ua xl uc)) w'):=hide fun w' hb'=>⟨hb',⟨(LC.up hb').cell 0 rfl,(LC.up hb').cell 1 rfl⟩,(hb'.cell (p:=⟨g,off,none⟩) (AY c0)).trans c0,(hb'.cell (p:=⟨g,off+1,none⟩) (AY c1)).trans c1,(hb'.cell (p:=⟨g,off+2,none⟩) (AY c2)).trans c2⟩
    go_upto_region 4 with fail
    refine Ey K (fun bA hHeld=>?_)
    refine tx 0 12 ?_
    refine tx 1 13 ?_
    refine tx 2 14 ?_
    refine tx 3 15 ?_
    refine tx 4 16 ?_
    refine rd 5 rfl (fun KK AA=>?_)
    go_simp
    have hgo:=bA
    refine(PO.out _ (RU.out _ hgo)).mono ?_
    rintro e NV ⟨rfl,bb⟩
    have Ao:Below wr.heap.size wr NV:=bu bA bb
    clear RU bA hgo bb hHeld
    refine AA.out _ _ (K.out _ Ao) (fun hHeld=>?_)
    clear AA KK
    refine tx 6 18 ?_
    refine tx 7 19 ?_
    refine tx 8 20 ?_
    refine tx 9 21 ?_
    refine tx 10 22 ?_
    refine sx 11 23 ?_
    refine sx 12 24 ?_
    refine sx 16 28 ?_
    refine sx 17 29 ?_
    refine sx 13 25 ?_
    refine sx 18 30 ?_
    refine sx 14 26 ?_
    refine sx 19 31 ?_
    refine sx 15 27 ?_
    refine sx 20 32 ?_
    refine sx 21 33 ?_
    refine tx 22 34 ?_
    refine tx 23 35 ?_
    clear hHeld
    refine Bt ?_
    have bb:=Ao
    have kI:=bu oq bb
    have qo:=bb.size
    replace LC:=LC.up bb
    replace Br:=bu Br bb
    clear oq bb Ao K Ae Aj
    go_wp2
    go_roundw
    case rel=>exact⟨0+1,by omega,by go_num,HA3,HB3,Br⟩
    case measure=>simp[intOf];omega
   obtain⟨j,hj⟩:∃j,k=j+1:=⟨k-1,by omega⟩
   have zU:=hide (zT.out j hj)
   obtain⟨u',d0,d1,d2,pF⟩:=oo.out j hj
   have HB3:Hid (F7 (ps.getD j BG) (m,s,xs)=true→∀j,j+1<k+1→F7 (ps.getD j BG) (ps.getD (j+1) BG)=true):=hide fun h=>HB2.out (fun i hi=>by obtain rfl:i=j:=(by omega);exact h)
   clear zT HB2 oo hk0
   subst hj
   generalize ps.getD j BG=y at *
   obtain⟨m',s',xs'⟩:=y
   simp only at d0 d1 pF zU HB3
   obtain⟨va,vc,rfl⟩:=pF.form
   generalize xs'.length=yl at *
   clear pF
   have BE:=hide fun w=>P9 m' m s' s (.slice va yl vc) (.slice ua xl uc) xs' xs w
   generalize F7 (m',s',xs') (m,s,xs)=be at *
   have hg1:decide ((0:Int)<(j:Int)+1)=true:=decide_eq_true (by omega)
   have hwm:IntKind.i64.wrap (j:Int)=j:=by simp only[IntKind.wrap_i64];omega
   cases be
   ·have e:=zU.out rfl
    subst e
    clear zU HB3
    obtain⟨Ae,Aj⟩:=Cr LC 0 1
    have K:Hid (∀w',Below wr.heap.size wr w'→(fun w'=>Below wr.heap.size wr w'∧(w'.cell? ⟨w.heap.size,0,none⟩=some (.int .i64 n)∧w'.cell? ⟨w.heap.size,1,none⟩=some (.int .i64 f))∧w'.cell? ⟨g,off+(j+1)*3,none⟩=some (.int .i64 m)∧w'.cell? ⟨g,off+(j+1)*3+1,none⟩=some (.string s)∧w'.cell? ⟨g,off+(j+1)*3+2,none⟩=some (.slice ua xl uc)∧w'.cell? ⟨g,off+j*3,none⟩=some (.int .i64 m')∧w'.cell? ⟨g,off+j*3+1,none⟩=some (.string s')∧w'.cell? ⟨g,off+j*3+2,none⟩=some (.slice va yl vc)) w'):=hide fun w' hb'=>⟨hb',⟨(LC.up hb').cell 0 rfl,(LC.up hb').cell 1 rfl⟩,(hb'.cell (p:=⟨g,off+(j+1)*3,none⟩) (AY c0)).trans c0,(hb'.cell (p:=⟨g,off+(j+1)*3+1,none⟩) (AY c1)).trans c1,(hb'.cell (p:=⟨g,off+(j+1)*3+2,none⟩) (AY c2)).trans c2,(hb'.cell (p:=⟨g,off+j*3,none⟩) (AY d0)).trans d0,(hb'.cell (p:=⟨g,off+j*3+1,none⟩) (AY d1)).trans d1,(hb'.cell (p:=⟨g,off+j*3+2,none⟩) (AY d2)).trans d2⟩
    go_upto_region 4 with fail
    refine Ey K (fun bA hHeld=>?_)
    refine tx 0 12 ?_
    refine tx 1 13 ?_
    refine tx 2 14 ?_
    refine take_at (i:=3) (d:=15) (v:=?_) rfl rfl (by kernel_rfl) (by kernel_rfl) (by kernel_rfl) (fun _ _ _ h=>h) (Or.inl ⟨by rfl,?_⟩) (by assumption) ?_
    rotate_left
    ·intro w hSw
     try dsimp only at hSw
     go_simp
     try rw[if_pos (by omega)]
     try with_reducible rfl
    simp only[pU]
    refine tx 4 16 ?_
    refine rd 5 rfl (fun KK AA=>?_)
    go_simp
    have hgo:=bA
    refine(PO.out _ (RU.out _ hgo)).mono ?_
    rintro e NV ⟨rfl,bb⟩
    have Ao:Below wr.heap.size wr NV:=bu bA bb
    clear RU bA hgo bb hHeld
    refine AA.out _ _ (K.out _ Ao) (fun hHeld=>?_)
    clear AA KK
    refine tx 6 18 ?_
    refine tx 7 19 ?_
    refine tx 8 20 ?_
    refine tx 9 21 ?_
    refine tx 10 22 ?_
    refine tx 11 23 ?_
    refine tx 12 24 ?_
    refine tx 16 28 ?_
    refine tx 17 29 ?_
    refine tx 13 25 ?_
    refine take_at (i:=18) (d:=30) (v:=?_) rfl rfl (by kernel_rfl) (by kernel_rfl) (by kernel_rfl) (fun _ _ _ h=>h) (Or.inl ⟨by rfl,?_⟩) (by assumption) ?_
    rotate_left
    ·intro w hSw
     try dsimp only at hSw
     go_simp
     try rw[if_pos (by omega)]
     try with_reducible rfl
    simp only[pU]
    refine take_at (i:=14) (d:=26) (v:=?_) rfl rfl (by kernel_rfl) (by kernel_rfl) (by kernel_rfl) (fun _ _ _ h=>h) (Or.inl ⟨by rfl,?_⟩) (by assumption) ?_
    rotate_left
    ·intro w hSw
     try dsimp only at hSw
     go_simp
     try rw[if_pos (by omega)]
     try with_reducible rfl
    simp only[pU]
    refine tx 19 31 ?_
    refine tx 15 27 ?_
    refine rd 20 rfl (fun KK AA=>?_)
    go_simp
    have hgo:=Ao
    refine(BE.out _).mono ?_
    rintro e fu ⟨rfl,bb⟩
    have BN:Below wr.heap.size wr fu:=bu Ao bb
    clear Ao hgo bb hHeld
    refine AA.out _ _ (K.out _ BN) (fun hHeld=>?_)
    clear AA KK
    refine tx 21 33 ?_
    refine tx 22 34 ?_
    refine tx 23 35 ?_
    clear hHeld
    refine Bt ?_
    have bb:=BN
    have kF:=bu oq bb
    have ql:=bb.size
    replace LC:=LC.up bb
    replace Br:=bu Br bb
    clear oq bb BN K Ae Aj
    go_wp2
    go_ret
    exact⟨rfl,kF⟩
   have HB4:=hide (HB3.out rfl)
   clear zU HB3
   obtain⟨Ae,Aj⟩:=Cr LC 0 1
   have K:Hid (∀w',Below wr.heap.size wr w'→(fun w'=>Below wr.heap.size wr w'∧(w'.cell? ⟨w.heap.size,0,none⟩=some (.int .i64 n)∧w'.cell? ⟨w.heap.size,1,none⟩=some (.int .i64 f))∧w'.cell? ⟨g,off+(j+1)*3,none⟩=some (.int .i64 m)∧w'.cell? ⟨g,off+(j+1)*3+1,none⟩=some (.string s)∧w'.cell? ⟨g,off+(j+1)*3+2,none⟩=some (.slice ua xl uc)∧w'.cell? ⟨g,off+j*3,none⟩=some (.int .i64 m')∧w'.cell? ⟨g,off+j*3+1,none⟩=some (.string s')∧w'.cell? ⟨g,off+j*3+2,none⟩=some (.slice va yl vc)) w'):=hide fun w' hb'=>⟨hb',⟨(LC.up hb').cell 0 rfl,(LC.up hb').cell 1 rfl⟩,(hb'.cell (p:=⟨g,off+(j+1)*3,none⟩) (AY c0)).trans c0,(hb'.cell (p:=⟨g,off+(j+1)*3+1,none⟩) (AY c1)).trans c1,(hb'.cell (p:=⟨g,off+(j+1)*3+2,none⟩) (AY c2)).trans c2,(hb'.cell (p:=⟨g,off+j*3,none⟩) (AY d0)).trans d0,(hb'.cell (p:=⟨g,off+j*3+1,none⟩) (AY d1)).trans d1,(hb'.cell (p:=⟨g,off+j*3+2,none⟩) (AY d2)).trans d2⟩
   go_upto_region 4 with fail
   refine Ey K (fun bA hHeld=>?_)
   refine tx 0 12 ?_
   refine tx 1 13 ?_
   refine tx 2 14 ?_
   refine take_at (i:=3) (d:=15) (v:=?_) rfl rfl (by kernel_rfl) (by kernel_rfl) (by kernel_rfl) (fun _ _ _ h=>h) (Or.inl ⟨by rfl,?_⟩) (by assumption) ?_
   rotate_left
   ·intro w hSw
    try dsimp only at hSw
    go_simp
    try rw[if_pos (by omega)]
    try with_reducible rfl
   simp only[pU]
   refine tx 4 16 ?_
   refine rd 5 rfl (fun KK AA=>?_)
   go_simp
   have hgo:=bA
   refine(PO.out _ (RU.out _ hgo)).mono ?_
   rintro e NV ⟨rfl,bb⟩
   have Ao:Below wr.heap.size wr NV:=bu bA bb
   clear RU bA hgo bb hHeld
   refine AA.out _ _ (K.out _ Ao) (fun hHeld=>?_)
   clear AA KK
   refine tx 6 18 ?_
   refine tx 7 19 ?_
   refine tx 8 20 ?_
   refine tx 9 21 ?_
   refine tx 10 22 ?_
   refine tx 11 23 ?_
   refine tx 12 24 ?_
   refine tx 16 28 ?_
   refine tx 17 29 ?_
   refine tx 13 25 ?_
   refine take_at (i:=18) (d:=30) (v:=?_) rfl rfl (by kernel_rfl) (by kernel_rfl) (by kernel_rfl) (fun _ _ _ h=>h) (Or.inl ⟨by rfl,?_⟩) (by assumption) ?_
   rotate_left
   ·intro w hSw
    try dsimp only at hSw
    go_simp
    try rw[if_pos (by omega)]
    try with_reducible rfl
   simp only[pU]
   refine take_at (i:=14) (d:=26) (v:=?_) rfl rfl (by kernel_rfl) (by kernel_rfl) (by kernel_rfl) (fun _ _ _ h=>h) (Or.inl ⟨by rfl,?_⟩) (by assumption) ?_
   rotate_left
   ·intro w hSw
    try dsimp only at hSw
    go_simp
    try rw[if_pos (by omega)]
    try with_reducible rfl
   simp only[pU]
   refine tx 19 31 ?_
   refine tx 15 27 ?_
   refine rd 20 rfl (fun KK AA=>?_)
   go_simp
   have hgo:=Ao
   refine(BE.out _).mono ?_
   rintro e fu ⟨rfl,bb⟩
   have BN:Below wr.heap.size wr fu:=bu Ao bb
   clear Ao hgo bb hHeld
   refine AA.out _ _ (K.out _ BN) (fun hHeld=>?_)
   clear AA KK
   refine tx 21 33 ?_
   refine tx 22 34 ?_
   refine tx 23 35 ?_
   clear hHeld
   refine Bt ?_
   have bb:=BN
   have kF:=bu oq bb
   have ql:=bb.size
   replace LC:=LC.up bb
   replace Br:=bu Br bb
   clear oq bb BN K Ae Aj
   go_wp2
   go_roundw
   case rel=>exact⟨j+1+1,by omega,by go_num,HA3,HB4,Br⟩
   case measure=>simp[intOf];omega
  have e:=YE.out (fun j hj=>HA.out j (by have:=Hn.out;omega)) (fun j hj=>HB.out j (by have:=Hn.out;omega))
  have hd:decide ((len:Int)≤20)=decide (len≤20):=by simp;omega
  subst e
  clear HA HB HW LC Br bb N1 N2 YE H
  go_wp2
  go_ret
  exact⟨rfl,oq⟩
end
section
open Go.RowKit
variable [∀(a b c d:Int),Decidable (BD a b c d)]
def bf(t:MT):MT:=⟨t.k,0,t.bn,t.bv,t.bs,t.bw,0,⟨#[]⟩,[],0,⟨#[]⟩,[],0,0,0,0,0⟩
def bV(t:MT):MT:=⟨t.k,0,⟨#[]⟩,0,⟨#[]⟩,[],t.pv,t.ps,t.pw,0,⟨#[]⟩,[],0,0,0,0,0⟩
def bT(t:MT):MT:=⟨t.k,t.vw,⟨#[]⟩,0,⟨#[]⟩,[],0,⟨#[]⟩,[],t.qv,t.qs,t.qw,t.wh,0,0,0,0⟩
def bS(t:MT):MT:=⟨t.k,0,⟨#[]⟩,0,⟨#[]⟩,[],0,⟨#[]⟩,[],0,⟨#[]⟩,[],0,t.fr,t.tu,t.am,t.no⟩
def mg(t:MT):MT:=⟨t.k,0,⟨#[]⟩,0,⟨#[]⟩,[],0,⟨#[]⟩,[],0,⟨#[]⟩,[],0,0,0,0,0⟩
def Oo(t:MT):MT:=if t.k=1 then bf t else if t.k=2 then bV t else if t.k=3 then bT t else if t.k=4 then bS t else mg t
theorem wQ{t:MT}(h:t.k=1):Oo t=bf t:=by unfold Oo;rw[if_pos h]
theorem wP{t:MT}(h:t.k=2):Oo t=bV t:=by unfold Oo;rw[if_neg (by omega),if_pos h]
theorem wO{t:MT}(h:t.k=3):Oo t=bT t:=by unfold Oo;rw[if_neg (by omega),if_neg (by omega),if_pos h]
theorem wN{t:MT}(h:t.k=4):Oo t=bS t:=by unfold Oo;rw[if_neg (by omega),if_neg (by omega),if_neg (by omega),if_pos h]
theorem AAZ{t:MT}(h1:¬t.k=1)(h2:¬t.k=2)(h3:¬t.k=3)(h4:¬t.k=4):Oo t=mg t:=by unfold Oo;rw[if_neg h1,if_neg h2,if_neg h3,if_neg h4]
def J6(t:MT):Bool:=Dm (Oo t) t
theorem Cg(w:World):RI w (.slice none 0 0) []:=⟨by simp,.none,0,rfl,.inl rfl⟩
theorem kinds(k:Int):k=1∨k=2∨k=3∨k=4∨(¬k=1∧¬k=2∧¬k=3∧¬k=4):=by omega
theorem dJ(t:MT)(ao bo co:Option Addr)(ca cb cc:Nat)(w:World)(hk:t.k=1)(ha:RI w (.slice ao t.bw.length ca) t.bw)(hb:RI w (.slice bo t.pw.length cb) t.pw)(hc:RI w (.slice co t.qw.length cc) t.qw):
 Calls Tryz.prog 98 #[Dp t (.slice ao t.bw.length ca) (.slice bo t.pw.length cb) (.slice co t.qw.length cc)] w fun e w'=>e= .returned (.bool (Dm (bf t) t))∧Below w.heap.size w w':=by
 have dk1:decide (t.k=1)=true:=by simpa using hk
 have ZZ:(t.k==1)=true:=by simpa using hk
 have SM:=hide fun w h1 h2 h3 h4 h5 h6=>E5 (bf t) t ao .none .none ao bo co ca 0 0 ca cb cc w h1 h2 h3 h4 h5 h6
 have HK:=hide hk
 clear hk
 have ha1:=hide ha
 have hb1:=hide hb
 have hc1:=hide hc
 clear ha hb hc
 obtain⟨w0,hw0,AO,A,DN⟩:=bx1 w #[.int .i64 t.k,.int .i64 t.vw,.string t.bn,.int .i64 t.bv,.string t.bs,.slice ao t.bw.length ca,.int .i64 t.pv,.string t.ps,.slice bo t.pw.length cb,.int .i64 t.qv,.string t.qs,.slice co t.qw.length cc,.int .i64 t.wh,.int .i64 t.fr,.int .i64 t.tu,.int .i64 t.am,.int .i64 t.no] 65
 go_enter Tryz.func98,Tryz.ntmps98
 have Bn:=A.cell 0 rfl
 go_upto_region 2 with fail
 clear hw0 Bn
 obtain⟨w1,hw1⟩:∃y,w0.alloc (.cells #[.int .i64 t.k,.int .i64 0,.string ⟨#[]⟩,.int .i64 0,.string ⟨#[]⟩,.slice none 0 0,.int .i64 0,.string ⟨#[]⟩,.slice none 0 0,.int .i64 0,.string ⟨#[]⟩,.slice none 0 0,.int .i64 0,.int .i64 0,.int .i64 0,.int .i64 0,.int .i64 0] 65)=y:=⟨_,rfl⟩
 have bb:Below w0.heap.size w0 w1:=hw1▸Ag _ _
 have X:Loc w1 w0.heap.size #[.int .i64 t.k,.int .i64 0,.string ⟨#[]⟩,.int .i64 0,.string ⟨#[]⟩,.slice none 0 0,.int .i64 0,.string ⟨#[]⟩,.slice none 0 0,.int .i64 0,.string ⟨#[]⟩,.slice none 0 0,.int .i64 0,.int .i64 0,.int .i64 0,.int .i64 0,.int .i64 0]:=hw1▸AB w0 _ _ rfl
 have o6:w0.heap.size+1≤w1.heap.size:=by rw[←hw1];simp
 rw[hw1]
 clear hw1
 have AP:=bu AO bb
 have Ct:=bb.size
 replace A:=A.up bb
 clear AO bb
 obtain⟨Bn,DW,Eh,FC,F6⟩:=Zb A 0 2 3 4 5
 obtain⟨cX2,cX3,cX4,cX5⟩:=WO X 2 3 4 5
 have fX:=X.frozen
 go_upto_region 13 with fail
 clear Bn DW Eh FC F6 cX2 cX3 cX4 cX5 fX
 obtain⟨w2,hw2⟩:∃Cj,((((w1.setCell ⟨w0.heap.size,2,none⟩ (.string t.bn)).setCell ⟨w0.heap.size,3,none⟩ (.int .i64 t.bv)).setCell ⟨w0.heap.size,4,none⟩ (.string t.bs)).setCell ⟨w0.heap.size,5,none⟩ (.slice ao t.bw.length ca))=Cj:=⟨_,rfl⟩
 have kN:Kp w1 w2 (fun k=>k=w0.heap.size):=hw2▸(((AJ _ _ _ _).trans (AJ _ _ _ _)).trans (AJ _ _ _ _)).trans (AJ _ _ _ _)
 replace X:Loc w2 (w0.heap.size) #[.int .i64 t.k,.int .i64 0,.string t.bn,.int .i64 t.bv,.string t.bs,.slice ao t.bw.length ca,.int .i64 0,.string ⟨#[]⟩,.slice none 0 0,.int .i64 0,.string ⟨#[]⟩,.slice none 0 0,.int .i64 0,.int .i64 0,.int .i64 0,.int .i64 0,.int .i64 0]:=hw2▸((((X.set 2 _ rfl).set 3 _ rfl).set 4 _ rfl).set 5 _ rfl)
 replace A:=A.kp kN (by omega)
 have Am:=Below.kp AP kN AP.size (fun k hk=>by omega)
 have El:=kN.size
 rw[hw2]
 clear hw2 kN AP
 have Zg:=SM.out _ (ha1.out.below Am) (Cg _) (Cg _) (ha1.out.below Am) (hb1.out.below Am) (hc1.out.below Am)
 clear SM ha1 hb1 hc1
 have H5:=hide Zg
 clear Zg
 go_wp2_with (first|(refine Ap X 65 _ rfl _ rfl rfl Tryz.underlying65 rfl (by kernel_rfl) ?_)|(refine Ap A 65 _ rfl _ rfl rfl Tryz.underlying65 rfl (by kernel_rfl) ?_))
 refine H5.out.mono ?_
 rintro _ w3 ⟨rfl,bb⟩
 have BP:=bu Am bb
 have IZ:=bb.size
 replace A:=A.up bb
 replace X:=X.up bb
 clear Am bb
 go_wp2
 go_ret
 exact⟨rfl,BP⟩

theorem dI(t:MT)(ao bo co:Option Addr)(ca cb cc:Nat)(w:World)(hk:t.k=2)(ha:RI w (.slice ao t.bw.length ca) t.bw)(hb:RI w (.slice bo t.pw.length cb) t.pw)(hc:RI w (.slice co t.qw.length cc) t.qw):
 Calls Tryz.prog 98 #[Dp t (.slice ao t.bw.length ca) (.slice bo t.pw.length cb) (.slice co t.qw.length cc)] w fun e w'=>e= .returned (.bool (Dm (bV t) t))∧Below w.heap.size w w':=by
 have dk1:decide (t.k=1)=false:=by simp;omega
 have ZZ:(t.k==1)=false:=by simp;omega
 have dk2:decide (t.k=2)=true:=by simpa using hk
 have jW:(t.k==2)=true:=by simpa using hk
 have SM:=hide fun w h1 h2 h3 h4 h5 h6=>E5 (bV t) t .none bo .none ao bo co 0 cb 0 ca cb cc w h1 h2 h3 h4 h5 h6
 have HK:=hide hk
 clear hk
 have ha1:=hide ha
 have hb1:=hide hb
 have hc1:=hide hc
 clear ha hb hc
 obtain⟨w0,hw0,AO,A,DN⟩:=bx1 w #[.int .i64 t.k,.int .i64 t.vw,.string t.bn,.int .i64 t.bv,.string t.bs,.slice ao t.bw.length ca,.int .i64 t.pv,.string t.ps,.slice bo t.pw.length cb,.int .i64 t.qv,.string t.qs,.slice co t.qw.length cc,.int .i64 t.wh,.int .i64 t.fr,.int .i64 t.tu,.int .i64 t.am,.int .i64 t.no] 65
 go_enter Tryz.func98,Tryz.ntmps98
 have Bn:=A.cell 0 rfl
 go_upto_region 2 with fail
 clear hw0 Bn
 obtain⟨w1,hw1⟩:∃y,w0.alloc (.cells #[.int .i64 t.k,.int .i64 0,.string ⟨#[]⟩,.int .i64 0,.string ⟨#[]⟩,.slice none 0 0,.int .i64 0,.string ⟨#[]⟩,.slice none 0 0,.int .i64 0,.string ⟨#[]⟩,.slice none 0 0,.int .i64 0,.int .i64 0,.int .i64 0,.int .i64 0,.int .i64 0] 65)=y:=⟨_,rfl⟩
 have bb:Below w0.heap.size w0 w1:=hw1▸Ag _ _
 have X:Loc w1 w0.heap.size #[.int .i64 t.k,.int .i64 0,.string ⟨#[]⟩,.int .i64 0,.string ⟨#[]⟩,.slice none 0 0,.int .i64 0,.string ⟨#[]⟩,.slice none 0 0,.int .i64 0,.string ⟨#[]⟩,.slice none 0 0,.int .i64 0,.int .i64 0,.int .i64 0,.int .i64 0,.int .i64 0]:=hw1▸AB w0 _ _ rfl
 have o6:w0.heap.size+1≤w1.heap.size:=by rw[←hw1];simp
 rw[hw1]
 clear hw1
 have AP:=bu AO bb
 have Ct:=bb.size
 replace A:=A.up bb
 clear AO bb
 obtain⟨Bn,Gh,GL,Gg⟩:=WO A 0 6 7 8
 obtain⟨cX6,cX7,cX8⟩:=Bv X 6 7 8
 have fX:=X.frozen
 go_upto_region 13 with fail
 clear Bn Gh GL Gg cX6 cX7 cX8 fX
 obtain⟨w2,hw2⟩:∃Cj,(((w1.setCell ⟨w0.heap.size,6,none⟩ (.int .i64 t.pv)).setCell ⟨w0.heap.size,7,none⟩ (.string t.ps)).setCell ⟨w0.heap.size,8,none⟩ (.slice bo t.pw.length cb))=Cj:=⟨_,rfl⟩
 have kN:Kp w1 w2 (fun k=>k=w0.heap.size):=hw2▸((AJ _ _ _ _).trans (AJ _ _ _ _)).trans (AJ _ _ _ _)
 replace X:Loc w2 (w0.heap.size) #[.int .i64 t.k,.int .i64 0,.string ⟨#[]⟩,.int .i64 0,.string ⟨#[]⟩,.slice none 0 0,.int .i64 t.pv,.string t.ps,.slice bo t.pw.length cb,.int .i64 0,.string ⟨#[]⟩,.slice none 0 0,.int .i64 0,.int .i64 0,.int .i64 0,.int .i64 0,.int .i64 0]:=hw2▸(((X.set 6 _ rfl).set 7 _ rfl).set 8 _ rfl)
 replace A:=A.kp kN (by omega)
 have Am:=Below.kp AP kN AP.size (fun k hk=>by omega)
 have El:=kN.size
 rw[hw2]
 clear hw2 kN AP
 have Zg:=SM.out _ (Cg _) (hb1.out.below Am) (Cg _) (ha1.out.below Am) (hb1.out.below Am) (hc1.out.below Am)
 clear SM ha1 hb1 hc1
 have H5:=hide Zg
 clear Zg
 go_wp2_with (first|(refine Ap X 65 _ rfl _ rfl rfl Tryz.underlying65 rfl (by kernel_rfl) ?_)|(refine Ap A 65 _ rfl _ rfl rfl Tryz.underlying65 rfl (by kernel_rfl) ?_))
 refine H5.out.mono ?_
 rintro _ w3 ⟨rfl,bb⟩
 have BP:=bu Am bb
 have IZ:=bb.size
 replace A:=A.up bb
 replace X:=X.up bb
 clear Am bb
 go_wp2
 go_ret
 exact⟨rfl,BP⟩

theorem dF(t:MT)(ao bo co:Option Addr)(ca cb cc:Nat)(w:World)(hk:t.k=3)(ha:RI w (.slice ao t.bw.length ca) t.bw)(hb:RI w (.slice bo t.pw.length cb) t.pw)(hc:RI w (.slice co t.qw.length cc) t.qw):
 Calls Tryz.prog 98 #[Dp t (.slice ao t.bw.length ca) (.slice bo t.pw.length cb) (.slice co t.qw.length cc)] w fun e w'=>e= .returned (.bool (Dm (bT t) t))∧Below w.heap.size w w':=by
 have dk1:decide (t.k=1)=false:=by simp;omega
 have ZZ:(t.k==1)=false:=by simp;omega
 have dk2:decide (t.k=2)=false:=by simp;omega
 have jW:(t.k==2)=false:=by simp;omega
 have dk3:decide (t.k=3)=true:=by simpa using hk
 have qF:(t.k==3)=true:=by simpa using hk
 have SM:=hide fun w h1 h2 h3 h4 h5 h6=>E5 (bT t) t .none .none co ao bo co 0 0 cc ca cb cc w h1 h2 h3 h4 h5 h6
 have HK:=hide hk
 clear hk
 have ha1:=hide ha
 have hb1:=hide hb
 have hc1:=hide hc
 clear ha hb hc
 obtain⟨w0,hw0,AO,A,DN⟩:=bx1 w #[.int .i64 t.k,.int .i64 t.vw,.string t.bn,.int .i64 t.bv,.string t.bs,.slice ao t.bw.length ca,.int .i64 t.pv,.string t.ps,.slice bo t.pw.length cb,.int .i64 t.qv,.string t.qs,.slice co t.qw.length cc,.int .i64 t.wh,.int .i64 t.fr,.int .i64 t.tu,.int .i64 t.am,.int .i64 t.no] 65
 go_enter Tryz.func98,Tryz.ntmps98
 have Bn:=A.cell 0 rfl
 go_upto_region 2 with fail
 clear hw0 Bn
 obtain⟨w1,hw1⟩:∃y,w0.alloc (.cells #[.int .i64 t.k,.int .i64 0,.string ⟨#[]⟩,.int .i64 0,.string ⟨#[]⟩,.slice none 0 0,.int .i64 0,.string ⟨#[]⟩,.slice none 0 0,.int .i64 0,.string ⟨#[]⟩,.slice none 0 0,.int .i64 0,.int .i64 0,.int .i64 0,.int .i64 0,.int .i64 0] 65)=y:=⟨_,rfl⟩
 have bb:Below w0.heap.size w0 w1:=hw1▸Ag _ _
 have X:Loc w1 w0.heap.size #[.int .i64 t.k,.int .i64 0,.string ⟨#[]⟩,.int .i64 0,.string ⟨#[]⟩,.slice none 0 0,.int .i64 0,.string ⟨#[]⟩,.slice none 0 0,.int .i64 0,.string ⟨#[]⟩,.slice none 0 0,.int .i64 0,.int .i64 0,.int .i64 0,.int .i64 0,.int .i64 0]:=hw1▸AB w0 _ _ rfl
 have o6:w0.heap.size+1≤w1.heap.size:=by rw[←hw1];simp
 rw[hw1]
 clear hw1
 have AP:=bu AO bb
 have Ct:=bb.size
 replace A:=A.up bb
 clear AO bb
 obtain⟨Bn,DX⟩:=Cr A 0 1
 have cX1:=X.cell 1 rfl
 have fX:=X.frozen
 go_upto_region 9 with fail
 clear Bn DX cX1 fX
 obtain⟨w2,hw2⟩:∃Cj,(w1.setCell ⟨w0.heap.size,1,none⟩ (.int .i64 t.vw))=Cj:=⟨_,rfl⟩
 have kN:Kp w1 w2 (fun k=>k=w0.heap.size):=hw2▸AJ _ _ _ _
 replace X:Loc w2 (w0.heap.size) #[.int .i64 t.k,.int .i64 t.vw,.string ⟨#[]⟩,.int .i64 0,.string ⟨#[]⟩,.slice none 0 0,.int .i64 0,.string ⟨#[]⟩,.slice none 0 0,.int .i64 0,.string ⟨#[]⟩,.slice none 0 0,.int .i64 0,.int .i64 0,.int .i64 0,.int .i64 0,.int .i64 0]:=hw2▸(X.set 1 _ rfl)
 replace A:=A.kp kN (by omega)
 have Am:=Below.kp AP kN AP.size (fun k hk=>by omega)
 have El:=kN.size
 rw[hw2]
 clear hw2 kN AP
 obtain⟨Fb,CG,Ch⟩:=Bv A 9 10 11
 obtain⟨cX9,ABG,ABF⟩:=Bv X 9 10 11
 have fX:=X.frozen
 go_upto_region 10 with fail
 clear Fb CG Ch cX9 ABG ABF fX
 obtain⟨w3,hw3⟩:∃Cj,(((w2.setCell ⟨w0.heap.size,9,none⟩ (.int .i64 t.qv)).setCell ⟨w0.heap.size,10,none⟩ (.string t.qs)).setCell ⟨w0.heap.size,11,none⟩ (.slice co t.qw.length cc))=Cj:=⟨_,rfl⟩
 have kN:Kp w2 w3 (fun k=>k=w0.heap.size):=hw3▸((AJ _ _ _ _).trans (AJ _ _ _ _)).trans (AJ _ _ _ _)
 replace X:Loc w3 (w0.heap.size) #[.int .i64 t.k,.int .i64 t.vw,.string ⟨#[]⟩,.int .i64 0,.string ⟨#[]⟩,.slice none 0 0,.int .i64 0,.string ⟨#[]⟩,.slice none 0 0,.int .i64 t.qv,.string t.qs,.slice co t.qw.length cc,.int .i64 0,.int .i64 0,.int .i64 0,.int .i64 0,.int .i64 0]:=hw3▸(((X.set 9 _ rfl).set 10 _ rfl).set 11 _ rfl)
 replace A:=A.kp kN (by omega)
 have BP:=Below.kp Am kN Am.size (fun k hk=>by omega)
 have IZ:=kN.size
 rw[hw3]
 clear hw3 kN Am
 have Cy:=A.cell 12 rfl
 have ABE:=X.cell 12 rfl
 have fX:=X.frozen
 go_upto_region 13 with fail
 clear Cy ABE fX
 obtain⟨w4,hw4⟩:∃Cj,(w3.setCell ⟨w0.heap.size,12,none⟩ (.int .i64 t.wh))=Cj:=⟨_,rfl⟩
 have kN:Kp w3 w4 (fun k=>k=w0.heap.size):=hw4▸AJ _ _ _ _
 replace X:Loc w4 (w0.heap.size) #[.int .i64 t.k,.int .i64 t.vw,.string ⟨#[]⟩,.int .i64 0,.string ⟨#[]⟩,.slice none 0 0,.int .i64 0,.string ⟨#[]⟩,.slice none 0 0,.int .i64 t.qv,.string t.qs,.slice co t.qw.length cc,.int .i64 t.wh,.int .i64 0,.int .i64 0,.int .i64 0,.int .i64 0]:=hw4▸(X.set 12 _ rfl)
 replace A:=A.kp kN (by omega)
 have Cs:=Below.kp BP kN BP.size (fun k hk=>by omega)
 have Ph:=kN.size
 rw[hw4]
 clear hw4 kN BP
 have Zg:=SM.out _ (Cg _) (Cg _) (hc1.out.below Cs) (ha1.out.below Cs) (hb1.out.below Cs) (hc1.out.below Cs)
 clear SM ha1 hb1 hc1
 have H5:=hide Zg
 clear Zg
 go_wp2_with (first|(refine Ap X 65 _ rfl _ rfl rfl Tryz.underlying65 rfl (by kernel_rfl) ?_)|(refine Ap A 65 _ rfl _ rfl rfl Tryz.underlying65 rfl (by kernel_rfl) ?_))
 refine H5.out.mono ?_
 rintro _ w5 ⟨rfl,bb⟩
 have GZ:=bu Cs bb
 have fQ:=bb.size
 replace A:=A.up bb
 replace X:=X.up bb
 clear Cs bb
 go_wp2
 go_ret
 exact⟨rfl,GZ⟩

theorem dE(t:MT)(ao bo co:Option Addr)(ca cb cc:Nat)(w:World)(hk:t.k=4)(ha:RI w (.slice ao t.bw.length ca) t.bw)(hb:RI w (.slice bo t.pw.length cb) t.pw)(hc:RI w (.slice co t.qw.length cc) t.qw):
 Calls Tryz.prog 98 #[Dp t (.slice ao t.bw.length ca) (.slice bo t.pw.length cb) (.slice co t.qw.length cc)] w fun e w'=>e= .returned (.bool (Dm (bS t) t))∧Below w.heap.size w w':=by
 have dk1:decide (t.k=1)=false:=by simp;omega
 have ZZ:(t.k==1)=false:=by simp;omega
 have dk2:decide (t.k=2)=false:=by simp;omega
 have jW:(t.k==2)=false:=by simp;omega
 have dk3:decide (t.k=3)=false:=by simp;omega
 have qF:(t.k==3)=false:=by simp;omega
 have xJ:decide (t.k=4)=true:=by simpa using hk
 have xG:(t.k==4)=true:=by simpa using hk
 have SM:=hide fun w h1 h2 h3 h4 h5 h6=>E5 (bS t) t .none .none .none ao bo co 0 0 0 ca cb cc w h1 h2 h3 h4 h5 h6
 have HK:=hide hk
 clear hk
 have ha1:=hide ha
 have hb1:=hide hb
 have hc1:=hide hc
 clear ha hb hc
 obtain⟨w0,hw0,AO,A,DN⟩:=bx1 w #[.int .i64 t.k,.int .i64 t.vw,.string t.bn,.int .i64 t.bv,.string t.bs,.slice ao t.bw.length ca,.int .i64 t.pv,.string t.ps,.slice bo t.pw.length cb,.int .i64 t.qv,.string t.qs,.slice co t.qw.length cc,.int .i64 t.wh,.int .i64 t.fr,.int .i64 t.tu,.int .i64 t.am,.int .i64 t.no] 65
 go_enter Tryz.func98,Tryz.ntmps98
 have Bn:=A.cell 0 rfl
 go_upto_region 2 with fail
 clear hw0 Bn
 obtain⟨w1,hw1⟩:∃y,w0.alloc (.cells #[.int .i64 t.k,.int .i64 0,.string ⟨#[]⟩,.int .i64 0,.string ⟨#[]⟩,.slice none 0 0,.int .i64 0,.string ⟨#[]⟩,.slice none 0 0,.int .i64 0,.string ⟨#[]⟩,.slice none 0 0,.int .i64 0,.int .i64 0,.int .i64 0,.int .i64 0,.int .i64 0] 65)=y:=⟨_,rfl⟩
 have bb:Below w0.heap.size w0 w1:=hw1▸Ag _ _
 have X:Loc w1 w0.heap.size #[.int .i64 t.k,.int .i64 0,.string ⟨#[]⟩,.int .i64 0,.string ⟨#[]⟩,.slice none 0 0,.int .i64 0,.string ⟨#[]⟩,.slice none 0 0,.int .i64 0,.string ⟨#[]⟩,.slice none 0 0,.int .i64 0,.int .i64 0,.int .i64 0,.int .i64 0,.int .i64 0]:=hw1▸AB w0 _ _ rfl
 have o6:w0.heap.size+1≤w1.heap.size:=by rw[←hw1];simp
 rw[hw1]
 clear hw1
 have AP:=bu AO bb
 have Ct:=bb.size
 replace A:=A.up bb
 clear AO bb
 obtain⟨Bn,BU,DK,DJ,DF⟩:=Zb A 0 13 14 15 16
 obtain⟨ABD,ABC,ABB,ABA⟩:=WO X 13 14 15 16
 have fX:=X.frozen
 go_upto_region 13 with fail
 clear Bn BU DK DJ DF ABD ABC ABB ABA fX
 obtain⟨w2,hw2⟩:∃Cj,((((w1.setCell ⟨w0.heap.size,13,none⟩ (.int .i64 t.fr)).setCell ⟨w0.heap.size,14,none⟩ (.int .i64 t.tu)).setCell ⟨w0.heap.size,15,none⟩ (.int .i64 t.am)).setCell ⟨w0.heap.size,16,none⟩ (.int .i64 t.no))=Cj:=⟨_,rfl⟩
 have kN:Kp w1 w2 (fun k=>k=w0.heap.size):=hw2▸(((AJ _ _ _ _).trans (AJ _ _ _ _)).trans (AJ _ _ _ _)).trans (AJ _ _ _ _)
 replace X:Loc w2 (w0.heap.size) #[.int .i64 t.k,.int .i64 0,.string ⟨#[]⟩,.int .i64 0,.string ⟨#[]⟩,.slice none 0 0,.int .i64 0,.string ⟨#[]⟩,.slice none 0 0,.int .i64 0,.string ⟨#[]⟩,.slice none 0 0,.int .i64 0,.int .i64 t.fr,.int .i64 t.tu,.int .i64 t.am,.int .i64 t.no]:=hw2▸((((X.set 13 _ rfl).set 14 _ rfl).set 15 _ rfl).set 16 _ rfl)
 replace A:=A.kp kN (by omega)
 have Am:=Below.kp AP kN AP.size (fun k hk=>by omega)
 have El:=kN.size
 rw[hw2]
 clear hw2 kN AP
 have Zg:=SM.out _ (Cg _) (Cg _) (Cg _) (ha1.out.below Am) (hb1.out.below Am) (hc1.out.below Am)
 clear SM ha1 hb1 hc1
 have H5:=hide Zg
 clear Zg
 go_wp2_with (first|(refine Ap X 65 _ rfl _ rfl rfl Tryz.underlying65 rfl (by kernel_rfl) ?_)|(refine Ap A 65 _ rfl _ rfl rfl Tryz.underlying65 rfl (by kernel_rfl) ?_))
 refine H5.out.mono ?_
 rintro _ w3 ⟨rfl,bb⟩
 have BP:=bu Am bb
 have IZ:=bb.size
 replace A:=A.up bb
 replace X:=X.up bb
 clear Am bb
 go_wp2
 go_ret
 exact⟨rfl,BP⟩

theorem dK(t:MT)(ao bo co:Option Addr)(ca cb cc:Nat)(w:World)(h1:¬t.k=1)(h2:¬t.k=2)(h3:¬t.k=3)(h4:¬t.k=4)(ha:RI w (.slice ao t.bw.length ca) t.bw)(hb:RI w (.slice bo t.pw.length cb) t.pw)(hc:RI w (.slice co t.qw.length cc) t.qw):
 Calls Tryz.prog 98 #[Dp t (.slice ao t.bw.length ca) (.slice bo t.pw.length cb) (.slice co t.qw.length cc)] w fun e w'=>e= .returned (.bool (Dm (mg t) t))∧Below w.heap.size w w':=by
 have dk1:decide (t.k=1)=false:=by simp;omega
 have ZZ:(t.k==1)=false:=by simp;omega
 have dk2:decide (t.k=2)=false:=by simp;omega
 have jW:(t.k==2)=false:=by simp;omega
 have dk3:decide (t.k=3)=false:=by simp;omega
 have qF:(t.k==3)=false:=by simp;omega
 have xJ:decide (t.k=4)=false:=by simp;omega
 have xG:(t.k==4)=false:=by simp;omega
 have SM:=hide fun w h1 h2 h3 h4 h5 h6=>E5 (mg t) t .none .none .none ao bo co 0 0 0 ca cb cc w h1 h2 h3 h4 h5 h6
 have HK:=hide True.intro
 have ha1:=hide ha
 have hb1:=hide hb
 have hc1:=hide hc
 clear ha hb hc
 obtain⟨w0,hw0,AO,A,DN⟩:=bx1 w #[.int .i64 t.k,.int .i64 t.vw,.string t.bn,.int .i64 t.bv,.string t.bs,.slice ao t.bw.length ca,.int .i64 t.pv,.string t.ps,.slice bo t.pw.length cb,.int .i64 t.qv,.string t.qs,.slice co t.qw.length cc,.int .i64 t.wh,.int .i64 t.fr,.int .i64 t.tu,.int .i64 t.am,.int .i64 t.no] 65
 go_enter Tryz.func98,Tryz.ntmps98
 have Bn:=A.cell 0 rfl
 go_upto_region 2 with fail
 clear hw0 Bn
 obtain⟨w1,hw1⟩:∃y,w0.alloc (.cells #[.int .i64 t.k,.int .i64 0,.string ⟨#[]⟩,.int .i64 0,.string ⟨#[]⟩,.slice none 0 0,.int .i64 0,.string ⟨#[]⟩,.slice none 0 0,.int .i64 0,.string ⟨#[]⟩,.slice none 0 0,.int .i64 0,.int .i64 0,.int .i64 0,.int .i64 0,.int .i64 0] 65)=y:=⟨_,rfl⟩
 have bb:Below w0.heap.size w0 w1:=hw1▸Ag _ _
 have X:Loc w1 w0.heap.size #[.int .i64 t.k,.int .i64 0,.string ⟨#[]⟩,.int .i64 0,.string ⟨#[]⟩,.slice none 0 0,.int .i64 0,.string ⟨#[]⟩,.slice none 0 0,.int .i64 0,.string ⟨#[]⟩,.slice none 0 0,.int .i64 0,.int .i64 0,.int .i64 0,.int .i64 0,.int .i64 0]:=hw1▸AB w0 _ _ rfl
 have o6:w0.heap.size+1≤w1.heap.size:=by rw[←hw1];simp
 rw[hw1]
 clear hw1
 have AP:=bu AO bb
 have Ct:=bb.size
 replace A:=A.up bb
 clear AO bb
 have Zg:=SM.out _ (Cg _) (Cg _) (Cg _) (ha1.out.below AP) (hb1.out.below AP) (hc1.out.below AP)
 clear SM ha1 hb1 hc1
 have H5:=hide Zg
 clear Zg
 have Bn:=A.cell 0 rfl
 go_wp2_with (first|(refine Ap X 65 _ rfl _ rfl rfl Tryz.underlying65 rfl (by kernel_rfl) ?_)|(refine Ap A 65 _ rfl _ rfl rfl Tryz.underlying65 rfl (by kernel_rfl) ?_))
 refine H5.out.mono ?_
 rintro _ w2 ⟨rfl,bb⟩
 clear Bn
 have Am:=bu AP bb
 have El:=bb.size
 replace A:=A.up bb
 replace X:=X.up bb
 clear AP bb
 go_wp2
 go_ret
 exact⟨rfl,Am⟩

theorem FB(t:MT)(ao bo co:Option Addr)(ca cb cc:Nat)(w:World)(ha:RI w (.slice ao t.bw.length ca) t.bw)(hb:RI w (.slice bo t.pw.length cb) t.pw)(hc:RI w (.slice co t.qw.length cc) t.qw):
 Calls Tryz.prog 98 #[Dp t (.slice ao t.bw.length ca) (.slice bo t.pw.length cb) (.slice co t.qw.length cc)] w fun e w'=>e= .returned (.bool (J6 t))∧Below w.heap.size w w':=by
 unfold J6
 rcases kinds t.k with h|h|h|h|⟨h1,h2,h3,h4⟩
 ·rw[wQ h];exact dJ t ao bo co ca cb cc w h ha hb hc
 ·rw[wP h];exact dI t ao bo co ca cb cc w h ha hb hc
 ·rw[wO h];exact dF t ao bo co ca cb cc w h ha hb hc
 ·rw[wN h];exact dE t ao bo co ca cb cc w h ha hb hc
 rw[AAZ h1 h2 h3 h4];exact dK t ao bo co ca cb cc w h1 h2 h3 h4 ha hb hc
end
end Go.Proofs.YtkmnfeihjjccmaaGreatDoor
