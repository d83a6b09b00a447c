/- Lemmas; their conditions stand in each statement. -/
import Derived.Test.YtcjmcgolgbkknaaGreatDoorWRAN
set_option maxRecDepth 100000
set_option maxHeartbeats 16000000
set_option linter.unusedSectionVars false
namespace Go.Proofs.YtcjmcgolgbkknaaGreatDoor
section
open Go.RowKit
variable [∀(a b c d:Int),Decidable (BK a b c d)] [∀(n f:Int),Decidable (A9 n f)]
def Oc:Nat→List Pt→List Pt
 |_,[]=>[]
 |k,p :: ps=>((k:Int),markT (k+1),BP (k+2) p.2.2.length) :: Oc (k+2+p.2.2.length) ps
def pend:Nat→List Pt→Nat
 |k,[]=>k
 |k,p :: ps=>pend (k+2+p.2.2.length) ps
theorem Ia(k:Nat)(ps:List Pt):(Oc k ps).length=ps.length:=by
 induction ps generalizing k with
 |nil=>rfl
 |cons p ps ih=>simp[Oc,ih]
theorem Wi(k:Nat)(ps:List Pt)(p:Pt):Oc k (ps++[p])=Oc k ps++[((pend k ps:Int),markT (pend k ps+1),BP (pend k ps+2) p.2.2.length)]∧pend k (ps++[p])=pend k ps+2+p.2.2.length:=by
 induction ps generalizing k with
 |nil=>exact⟨rfl,rfl⟩
 |cons x ps ih=>simp only[List.cons_append,Oc,pend,(ih _).1,(ih _).2];exact⟨trivial,trivial⟩
theorem Sw(k0:Nat)(ps:List Pt)(k:Nat)(hk:k<ps.length):pend k0 (ps.take (k+1))=pend k0 (ps.take k)+2+(ps.getD k BQ).2.2.length:=by
 rw[List.take_succ_eq_append_getElem hk,(Wi _ _ _).2];simp[List.getElem?_eq_getElem hk]
theorem dh(k0:Nat)(ps:List Pt):k0≤pend k0 ps:=by
 induction ps generalizing k0 with
 |nil=>exact Nat.le_refl _
 |cons p ps ih=>have:=ih (k0+2+p.2.2.length);simp only[pend];omega
theorem Od(k0:Nat)(ps:List Pt)(k:Nat):pend k0 (ps.take k)≤pend k0 ps:=by
 induction ps generalizing k0 k with
 |nil=>simp[pend]
 |cons p ps ih=>
  cases k with
  |zero=>simp only[List.take_zero,pend];have:=dh (k0+2+p.2.2.length) ps;omega
  |succ k=>simp only[List.take_succ_cons,pend];exact ih _ _
def I5(k0 k:Nat)(ps:List Pt):List Pt:=Oc k0 (ps.take k)++ps.drop k
theorem Wj(k0 k:Nat)(ps:List Pt)(h:k≤ps.length):(I5 k0 k ps).length=ps.length:=by
 simp[I5,Ia];omega
theorem nJ(k0 k:Nat)(ps:List Pt)(h:k<ps.length):(I5 k0 k ps).getD k BQ=ps.getD k BQ:=by
 have hl:(Oc k0 (ps.take k)).length=k:=by rw[Ia];simp;omega
 unfold I5;rw[List.getD_eq_getElem?_getD,List.getElem?_append_right (by omega),hl,Nat.sub_self,List.getElem?_drop,Nat.add_zero,←List.getD_eq_getElem?_getD]
theorem nI(k0 k:Nat)(ps:List Pt)(h:k<ps.length):(I5 k0 k ps).set k ((pend k0 (ps.take k):Int),markT (pend k0 (ps.take k)+1),BP (pend k0 (ps.take k)+2) (ps.getD k BQ).2.2.length)=I5 k0 (k+1) ps:=by
 have hl:(Oc k0 (ps.take k)).length=k:=by rw[Ia];simp;omega
 unfold I5;rw[List.set_append_right _ _ (by omega),hl,Nat.sub_self,List.drop_eq_getElem_cons h,List.set_cons_zero,List.take_succ_eq_append_getElem h,(Wi _ _ _).1,List.append_assoc];simp[List.getElem?_eq_getElem h]

theorem Rs(lo hi:Nat)(v:Value)(ps:List Pt)(vs:List Value)(k0:Nat)(w:World)(hn:ps.length≤4194304)(hw:∀p ∈ ps,p.2.2.length≤4194304)(hp:pend k0 ps≤100000000)(h:Tg w lo hi v ps vs):
 Calls Tryz.prog 48 #[v,.int .i64 k0] w fun e w'=>e= .returned (.int .i64 (pend k0 ps))∧Tg w' lo hi v (Oc k0 ps) vs∧Kp w w' (fun b=>lo≤b∧b<hi):=by
 obtain⟨va,vc,rfl⟩:=NK.form ⟨vs,h.tab⟩;obtain⟨n,hn'⟩:∃n,ps.length=n:=⟨_,rfl⟩
 have Hn:=hide hn';have HW:=hide hw;rw[hn']at hn h⊢;have HS:=hide h;clear hw h hn';go_enter Tryz.func48,Tryz.ntmps48
 go_wp2
 go_loopw [1,5] (fun c i wr=>∃k:Nat,k≤n∧i= .int .i64 k∧c= .int .i64 ((pend k0 (ps.take k):Nat):Int)∧Tg wr lo hi (.slice va n vc) (I5 k0 k ps) vs∧Kp w wr (fun b=>lo≤b∧b<hi)) (fun _ i _=>n-(intOf i).toNat)
 case atStart=>exact⟨0,Nat.zero_le _,rfl,by simp[pend],by simpa[I5,Oc]using HS.out,Kp.refl _ _⟩
 case round=>
  clear HS;obtain⟨k,hk,rfl,rfl,os,kr⟩:=hrel;have hpk:=Od k0 ps k;by_cases hlt:k<n
  ·have hkx:k<ps.length:=by have:=Hn.out;omega
   have hlen:(I5 k0 k ps).length=n:=by rw[Wj k0 k ps (by omega)];exact Hn.out
   have hge:=nJ k0 k ps hkx;have hse:=nI k0 k ps hkx;have hpt:=Sw k0 ps k hkx;have jh:=Od k0 ps (k+1);have hxl:=HW.out _ (KZ hkx);have hkl:k<(I5 k0 k ps).length:=by omega
   obtain⟨g,rfl⟩:∃g,va=some ⟨g,0,none⟩:=by
    rcases os.tab.row.2 with⟨e,h0⟩|⟨g,cap,cur,e,_⟩
    ·omega
    injection e with e1 e2 e3;exact⟨g,e1⟩
   have hrow:=os.tab.row;rw[hlen]at hrow;have AAy:=(World.ownsRow.lt hrow g rfl).1;have ADS:=os.dZ g rfl;have J6:(Bw (((I5 k0 k ps).map QZ).zip vs)).length=n*3:=by rw[Ib];simp[os.tab.len,hlen]
   have hou:=os.tab.each k hkl;have huh:=os.Uu k hkl;have hne:(vs.getD k (.slice none 0 0)).ownBlock≠some g:=WZ os.tab.row hou g rfl;have hzl:((I5 k0 k ps).map QZ).zip vs=((I5 k0 k ps).map QZ).zip vs:=rfl
   have c2:wr.cell? ⟨g,k*3+2,none⟩=some (vs.getD k (.slice none 0 0)):=by
    have:=hrow.cellAt (k*3+2) (by omega);rw[Kb _ k _ (by simp[os.tab.len];omega) (by omega),QQ _ vs os.tab.len k hkl]at this;exact this
   rw[hge]at hou;generalize (ps.getD k BQ).2.2=xs at *;generalize hqe:pend k0 (ps.take k)=q at *;obtain⟨u,hu⟩:∃u,vs.getD k (.slice none 0 0)=u:=⟨_,rfl⟩
   have HU:=hide hu;rw[hu]at hou huh hne c2;obtain⟨y0,d0⟩:∃y,wr.cell? ⟨g,k*3,none⟩=some y:=⟨_,(hrow.cellAt (k*3) (by omega)).trans (List.getElem?_eq_getElem (by rw[J6];omega))⟩
   have f0:=hrow.frozenAt (k*3);obtain⟨w1,hw1⟩:∃y,wr.setCell ⟨g,k*3,none⟩ (.int .i64 (q:Int))=y:=⟨_,rfl⟩
   have k1:Kp wr w1 (fun b=>b=g):=hw1▸AJ _ _ _ _;have r1:=hw1▸(hrow.stored (k*3) (.int .i64 (q:Int))).1;have MT:=hide fun w=>Bz (q+1) w (by omega) (by omega);have HSE:=hide hse;have HPT:=hide hpt;have T:=hide os.tab;have TOP:=os.top;have RH:=hide os.dZ;have EH:=hide os.Uu;have MK:=hide fun w h=>II lo (q+2) u xs w hxl (by omega) h;clear hzl hge hu hse hpt os;go_wp2_with fail
   refine(MT.out _).mono ?_;rintro e w2 ⟨rfl,b2⟩;have r2:=World.ownsRow.kept (row:=none) r1 ⟨b2.os,b2.tape,b2.output,b2.size,fun k hk _=>b2.block k hk⟩ (by simp[Value.ownBlock]);obtain⟨y1,d1⟩:∃y,w2.cell? ⟨g,k*3+1,none⟩=some y:=⟨_,(r2.cellAt (k*3+1) (by omega)).trans (List.getElem?_eq_getElem (by rw[List.length_set,J6];omega))⟩
   have f1:=r2.frozenAt (k*3+1)
   have c2':w2.cell? ⟨g,k*3+2,none⟩=some u:=by
    have h1:w1.cell? ⟨g,k*3+2,none⟩=some u:=hw1▸(World.cell?_setCell_other _ _ _ _ (by simp)).trans c2;exact(b2.cell (p:=⟨g,k*3+2,none⟩) (AU h1)).trans h1
   obtain⟨mt,hmt⟩:∃t,markT (q+1)=t:=⟨_,rfl⟩
   rw[hmt]at HSE⊢;clear hmt;obtain⟨w3,hw3⟩:∃y,w2.setCell ⟨g,k*3+1,none⟩ (.string mt)=y:=⟨_,rfl⟩
   have r3:=hw3▸(r2.stored (k*3+1) (.string mt)).1;have k3:Kp wr w3 (fun b=>b=g):=(k1.trans (Below.Bf b2 _)).trans (hw3▸AJ _ _ _ _);have c3:w3.cell? ⟨g,k*3+2,none⟩=some u:=hw3▸(World.cell?_setCell_other _ _ _ _ (by simp)).trans c2';have o3:OI w3 lo u xs:=hou.kp k3 (fun b hb e=>hne (by rw[←e];exact hb));have lu:=World.ownsRow.lt hou;obtain⟨ua,uc,rfl⟩:=o3.form;have O3:=hide o3;have R3:=hide r3;clear c2 c2' d0 f0 r1 r2 b2 k1 MT hou hrow r3 o3 hw1;go_wp2_with fail
   refine(MK.out _ O3.out).mono ?_;rintro e w4 ⟨rfl,o4,g4⟩
   have T4:De w4 lo (.slice (some ⟨g,0,none⟩) n vc) (I5 k0 (k+1) ps) vs:=by
    rw[←HSE.out];refine nT T.out hkl (by rw[hlen];exact R3.out) k3 (by rw[HU.out];exact o4) (by rw[HU.out];exact g4)
   have K4:Kp w w4 (fun b=>lo≤b∧b<hi):=(kr.trans (k3.mono fun b e=>e▸⟨AAy,ADS⟩)).trans ((Bo g4).mono fun b e=>⟨(lu b e).1,huh b e⟩);have OP:Hid (Tg w4 lo hi (.slice (some ⟨g,0,none⟩) n vc) (I5 k0 (k+1) ps) vs):=hide ⟨T4,by have:=k3.size;have:=g4.size;omega,RH.out,fun j hj=>EH.out j (by rw[hlen];rw[Wj k0 (k+1) ps (by omega),Hn.out]at hj;exact hj)⟩;clear T4 o4 g4 c3 d1 f1 k3 lu O3 R3 T RH EH huh hne kr hw3;go_wp2
   go_roundw
   case rel=>exact⟨k+1,by omega,by go_num,by rw[HPT.out];simp,OP.out,K4⟩
   case measure=>simp[intOf];omega
  have hkn:ps.take k=ps:=List.take_of_length_le (by have:=Hn.out;omega);have hpm:I5 k0 k ps=Oc k0 ps:=by unfold I5;rw[hkn,List.drop_of_length_le (by have:=Hn.out;omega),List.append_nil]
  rw[hpm]at os;rw[hkn];have OS:=hide os;clear os hpm hpk;go_wp2;go_ret;exact⟨rfl,OS.out,kr⟩
theorem sK(k0:Nat)(ps:List Pt)(k:Nat)(hk:k<ps.length):(Oc k0 ps).getD k BQ=((pend k0 (ps.take k):Int),markT (pend k0 (ps.take k)+1),BP (pend k0 (ps.take k)+2) (ps.getD k BQ).2.2.length):=by
 induction ps generalizing k0 k with
 |nil=>simp at hk
 | cons p ps ih=>
  cases k with
  |zero=>rfl
  |succ k=>
   have:=ih (k0+2+p.2.2.length) k (by simpa using hk);simpa[Oc,pend]using this

theorem Rz(v:Value)(ps:List Pt)(k0:Nat)(w:World)(hn:ps.length≤4194304)(hp:pend k0 ps≤100000000)(h:PL w v (Oc k0 ps)):
 Calls Tryz.prog 53 #[v,.int .i64 k0] w fun e w'=>e= .returned (.int .i64 (pend k0 ps))∧Below w.heap.size w w':=by
 obtain⟨ao,ca,rfl⟩:=h.form;rw[Ia]at h⊢;obtain⟨n,hn'⟩:∃n,ps.length=n:=⟨_,rfl⟩
 have Hn:=hide hn';rw[hn']at hn h⊢;have H:=hide h;clear h hn';go_enter Tryz.func53,Tryz.ntmps53
 go_wp2
 go_loopw [1,5] (fun c i wr=>∃k:Nat,k≤n∧i= .int .i64 k∧c= .int .i64 ((pend k0 (ps.take k):Nat):Int)∧Below w.heap.size w wr) (fun _ i _=>n-(intOf i).toNat)
 case atStart=>exact⟨0,Nat.zero_le _,rfl,by simp[pend],Below.refl _ _⟩
 case round=>
  obtain⟨k,hk,rfl,rfl,br⟩:=hrel;have hpk:=Od k0 ps k;by_cases hlt:k<n
  ·have hkx:k<ps.length:=by have:=Hn.out;omega
   have hge:=sK k0 ps k hkx;have HPT:=hide (Sw k0 ps k hkx);have jh:=Od k0 ps (k+1);rw[HPT.out]at jh;obtain⟨g,o,u,rfl,c0,c1,c2,ru⟩:=(H.out.below br).at k (by rw[Ia];exact hkx);rw[hge]at c0 c1 ru;simp only at c0 c1 ru;generalize (ps.getD k BQ).2.2.length=xl at *;generalize pend k0 (ps.take k)=q at *;have MT:=hide fun w=>Bz (q+1) w (by omega) (by omega);generalize markT (q+1)=mt at *
   have K:Hid (∀w',Below wr.heap.size wr w'→Below wr.heap.size wr w'∧w'.cell? ⟨g,o+k*3,none⟩=some (.int .i64 q)∧w'.cell? ⟨g,o+k*3+1,none⟩=some (.string mt)∧w'.cell? ⟨g,o+k*3+2,none⟩=some u):=hide fun w' hb'=>
    ⟨hb',(hb'.cell (p:=⟨g,o+k*3,none⟩) (AU c0)).trans c0,(hb'.cell (p:=⟨g,o+k*3+1,none⟩) (AU c1)).trans c1,(hb'.cell (p:=⟨g,o+k*3+2,none⟩) (AU c2)).trans c2⟩
   have RU:=hide fun w'(hb':Below wr.heap.size wr w')=>ru.below hb';obtain⟨ua,uc,rfl⟩:=ru.form;rw[CV]at K RU c2;have HE:=hide fun w h=>IJ (.slice ua xl uc) xl (q+2) w (by omega) h;have bA:Below wr.heap.size wr wr.drew:=Below.drew (Below.refl _ _);have Dt:=K.out _ bA;clear hge ru H;go_upto_region 7 with fail
   first|go_region_held3 (fun w'=>Below wr.heap.size wr w'∧w'.cell? ⟨g,o+k*3,none⟩=some (.int .i64 q)∧w'.cell? ⟨g,o+k*3+1,none⟩=some (.string mt)∧w'.cell? ⟨g,o+k*3+2,none⟩=some (.slice ua xl uc)) (exact Dt) (first
    | (go_at_call 109;have hgo:=bA;refine(MT.out _).mono ?_;rintro e wa ⟨rfl,ba⟩
       have bB:Below wr.heap.size wr wa:=bu bA ba;have Dt:=K.out _ bB;clear bA hgo ba))|fail
   all_goals
    have e2:=Dt.2.2.2;have hd1:decide ((q:Int)+1+1+(xl:Int)<0)=false:=by simp;omega
    clear Dt c0 c1 c2;go_wp2_with fail
    refine(HE.out _ (RU.out _ bB)).mono ?_;rintro e w4 ⟨rfl,rfl⟩;clear e2 RU HE K;go_wp2
    go_roundw
    case rel=>exact⟨k+1,by omega,by go_num,by rw[HPT.out];simp,bu br bB⟩
    case measure=>simp[intOf];omega
  have hkn:ps.take k=ps:=List.take_of_length_le (by have:=Hn.out;omega);rw[hkn];clear hpk H;go_wp2;go_ret;exact⟨rfl,br⟩

theorem Yj(al:Option Addr)(cl:Nat)(rs:List Pr)(left:Int)(w:World)(h:E_ w al rs)(hb:∀r ∈ rs,r.2.1.size≤maxLen∧r.2.2.2.2.length≤maxLen)(h0:0≤left)(hm:rs.length≤maxLen)(hs:left<(rs.length:Int)+Bt rs)(hl:left≤1048576):
 Calls Tryz.prog 27 #[.slice al rs.length cl,.int .i64 left] w fun e w'=>e= .returned (.int .i64 (-1))∧Below w.heap.size w w':=by
 obtain⟨n,hn⟩:∃n,rs.length=n:=⟨_,rfl⟩
 have Hn:=hide hn;have H:=hide h;have HB:=hide hb;unfold maxLen at hm;rw[hn]at hs hm⊢;clear hn h hb;by_cases h1:left<n
 ·have hd0:decide (left-(n:Int)<0)=true:=by simp;omega
  clear H HB;go_enter Tryz.func27,Tryz.ntmps27
  go_wp2;go_ret;exact⟨rfl,Below.refl _ _⟩
 have hd0:decide (left-(n:Int)<0)=false:=by simp;omega
 go_enter Tryz.func27,Tryz.ntmps27
 go_wp2
 go_loopw [1,5] (fun a i wr=>∃k:Nat,k≤n∧i= .int .i64 k∧a= .int .i64 (left-n-(Bt (rs.take k):Nat))∧(Bt (rs.take k):Int)≤left-n∧Below w.heap.size w wr) (fun _ i _=>n-(intOf i).toNat)
 case atStart=>exact⟨0,Nat.zero_le _,rfl,by simp[Bt],by simp[Bt];omega,Below.refl _ _⟩
 case round=>
  obtain⟨k,hk,rfl,rfl,hp,br⟩:=hrel;by_cases hlt:k<n
  ·have hkx:k<rs.length:=by have:=Hn.out;omega
   have qd:=hide (Sn rs k hkx);have hbk:=HB.out (rs.getD k RL) (by rw[List.getD_eq_getElem?_getD,List.getElem?_eq_getElem hkx];exact List.getElem_mem hkx);rcases H.out with h|⟨g,off,rfl,h⟩
   ·subst h;simp at hkx
   obtain⟨c0,c1,c2⟩:=h k hkx;have hg:g<w.heap.size:=AU c0;replace c0:=(br.cell (p:=⟨g,off+k*3,none⟩) hg).trans c0;replace c1:=(br.cell (p:=⟨g,off+k*3+1,none⟩) hg).trans c1;replace c2:=(br.cell (p:=⟨g,off+k*3+2,none⟩) hg).trans c2;clear h H HB;generalize (rs.getD k RL).1=m at *;generalize (rs.getD k RL).2.1=s at *;generalize (rs.getD k RL).2.2.2.2.length=x at *;generalize (rs.getD k RL).2.2.1=ao at *;generalize (rs.getD k RL).2.2.2.1=ca at *;generalize Bt (rs.take k)=q at *;obtain⟨hb1,hb2⟩:=hbk;unfold maxLen at hb1 hb2;by_cases hfit:(s.size:Int)+x≤left-n-q
   ·have SZ:=hide fun w=>IW m s ao x ca (left-n-q) w hfit (by omega);have hd1:decide (left-(n:Int)-(q:Int)-(s.size:Int)-(x:Int)<0)=false:=by simp;omega
    go_wp2_with fail
    refine(SZ.out _).mono ?_;rintro e w1 ⟨rfl,b1⟩;have B1:=bu br b1;clear c0 c1 c2 SZ b1;go_wp2
    go_roundw
    case rel=>exact⟨k+1,by omega,by go_num,by rw[qd.out];simp;omega,by rw[qd.out];simp;omega,B1⟩
    case measure=>simp[intOf];omega
   have SZ:=hide fun w=>Sb m s ao x ca (left-n-q) w (by omega) (by omega) (by omega) (by omega) (by omega);go_wp2_with fail
   refine(SZ.out _).mono ?_;rintro e w1 ⟨rfl,b1⟩;have B1:=bu br b1;clear c0 c1 c2 SZ b1;go_wp2;go_ret;exact⟨rfl,B1⟩
  have hkn:rs.take k=rs:=List.take_of_length_le (by have:=Hn.out;omega);rw[hkn]at hp;omega
theorem Sq{rs:List Pr}{r:Pr}(h:r ∈ rs):r.2.1.size+r.2.2.2.2.length≤Bt rs:=by
 induction rs with
 |nil=>simp at h
 |cons x rs ih=>
  rcases List.mem_cons.1 h with rfl|h
  ·simp only[Bt];omega
  have:=ih h;simp only[Bt];omega
theorem sI{rs:List Pr}{p:Pt}(h:p ∈ rs.map YC):p.2.1.size+p.2.2.length≤Bt rs:=by
 obtain⟨r,hr,rfl⟩:=List.mem_map.1 h;exact Sq hr
theorem E_.below{W W':World}{ao:Option Addr}{rs:List Pr}(h:E_ W ao rs)(hb:Below W.heap.size W W'):E_ W' ao rs:=by
 rcases h with h|⟨g,off,rfl,h⟩
 ·exact .inl h
 refine .inr ⟨g,off,rfl,fun k hk=>?_⟩;obtain⟨c0,c1,c2⟩:=h k hk;have hg:=AU c0;exact⟨(hb.cell (p:=⟨g,off+k*3,none⟩) hg).trans c0,(hb.cell (p:=⟨g,off+k*3+1,none⟩) hg).trans c1,(hb.cell (p:=⟨g,off+k*3+2,none⟩) hg).trans c2⟩
def Vn:List Pt→Nat
 | []=>0
 |p :: ps=>p.2.2.length+Vn ps
theorem nM(k:Nat)(ps:List Pt):pend k ps=k+2*ps.length+Vn ps:=by
 induction ps generalizing k with
 |nil=>simp[pend,Vn]
 |cons p ps ih=>simp only[pend,Vn,ih,List.length_cons];omega
theorem iO(k:Nat)(ps:List Pt)(h:∀p ∈ ps,p.2.2.length≤4194304):∀p ∈ Oc k ps,p.2.2.length≤4194304:=by
 induction ps generalizing k with
 |nil=>simp[Oc]
 |cons x ps ih=>
  intro p hp;simp only[Oc,List.mem_cons]at hp;rcases hp with rfl|hp
  ·simp only[CV];exact h x (by simp)
  exact ih _ (fun y hy=>h y (by simp[hy])) p hp
end
section
open Go.RowKit
variable [∀(a b c d:Int),Decidable (BK a b c d)] [∀(n f:Int),Decidable (A9 n f)] [∀(a b c d:Nat),Decidable (Dc a b c d)] [∀(x:T4),Decidable (Dv x)]
theorem RT.Bi{w:World}{v:Value}{xs:List T4}(h:RT w v xs):∃ao ca,v= .slice ao xs.length ca:=by obtain⟨_,ao,ca,e,_⟩:=h;exact⟨ao,ca,e⟩
theorem TS(t:Bv)(a b c d e a' b' c' d' e':Value)(w:World)(hs:J8 t)(h:EI w t a b c d e)(h':EI w t a' b' c' d' e'):
 Calls Tryz.prog 11 #[FX t a b c d e,FX t a' b' c' d' e'] w fun r w'=>r= .returned (.bool true)∧Below w.heap.size w w':=by
 have HX:=hide h;have HY:=hide h';have T1:=hide fun w h h'=>Qu t.vo t.lo t.n t.s a a' t.qw t.d w h h';have T2:=hide fun w h h'=>jv b b' t.pool w h h';have T3:=hide fun w h h'=>Xk c c' t.tab w (by have:=hs.tb;omega) h h';have wO:=hide fun w h h'=>aD d d' t.AY t.su w h h';have T5:=hide fun w h h'=>Xj e e' t.held w (by have:=hs.h;omega) h h';obtain⟨oa,ka,rfl⟩:=h.q.form;obtain⟨ob,kb,rfl⟩:=RT.Bi h.p;obtain⟨oc,kc,rfl⟩:=h.tb.form;obtain⟨od,kd,rfl⟩:=RB.Bi h.d;obtain⟨oe,ke,rfl⟩:=h.h.form;obtain⟨sW,tF,rfl⟩:=h'.q.form;obtain⟨vV,wC,rfl⟩:=RT.Bi h'.p;obtain⟨vU,wB,rfl⟩:=h'.tb.form;obtain⟨od',kd',rfl⟩:=RB.Bi h'.d;obtain⟨oe',ke',rfl⟩:=h'.h.form;clear h h' hs;obtain⟨w0,hw0,AO,A,B,Cm⟩:=El w #[.int .i64 t.id,.int .i64 t.vw,.int .i64 t.ak,.int .i64 t.vo,.int .i64 t.lo,.int .i64 t.n,.string t.s,.slice oa t.qw.length ka,.string t.d,.slice ob t.pool.length kb,.slice oc t.tab.length kc,.slice od t.AY.length kd,.int .i64 t.su,.slice oe t.held.length ke] 46 #[.int .i64 t.id,.int .i64 t.vw,.int .i64 t.ak,.int .i64 t.vo,.int .i64 t.lo,.int .i64 t.n,.string t.s,.slice sW t.qw.length tF,.string t.d,.slice vV t.pool.length wC,.slice vU t.tab.length wB,.slice od' t.AY.length kd',.int .i64 t.su,.slice oe' t.held.length ke'] 46;go_enter Tryz.func11,Tryz.ntmps11
 obtain⟨CJ,Dk,D7⟩:=CW A 0 1 2;obtain⟨cB0,cB1,cB2⟩:=CW B 0 1 2;go_wp2_with (first|(refine A7 [.int .i64 t.vo,.int .i64 t.lo,.int .i64 t.n,.string t.s,.slice oa t.qw.length ka,.string t.d] (A.range 3 6 rfl) 40 _ rfl _ rfl rfl Tryz.underlying40 rfl (by kernel_rfl) ?_)|(refine A7 [.int .i64 t.vo,.int .i64 t.lo,.int .i64 t.n,.string t.s,.slice sW t.qw.length tF,.string t.d] (B.range 3 6 rfl) 40 _ rfl _ rfl rfl Tryz.underlying40 rfl (by kernel_rfl) ?_))
 clear hw0;refine(T1.out _ (HX.out.q.below AO) (HY.out.q.below AO)).mono ?_;rintro _ w1 ⟨rfl,bb⟩;clear CJ Dk D7 cB0 cB1 cB2;have AL:=bu AO bb;have Cj:=bb.size;replace A:=A.up bb;replace B:=B.up bb;clear AO bb;have Ht:=A.cell 9 rfl;have Ol:=B.cell 9 rfl;go_wp2_with fail
 refine(T2.out _ (HX.out.p.below AL) (HY.out.p.below AL)).mono ?_;rintro _ w2 ⟨rfl,bb⟩;clear Ht Ol;have Ah:=bu AL bb;have Ej:=bb.size;replace A:=A.up bb;replace B:=B.up bb;clear AL bb;have Ct:=A.cell 10 rfl;have GX:=B.cell 10 rfl;go_wp2_with fail
 refine(T3.out _ (HX.out.tb.below Ah) (HY.out.tb.below Ah)).mono ?_;rintro _ w3 ⟨rfl,bb⟩;clear Ct GX;have BH:=bu Ah bb;have IL:=bb.size;replace A:=A.up bb;replace B:=B.up bb;clear Ah bb;go_wp2_with (first|(refine A7 [.slice od t.AY.length kd,.int .i64 t.su] (A.range 11 2 rfl) 43 _ rfl _ rfl rfl Tryz.underlying43 rfl (by kernel_rfl) ?_)|(refine A7 [.slice od' t.AY.length kd',.int .i64 t.su] (B.range 11 2 rfl) 43 _ rfl _ rfl rfl Tryz.underlying43 rfl (by kernel_rfl) ?_))
 refine(wO.out _ (HX.out.d.below BH) (HY.out.d.below BH)).mono ?_;rintro _ w4 ⟨rfl,bb⟩;have Cr:=bu BH bb;have Nq:=bb.size;replace A:=A.up bb;replace B:=B.up bb;clear BH bb;have Ca:=A.cell 13 rfl;have Gm:=B.cell 13 rfl;go_wp2_with fail
 refine(T5.out _ (HX.out.h.below Cr) (HY.out.h.below Cr)).mono ?_;rintro _ w5 ⟨rfl,bb⟩;clear Ca Gm;have Fj:=bu Cr bb;have Yt:=bb.size;replace A:=A.up bb;replace B:=B.up bb;clear Cr bb;go_wp2;go_ret;exact⟨rfl,Fj⟩
end
section
open Go.RowKit
theorem XQ(w:World):Calls Tryz.prog 174 #[] w fun e w'=>e= .returned (qv 0 ⟨#[]⟩ (.slice none 0 0))∧Below w.heap.size w w':=by
 go_enter Tryz.func174,Tryz.ntmps174
 go_wp2;refine bodyPost_ret (v:=qv 0 ⟨#[]⟩ (.slice none 0 0)) (by simp[results,Tryz.results174,go_sem]) rfl ?_;exact⟨rfl,Ac _ _⟩
theorem WW(g o:Nat)(n:Int)(      s:ByteArray)(ao:Option Addr)(ca:Nat)(xs:List Int)(w:World)(hg:w.rangeAt g o [.int .i64 n,.string s,.slice ao xs.length ca])(ha:RI w (.slice ao xs.length ca) xs)(hs:s.size≤281474976710656):
 Calls Tryz.prog 151 #[.pointer (some ⟨g,o,none⟩)] w fun e w'=>∃u,e= .returned (qv n s u)∧OI w' w.heap.size u xs∧Below w.heap.size w w':=by
 have CL:=hide fun w=>Eg s w hs;have hgl:=Ch hg (by simp);obtain⟨w0,hw0⟩:∃w0,w.alloc zq=w0:=⟨_,rfl⟩
 have B0:Below w.heap.size w w0:=hw0▸Ac _ _;have Z0:Loc w0 w.heap.size #[.int .i64 0,.string ⟨#[]⟩,.slice none 0 0]:=hw0▸AB w _ _ rfl;have s0:w0.heap.size=w.heap.size+1:=by rw[←hw0];simp
 have G0:=Aa hg B0 hgl;have G0l:=Ch G0 (by simp)
 have K:Hid (∀w',Below w0.heap.size w0 w'→Below w0.heap.size w0 w'∧w'.cell? ⟨g,o,none⟩=some (.int .i64 n)∧w'.cell? ⟨g,o+1,none⟩=some (.string s)):=hide fun w' hb=>
  ⟨hb,Aj (Aa G0 hb G0l) 0 rfl,Aj (Aa G0 hb G0l) 1 rfl⟩
 have RA:=hide ha;have HZ:=hide Z0;have HG:=hide G0;clear ha hg Z0 G0 G0l;go_enter Tryz.func151,Tryz.ntmps151
 go_upto_region 1 with fail
 clear hw0
 go_cut [3] (fun c wx=>∃h,c= .pointer (some ⟨h,0,none⟩)∧w0.heap.size≤h∧Loc wx h #[.int .i64 n,.string s,.slice none 0 0]∧Below w0.heap.size w0 wx)
 case first=>
  clear HZ HG RA;refine qo K (Below.drew (Below.refl _ _)) (fun hHeld=>?_);obtain⟨wd,hd⟩:∃wd,w0.drew=wd:=⟨_,rfl⟩
  have bd:Below w0.heap.size w0 wd:=hd▸Below.drew (Below.refl _ _);have zh:=bd.size;rw[hd]at hHeld⊢;clear hd;refine tx 0 4 ?_;refine tx 1 5 ?_;refine tx 2 6 ?_;refine tx 3 7 ?_;refine tx 4 8 ?_;refine tx 5 9 ?_;refine tx 6 10 ?_;refine tx 7 11 ?_;refine wpAnyH_ready (rs:=[8,10]) (by kernel_rfl) (by simp) (AllReadyH.cons rfl (fun KK AA=>?_) (AllReadyH.cons rfl (fun KK AA=>?_) AllReadyH.nil))
  ·go_simp;refine(CL.out _).mono ?_;rintro e Pn ⟨rfl,Fy⟩;have bc1:Below w0.heap.size w0 Pn:=bu bd Fy;have vI:=Fy.size;clear hHeld Fy;refine AA.out _ _ (K.out _ bc1) (fun hHeld=>?_);clear AA KK;refine tx 9 13 ?_;refine rd 10 rfl (fun KK AA=>?_);go_simp;obtain⟨lQ,MP⟩:∃x,Pn.alloc (.cells #[.int .i64 0,.string ⟨#[]⟩,.slice none 0 0] 38)=x:=⟨_,rfl⟩
   have wM:Below w0.heap.size w0 lQ:=MP▸bc1.alloc bc1.size _;have lg:Loc lQ Pn.heap.size #[.int .i64 0,.string ⟨#[]⟩,.slice none 0 0]:=MP▸AB Pn _ _ rfl;rw[MP];clear hHeld MP;refine AA.out _ _ (K.out _ wM) (fun hHeld=>?_);clear AA KK;have q0:=lg.cell 0 rfl;have q1:=lg.cell 1 rfl;have q2:=lg.cell 2 rfl;have FG:=lg.frozen;refine rd 11 rfl (fun KK AA=>?_);go_simp;have bs:Below w0.heap.size w0 (((lQ.setCell ⟨Pn.heap.size,0,none⟩ (.int .i64 n)).setCell ⟨Pn.heap.size,1,none⟩ (.string s)).setCell ⟨Pn.heap.size,2,none⟩ (.slice none 0 0)):=Below.set (Below.set (Below.set wM _ _ (by omega)) _ _ (by omega)) _ _ (by omega);clear hHeld;refine AA.out _ _ (K.out _ bs) (fun hHeld=>?_);clear AA KK hHeld;refine Bu ?_;go_wp2_with fail
   go_meet
   exact⟨_,rfl,by omega,((lg.set 0 _ rfl).set 1 _ rfl).set 2 _ rfl,bs⟩
  go_simp;obtain⟨vL,MN⟩:∃x,wd.alloc (.cells #[.int .i64 0,.string ⟨#[]⟩,.slice none 0 0] 38)=x:=⟨_,rfl⟩
  have wL:Below w0.heap.size w0 vL:=MN▸bd.alloc bd.size _;have lg:Loc vL wd.heap.size #[.int .i64 0,.string ⟨#[]⟩,.slice none 0 0]:=MN▸AB wd _ _ rfl;rw[MN];clear hHeld MN;refine AA.out _ _ (K.out _ wL) (fun hHeld=>?_);clear AA KK;refine rd 8 rfl (fun KK AA=>?_);go_simp;refine(CL.out _).mono ?_;rintro e vM ⟨rfl,Fy⟩;have wN:Below w0.heap.size w0 vM:=bu wL Fy;have vH:=Fy.size;have lg:=lg.up Fy;clear hHeld Fy;refine AA.out _ _ (K.out _ wN) (fun hHeld=>?_);clear AA KK;refine tx 9 13 ?_;have q0:=lg.cell 0 rfl;have q1:=lg.cell 1 rfl;have q2:=lg.cell 2 rfl;have FG:=lg.frozen;refine rd 11 rfl (fun KK AA=>?_);go_simp;have bs:Below w0.heap.size w0 (((vM.setCell ⟨wd.heap.size,0,none⟩ (.int .i64 n)).setCell ⟨wd.heap.size,1,none⟩ (.string s)).setCell ⟨wd.heap.size,2,none⟩ (.slice none 0 0)):=Below.set (Below.set (Below.set wN _ _ (by omega)) _ _ (by omega)) _ _ (by omega);clear hHeld;refine AA.out _ _ (K.out _ bs) (fun hHeld=>?_);clear AA KK hHeld;refine Bu ?_;go_wp2_with fail
  go_meet
  exact⟨_,rfl,by omega,((lg.set 0 _ rfl).set 1 _ rfl).set 2 _ rfl,bs⟩
 case rest=>
 obtain⟨h,rfl,hh,LH,bw⟩:=hcut;have G1:=Aa HG.out bw (Ch HG.out (by simp));have Z1:=HZ.out.below bw HZ.out.lt;have R1:=RA.out;have B1:Below w.heap.size w wc:=bu B0 bw;have s1:=bw.size;have l1:=LH.lt;have x2:=Aj G1 2 rfl;have y0:=Z1.cell 0 rfl;have y1:=Z1.cell 1 rfl;have y2:=Z1.cell 2 rfl;have fy:=Z1.frozen;have h0:=LH.cell 0 rfl;have h1:=LH.cell 1 rfl;have h2:=LH.cell 2 rfl;have fh:=LH.frozen;have hl:=R1.1;clear HG HZ RA K CL bw B0;by_cases hx:xs=[]
 ·subst hx;go_wp2;refine bodyPost_ret (v:=qv n s (.slice none 0 0)) (by simp[results,Tryz.results151,go_sem,y0,y1,y2]) rfl ?_;exact⟨_,rfl,World.ownsRow_nil _ _ _ _,Below.set (Below.set (Below.set B1 _ _ Af) _ _ Af) _ _ Af⟩
 have hp:0<xs.length:=List.length_pos_iff.2 hx;obtain⟨cs,hcs⟩:∃cs,xs.map (Value.int .i64)=cs:=⟨_,rfl⟩
 have hcl:cs.length=xs.length:=by rw[←hcs];simp
 have hone:∀v ∈ cs,v.oneCell'=true:=by rw[←hcs];exact GM xs
 obtain⟨ad,rfl,hcells⟩:∃ad,ao=some ad∧∀j u,cs[j]? =some u→w.cell? (ad.add j)=some u:=by
  obtain⟨_,SF,Xw,e,hr⟩:=R1;cases e
  rcases hr with rfl|⟨b,off,rfl,hr⟩
  ·exact absurd rfl hx
  exact⟨_,rfl,hcs▸G5 hr⟩
 have hrows:∀w',Below w.heap.size w w'→∀j u,cs[j]? =some u→w'.cell? (ad.add j)=some u:=fun w' hb j u hj=>(hb.cell (AU (hcells j u hj))).trans (hcells j u hj);have HR:=hide hrows;have HC:=hide hcs;obtain⟨i0,hi,hz0,hz1,hz2⟩:=info_parts Tryz.info3;obtain⟨m,hm⟩:∃m,xs.length=m:=⟨_,rfl⟩
 rw[hm]at hl hcl hp x2 G1;have Hm:=hide hm;clear R1 hcells hrows hcs hm hx;have hgt:decide ((0:Int)<(m:Int))=true:=by simpa using hp
 go_upto_region 4 with (first | (at_make;refine wpList_make_full _ rfl _ _ 24 rfl wc.heap.size 3 i0 (.int .i64 0) 1 Tryz.underlying24 hi hz0 hz1 .i64 .i64 m m m rfl rfl rfl rfl (by rw[hz2];omega) (by unfold maxLen;omega) Af ?_;intro w2 ho2 hg2
                                 have b2:Below wc.heap.size wc w2:=(Below.refl _ _).grown hg2 Af (by simp);have L2:=LH.up b2;have k2:=L2.cell 2 rfl;have f2:=L2.frozen))
 obtain⟨hlen,hrow⟩:=ho2;rcases hrow with⟨e,_⟩|⟨row,cap,cur,e,hrb,oP,_,hcm,hcz,hct⟩
 ·cases e
 cases e
 have hlt2:wc.heap.size<w2.heap.size:=(Array.getElem?_eq_some_iff.1 oP).1;obtain⟨w3,hw3⟩:∃w3,w2.setCell ⟨h,2,none⟩ (.slice (some ⟨wc.heap.size,0,none⟩) m m)=w3:=⟨_,rfl⟩
 have B3:Below w.heap.size w w3:=hw3▸Below.set (bu B1 b2) (g:=h) 2 _ (by omega);have K3:Kp w2 w3 (fun k=>k=h):=hw3▸AJ w2 h 2 _;have L3:Loc w3 h #[.int .i64 n,.string s,.slice (some ⟨wc.heap.size,0,none⟩) m m]:=hw3▸L2.set 2 _ rfl;have Z3:=(Z1.up b2).kp K3 (by omega);have G1l:=Ch G1 (by simp);have G3:=QP (Aa G1 b2 G1l) K3 (by omega);have H3:w3.heap[wc.heap.size]? =some (.cells cur.toList.toArray 3 (0,0)):=by rw[K3.block _ hlt2 (by omega)];simpa using oP
 have c3:=HR.out w3 B3;have z3:=K3.size;have p2:=L3.cell 2 rfl;have q2:=Aj G3 2 rfl;have oo:cur.toList.length=m:=by simpa using hcz
 rw[hw3];clear hw3 k2 f2 h0 h1 h2 fh y0 y1 y2 fy x2;have H3h:=hide H3;have C3:=hide c3
 go_region_law (refine step_copy_splice rfl (.tmp 28) (.tmp 32) 24 24 rfl 3 Tryz.underlying24 (by rw[hi];simp[hz1]) (some ⟨wc.heap.size,0,none⟩) (some ad) m m m ca (by simp[Act.eval]) (by simp[Act.eval]) wc.heap.size 0 cur.toList 3 H3h.out cs (by rw[hcl];simp) (fun _=>⟨rfl,_,rfl,C3.out⟩) (by omega) hone wc.heap.size w3 ⟨rfl,rfl,rfl,Nat.le_refl _,fun _ _=>rfl⟩ Af ?_;intro w4 hg4 hb4)
 all_goals
  have L4:=L3.below hb4 l1;have Z4:=Z3.below hb4 (by omega);have B4:Below w.heap.size w w4:=B3.trans (hb4.mono (by omega));have h0:=L4.cell 0 rfl;have h1:=L4.cell 1 rfl;have h2:=L4.cell 2 rfl;have y0:=Z4.cell 0 rfl;have y1:=Z4.cell 1 rfl;have y2:=Z4.cell 2 rfl;have fy:=Z4.frozen
  have O4:OI w4 w.heap.size (.slice (some ⟨wc.heap.size,0,none⟩) m m) xs:=by
   refine⟨by rw[Hm.out];simp[Hm.out],.inr ⟨wc.heap.size,m,_,by rw[Hm.out],by omega,hg4.out,by rw[Hm.out];exact Nat.le_refl _,hcm,?_,?_⟩⟩
   ·rw[List.size_toArray,length_splice _ _ _ (by omega),oo,Nat.mul_one]
   rw[HC.out];simp[splice,Hm.out,hcl]
  have HO:=hide O4;clear L3 Z3 G3 H3 c3 p2 q2 K3 L4 Z4 O4 hg4 hb4 LH Z1 G1 G1l b2 L2 hlen hct hcz oP;go_wp2;refine bodyPost_ret (v:=qv n s (.slice (some ⟨wc.heap.size,0,none⟩) m m)) (by simp[results,Tryz.results151,go_sem,y0,y1,y2]) rfl ?_;have K5:Kp w4 (((w4.setCell ⟨w.heap.size,0,none⟩ (.int .i64 n)).setCell ⟨w.heap.size,1,none⟩ (.string s)).setCell ⟨w.heap.size,2,none⟩ (.slice (some ⟨wc.heap.size,0,none⟩) m m)) (fun k=>k=w.heap.size):=((AJ _ _ _ _).trans (AJ _ _ _ _)).trans (AJ _ _ _ _);exact⟨_,rfl,HO.out.kp K5 (fun k hk=>by simp[Value.ownBlock]at hk;omega),Below.set (Below.set (Below.set B4 _ _ Af) _ _ Af) _ _ Af⟩
end
section
open Go.RowKit
variable [∀(a b c d:Int),Decidable (BK a b c d)] [∀(n f:Int),Decidable (A9 n f)]
theorem Sm(n:Int)(s:ByteArray)(v:Value)(xs:List Int)(w:World)(h:RI w v xs)(hs:s.size≤281474976710656):
 Calls Tryz.prog 346 #[qv n s v] w fun e w'=>∃u,e= .returned (qv n s u)∧OI w' w.heap.size u xs∧Below w.heap.size w w':=by
 obtain⟨ao,ca,rfl⟩:=h.form;obtain⟨w0,hw0⟩:∃y,((w.alloc (.cells #[.int .i64 n,.string s,.slice ao xs.length ca] 72)).alloc zpo).alloc (.cells #[.int .i64 n,.string s,.slice ao xs.length ca] 38)=y:=⟨_,rfl⟩
 have B0:Below w.heap.size w w0:=hw0▸((Bn _ _ _).alloc (by simp;omega) _);have LZ:Loc w0 (w.heap.size+1) #[.int .i64 0,.string ⟨#[]⟩,.slice none 0 0]:=hw0▸(AB (w.alloc _) _ _ (by simp)).alloc _;have LQ:Loc w0 (w.heap.size+1+1) #[.int .i64 n,.string s,.slice ao xs.length ca]:=hw0▸(AB ((w.alloc _).alloc _) _ _ (by simp));have s0:w0.heap.size=w.heap.size+1+1+1:=by rw[←hw0];simp
 have TO:=hide (iH (w.heap.size+1+1) n s ao ca xs w0 LQ (h.below B0) hs);have HZ:=hide LZ;clear h LZ LQ;go_enter Tryz.func346,Tryz.ntmps346
 go_wp2_with fail
 clear hw0;refine TO.out.mono ?_;rintro e w2 ⟨u,rfl,o2,b2⟩;have B2:Below w.heap.size w w2:=bu B0 b2;have Z2:=HZ.out.below b2 HZ.out.lt;have y0:=Z2.cell 0 rfl;have y1:=Z2.cell 1 rfl;have y2:=Z2.cell 2 rfl;have fy:=Z2.frozen;have MC:=World.ownsRow.lt o2;obtain⟨ua,uc,rfl⟩:=o2.form;have O2:=hide o2;clear o2 b2 Z2 HZ TO;go_wp2;refine bodyPost_ret (v:=qv n s (.slice ua xs.length uc)) (by simp[results,Tryz.results346,go_sem,y0,y1,y2]) rfl ?_;have K5:Kp w2 (((w2.setCell ⟨w.heap.size+1,0,none⟩ (.int .i64 n)).setCell ⟨w.heap.size+1,1,none⟩ (.string s)).setCell ⟨w.heap.size+1,2,none⟩ (.slice ua xs.length uc)) (fun k=>k=w.heap.size+1):=((AJ _ _ _ _).trans (AJ _ _ _ _)).trans (AJ _ _ _ _);exact⟨_,rfl,(O2.out.kp K5 (fun k hk=>by have:=MC k hk;omega)).mono (by omega),Below.kp B2 K5 B2.size (fun k hk=>by omega)⟩

theorem V9(ao:Option Addr)(n ca:Nat)(w:World):
 Calls Tryz.prog 146 #[.slice ao n ca] w fun e w'=>e= .returned (.agg #[.slice ao n ca,.func (.func 183) #[] #[]])∧Below w.heap.size w w':=by
 go_enter Tryz.func146,Tryz.ntmps146
 go_wp2;refine bodyPost_ret (v:= .agg #[.slice ao n ca,.func (.func 183) #[] #[]]) (by simp[results,Tryz.results146,go_sem]) rfl ?_;exact⟨rfl,(Below.refl _ _).alloc Af _⟩
end
section
open Go Go.RowKit
section
variable {P:Program} {ops:Array Oper} {Q:Exit→Act→World→Prop} {md:Region.Mode} {S:World→Prop} {D:Nat→Bool}
def JB(P:Program)(md:Region.Mode)(ops:Array Oper)(Q:Exit→Act→World→Prop)(S:World→Prop)(D:Nat→Bool):Nat→Array Bool→Act→World→Prop
 |0,l,a,w=>Region.ready md ops l=[]∧Q .normal a w
 |n+1,l,a,w=>(Region.ready md ops l=[]→Q .normal a w)∧∀i ∈ Region.ready md ops l,wpOp P ops Q i (fun a' w'=>(D i=false→S w→S w')∧JB P md ops Q S D n (l.setIfInBounds i true) a' w') a w
theorem JB.any:∀(n:Nat)(l:Array Bool)(a:Act)(w:World),JB P md ops Q S D n l a w→wpAny P md ops Q n l a w
 |0,_,_,_,h=>h
 |n+1,_,_,_,h=>⟨h.1,fun i hi=>wpOp_mono (fun a' w' h'=>JB.any n _ a' w' h'.2) (h.2 i hi)⟩
def vz(md:Region.Mode)(ops:Array Oper)(D:Nat→Bool)(i:Nat):Bool:=(List.range ops.size).all fun j=>!D j||(match ops[j]? with|some o=>o.after.any (fun e=>Region.binds md e&&e.on==i)|none=>true)
theorem Zb{i j:Nat}{o:Oper}(h:vz md ops D i=true)(ho:ops[j]? =some o)(hd:D j=true):∃e ∈ o.after,Region.binds md e=true∧e.on=i:=by
 have hj:j<ops.size:=(Array.getElem?_eq_some_iff.1 ho).1;have h1:=List.all_eq_true.1 h j (List.mem_range.2 hj);rw[hd,ho]at h1;simp only[Bool.not_true,Bool.false_or,Array.any_eq_true',Bool.and_eq_true,beq_iff_eq]at h1;exact h1
theorem JB.first{S':World→Prop}{i:Nat}{oi:Oper}{v:Value}(hi:ops[i]? =some oi)(hsel:Region.noSelect ops=true)(hD:∀j oj,ops[j]? =some oj→(∀e ∈ oj.after,Region.binds md e=true→e.on≠i)→∀w w',(D j=false→S w→S w')→S' w→S' w')
 (hQ:∀c a w,Q (.panic c) (a.put oi.dst v) w→Q (.panic c) a w):∀(n:Nat)(l:Array Bool)(a:Act)(w:World),
 (∀j oj,ops[j]? =some oj→j≠i→l.getD j true=false→(∀e ∈ oj.after,Region.binds md e=true→e.on≠i)→oi.apart ops oj=true)→i ∈ Region.ready md ops l→YieldsIf P ops S' oi v a→S' w→
 JB P md ops Q S D n (l.setIfInBounds i true) (a.put oi.dst v) w→JB P md ops Q S D (n+1) l a w:=by
 intro n
 induction n with
 | zero=>
  intro l a w _ hr hy hS H;refine⟨fun h0=>(by rw[h0]at hr;cases hr),fun j hj=>?_⟩;by_cases e:j=i
  ·rw[e];exact hy.wpOp hi hS ⟨fun _ h=>h,H⟩
  ·have:=ready_mono hj e;rw[H.1]at this;cases this
 | succ n ih=>
  intro l a w hf hr hy hS H;refine⟨fun h0=>(by rw[h0]at hr;cases hr),fun j hj=>?_⟩;by_cases e:j=i
  ·rw[e];exact hy.wpOp hi hS ⟨fun _ h=>h,H⟩
  obtain⟨u1,oj,hoj,u2⟩:=mem_ready.1 hj;have hli:l.getD i true=false:=(mem_ready.1 hr).1
  have un:∀x ∈ oj.after,Region.binds md x=true→x.on≠i:=fun x hx hb hq=>by
   have h1:=u2 x hx hb;rw[hq]at h1;by_cases hs:i<l.size
   ·simp[Array.getD_eq_getD_getElem?,hs]at h1 hli;rw[h1]at hli;cases hli
   simp[Array.getD_eq_getD_getElem?,Array.getElem?_eq_none (Nat.le_of_not_lt hs)]at h1
  have step:=wpOp_putIf hoj (hf j oj hoj e u1 un) (fun cs b=>Region.noSelect_spec hsel i oi cs b hi) (fun cs b=>Region.noSelect_spec hsel j oj cs b hoj) hQ hy (H.2 j (ready_mono hj e));refine wpOp_mono (fun a' w' h3=>⟨h3.2.1,ih _ a' w' (fun k ok hk hki hun hno=>hf k ok hk hki ?_ hno) (ready_mono hr (Ne.symm e)) h3.1 (hD j oj hoj un w w' h3.2.1 hS) ?_⟩) step
  ·by_cases hjk:j=k
   ·rw[←hjk];exact u1
   rw[getD_set_ne true hjk]at hun;exact hun
  rw[Array.setIfInBounds_comm _ _ e];exact h3.2.2
theorem Fb{i d:Nat}{oi:Oper}{v:Value}{n:Nat}{l:Array Bool}{a:Act}{w:World}(hi:ops[i]? =some oi)(hd:oi.dst=some d)
 (hs:Region.noSelect ops=true) (hD:vz md ops D i=true) (hf:Region.free md ops l i=true) (hr:(Region.ready md ops l).contains i=true)
 (hQ:∀c a w,Q (.panic c) (a.put (some d) v) w→Q (.panic c) a w) (hy:YieldsIf P ops S oi v a) (hS:S w)
 (h:JB P md ops Q S D n (l.setIfInBounds i true) (a.put (some d) v) w):JB P md ops Q S D (n+1) l a w:=
 JB.first hi hs (fun j oj hoj un w w' hw h'=>by
  cases hc:D j with
  |false=>exact hw hc h'
  |true=>obtain⟨x,hx,hb,ho⟩:=Zb hD hoj hc;exact absurd ho (un x hx hb)) (by rw[hd];exact hQ) n l a w (Region.free_spec hi hf) (by simpa using hr) hy hS (by rw[hd];exact h)
theorem Bq{i d:Nat}{oi:Oper}{v:Value}{n:Nat}{l:Array Bool}{a:Act}{w:World}(hi:ops[i]? =some oi)(hd:oi.dst=some d)
 (hs:Region.noSelect ops=true) (hf:Region.free md ops l i=true) (hr:(Region.ready md ops l).contains i=true)
 (hQ:∀c a w,Q (.panic c) (a.put (some d) v) w→Q (.panic c) a w) (hy:YieldsIf P ops (fun _=>True) oi v a)
 (h:JB P md ops Q S D n (l.setIfInBounds i true) (a.put (some d) v) w):JB P md ops Q S D (n+1) l a w:=
 JB.first (S':=fun _=>True) hi hs (fun _ _ _ _ _ _ _ _=>trivial) (by rw[hd];exact hQ) n l a w (Region.free_spec hi hf) (by simpa using hr) hy trivial (by rw[hd];exact h)
theorem BU{i:Nat}{o:Oper}{n:Nat}{l:Array Bool}{a:Act}{w:World}(ho:ops[i]? =some o)(hr:Region.ready md ops l=[i])
 (h:∀K':Act→World→Prop,Shut (∀a' w',(D i=false→S w→S w')→JB P md ops Q S D n (l.setIfInBounds i true) a' w'→K' a' w')→if Region.wanted o (yielded ops a.tmps)=true then Oper.wp P o a w K' Q else K' (a.put o.dst undef) w):
 JB P md ops Q S D (n+1) l a w:=
 ⟨fun h0=>(by rw[hr]at h0;cases h0),fun j hj=>by
  rw[hr]at hj;obtain rfl:=List.mem_singleton.1 hj;exact wpOp_step ho fun K' hK=>h K' (fun a w h1 h2=>hK a w ⟨h1,h2⟩)⟩
theorem Mv{l:Array Bool}{a:Act}{w:World}(hr:Region.ready md ops l=[])(h:Q .normal a w):∀n,JB P md ops Q S D n l a w
 |0=>⟨hr,h⟩
 |_+1=>⟨fun _=>h,by rw[hr];simp⟩
theorem Kc(D:Nat→Bool){id:Nat}{a:Act}{w:World}(hm:P.follows .mixedOrders=true)(h:JB P .any ops Q S D ops.size (Array.replicate ops.size false) a w.drew):(Code.region id ops true).wp P Q a w:=
 wp_region_any hm (JB.any _ _ _ _ h)
end
end
end Go.Proofs.YtcjmcgolgbkknaaGreatDoor
