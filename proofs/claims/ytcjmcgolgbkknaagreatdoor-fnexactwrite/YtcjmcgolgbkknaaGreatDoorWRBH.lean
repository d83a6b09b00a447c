/- Lemmas; their conditions stand in each statement. -/
import Derived.Test.YtcjmcgolgbkknaaGreatDoorWRBG
set_option maxRecDepth 100000
set_option maxHeartbeats 16000000
set_option linter.unusedSectionVars false
namespace Go.Proofs.YtcjmcgolgbkknaaGreatDoor
section
open Go Go.RowKit
variable [∀(a b c d:Int),Decidable (BK a b c d)] [∀(n f:Int),Decidable (A9 n f)] [∀(a b c d:Nat),Decidable (Dc a b c d)] [∀(x:T4),Decidable (Dv x)] [∀(last:Int)(s:St),Decidable (Ak last s)] [∀(n:Int)(s:List Int),Decidable (Dw n s)] [∀(x y:T4),Decidable (Hu x y)] [∀(ts:List T4),Decidable (Asc ts)] [∀(ts:List T4),Decidable (Dh ts)] [∀(ts:List T4),Decidable (J9 ts)]
theorem nA{W:World}{t:Bv}{ao bo co od oe:Option Addr}{ca cc cd ce:Nat}{rs:List Pr}(ht:t.tab=rs.map YC)(g:(t.s.size:Int)+t.qw.length+t.d.size+t.pool.length+rs.length+Bt rs+t.AY.length+t.held.length+BJ t.held≤1048576)(aq:RD W ao t.qw)(ap:AR W bo t.pool)(at_:E_ W co rs)(he:∀r ∈ rs,RD W r.2.2.1 r.2.2.2.2∧J7 r.2.2.2.2)(ad:zF W od cd t.AY)(ah:RG (OH t.held) 18 W (.slice oe t.held.length ce) t.held.length):
 J8 t∧RS t∧kT W t (.slice ao t.qw.length ca) bo (.slice co t.tab.length cc) (.slice od t.AY.length cd) (.slice oe t.held.length ce):=by
 obtain⟨hsm,⟨s1,s2⟩,h1,h2⟩:=Sk ht g;refine⟨hsm,⟨s1,s2,fun p hp=>(h1 p hp).1,fun j hj=>?_⟩,⟨aq.ri (by have:=hsm.q;omega),ap,?_,ad.rb (by omega),OH.vR ah hsm.hh⟩⟩
 ·have:=h2 j hj;unfold ku at this;exact⟨by omega,by omega,by omega,by omega⟩
 have h3:∀r ∈ rs,r.2.2.2.2.length≤4194304:=fun r hr=>by have:=Sq hr;omega
 have:=E_.vQ (ca:=cc) at_ (fun r hr=>(he r hr).1) h3;rw[show rs.length=t.tab.length by rw[ht];simp]at this;rw[←ht]at this;exact this
theorem zB.new(id:Int):zB (Ih id):=⟨(Nat.zero_le _:0≤33554432),(Nat.zero_le _:0≤33554432),fun p hp=>by simp[Ih]at hp,fun j hj=>by simp[Ih]at hj⟩
end
section
open Go.RowKit
variable [∀(a b c d:Int),Decidable (BK a b c d)] [∀(a b c d:Nat),Decidable (Dc a b c d)] [∀(last:Int)(s:St),Decidable (Ak last s)] [∀(x:T4),Decidable (Dv x)] [∀(n:Int)(s:List Int),Decidable (Dw n s)] [∀(n f:Int),Decidable (A9 n f)]
def Vi(n f v:Int)(s:ByteArray)(ys:List Int):List Int:=if D9 n f v s ys=true then WX v s ys else []
def Gg(n f vo lo v:Int)(s:ByteArray)(ys:List Int)(d:ByteArray):List Int:=if Db n f vo lo v s ys d=true then Mm vo lo v s ys d else []
def Fa(n f vo lo v:Int)(s:ByteArray)(ys:List Int)(d:ByteArray):List Int:=if Db n f vo lo v s ys d=true then vX (vo,lo,(v,s,ys),d)else []
theorem OB.nil(w:World)(base:Nat):OB w base (.slice none 0 0) []:=World.ownsRow_nil _ _ _ _

theorem Zn(ao:Option Addr)(ca:Nat)(ys:List Int)(w:World)(hl:ys.length≤1000)(ha:RI w (.slice ao ys.length ca) ys):
 Calls Tryz.prog 251 #[.slice ao ys.length ca] w fun e w'=>∃u,e= .returned u∧OB w' w.heap.size u (IU ys)∧Below w.heap.size w w':=by
 have HA:=hide ha;obtain⟨n,hn⟩:∃n,ys.length=n:=⟨_,rfl⟩
 have PN:=hide fun w=>Jj (n:Int) w;have hp5:=BC (n:Int);have HW:Hid (IU ys=Av n++Cn ys):=by rw[←hn];exact hide rfl
 have HF:Hid (∀k,k<n→Cn (ys.take (k+1))=Cn (ys.take k)++Av (ys.getD k 0)):=hide fun k hk=>by
  rw[List.take_succ_eq_append_getElem (by omega),Qt,List.getD_eq_getElem?_getD,List.getElem?_eq_getElem (by omega)];rfl
 have HL:Hid (∀k,(Cn (ys.take k)).length≤5000):=hide fun k=>by have:=M6 (ys.take k);simp at this;omega
 have HZ:Hid (Cn (ys.take 0)=[]):=hide rfl;have HT:Hid (ys.take n=ys):=hide (by rw[←hn];simp);have HG:Hid (∀k,k<n→∃b off,ao=some ⟨b,off,none⟩∧w.cell? ⟨b,off+k,none⟩=some (.int .i64 (ys.getD k 0))):=hide fun k hk=>RI.at ha k (by omega);have hn1:n≤1000:=by omega
 rw[hn];clear ha hn HA hl;generalize Av (n:Int)=l0 at *;go_enter Tryz.func251,Tryz.ntmps251
 go_wp2_with fail
 refine(PN.out _).mono ?_;rintro e w1 ⟨u0,rfl,o0,b0⟩;clear PN;have O0:OB w1 w.heap.size u0 (l0++Cn (ys.take 0)):=by rw[HZ.out,List.append_nil];exact o0
 clear o0;go_wp2
 go_loopw [3,11] (fun o i wr=>∃k:Nat,k≤n∧i= .int .i64 (k:Int)∧OB wr w.heap.size o (l0++Cn (ys.take k))∧Below w.heap.size w wr) (fun _ i _=>n-(intOf i).toNat)
 case atStart=>exact⟨0,Nat.zero_le _,rfl,O0,b0⟩
 case round=>
  clear O0 b0;obtain⟨k,hk,rfl,ob,br⟩:=hrel;obtain⟨va,vc,rfl⟩:=ob.form;have ltb:=ob.lt;have zr:=br.size;by_cases hlt:k<n
  ·obtain⟨b,off,hao,hc⟩:=HG.out k hlt;subst hao;have hc':=(br.cell (AU hc)).trans hc;have hd:decide ((k:Int)<(n:Int))=true:=by simpa using hlt
   have FK:=hide (HF.out k hlt);have lK:=HL.out k;have x5:=BC (ys.getD k 0);have PX:=hide (Jj (ys.getD k 0) wr);have yY:=hide ob;obtain⟨ln,hln⟩:∃m,(l0++Cn (ys.take k)).length=m:=⟨_,rfl⟩
   have l5:ln≤5005:=by rw[←hln,List.length_append];omega
   rw[hln]at yY ltb⊢;have HLN:=hide hln;clear hc ob hln lK;generalize ys.getD k 0=x at *;go_wp2_with fail
   clear hc';refine PX.out.mono ?_;rintro e w2 ⟨u1,rfl,o1,b1⟩;clear PX;have o1':OB w2 wr.heap.size u1 (Av x):=o1;obtain⟨ua,uc,rfl⟩:=o1'.form;have P1:=hide (o1'.pb (by omega));have OA:=hide (yY.out.below b1);have B2:=bu br b1;obtain⟨l1,hl1⟩:∃l,Av x=l:=⟨_,rfl⟩
   rw[hl1]at P1 x5 FK⊢;clear o1 o1' b1 br hl1 yY;go_wp2_with (first|(at_builtin;refine Ap rfl _ _ rfl w.heap.size (.slice va ln vc) (.slice ua l1.length uc) (l0++Cn (ys.take k)) l1 rfl rfl OA.out P1.out (by have:=HLN.out;omega) B2.size ?_;intro v' w3 ho' hg' _;have HO:=hide ho';have B3:=hide (B2.grown hg' B2.size (fun j hj=>(ltb j hj).1));clear ho' hg'))
   go_roundw
   case rel=>exact⟨k+1,by omega,by go_num,by rw[FK.out,←List.append_assoc];exact HO.out,B3.out⟩
   case measure=>simp[intOf];omega
  obtain rfl:k=n:=by omega
  have hd:decide ((k:Int)<(k:Int))=false:=by simp
  have OF:OB wr w.heap.size (.slice va (l0++Cn (ys.take k)).length vc) (IU ys):=by rw[HW.out];have:=ob;rwa [HT.out]at this⊢
  clear ob;generalize (l0++Cn (ys.take k)).length=ln at *;go_wp2;go_ret;exact⟨_,rfl,OF,br⟩

theorem XR(n f v:Int)(s:ByteArray)(ao:Option Addr)(ca:Nat)(ys:List Int)(w:World)(hs:s.size≤33554432)(hE:Env w)(ha:RI w (.slice ao ys.length ca) ys):
 Calls Tryz.prog 227 #[cv n f,qv v s (.slice ao ys.length ca)] w fun e w'=>∃u,e= .returned u∧OB w' w.heap.size u (Vi n f v s ys)∧Below w.heap.size w w':=by
 have QO:=hide fun w'(b:Below w.heap.size w w')=>ML n f v s ao ca ys w' hs (hE.below b) (ha.below b);have RW:=hide fun w'(b:Below w.heap.size w w')=>ha.below b;have HQ:=hide fun h=>IA (n:=n) (f:=f) (v:=v) (s:=s) (ys:=ys) h;obtain⟨res,hres⟩:∃r,Vi n f v s ys=r:=⟨_,rfl⟩
 rw[hres];have HF:Hid (D9 n f v s ys=false→res=[]):=hide fun h=>by rw[←hres];unfold Vi;rw[h];rfl
 have HT:Hid (D9 n f v s ys=true→res=Av v++DJ s++IU ys):=hide fun h=>by rw[←hres];unfold Vi;rw[h];rfl
 generalize D9 n f v s ys=bq at *;clear hE ha hs hres;obtain⟨w0,hw0,AO,LC,LQ,Cm⟩:=El w #[.int .i64 n,.int .i64 f] 48 #[.int .i64 v,.string s,.slice ao ys.length ca] 38;go_enter Tryz.func227,Tryz.ntmps227
 obtain⟨AZ,Ab⟩:=B_ LC 0 1;obtain⟨Kl,Kk,Kj⟩:=CW LQ 0 1 2;go_wp2_with fail
 clear hw0;refine(QO.out _ AO).mono ?_;rintro _ w1 ⟨rfl,bb⟩;clear AZ Ab Kl Kk Kj;have AL:=bu AO bb;have Cj:=bb.size;replace LC:=LC.up bb;replace LQ:=LQ.up bb;clear AO bb QO;cases bq with
 |false=>
  clear LC LQ;go_wp2;go_ret;exact⟨_,rfl,by rw[HF.out (by trivial)];exact OB.nil _ _,AL⟩
 |true=>
  obtain⟨hv,hs,h7,hN⟩:=HQ.out (by trivial);have T1:=hide fun w=>Jj v w;have T2:=hide fun w=>XN s w (by omega);have T3:=hide fun w'(b:Below w1.heap.size w1 w')=>Zn ao ca ys w' (by omega) (RW.out _ (bu AL b));have l1:=BC v;have l2:=FQ s;have l3:=Pj ys;have p1:=IZ v (by omega) (by omega);generalize Av v=x1 at *;generalize DJ s=x2 at *;generalize IU ys=x3 at *;clear HQ RW hN hv;have K:=kw (ka (Hr LC 0 1) (Uf LQ 0 1 2));go_upto_region 3 with fail
  refine Em K (fun bA hHeld=>?_);refine tx 0 9 ?_;refine tx 3 12 ?_;refine tx 6 15 ?_;refine tx 1 10 ?_;refine tx 4 13 ?_;refine tx 7 16 ?_;refine rd 2 rfl (fun KK AA=>?_);go_simp;have hgo:=bA;refine(T1.out _).mono ?_;rintro e Hz ⟨u1,rfl,(o1:OB _ _ u1 x1),bb⟩;have Am:Below w1.heap.size w1 Hz:=bu bA bb;replace o1:=o1.mono hgo.size;obtain⟨JE,Ji,rfl⟩:=o1.form;clear bA hgo bb hHeld;refine AA.out _ _ (K.out _ Am) (fun hHeld=>?_);clear AA KK;refine rd 5 rfl (fun KK AA=>?_);go_simp;have hgo:=Am;refine(T2.out _).mono ?_;rintro e JF ⟨u2,rfl,o2,bb⟩;have BG:Below w1.heap.size w1 JF:=bu Am bb;replace o1:=o1.below bb;replace o2:=o2.mono hgo.size;obtain⟨Nl,Oh,rfl⟩:=o2.form;clear Am hgo bb hHeld;refine AA.out _ _ (K.out _ BG) (fun hHeld=>?_);clear AA KK;refine rd 8 rfl (fun KK AA=>?_);go_simp;have hgo:=BG;refine(T3.out _ hgo).mono ?_;rintro e Hy ⟨u3,rfl,o3,bb⟩;have EY:Below w1.heap.size w1 Hy:=bu BG bb;replace o1:=o1.below bb;replace o2:=o2.below bb;replace o3:=o3.mono hgo.size;obtain⟨fC,dz,rfl⟩:=o3.form;clear BG hgo bb hHeld;refine AA.out _ _ (K.out _ EY) (fun hHeld=>?_);clear AA KK;refine rd 9 rfl (fun KK AA=>?_);go_simp;obtain⟨Jz,Un⟩:∃x,(Hy).alloc (.cells #[.slice JE x1.length Ji,.slice Nl x2.length Oh,.slice fC x3.length dz] 31)=x:=⟨_,rfl⟩
  have bb:Below (Hy).heap.size (Hy) Jz:=Un▸Ac _ _;have Mf:Below w1.heap.size w1 Jz:=bu EY bb;have LV:Loc Jz (Hy).heap.size #[.slice JE x1.length Ji,.slice Nl x2.length Oh,.slice fC x3.length dz]:=Un▸AB (Hy) _ _ rfl;replace o1:=o1.below bb;replace o2:=o2.below bb;replace o3:=o3.below bb;rw[Un];clear EY Un bb hHeld;refine AA.out _ _ (K.out _ Mf) (fun hHeld=>?_);clear AA KK;refine rd 10 rfl (fun KK AA=>?_);go_simp;have hgo:=Mf;refine(Xt _ _ _ _ x1 x2 x3 _ (LV.cell 0 rfl) (LV.cell 1 rfl) (LV.cell 2 rfl) (o1.pb (by omega)) (o2.pb (by omega)) (o3.pb (by omega)) (by omega) (by omega)).mono ?_;rintro e Vk ⟨u4,rfl,o4,bb⟩;have wK:Below w1.heap.size w1 Vk:=bu Mf bb;replace LV:=LV.up bb;replace o1:=o1.below bb;replace o2:=o2.below bb;replace o3:=o3.below bb;replace o4:=OB.mono o4 (Nat.le_trans AL.size hgo.size);clear Mf hgo bb hHeld;refine AA.out _ _ (K.out _ wK) (fun hHeld=>?_);clear AA KK;refine tx 11 4 ?_;clear hHeld;refine Bu ?_;have bb:=wK;have yn:=bu AL bb;have AC2:=bb.size;replace LC:=LC.up bb;replace LQ:=LQ.up bb;clear AL bb wK K;go_wp2;go_ret;exact⟨_,rfl,by rw[HT.out (by trivial)];exact o4,yn⟩
theorem nZ(n f vo lo v:Int)(s:ByteArray)(ys:List Int)(d:ByteArray):(Fa n f vo lo v s ys d).length≤5000:=by
 unfold Fa
 split
 ·rename_i h;have:=QN (n:=n) (f:=f) (t:=(vo,lo,(v,s,ys),d)) h;unfold vX;rw[List.length_append,List.length_append];have:=BC ((ZG (vo,lo,(v,s,ys),d)).length:Int);simp only[List.length_cons,List.length_nil];omega
 simp
end
section
open Go Go.RowKit
variable [∀(a b c d:Int),Decidable (BK a b c d)] [∀(n f:Int),Decidable (A9 n f)] [∀(a b c d:Nat),Decidable (Dc a b c d)] [∀(x:T4),Decidable (Dv x)] [∀(last:Int)(s:St),Decidable (Ak last s)] [∀(n:Int)(s:List Int),Decidable (Dw n s)] [∀(x y:T4),Decidable (Hu x y)] [∀(ts:List T4),Decidable (Asc ts)] [∀(ts:List T4),Decidable (Dh ts)] [∀(ts:List T4),Decidable (J9 ts)]
theorem EI.zero(w:World):EI w Hw (.slice none 0 0) (.slice none 0 0) (.slice none 0 0) (.slice none 0 0) (.slice none 0 0):=
 ⟨⟨by simp[Hw],none,0,rfl,.inl rfl⟩,⟨by simp[Hw],none,0,rfl,.inl rfl⟩,⟨none,0,rfl,.inl rfl⟩,⟨by simp[Hw],none,0,rfl,⟨by simp[Hw],by unfold maxLen;omega⟩,.inl rfl⟩,K8.nil w⟩
theorem J8.zero:J8 Hw:=⟨by simp[Hw],by simp[Hw],by simp[Hw],by simp[Hw],by simp[Hw],fun p hp=>by simp[Hw]at hp,fun j hj=>by simp[Hw]at hj⟩
theorem xS{t:Bv}{rs:List Pr}(ht:t.tab=rs.map YC)(g:(t.s.size:Int)+t.qw.length+t.d.size+t.pool.length+rs.length+Bt rs+t.AY.length+t.held.length+BJ t.held≤1048576)(hh:∀p ∈ t.held,(J7 p.2.bw∧J7 p.2.pw∧J7 p.2.qw)∧MI p.2):zB t:=by
 obtain⟨_,⟨s1,s2⟩,h1,h2⟩:=Sk ht g;refine⟨by omega,by omega,fun p hp=>by have:=(h1 p hp).1;omega,fun j hj=>⟨?_,(hh _ (by rw[List.getD_eq_getElem?_getD,List.getElem?_eq_getElem hj];exact List.getElem_mem hj)).2⟩⟩;have:=h2 j hj;unfold ku at this;exact⟨by omega,by omega,by omega,by omega⟩
theorem SK:∀rs:List Pr,Vn (rs.map YC)≤Bt rs
 | []=>Nat.le_refl _
 |r :: rs=>by have:=SK rs;simp only[List.map_cons,Vn,Bt,YC];omega
theorem Sv:∀(k:Nat)(ps:List Ck),CR k ps≤k+15*ps.length+BJ ps
 |k,[]=>by simp[CR]
 |k,p :: ps=>by
  have:=Sv (k+qx p) ps;simp only[CR,BJ,List.length_cons];unfold qx at this⊢;unfold ku;omega
theorem xR{t:Bv}(h:RS t):RZ t:=⟨by have:=h.s;omega,by have:=h.d;omega,fun p hp=>by have:=h.tb p hp;omega,fun j hj=>by obtain⟨h1,h2,h3,h4⟩:=h.h j hj;exact⟨by omega,by omega,by omega,by omega⟩⟩
end
section
open Go.RowKit
theorem QI(ao:Option Addr)(n ca:Nat)(s:Int)(xs:List Int)(bo:Option Addr)(cb:Nat)(ys:List Int)(w:World)(hr:RB w (.slice ao n ca) xs)(hl:xs.length≤1048576)(hr2:RB w (.slice bo ys.length cb) ys)(hl2:ys.length≤1048576)(hd:EC n s=true)(hd2:EC (n+ys.length) s=true):
 Calls Tryz.prog 117 #[dv (.slice ao n ca) s,.slice bo ys.length cb] w fun e w'=>∃u,e= .returned (.tuple #[dv u s,.bool true])∧OB w' w.heap.size u (xs++ys)∧Below w.heap.size w w':=by
 have hn:=(KX hr).1;have oq:=(KX hr).2;have hna:n≤xs.length:=by omega
 have hnb:xs.length≤n:=by omega
 clear hn;have HR:=hide hr;have HP:=hide hr2.pb;have HB:=hide hr2;have CP:=hide fun w h=>Lg ao n ca s xs w h (by omega);have DK:=hide fun w=>ET ao n ca s w;have DZ:=hide fun a c w=>ET a (xs++ys).length c s w;have hzl:(xs++ys).length=n+ys.length:=by rw[List.length_append];omega
 have hz1:(xs++ys).length≤4194304:=by omega
 rw[hd]at DK;rw[hzl,hd2]at DZ;rw[←hzl]at DZ;obtain⟨zs,hzs⟩:∃z,xs++ys=z:=⟨_,rfl⟩
 have HZ:=hide hzs;rw[hzs]at hzl hz1 DZ⊢;have hz2:xs.length+ys.length≤4194304:=by omega
 clear hr hd hzl hr2 hzs hd2;obtain⟨w0,hw0,AO,P,R,Cm⟩:=El w #[.slice ao n ca,.int .i64 s] 43 #[.slice none 0 0,.int .i64 0] 43;go_enter Tryz.func117,Tryz.ntmps117
 obtain⟨Me,U9⟩:=B_ P 0 1;go_wp2_with fail
 clear hw0;refine(CP.out _ (HR.out.below AO)).mono ?_;rintro _ w1 ⟨uX,rfl,oX,bb⟩;clear Me U9;have AL:=bu AO bb;have Cj:=bb.size;replace P:=P.up bb;replace R:=R.up bb;clear AO bb;have SQ:=World.ownsRow.lt oX;obtain⟨qO,n_,rfl⟩:=oX.form;obtain⟨w2,hw2⟩:∃x,w1.alloc (.cells #[.slice qO xs.length n_,.int .i64 s] 43)=x:=⟨_,rfl⟩
 have bb:Below w1.heap.size w1 w2:=hw2▸Ac _ _;have O:Loc w2 w1.heap.size #[.slice qO xs.length n_,.int .i64 s]:=hw2▸AB w1 _ _ rfl;have zw2:w2.heap.size=w1.heap.size+1:=by rw[←hw2];simp
 have Ah:=bu AL bb;have Ej:=bb.size;replace P:=P.up bb;replace R:=R.up bb;replace oX:=oX.below bb;clear AL bb;obtain⟨YG,ek⟩:=B_ O 0 1;have fO:=O.frozen;have PY:=hide (HB.out.below Ah).pb;have OX:=hide oX;have zO:=O.lt;have oXb:=World.ownsRow.lt oX;go_upto_region 3 with(first|(at_builtin;refine Ap rfl _ _ rfl _ (.slice qO xs.length n_) (.slice bo ys.length cb) xs ys rfl rfl OX.out PY.out (by omega) (by omega) ?_;intro u3 wA o3 gA hA;rw[HZ.out]at o3;obtain⟨fM,fK,hu3⟩:=o3.form;subst hu3;have OZ:=hide o3;have HA:=hide hA;have kA:=hide (Bo gA);have OA:=O.kp (Bo gA) (fun e=>by have:=SQ _ e;omega);have CJ:=OA.cell 0 rfl;have Dk:=OA.cell 1 rfl;have fA:=OA.frozen;clear o3 gA hA YG ek fO))
 clear hw2;have kA':=kA.out;have zA:=kA'.size;have o3:=OZ.out;have hA:=HA.out;have qp:∀j,(Value.slice fM zs.length fK).ownBlock=some j→w.heap.size+1+1≤j∧j<wA.heap.size∧j≠w1.heap.size:=fun j hj=>by have h1:=World.ownsRow.lt o3 j hj;refine⟨by omega,h1.2,?_⟩;rcases hA with h|h<;>rw[h]at hj;(have:=SQ j hj;omega);(injection hj with hj;omega)
 replace P:=P.kp kA' (fun e=>by have:=SQ _ e;omega);replace R:=R.kp kA' (fun e=>by have:=SQ _ e;omega);replace O:=OA;have ql:Below w.heap.size w wA:=Below.kp Ah kA' Ah.size (fun k hk=>by have:=SQ k hk;omega);clear OZ HA kA kA' hA CJ Dk fA OA oX OX SQ oXb PY Ah;obtain⟨w3,hw3⟩:∃Co,(wA.setCell ⟨w1.heap.size,0,none⟩ (.slice fM zs.length fK))=Co:=⟨_,rfl⟩
 have kN:Kp wA w3 (fun k=>k=w1.heap.size):=hw3▸AJ _ _ _ _;replace O:Loc w3 (w1.heap.size) #[.slice fM zs.length fK,.int .i64 s]:=hw3▸(O.set 0 _ rfl);replace P:=P.kp kN (by omega);replace R:=R.kp kN (by omega);replace o3:=o3.kp kN (fun j hj e=>by have:=qp j hj;omega);have BH:=Below.kp ql kN ql.size (fun k hk=>by omega);have IL:=kN.size;rw[hw3];clear hw3 kN ql;obtain⟨Me,U9⟩:=B_ P 0 1;go_wp2_with fail
 refine(DK.out _).mono ?_;rintro _ w4 ⟨rfl,bb⟩;clear Me U9;have Cr:=bu BH bb;have Nq:=bb.size;replace P:=P.up bb;replace R:=R.up bb;replace O:=O.up bb;replace o3:=o3.below bb;clear BH bb;obtain⟨YG,ek⟩:=B_ O 0 1;go_wp2_with fail
 refine(DZ.out _ _ _).mono ?_;rintro _ w5 ⟨rfl,bb⟩;clear YG ek;have Fj:=bu Cr bb;have Yt:=bb.size;replace P:=P.up bb;replace R:=R.up bb;replace O:=O.up bb;replace o3:=o3.below bb;clear Cr bb;obtain⟨cR0,cR1⟩:=B_ R 0 1;obtain⟨YG,ek⟩:=B_ O 0 1;have fR:=R.frozen;go_wp2;refine bodyPost_ret (v:= .tuple #[dv (.slice fM zs.length fK) s,.bool true]) (by simp[results,Tryz.results117,go_sem,cR0,cR1]) rfl ?_;have Q:Kp w5 ((w5.setCell ⟨w.heap.size+1,0,none⟩ (.slice fM zs.length fK)).setCell ⟨w.heap.size+1,1,none⟩ (.int .i64 s)) (fun k=>k=w.heap.size+1):=(AJ _ _ _ _).trans (AJ _ _ _ _);have tz:=World.ownsRow.lt o3;exact⟨_,rfl,(OB.kp o3 Q (fun j hj e=>by have:=tz j hj;omega)).mono (by omega),Below.kp Fj Q (by omega) (fun k hk=>by omega)⟩
theorem QK(ao:Option Addr)(n ca:Nat)(s:Int)(xs:List Int)(bo:Option Addr)(cb:Nat)(ys:List Int)(w:World)(hr:RB w (.slice ao n ca) xs)(hl:xs.length≤1048576)(hr2:RB w (.slice bo ys.length cb) ys)(hl2:ys.length≤1048576)(hd:EC n s=false):
 Calls Tryz.prog 117 #[dv (.slice ao n ca) s,.slice bo ys.length cb] w fun e w'=>∃u,e= .returned (.tuple #[dv u s,.bool false])∧OB w' w.heap.size u (xs)∧Below w.heap.size w w':=by
 have hn:=(KX hr).1;have oq:=(KX hr).2;have hna:n≤xs.length:=by omega
 have hnb:xs.length≤n:=by omega
 clear hn;have HR:=hide hr;have HP:=hide hr2.pb;have HB:=hide hr2;have CP:=hide fun w h=>Lg ao n ca s xs w h (by omega);have DK:=hide fun w=>ET ao n ca s w;have DZ:=hide fun a c w=>ET a (xs++ys).length c s w;have hzl:(xs++ys).length=n+ys.length:=by rw[List.length_append];omega
 have hz1:(xs++ys).length≤4194304:=by omega
 rw[hd]at DK;obtain⟨zs,hzs⟩:∃z,xs++ys=z:=⟨_,rfl⟩
 have HZ:=hide hzs;rw[hzs]at hzl hz1 DZ;have hz2:xs.length+ys.length≤4194304:=by omega
 clear hr hd hzl hr2 hzs;obtain⟨w0,hw0,AO,P,R,Cm⟩:=El w #[.slice ao n ca,.int .i64 s] 43 #[.slice none 0 0,.int .i64 0] 43;go_enter Tryz.func117,Tryz.ntmps117
 obtain⟨Me,U9⟩:=B_ P 0 1;go_wp2_with fail
 clear hw0;refine(CP.out _ (HR.out.below AO)).mono ?_;rintro _ w1 ⟨uX,rfl,oX,bb⟩;clear Me U9;have AL:=bu AO bb;have Cj:=bb.size;replace P:=P.up bb;replace R:=R.up bb;clear AO bb;have SQ:=World.ownsRow.lt oX;obtain⟨qO,n_,rfl⟩:=oX.form;obtain⟨w2,hw2⟩:∃x,w1.alloc (.cells #[.slice qO xs.length n_,.int .i64 s] 43)=x:=⟨_,rfl⟩
 have bb:Below w1.heap.size w1 w2:=hw2▸Ac _ _;have O:Loc w2 w1.heap.size #[.slice qO xs.length n_,.int .i64 s]:=hw2▸AB w1 _ _ rfl;have zw2:w2.heap.size=w1.heap.size+1:=by rw[←hw2];simp
 have Ah:=bu AL bb;have Ej:=bb.size;replace P:=P.up bb;replace R:=R.up bb;replace oX:=oX.below bb;clear AL bb;obtain⟨YG,ek⟩:=B_ O 0 1;have fO:=O.frozen;have PY:=hide (HB.out.below Ah).pb;have OX:=hide oX;have zO:=O.lt;have oXb:=World.ownsRow.lt oX;go_upto_region 3 with(first|(at_builtin;refine Ap rfl _ _ rfl _ (.slice qO xs.length n_) (.slice bo ys.length cb) xs ys rfl rfl OX.out PY.out (by omega) (by omega) ?_;intro u3 wA o3 gA hA;rw[HZ.out]at o3;obtain⟨fM,fK,hu3⟩:=o3.form;subst hu3;have OZ:=hide o3;have HA:=hide hA;have kA:=hide (Bo gA);have OA:=O.kp (Bo gA) (fun e=>by have:=SQ _ e;omega);have CJ:=OA.cell 0 rfl;have Dk:=OA.cell 1 rfl;have fA:=OA.frozen;clear o3 gA hA YG ek fO))
 clear hw2;have kA':=kA.out;have zA:=kA'.size;have o3:=OZ.out;have hA:=HA.out;have qp:∀j,(Value.slice fM zs.length fK).ownBlock=some j→w.heap.size+1+1≤j∧j<wA.heap.size∧j≠w1.heap.size:=fun j hj=>by have h1:=World.ownsRow.lt o3 j hj;refine⟨by omega,h1.2,?_⟩;rcases hA with h|h<;>rw[h]at hj;(have:=SQ j hj;omega);(injection hj with hj;omega)
 replace P:=P.kp kA' (fun e=>by have:=SQ _ e;omega);replace R:=R.kp kA' (fun e=>by have:=SQ _ e;omega);replace O:=OA;have ql:Below w.heap.size w wA:=Below.kp Ah kA' Ah.size (fun k hk=>by have:=SQ k hk;omega);clear OZ HA kA kA' hA CJ Dk fA OA oX OX SQ oXb PY Ah;obtain⟨w3,hw3⟩:∃Co,(wA.setCell ⟨w1.heap.size,0,none⟩ (.slice fM zs.length fK))=Co:=⟨_,rfl⟩
 have kN:Kp wA w3 (fun k=>k=w1.heap.size):=hw3▸AJ _ _ _ _;replace O:Loc w3 (w1.heap.size) #[.slice fM zs.length fK,.int .i64 s]:=hw3▸(O.set 0 _ rfl);replace P:=P.kp kN (by omega);replace R:=R.kp kN (by omega);replace o3:=o3.kp kN (fun j hj e=>by have:=qp j hj;omega);have BH:=Below.kp ql kN ql.size (fun k hk=>by omega);have IL:=kN.size;rw[hw3];clear hw3 kN ql;obtain⟨Me,U9⟩:=B_ P 0 1;go_wp2_with fail
 refine(DK.out _).mono ?_;rintro _ w4 ⟨rfl,bb⟩;clear Me U9;have Cr:=bu BH bb;have Nq:=bb.size;replace P:=P.up bb;replace R:=R.up bb;replace O:=O.up bb;replace o3:=o3.below bb;clear BH bb;obtain⟨Me,U9⟩:=B_ P 0 1;go_wp2_with fail
 refine(CP.out _ (HR.out.below Cr)).mono ?_;rintro _ w5 ⟨uY,rfl,oY,bb⟩;clear Me U9;have Fj:=bu Cr bb;have Yt:=bb.size;replace P:=P.up bb;replace R:=R.up bb;replace O:=O.up bb;replace o3:=o3.below bb;clear Cr bb;have toY:=World.ownsRow.lt oY;obtain⟨aoY,koY,rfl⟩:=oY.form;obtain⟨cR0,cR1⟩:=B_ R 0 1;have fR:=R.frozen;go_wp2;refine bodyPost_ret (v:= .tuple #[dv (.slice aoY xs.length koY) s,.bool false]) (by simp[results,Tryz.results117,go_sem,cR0,cR1]) rfl ?_;have Q:Kp w5 ((w5.setCell ⟨w.heap.size+1,0,none⟩ (.slice aoY xs.length koY)).setCell ⟨w.heap.size+1,1,none⟩ (.int .i64 s)) (fun k=>k=w.heap.size+1):=(AJ _ _ _ _).trans (AJ _ _ _ _);have tz:=World.ownsRow.lt oY;exact⟨_,rfl,(OB.kp oY Q (fun j hj e=>by have:=tz j hj;omega)).mono (by omega),Below.kp Fj Q (by omega) (fun k hk=>by omega)⟩
theorem QJ(ao:Option Addr)(n ca:Nat)(s:Int)(xs:List Int)(bo:Option Addr)(cb:Nat)(ys:List Int)(w:World)(hr:RB w (.slice ao n ca) xs)(hl:xs.length≤1048576)(hr2:RB w (.slice bo ys.length cb) ys)(hl2:ys.length≤1048576)(hd:EC n s=true)(hd2:EC (n+ys.length) s=false):
 Calls Tryz.prog 117 #[dv (.slice ao n ca) s,.slice bo ys.length cb] w fun e w'=>∃u,e= .returned (.tuple #[dv u s,.bool false])∧OB w' w.heap.size u (xs)∧Below w.heap.size w w':=by
 have hn:=(KX hr).1;have oq:=(KX hr).2;have hna:n≤xs.length:=by omega
 have hnb:xs.length≤n:=by omega
 clear hn;have HR:=hide hr;have HP:=hide hr2.pb;have HB:=hide hr2;have CP:=hide fun w h=>Lg ao n ca s xs w h (by omega);have DK:=hide fun w=>ET ao n ca s w;have DZ:=hide fun a c w=>ET a (xs++ys).length c s w;have hzl:(xs++ys).length=n+ys.length:=by rw[List.length_append];omega
 have hz1:(xs++ys).length≤4194304:=by omega
 rw[hd]at DK;rw[hzl,hd2]at DZ;rw[←hzl]at DZ;obtain⟨zs,hzs⟩:∃z,xs++ys=z:=⟨_,rfl⟩
 have HZ:=hide hzs;rw[hzs]at hzl hz1 DZ;have hz2:xs.length+ys.length≤4194304:=by omega
 clear hr hd hzl hr2 hzs hd2;obtain⟨w0,hw0,AO,P,R,Cm⟩:=El w #[.slice ao n ca,.int .i64 s] 43 #[.slice none 0 0,.int .i64 0] 43;go_enter Tryz.func117,Tryz.ntmps117
 obtain⟨Me,U9⟩:=B_ P 0 1;go_wp2_with fail
 clear hw0;refine(CP.out _ (HR.out.below AO)).mono ?_;rintro _ w1 ⟨uX,rfl,oX,bb⟩;clear Me U9;have AL:=bu AO bb;have Cj:=bb.size;replace P:=P.up bb;replace R:=R.up bb;clear AO bb;have SQ:=World.ownsRow.lt oX;obtain⟨qO,n_,rfl⟩:=oX.form;obtain⟨w2,hw2⟩:∃x,w1.alloc (.cells #[.slice qO xs.length n_,.int .i64 s] 43)=x:=⟨_,rfl⟩
 have bb:Below w1.heap.size w1 w2:=hw2▸Ac _ _;have O:Loc w2 w1.heap.size #[.slice qO xs.length n_,.int .i64 s]:=hw2▸AB w1 _ _ rfl;have zw2:w2.heap.size=w1.heap.size+1:=by rw[←hw2];simp
 have Ah:=bu AL bb;have Ej:=bb.size;replace P:=P.up bb;replace R:=R.up bb;replace oX:=oX.below bb;clear AL bb;obtain⟨YG,ek⟩:=B_ O 0 1;have fO:=O.frozen;have PY:=hide (HB.out.below Ah).pb;have OX:=hide oX;have zO:=O.lt;have oXb:=World.ownsRow.lt oX;go_upto_region 3 with(first|(at_builtin;refine Ap rfl _ _ rfl _ (.slice qO xs.length n_) (.slice bo ys.length cb) xs ys rfl rfl OX.out PY.out (by omega) (by omega) ?_;intro u3 wA o3 gA hA;rw[HZ.out]at o3;obtain⟨fM,fK,hu3⟩:=o3.form;subst hu3;have OZ:=hide o3;have HA:=hide hA;have kA:=hide (Bo gA);have OA:=O.kp (Bo gA) (fun e=>by have:=SQ _ e;omega);have CJ:=OA.cell 0 rfl;have Dk:=OA.cell 1 rfl;have fA:=OA.frozen;clear o3 gA hA YG ek fO))
 clear hw2;have kA':=kA.out;have zA:=kA'.size;have o3:=OZ.out;have hA:=HA.out;have qp:∀j,(Value.slice fM zs.length fK).ownBlock=some j→w.heap.size+1+1≤j∧j<wA.heap.size∧j≠w1.heap.size:=fun j hj=>by have h1:=World.ownsRow.lt o3 j hj;refine⟨by omega,h1.2,?_⟩;rcases hA with h|h<;>rw[h]at hj;(have:=SQ j hj;omega);(injection hj with hj;omega)
 replace P:=P.kp kA' (fun e=>by have:=SQ _ e;omega);replace R:=R.kp kA' (fun e=>by have:=SQ _ e;omega);replace O:=OA;have ql:Below w.heap.size w wA:=Below.kp Ah kA' Ah.size (fun k hk=>by have:=SQ k hk;omega);clear OZ HA kA kA' hA CJ Dk fA OA oX OX SQ oXb PY Ah;obtain⟨w3,hw3⟩:∃Co,(wA.setCell ⟨w1.heap.size,0,none⟩ (.slice fM zs.length fK))=Co:=⟨_,rfl⟩
 have kN:Kp wA w3 (fun k=>k=w1.heap.size):=hw3▸AJ _ _ _ _;replace O:Loc w3 (w1.heap.size) #[.slice fM zs.length fK,.int .i64 s]:=hw3▸(O.set 0 _ rfl);replace P:=P.kp kN (by omega);replace R:=R.kp kN (by omega);replace o3:=o3.kp kN (fun j hj e=>by have:=qp j hj;omega);have BH:=Below.kp ql kN ql.size (fun k hk=>by omega);have IL:=kN.size;rw[hw3];clear hw3 kN ql;obtain⟨Me,U9⟩:=B_ P 0 1;go_wp2_with fail
 refine(DK.out _).mono ?_;rintro _ w4 ⟨rfl,bb⟩;clear Me U9;have Cr:=bu BH bb;have Nq:=bb.size;replace P:=P.up bb;replace R:=R.up bb;replace O:=O.up bb;replace o3:=o3.below bb;clear BH bb;obtain⟨YG,ek⟩:=B_ O 0 1;go_wp2_with fail
 refine(DZ.out _ _ _).mono ?_;rintro _ w5 ⟨rfl,bb⟩;clear YG ek;have Fj:=bu Cr bb;have Yt:=bb.size;replace P:=P.up bb;replace R:=R.up bb;replace O:=O.up bb;replace o3:=o3.below bb;clear Cr bb;obtain⟨Me,U9⟩:=B_ P 0 1;go_wp2_with fail
 refine(CP.out _ (HR.out.below Fj)).mono ?_;rintro _ w6 ⟨uY,rfl,oY,bb⟩;clear Me U9;have JD:=bu Fj bb;have rz:=bb.size;replace P:=P.up bb;replace R:=R.up bb;replace O:=O.up bb;replace o3:=o3.below bb;clear Fj bb;have toY:=World.ownsRow.lt oY;obtain⟨aoY,koY,rfl⟩:=oY.form;obtain⟨cR0,cR1⟩:=B_ R 0 1;have fR:=R.frozen;go_wp2;refine bodyPost_ret (v:= .tuple #[dv (.slice aoY xs.length koY) s,.bool false]) (by simp[results,Tryz.results117,go_sem,cR0,cR1]) rfl ?_;have Q:Kp w6 ((w6.setCell ⟨w.heap.size+1,0,none⟩ (.slice aoY xs.length koY)).setCell ⟨w.heap.size+1,1,none⟩ (.int .i64 s)) (fun k=>k=w.heap.size+1):=(AJ _ _ _ _).trans (AJ _ _ _ _);have tz:=World.ownsRow.lt oY;exact⟨_,rfl,(OB.kp oY Q (fun j hj e=>by have:=tz j hj;omega)).mono (by omega),Below.kp JD Q (by omega) (fun k hk=>by omega)⟩
theorem um{n m:Nat}{s:Int}:Ja n m s=(EC n s&&EC (n+m) s):=by
 unfold Ja;by_cases h:EC n s=true
 ·obtain⟨h1,h2,h3⟩:=eT.1 h;have h4:0≤s∧s≤((n+m:Nat):Int):=by omega
  simp only[h,Bool.true_and];unfold EC;simp[h4.1];omega
 simp only[Bool.not_eq_true]at h;simp[h]
def zi(n:Nat)(s:Int):Int:=if EC n s then(n:Int)else s
def NH(s:Int)(xs ys:List Int):List Int:=if Ja xs.length ys.length s then xs++ys else xs
theorem Qp(ao:Option Addr)(ca cb:Nat)(s:Int)(xs:List Int)(bo:Option Addr)(ys:List Int)(w:World)(hr:RB w (.slice ao xs.length ca) xs)(hl:xs.length≤1048576)(hr2:RB w (.slice bo ys.length cb) ys)(hl2:ys.length≤1048576):
 Calls Tryz.prog 160 #[dv (.slice ao xs.length ca) s,.slice bo ys.length cb] w fun e w'=>∃u,e= .returned (.tuple #[dv u s,.bool (Ja xs.length ys.length s)])∧OB w' w.heap.size u (NH s xs ys)∧Below w.heap.size w w':=by
 unfold NH;cases hd:Ja xs.length ys.length s with
 |true=>exact Qo ao ca cb s xs bo ys w hr hl hr2 hl2 hd
 |false=>exact Rx ao ca cb s xs bo ys w hr hl hr2 hl2 hd
theorem QL(ao:Option Addr)(ca cb:Nat)(s:Int)(xs:List Int)(bo:Option Addr)(ys:List Int)(w:World)(hr:RB w (.slice ao xs.length ca) xs)(hl:xs.length≤1048576)(hr2:RB w (.slice bo ys.length cb) ys)(hl2:ys.length≤1048576):
 Calls Tryz.prog 117 #[dv (.slice ao xs.length ca) s,.slice bo ys.length cb] w fun e w'=>∃u,e= .returned (.tuple #[dv u s,.bool (Ja xs.length ys.length s)])∧OB w' w.heap.size u (NH s xs ys)∧Below w.heap.size w w':=by
 unfold NH;rw[um];cases hd:EC xs.length s with
 |false=>exact QK ao xs.length ca s xs bo cb ys w hr hl hr2 hl2 hd
 |true=>
  cases hd2:EC (xs.length+ys.length) s with
  |true=>exact QI ao xs.length ca s xs bo cb ys w hr hl hr2 hl2 hd hd2
  |false=>exact QJ ao xs.length ca s xs bo cb ys w hr hl hr2 hl2 hd hd2
end
section
open Go Go.RowKit
variable [∀(a b c d:Int),Decidable (BK a b c d)] [∀(n f:Int),Decidable (A9 n f)] [∀(a b c d:Nat),Decidable (Dc a b c d)] [∀(x:T4),Decidable (Dv x)] [∀(last:Int)(s:St),Decidable (Ak last s)] [∀(n:Int)(s:List Int),Decidable (Dw n s)] [∀(x y:T4),Decidable (Hu x y)] [∀(ts:List T4),Decidable (Asc ts)] [∀(ts:List T4),Decidable (Dh ts)] [∀(ts:List T4),Decidable (J9 ts)]
def srT(t:Bv):Bv:={ t with su:=zi t.AY.length t.su,held:=[] }
theorem J8.sr{t:Bv}(h:J8 t):J8 (srT t):=⟨h.q,h.p,h.tb,h.d,by simp[srT],h.tt,fun j hj=>by simp[srT]at hj⟩
theorem RZ.sr{t:Bv}(h:RZ t):RZ (srT t):=⟨h.s,h.d,h.tt,fun j hj=>by simp[srT]at hj⟩
def GJ(w:World)(lo hi:Nat)(v:Value)(ps:List Ck):Prop:=hi≤w.heap.size∧∀(w':World)(X:Nat→Prop),Kp w w' X→(∀j,lo≤j→j<hi→¬X j)→K8 w' v ps
theorem GJ.kp{w w':World}{lo hi:Nat}{v:Value}{ps:List Ck}{X:Nat→Prop}(h:GJ w lo hi v ps)(k:Kp w w' X)(hx:∀j,lo≤j→j<hi→¬X j):GJ w' lo hi v ps:=
 ⟨Nat.le_trans h.1 k.size,fun w'' Y k' hy=>h.2 w'' (fun j=>X j∨Y j) ((k.mono (fun _=>Or.inl)).trans (k'.mono (fun _=>Or.inr))) (fun j h1 h2 e=>e.elim (hx j h1 h2) (hy j h1 h2))⟩
theorem GJ.below{w w':World}{lo hi:Nat}{v:Value}{ps:List Ck}(h:GJ w lo hi v ps)(b':Below w.heap.size w w'):GJ w' lo hi v ps:=h.kp (Below.Bf b' (fun _=>False)) (fun _ _ _ h=>h)
theorem GJ.vR{w:World}{lo hi:Nat}{v:Value}{ps:List Ck}(h:GJ w lo hi v ps):K8 w v ps:=h.2 w (fun _=>False) (Kp.refl _ _) (fun _ _ _ h=>h)
theorem GJ.nil(w:World)(lo hi:Nat)(h:hi≤w.heap.size):GJ w lo hi (.slice none 0 0) []:=⟨h,fun w' _ _ _=>K8.nil w'⟩
theorem GJ.mono{w:World}{lo lo' hi hi':Nat}{v:Value}{ps:List Ck}(h:GJ w lo hi v ps)(h1:lo'≤lo)(h2:hi≤hi')(h3:hi'≤w.heap.size):GJ w lo' hi' v ps:=
 ⟨h3,fun w' X k hx=>h.2 w' X k (fun j a b=>hx j (Nat.le_trans h1 a) (Nat.lt_of_lt_of_le b h2))⟩
theorem GJ.none(w:World)(lo hi:Nat)(ao:Option Addr)(ca:Nat)(h:hi≤w.heap.size):GJ w lo hi (.slice ao 0 ca) []:=⟨h,fun _ _ _ _=>⟨ao,ca,rfl,.inl rfl⟩⟩
theorem VX.stay{w:World}{base:Nat}{v:Value}{ps:List Ck}(h:VX w base v ps)(hs:∀j,j<ps.length→(ps.getD j AX).2.bw.length≤4194304∧(ps.getD j AX).2.pw.length≤4194304∧(ps.getD j AX).2.qw.length≤4194304):GJ w base w.heap.size v ps:=
 ⟨Nat.le_refl _,fun _ _ k hx=>(h.kp k.cut (fun j h1 h2=>hx j h1 h2.2 h2.1)).vR hs⟩
end
end Go.Proofs.YtcjmcgolgbkknaaGreatDoor
