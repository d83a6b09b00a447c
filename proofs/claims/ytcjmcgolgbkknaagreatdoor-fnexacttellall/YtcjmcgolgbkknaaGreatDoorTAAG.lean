/- Lemmas, as stated. -/
import Derived.Test.YtcjmcgolgbkknaaGreatDoorTAAF
import Derived.Laws.CopyOwn
set_option maxRecDepth 100000
set_option maxHeartbeats 16000000
set_option linter.unusedSectionVars false
namespace Go.Proofs.YtcjmcgolgbkknaaGreatDoor
section
open Go.RowKit
theorem VK{xs ys:List Int}{k:Nat}(h1:k≤xs.length)(h2:k≤ys.length)(h:¬(k<xs.length∧k<ys.length))(he:∀j,j<k→xs.getD j 0=ys.getD j 0):xs.length=ys.length↔xs=ys:=by
 constructor
 ·intro e
  apply List.ext_getElem e
  intro i p q;have:=he i (by omega);simpa[List.getD_eq_getElem?_getD,p,q]using this
 rintro rfl;rfl
theorem EX{t s:ByteArray}(h:t≠s):(t.toList==s.toList)=false:=by
 rw[beq_eq_false_iff_ne];intro e;rw[ByteArray.toList_eq,ByteArray.toList_eq]at e;exact h (ByteArray.ext (Array.toList_inj.1 e))
theorem VJ{xs ys:List Int}{k:Nat}(h:xs.getD k 0≠ys.getD k 0):xs≠ys:=fun e=>h (e▸rfl)

theorem O7(va vb:Value)(xs ys:List Int)(w:World)(ha:RI w va xs)(hb:RI w vb ys):
 Calls Tryz.prog 193 #[va,vb] w fun e w'=>e= .returned (.bool (decide (xs=ys)))∧∃n,w'=w.drewN n:=by
 obtain⟨hl,ao,ca,rfl,ha⟩:=ha;obtain⟨hl',bo,cb,rfl,hb⟩:=hb;have EN:=hide fun k h1 h2 h he=>VK (xs:=xs) (ys:=ys) (k:=k) h1 h2 h he;have OF:=hide fun k h=>VJ (xs:=xs) (ys:=ys) (k:=k) h
 have HE:Hid (∀b,(xs=ys↔b=true)→decide (xs=ys)=b):=hide fun b h=>by
  cases b
  ·simpa using h
  simpa using h
 obtain⟨n,hn⟩:∃n,xs.length=n:=⟨_,rfl⟩
 obtain⟨m,hm⟩:∃m,ys.length=m:=⟨_,rfl⟩
 rw[hn]at ha EN hl⊢;rw[hm]at hb EN hl'⊢;have Hn:Hid (xs.length=n):=hn;have Hm:Hid (ys.length=m):=hm;clear hn hm;generalize decide (xs=ys)=q at *;go_enter Tryz.func193,Tryz.ntmps193
 go_wp2
 go_loopw [5] (fun i wr=>∃k:Nat,k≤n∧k≤m∧i= .int .i64 k∧(∀j,j<k→xs.getD j 0=ys.getD j 0)∧∃d,wr=w.drewN d) (fun i _=>n-(intOf i).toNat)
 case atStart=>exact⟨0,Nat.zero_le _,Nat.zero_le _,rfl,fun j hj=>by omega,0,rfl⟩
 case round=>
  obtain⟨k,hk,hk',rfl,he,d,rfl⟩:=hrel;have he:=hide he;by_cases hlt:k<n
  ·by_cases hlt':k<m
   ·rcases ha with ha|⟨b,off,rfl,ha⟩
    ·subst ha;have:=Hn.out;simp at this;omega
    rcases hb with hb|⟨b',off',rfl,hb⟩
    ·subst hb;have:=Hm.out;simp at this;omega
    have ha':=ha k hlt;have hb':=hb k hlt'
    have ER:=hide fun(e:xs.getD k 0=ys.getD k 0) j(hj:j<k+1)=>(by
     by_cases h:j=k
     ·subst h;exact e
     exact he.out j (by omega):xs.getD j 0=ys.getD j 0)
    have OK:=hide fun h=>OF.out k h;clear ha hb;generalize xs.getD k 0=x at *;generalize ys.getD k 0=y at *;by_cases hxy:x=y
    ·subst hxy;replace ER:=hide (ER.out rfl);clear OK;go_wp2_with fail
     go_quiet (fail)
     go_wp2
     go_roundw
     case rel=>exact⟨k+1,by omega,by omega,by go_num,ER.out,_,rfl⟩
     case measure=>simp[intOf];omega
    have hq:q=false:=HE.out false (by simp;exact OK.out hxy);subst hq;have hx:(x==y)=false:=by simpa using hxy
    go_wp2_with fail
    go_quiet (fail)
    go_wp2;go_ret;exact⟨rfl,d+nq,by simp[World.drewN,Nat.add_assoc]⟩
   have hnm:=EN.out k hk hk' (by omega) he.out;have hq:q=false:=HE.out false (by simp;intro e;have:=hnm.2 e;omega);have hd:((n:Int)==(m:Int))=false:=by simp;omega
   have hc:decide ((k:Int)<(m:Int))=false:=by simp;omega
   subst hq;clear ha hb;go_wp2;go_ret;exact⟨rfl,_,rfl⟩
  have hnm:=EN.out k hk hk' (by omega) he.out;have hq:q=decide ((n:Int)=(m:Int)):=HE.out _ (by rw[←hnm,decide_eq_true_eq];omega);have hd:((n:Int)==(m:Int))=q:=by rw[hq];rfl
  have hc:decide ((k:Int)<(n:Int))=false:=by simp;omega
  clear ha hb;go_wp2;go_ret;exact⟨by show Ending.returned (Value.bool ((n:Int)==(m:Int)))=_;rw[hd],_,rfl⟩

theorem Xc(va vb:Value)(xs ys:List Int)(w:World)(ha:RI w va xs)(hb:RI w vb ys):
 Calls Tryz.prog 232 #[va,vb] w fun e w'=>e= .returned (.bool (decide (xs=ys)))∧∃n,w'=w.drewN n:=by
 obtain⟨hl,ao,ca,rfl,ha⟩:=ha;obtain⟨hl',bo,cb,rfl,hb⟩:=hb;have EN:=hide fun k h1 h2 h he=>VK (xs:=xs) (ys:=ys) (k:=k) h1 h2 h he;have OF:=hide fun k h=>VJ (xs:=xs) (ys:=ys) (k:=k) h
 have HE:Hid (∀b,(xs=ys↔b=true)→decide (xs=ys)=b):=hide fun b h=>by
  cases b
  ·simpa using h
  simpa using h
 have HL:Hid (xs=ys→xs.length=ys.length):=hide fun h=>h▸rfl;obtain⟨n,hn⟩:∃n,xs.length=n:=⟨_,rfl⟩
 obtain⟨m,hm⟩:∃m,ys.length=m:=⟨_,rfl⟩
 rw[hn]at ha EN hl HL⊢;rw[hm]at hb EN hl' HL⊢;have Hn:Hid (xs.length=n):=hn;have Hm:Hid (ys.length=m):=hm;clear hn hm;generalize decide (xs=ys)=q at *;by_cases hnm:n=m
 ·subst hnm;go_enter Tryz.func232,Tryz.ntmps232
  go_wp2
  go_loopw [13] (fun i wr=>∃k:Nat,k≤n∧i= .int .i64 k∧(∀j,j<k→xs.getD j 0=ys.getD j 0)∧∃d,wr=w.drewN d) (fun i _=>n-(intOf i).toNat)
  case atStart=>exact⟨0,Nat.zero_le _,rfl,fun j hj=>by omega,0,rfl⟩
  case round=>
   obtain⟨k,hk,rfl,he,d,rfl⟩:=hrel;have he:=hide he;by_cases hlt:k<n
   ·rcases ha with ha|⟨b,off,rfl,ha⟩
    ·subst ha;have:=Hn.out;simp at this;omega
    rcases hb with hb|⟨b',off',rfl,hb⟩
    ·subst hb;have:=Hm.out;simp at this;omega
    have ha':=ha k hlt;have hb':=hb k hlt
    have ER:=hide fun(e:xs.getD k 0=ys.getD k 0) j(hj:j<k+1)=>(by
     by_cases h:j=k
     ·subst h;exact e
     exact he.out j (by omega):xs.getD j 0=ys.getD j 0)
    have OK:=hide fun h=>OF.out k h;clear ha hb;generalize xs.getD k 0=x at *;generalize ys.getD k 0=y at *;by_cases hxy:x=y
    ·subst hxy;replace ER:=hide (ER.out rfl);clear OK;go_wp2_with fail
     go_quiet (fail)
     go_wp2
     go_roundw
     case rel=>exact⟨k+1,by omega,by go_num,ER.out,_,rfl⟩
     case measure=>simp[intOf];omega
    have hq:q=false:=HE.out false (by simp;exact OK.out hxy);subst hq;have hx:(x==y)=false:=by simpa using hxy
    go_wp2_with fail
    go_quiet (fail)
    go_wp2;go_ret;exact⟨rfl,d+nq,by simp[World.drewN,Nat.add_assoc]⟩
   have hnm:=EN.out k hk hk (by omega) he.out;have hq:q=true:=HE.out true (by simpa using hnm);have hc:decide ((k:Int)<(n:Int))=false:=by simp;omega
   subst hq;clear ha hb;go_wp2;go_ret;exact⟨rfl,_,rfl⟩
 have hq:q=false:=HE.out false (by simp;intro e;exact hnm (HL.out e));have hd:((n:Int)==(m:Int))=false:=by simp;omega
 subst hq;clear ha hb;go_enter Tryz.func232,Tryz.ntmps232
 go_wp2;go_ret;exact⟨rfl,0,rfl⟩

def BQ(n m:Int)(s t:ByteArray)(xs ys:List Int):Bool:=decide (n=m∧s=t∧xs=ys)

theorem OV(n m:Int)(s t:ByteArray)(va vb:Value)(xs ys:List Int)(w:World)(ha:RI w va xs)(hb:RI w vb ys):
 Calls Tryz.prog 156 #[qv n s va,qv m t vb] w fun e w'=>e= .returned (.bool (BQ n m s t xs ys))∧Below w.heap.size w w':=by
 have R1:=hide ha;have R2:=hide hb;have B:=hide (Bj w (.cells #[.int .i64 n,.string s,va] 38) (.cells #[.int .i64 m,.string t,vb] 38));clear ha hb;by_cases h1:n=m
 ·by_cases h2:s=t
  ·have hq:BQ n m s t xs ys=decide (xs=ys):=by simp[BQ,h1,h2]
   rw[hq];subst h1 h2;clear hq;go_enter Tryz.func156,Tryz.ntmps156
   go_wp2_with fail
   refine(O7 va vb xs ys _ (R1.out.below B.out Ak) (R2.out.below B.out Ak)).mono ?_;rintro e w1 ⟨rfl,d,rfl⟩;go_wp2;go_ret;exact⟨rfl,below_drewN' B.out _⟩
  have hq:BQ n m s t xs ys=false:=by simp[BQ,h2]
  rw[hq];subst h1;have hd:=EX h2;clear hq;go_enter Tryz.func156,Tryz.ntmps156
  go_wp2;go_ret;exact⟨rfl,B.out⟩
 have hq:BQ n m s t xs ys=false:=by simp[BQ,h1]
 rw[hq];have hd:(n==m)=false:=by simpa using h1
 clear hq;go_enter Tryz.func156,Tryz.ntmps156
 go_wp2;go_ret;exact⟨rfl,B.out⟩

theorem aW(g g':Nat)(n m:Int)(s t:ByteArray)(va vb:Value)(xs ys:List Int)(w:World)(hg:Loc w g #[.int .i64 n,.string s,va])(hg':Loc w g' #[.int .i64 m,.string t,vb])(ha:RI w va xs)(hb:RI w vb ys):
 Calls Tryz.prog 207 #[.pointer (some ⟨g,0,none⟩),.pointer (some ⟨g',0,none⟩)] w fun e w'=>e= .returned (.bool (BQ n m s t xs ys))∧∃d,w'=w.drewN d:=by
 have EQ:=hide fun d=>Xc va vb xs ys (w.drewN d) (ha) (hb);have x0:=hg.cell 0 rfl;have x1:=hg.cell 1 rfl;have x2:=hg.cell 2 rfl;have y0:=hg'.cell 0 rfl;have y1:=hg'.cell 1 rfl;have y2:=hg'.cell 2 rfl;clear ha hb hg hg';by_cases h1:n=m
 ·by_cases h2:s=t
  ·have hq:BQ n m s t xs ys=decide (xs=ys):=by simp[BQ,h1,h2]
   rw[hq];subst h1 h2;clear hq;go_enter Tryz.func207,Tryz.ntmps207
   go_wp2_with fail
   go_quiet (first|(go_at_call 232;exact Calls.quiet_of (EQ.out _)))
   go_wp2;go_ret;exact⟨rfl,_,rfl⟩
  have hq:BQ n m s t xs ys=false:=by simp[BQ,h2]
  rw[hq];subst h1;have hd:=EX h2;clear hq;go_enter Tryz.func207,Tryz.ntmps207
  go_wp2_with fail
  go_quiet (fail)
  go_wp2;go_ret;exact⟨rfl,_,rfl⟩
 have hq:BQ n m s t xs ys=false:=by simp[BQ,h1]
 rw[hq];have hd:(n==m)=false:=by simpa using h1
 clear hq;go_enter Tryz.func207,Tryz.ntmps207
 go_wp2_with fail
 go_quiet (fail)
 go_wp2;go_ret;exact⟨rfl,_,rfl⟩
def I6(m m':ByteArray)(v v':Int)(s s':ByteArray)(xs ys:List Int):Bool:=decide (m=m'∧v=v'∧s=s'∧xs=ys)
theorem OO{s t:ByteArray}(h:s=t):(s.toList==t.toList)=true:=by simp[h]
theorem Ky{t s:ByteArray}(h:t≠s):(t.toList==s.toList)=false:=by
 rw[beq_eq_false_iff_ne];intro e;rw[ByteArray.toList_eq,ByteArray.toList_eq]at e;exact h (ByteArray.ext (Array.toList_inj.1 e))
def xt(xs:List Int):ByteArray:=⟨(eQ xs).toArray⟩
theorem qD{xs ys:List Int}(h:xt xs=xt ys):xs=ys:=by
 have:=congrArg (fun s:ByteArray=>s.data.toList) h;exact jT (by simpa[xt]using this)
theorem nD{n m:Int}(h:Ib n=Ib m):n=m:=by
 have:=congrArg (fun s:ByteArray=>s.data.toList) h;exact VU (by simpa[Ib]using this)
theorem Mv(s t:ByteArray):(s.toList==t.toList)=decide (s=t):=by
 by_cases h:s=t
 ·rw[OO h];simp[h]
 rw[Ky h];simp[h]
theorem jf(m m':ByteArray)(v v':Int)(s s':ByteArray)(xs ys:List Int):(m.toList==m'.toList&&((Ib v).toList==(Ib v').toList&&(s.toList==s'.toList&&(xt xs).toList==(xt ys).toList)))=I6 m m' v v' s s' xs ys:=by
 rw[Mv,Mv,Mv,Mv];have e1:(Ib v=Ib v')↔v=v':=⟨nD,fun h=>by rw[h]⟩
 have e2:(xt xs=xt ys)↔xs=ys:=⟨qD,fun h=>by rw[h]⟩
 simp[I6,e1,e2]

theorem UJ(m:ByteArray)(v:Int)(s:ByteArray)(ao:Option Addr)(ca:Nat)(xs:List Int)(w:World)(h0: -9223372036854775808≤v)(h1:v≤9223372036854775807)(hw:In64 xs)(hP:Pow w)(ha:RI w (.slice ao xs.length ca) xs):
 Calls Tryz.prog 239 #[bv m v s (.slice ao xs.length ca)] w fun e w'=>e= .returned (tv m (Ib v) s (xt xs))∧Below w.heap.size w w':=by
 obtain⟨w0,hw0,AO,LB,LT,_⟩:=Gb w #[.string m,.int .i64 v,.string s,.slice ao xs.length ca] 71 #[.string ⟨#[]⟩,.string ⟨#[]⟩,.string ⟨#[]⟩,.string ⟨#[]⟩] 297;have DI:=hide fun w'(b:Below w0.heap.size w0 w')=>EZ v w' h0 h1 ((hP.below AO).below b);have DO:=hide fun w'(b:Below w0.heap.size w0 w')=>Sj (.slice ao xs.length ca) xs w' ((ha.below AO).below b) hw ((hP.below AO).below b);have e1:(⟨(Lib.itoa v).toArray⟩:ByteArray)=Ib v:=rfl;have e2:(⟨(eQ xs).toArray⟩:ByteArray)=xt xs:=rfl;rw[e1]at DI;rw[e2]at DO;clear e1 e2 ha hw hP;generalize Ib v=d at *;generalize xt xs=x at *;go_enter Tryz.func239,Tryz.ntmps239
 have K:=hide (ka (yt LB 0) (ka (yt LB 1) (ka (yt LB 2) (yt LB 3))));go_upto_region 1 with fail
 clear hw0;refine FC K (fun bA hHeld=>?_);refine tx 0 3 ?_;refine tx 2 5 ?_;refine tx 6 9 ?_;refine tx 9 12 ?_;refine tx 1 4 ?_;refine tx 3 6 ?_;refine tx 7 10 ?_;refine tx 10 13 ?_;refine tx 4 7 ?_;refine tx 8 11 ?_;refine tx 11 14 ?_;refine rd 5 rfl (fun KK AA=>?_);go_simp;have hgo:=bA;refine(DI.out _ hgo).mono ?_;rintro e kT ⟨rfl,bb⟩;have Au:Below w0.heap.size w0 kT:=bu bA bb;clear bA hgo bb hHeld;refine AA.out _ _ (K.out _ Au) (fun hHeld=>?_);clear AA KK;refine rd 12 rfl (fun KK AA=>?_);go_simp;have hgo:=Au;refine(DO.out _ hgo).mono ?_;rintro e om ⟨rfl,bb⟩;have BS:Below w0.heap.size w0 om:=bu Au bb;clear Au hgo bb hHeld;refine AA.out _ _ (K.out _ BS) (fun hHeld=>?_);clear AA KK;refine tx 13 16 ?_;have xQ:=LT.up BS;have q0:=xQ.cell 0 rfl;have q1:=xQ.cell 1 rfl;have q2:=xQ.cell 2 rfl;have q3:=xQ.cell 3 rfl;have fq:=xQ.frozen;have hl:=LT.lt;have ll:=BS.size;have t_:=LB.up BS;have k4:=kp4 om (w.heap.size+1) (.string m) (.string d) (.string s) (.string x);have zO:=t_.kp k4 (by omega);refine rd 14 rfl (fun KK AA=>?_);go_simp;clear hHeld;refine AA.out _ _ ⟨zO.cell 0 rfl,zO.cell 1 rfl,zO.cell 2 rfl,zO.cell 3 rfl⟩ (fun hHeld=>?_);clear AA KK hHeld;refine Bw ?_;go_wp2;refine bodyPost_ret (v:=tv m d s x) (by simp[results,Tryz.results239,go_sem,q0,q1,q2,q3]) rfl ?_;exact⟨rfl,Below.kp (bu AO BS) k4 (by have:=AO.size;omega) (fun k hk=>by omega)⟩

theorem QK(m m':ByteArray)(v v':Int)(s s':ByteArray)(ao bo:Option Addr)(ca cb:Nat)(xs ys:List Int)(w:World)(h0: -9223372036854775808≤v)(h1:v≤9223372036854775807)(h0': -9223372036854775808≤v')(h1':v'≤9223372036854775807)(hw:In64 xs)(hw':In64 ys)(hP:Pow w)(ha:RI w (.slice ao xs.length ca) xs)(hb:RI w (.slice bo ys.length cb) ys):
 Calls Tryz.prog 215 #[bv m v s (.slice ao xs.length ca),bv m' v' s' (.slice bo ys.length cb)] w fun e w'=>e= .returned (.bool (I6 m m' v v' s s' xs ys))∧Below w.heap.size w w':=by
 obtain⟨w0,hw0,AO,LA,LB,_⟩:=Gb w #[.string m,.int .i64 v,.string s,.slice ao xs.length ca] 71 #[.string m',.int .i64 v',.string s',.slice bo ys.length cb] 71;have TA:=hide fun w'(b:Below w0.heap.size w0 w')=>UJ m v s ao ca xs w' h0 h1 hw ((hP.below AO).below b) ((ha.below AO).below b);have TB:=hide fun w'(b:Below w0.heap.size w0 w')=>UJ m' v' s' bo cb ys w' h0' h1' hw' ((hP.below AO).below b) ((hb.below AO).below b);have hEQ:∀w,(binOp .eql 297 (tv m (Ib v) s (xt xs)) (tv m' (Ib v') s' (xt ys))).run Tryz.prog w= .ok (.bool (I6 m m' v v' s s' xs ys)) w:=fun w=>by rw[nC,jf]
 have hG:∀x y w,(eqGuard .eql 297 x y (tv m (Ib v) s (xt xs)) (tv m' (Ib v') s' (xt ys))).run Tryz.prog w= .ok () w:=fun x y w=>YP x y _ _ w;clear ha hb hw hw' hP;generalize tv m (Ib v) s (xt xs)=A at *;generalize tv m' (Ib v') s' (xt ys)=C at *;generalize I6 m m' v v' s s' xs ys=q at *;go_enter Tryz.func215,Tryz.ntmps215
 have K:=kw (ka (ic LA 0 1 2 3) (ic LB 0 1 2 3));go_upto_region 1 with fail
 clear hw0;refine FC K (fun bA hHeld=>?_);refine tx 0 5 ?_;refine tx 2 7 ?_;refine rd 1 rfl (fun KK AA=>?_);go_simp;have hgo:=bA;refine(TA.out _ hgo).mono ?_;rintro e Dc ⟨rfl,bb⟩;have Au:Below w0.heap.size w0 Dc:=bu bA bb;clear bA hgo bb hHeld;refine AA.out _ _ (K.out _ Au) (fun hHeld=>?_);clear AA KK;refine rd 3 rfl (fun KK AA=>?_);go_simp;have hgo:=Au;refine(TB.out _ hgo).mono ?_;rintro e ED ⟨rfl,bb⟩;have BS:Below w0.heap.size w0 ED:=bu Au bb;clear Au hgo bb hHeld;refine AA.out _ _ (K.out _ BS) (fun hHeld=>?_);clear AA KK;refine tx 4 9 ?_;refine tx 5 4 ?_;clear hHeld;refine Bw ?_;have bb:=BS;have J3:=bu AO bb;have XI:=bb.size;replace LA:=LA.up bb;replace LB:=LB.up bb;clear AO bb BS K;go_wp2;go_ret;exact⟨rfl,J3⟩

theorem P8(m m':ByteArray)(v v':Int)(s s':ByteArray)(ao bo:Option Addr)(ca cb:Nat)(xs ys:List Int)(w:World)(ha:RI w (.slice ao xs.length ca) xs)(hb:RI w (.slice bo ys.length cb) ys):
 Calls Tryz.prog 205 #[bv m v s (.slice ao xs.length ca),bv m' v' s' (.slice bo ys.length cb)] w fun e w'=>e= .returned (.bool (I6 m m' v v' s s' xs ys))∧Below w.heap.size w w':=by
 obtain⟨w0,hw0,AO,LA,LB,_⟩:=Gb w #[.string m,.int .i64 v,.string s,.slice ao xs.length ca] 71 #[.string m',.int .i64 v',.string s',.slice bo ys.length cb] 71;have QS:=hide (OV v v' s s' (.slice ao xs.length ca) (.slice bo ys.length cb) xs ys w0 (ha.below AO) (hb.below AO));have hB:I6 m m' v v' s s' xs ys=(decide (m=m')&&BQ v v' s s' xs ys):=by simp[I6,BQ]
 rw[hB];clear hB ha hb;generalize BQ v v' s s' xs ys=q at *;obtain⟨ADj,ADi,ADh,ADg⟩:=WT LA 0 1 2 3;obtain⟨ADf,ADe,ADd,ADc⟩:=WT LB 0 1 2 3;by_cases hm:m=m'
 ·have hy:=OO hm;have hd:decide (m=m')=true:=by simpa using hm
  rw[hd,Bool.true_and];clear hm hd;go_enter Tryz.func205,Tryz.ntmps205
  go_wp2_with fail
  clear hw0;refine QS.out.mono ?_;rintro e w1 ⟨rfl,b1⟩;have B1:=bu AO b1;go_wp2;go_ret;exact⟨rfl,B1⟩
 have hy:=Ky hm;have hd:decide (m=m')=false:=by simpa using hm
 rw[hd,Bool.false_and];clear hm hd;go_enter Tryz.func205,Tryz.ntmps205
 go_wp2;go_ret;exact⟨rfl,AO⟩
end
section
open Go.RowKit
variable [∀(a b c d:Int),Decidable (BG a b c d)]
theorem pW(a b c d a' b' c' d':Int)(w:World):
 (binOp .eql 73 (Hg a b c d) (Hg a' b' c' d')).run Tryz.prog w= .ok (.bool (decide (a=a'∧b=b'∧c=c'∧d=d'))) w:=by
 have hS:Tryz.prog.underlying 73=some (.struct (Tryz.prog.fieldsOf 73)):=by kernel_rfl
 have hp:Tryz.prog.stoodInHeld 73=false:=by kernel_rfl
 rw[run_eql_struct,show(10000:Nat)=9999+1 from rfl,run_equalIn_struct w 9999 73 _ _ hS hp];simp only[Program.fieldsOf,Tryz.underlying73];go_simp;by_cases h1:a=a'<;>by_cases h2:b=b'<;>by_cases h3:c=c'<;>by_cases h4:d=d'<;>simp[h1,h2,h3,h4]
theorem Vr(x y:Operand)(xs ys:Array Value)(w:World):(eqGuard .eql 73 x y (.agg xs) (.agg ys)).run Tryz.prog w= .ok () w:=run_eqGuard_agg w .eql _ x y xs ys (by kernel_rfl)
def uT(t t':MT):Bool:=decide (t.fr=t'.fr∧t.tu=t'.tu∧t.am=t'.am∧t.no=t'.no)
def Dq(t t':MT):Bool:=decide (t.k=t'.k)&&(decide (t.vw=t'.vw)&&(I6 t.bn t'.bn t.bv t'.bv t.bs t'.bs t.bw t'.bw&&(BQ t.pv t'.pv t.ps t'.ps t.pw t'.pw&&(BQ t.qv t'.qv t.qs t'.qs t.qw t'.qw&&(decide (t.wh=t'.wh)&&uT t t')))))
theorem VR(n m:Int)(s t:ByteArray)(a b:Value)(xs ys:List Int)(w:World)(ha:RI w a xs)(hb:RI w b ys):
 Calls Tryz.prog 206 #[qv n s a,qv m t b] w fun e w'=>e= .returned (.bool (BQ n m s t xs ys))∧Below w.heap.size w w':=by
 have LI:Hid (∀w,RI w a xs→RI w b ys→Calls Tryz.prog 193 #[a,b] w fun e w'=>e= .returned (.bool (decide (xs=ys)))∧Below w.heap.size w w'):=hide fun w h h'=>by
  refine(O7 a b xs ys w h h').mono ?_;rintro e w' ⟨h1,n,rfl⟩;exact⟨h1,below_drewN (Below.refl _ _) n⟩
 have HA:=hide ha;have HB:=hide hb;clear ha hb;obtain⟨w0,hw0,AO,A,B,DC⟩:=Gb w #[.int .i64 n,.string s,a] 72 #[.int .i64 m,.string t,b] 72;go_enter Tryz.func206,Tryz.ntmps206
 by_cases h1:n=m
 ·have d1:decide (n=m)=true:=by simpa using h1
  have H1:=hide h1;clear h1;by_cases h2:s=t
  ·have d2:(s.toList==t.toList)=true:=OO h2;have H2:=hide h2;clear h2;obtain⟨Bi,Db,Da⟩:=B_ A 0 1 2;obtain⟨cB0,cB1,cB2⟩:=B_ B 0 1 2;go_wp2_with fail
   clear hw0;refine(LI.out _ (HA.out.below AO) (HB.out.below AO)).mono ?_;rintro _ w1 ⟨rfl,bb⟩;clear Bi Db Da cB0 cB1 cB2;have AZ:=bu AO bb;have Cx:=bb.size;replace A:=A.up bb;replace B:=B.up bb;clear AO bb;go_wp2;go_ret;exact⟨by simp[BQ,H1.out,H2.out],AZ⟩
  have d2:(s.toList==t.toList)=false:=Ky h2;obtain⟨Bi,Db,Da⟩:=B_ A 0 1 2;obtain⟨cB0,cB1,cB2⟩:=B_ B 0 1 2;go_wp2;go_ret;exact⟨by simp[BQ,h2],AO⟩
 have d1:decide (n=m)=false:=by simpa using h1
 obtain⟨Bi,Db,Da⟩:=B_ A 0 1 2;obtain⟨cB0,cB1,cB2⟩:=B_ B 0 1 2;go_wp2;go_ret;exact⟨by simp[BQ,h1],AO⟩
theorem FD(t t':MT)(ao bo co QR oK nP:Option Addr)(ca cb cc V8 cb' cc':Nat)(w:World)(ha:RI w (.slice ao t.bw.length ca) t.bw)(hb:RI w (.slice bo t.pw.length cb) t.pw)(hc:RI w (.slice co t.qw.length cc) t.qw)(ha':RI w (.slice QR t'.bw.length V8) t'.bw)(hb':RI w (.slice oK t'.pw.length cb') t'.pw)(hc':RI w (.slice nP t'.qw.length cc') t'.qw):
 Calls Tryz.prog 168 #[Dw t (.slice ao t.bw.length ca) (.slice bo t.pw.length cb) (.slice co t.qw.length cc),Dw t' (.slice QR t'.bw.length V8) (.slice oK t'.pw.length cb') (.slice nP t'.qw.length cc')] w fun e w'=>e= .returned (.bool (Dq t t'))∧Below w.heap.size w w':=by
 have C1:=hide fun w h h'=>P8 t.bn t'.bn t.bv t'.bv t.bs t'.bs ao QR ca V8 t.bw t'.bw w h h';have C2:=hide fun w h h'=>VR t.pv t'.pv t.ps t'.ps (.slice bo t.pw.length cb) (.slice oK t'.pw.length cb') t.pw t'.pw w h h';have C3:=hide fun w h h'=>OV t.qv t'.qv t.qs t'.qs (.slice co t.qw.length cc) (.slice nP t'.qw.length cc') t.qw t'.qw w h h';have E4:=fun w=>pW t.fr t.tu t.am t.no t'.fr t'.tu t'.am t'.no w;have GU:=Vr;have ha1:=hide ha;have hb1:=hide hb;have hc1:=hide hc;have ha2:=hide ha';have hb2:=hide hb';have hc2:=hide hc';clear ha hb hc ha' hb' hc';unfold Dq;generalize I6 t.bn t'.bn t.bv t'.bv t.bs t'.bs t.bw t'.bw=b1 at *;generalize BQ t.pv t'.pv t.ps t'.ps t.pw t'.pw=b2 at *;generalize BQ t.qv t'.qv t.qs t'.qs t.qw t'.qw=b3 at *;have HT:Hid (decide (t.fr=t'.fr∧t.tu=t'.tu∧t.am=t'.am∧t.no=t'.no)=uT t t'):=hide rfl;rw[HT.out]at E4;generalize uT t t'=b4 at *;clear HT;obtain⟨w0,hw0,AO,A,B,DC⟩:=Gb w #[.int .i64 t.k,.int .i64 t.vw,.string t.bn,.int .i64 t.bv,.string t.bs,.slice ao t.bw.length ca,.int .i64 t.pv,.string t.ps,.slice bo t.pw.length cb,.int .i64 t.qv,.string t.qs,.slice co t.qw.length cc,.int .i64 t.wh,.int .i64 t.fr,.int .i64 t.tu,.int .i64 t.am,.int .i64 t.no] 75 #[.int .i64 t'.k,.int .i64 t'.vw,.string t'.bn,.int .i64 t'.bv,.string t'.bs,.slice QR t'.bw.length V8,.int .i64 t'.pv,.string t'.ps,.slice oK t'.pw.length cb',.int .i64 t'.qv,.string t'.qs,.slice nP t'.qw.length cc',.int .i64 t'.wh,.int .i64 t'.fr,.int .i64 t'.tu,.int .i64 t'.am,.int .i64 t'.no] 75;go_enter Tryz.func168,Tryz.ntmps168
 by_cases h1:t.k=t'.k
 ·have dh1:decide (t.k=t'.k)=true:=by simpa using h1
  have fM:=hide h1;clear h1;by_cases h2:t.vw=t'.vw
  ·have dh2:decide (t.vw=t'.vw)=true:=by simpa using h2
   have j3:=hide h2;clear h2;obtain⟨Bi,Db,Da,Em,FL,GD,Gq,Ga,Gp,Fp,CG,Cm,C9,BV⟩:=Dp A 0 1 2 3 4 5 6 7 8 9 10 11 12 13;obtain⟨DR,DN,DL⟩:=B_ A 14 15 16;obtain⟨cB0,cB1,cB2,cB3,Pz,Py,Px,Pw,Pv,NB,Ff,GA,F_,F3⟩:=Dp B 0 1 2 3 4 5 6 7 8 9 10 11 12 13;obtain⟨Gn,Gm,Gl⟩:=B_ B 14 15 16;go_wp2_with fail
   clear hw0;refine(C1.out _ (ha1.out.below AO) (ha2.out.below AO)).mono ?_;rintro _ w1 ⟨rfl,bb⟩;clear Bi Db Da Em FL GD Gq Ga Gp Fp CG Cm C9 BV DR DN DL cB0 cB1 cB2 cB3 Pz Py Px Pw Pv NB Ff GA F_ F3 Gn Gm Gl;have AZ:=bu AO bb;have Cx:=bb.size;replace A:=A.up bb;replace B:=B.up bb;clear AO bb;cases b1
   ·obtain⟨Bi,Db,Da,Em,FL,GD,Gq,Ga,Gp,Fp,CG,Cm,C9,BV⟩:=Dp A 0 1 2 3 4 5 6 7 8 9 10 11 12 13;obtain⟨DR,DN,DL⟩:=B_ A 14 15 16;obtain⟨cB0,cB1,cB2,cB3,Pz,Py,Px,Pw,Pv,NB,Ff,GA,F_,F3⟩:=Dp B 0 1 2 3 4 5 6 7 8 9 10 11 12 13;obtain⟨Gn,Gm,Gl⟩:=B_ B 14 15 16;go_wp2;go_ret;exact⟨by simp[fM.out,j3.out],AZ⟩
   obtain⟨Bi,Db,Da,Em,FL,GD,Gq,Ga,Gp,Fp,CG,Cm,C9,BV⟩:=Dp A 0 1 2 3 4 5 6 7 8 9 10 11 12 13;obtain⟨DR,DN,DL⟩:=B_ A 14 15 16;obtain⟨cB0,cB1,cB2,cB3,Pz,Py,Px,Pw,Pv,NB,Ff,GA,F_,F3⟩:=Dp B 0 1 2 3 4 5 6 7 8 9 10 11 12 13;obtain⟨Gn,Gm,Gl⟩:=B_ B 14 15 16;go_wp2_with fail
   refine(C2.out _ (hb1.out.below AZ) (hb2.out.below AZ)).mono ?_;rintro _ w2 ⟨rfl,bb⟩;clear Bi Db Da Em FL GD Gq Ga Gp Fp CG Cm C9 BV DR DN DL cB0 cB1 cB2 cB3 Pz Py Px Pw Pv NB Ff GA F_ F3 Gn Gm Gl;have Ao:=bu AZ bb;have Ex:=bb.size;replace A:=A.up bb;replace B:=B.up bb;clear AZ bb;cases b2
   ·obtain⟨Bi,Db,Da,Em,FL,GD,Gq,Ga,Gp,Fp,CG,Cm,C9,BV⟩:=Dp A 0 1 2 3 4 5 6 7 8 9 10 11 12 13;obtain⟨DR,DN,DL⟩:=B_ A 14 15 16;obtain⟨cB0,cB1,cB2,cB3,Pz,Py,Px,Pw,Pv,NB,Ff,GA,F_,F3⟩:=Dp B 0 1 2 3 4 5 6 7 8 9 10 11 12 13;obtain⟨Gn,Gm,Gl⟩:=B_ B 14 15 16;go_wp2;go_ret;exact⟨by simp[fM.out,j3.out],Ao⟩
   obtain⟨Bi,Db,Da,Em,FL,GD,Gq,Ga,Gp,Fp,CG,Cm,C9,BV⟩:=Dp A 0 1 2 3 4 5 6 7 8 9 10 11 12 13;obtain⟨DR,DN,DL⟩:=B_ A 14 15 16;obtain⟨cB0,cB1,cB2,cB3,Pz,Py,Px,Pw,Pv,NB,Ff,GA,F_,F3⟩:=Dp B 0 1 2 3 4 5 6 7 8 9 10 11 12 13;obtain⟨Gn,Gm,Gl⟩:=B_ B 14 15 16;go_wp2_with fail
   refine(C3.out _ (hc1.out.below Ao) (hc2.out.below Ao)).mono ?_;rintro _ w3 ⟨rfl,bb⟩;clear Bi Db Da Em FL GD Gq Ga Gp Fp CG Cm C9 BV DR DN DL cB0 cB1 cB2 cB3 Pz Py Px Pw Pv NB Ff GA F_ F3 Gn Gm Gl;have BK:=bu Ao bb;have IW:=bb.size;replace A:=A.up bb;replace B:=B.up bb;clear Ao bb;cases b3
   ·obtain⟨Bi,Db,Da,Em,FL,GD,Gq,Ga,Gp,Fp,CG,Cm,C9,BV⟩:=Dp A 0 1 2 3 4 5 6 7 8 9 10 11 12 13;obtain⟨DR,DN,DL⟩:=B_ A 14 15 16;obtain⟨cB0,cB1,cB2,cB3,Pz,Py,Px,Pw,Pv,NB,Ff,GA,F_,F3⟩:=Dp B 0 1 2 3 4 5 6 7 8 9 10 11 12 13;obtain⟨Gn,Gm,Gl⟩:=B_ B 14 15 16;go_wp2;go_ret;exact⟨by simp[fM.out,j3.out],BK⟩
   by_cases h3:t.wh=t'.wh
   ·have dh3:decide (t.wh=t'.wh)=true:=by simpa using h3
    have Hh3:=hide h3;clear h3;obtain⟨Bi,Db,Da,Em,FL,GD,Gq,Ga,Gp,Fp,CG,Cm,C9,BV⟩:=Dp A 0 1 2 3 4 5 6 7 8 9 10 11 12 13;obtain⟨DR,DN,DL⟩:=B_ A 14 15 16;obtain⟨cB0,cB1,cB2,cB3,Pz,Py,Px,Pw,Pv,NB,Ff,GA,F_,F3⟩:=Dp B 0 1 2 3 4 5 6 7 8 9 10 11 12 13;obtain⟨Gn,Gm,Gl⟩:=B_ B 14 15 16;go_wp2;go_ret;exact⟨by simp[fM.out,j3.out,Hh3.out],BK⟩
   have dh3:decide (t.wh=t'.wh)=false:=by simpa using h3
   obtain⟨Bi,Db,Da,Em,FL,GD,Gq,Ga,Gp,Fp,CG,Cm,C9,BV⟩:=Dp A 0 1 2 3 4 5 6 7 8 9 10 11 12 13;obtain⟨DR,DN,DL⟩:=B_ A 14 15 16;obtain⟨cB0,cB1,cB2,cB3,Pz,Py,Px,Pw,Pv,NB,Ff,GA,F_,F3⟩:=Dp B 0 1 2 3 4 5 6 7 8 9 10 11 12 13;obtain⟨Gn,Gm,Gl⟩:=B_ B 14 15 16;go_wp2;go_ret;exact⟨by simp[fM.out,j3.out,h3],BK⟩
  have dh2:decide (t.vw=t'.vw)=false:=by simpa using h2
  obtain⟨Bi,Db,Da,Em,FL,GD,Gq,Ga,Gp,Fp,CG,Cm,C9,BV⟩:=Dp A 0 1 2 3 4 5 6 7 8 9 10 11 12 13;obtain⟨DR,DN,DL⟩:=B_ A 14 15 16;obtain⟨cB0,cB1,cB2,cB3,Pz,Py,Px,Pw,Pv,NB,Ff,GA,F_,F3⟩:=Dp B 0 1 2 3 4 5 6 7 8 9 10 11 12 13;obtain⟨Gn,Gm,Gl⟩:=B_ B 14 15 16;go_wp2;go_ret;exact⟨by simp[fM.out,h2],AO⟩
 have dh1:decide (t.k=t'.k)=false:=by simpa using h1
 obtain⟨Bi,Db,Da,Em,FL,GD,Gq,Ga,Gp,Fp,CG,Cm,C9,BV⟩:=Dp A 0 1 2 3 4 5 6 7 8 9 10 11 12 13;obtain⟨DR,DN,DL⟩:=B_ A 14 15 16;obtain⟨cB0,cB1,cB2,cB3,Pz,Py,Px,Pw,Pv,NB,Ff,GA,F_,F3⟩:=Dp B 0 1 2 3 4 5 6 7 8 9 10 11 12 13;obtain⟨Gn,Gm,Gl⟩:=B_ B 14 15 16;go_wp2;go_ret;exact⟨by simp[h1],AO⟩
end
end Go.Proofs.YtcjmcgolgbkknaaGreatDoor
namespace Go.Proofs
open Go.Shelf
def Tryz.laysM316_ren:Go.Shelf.Ren:=⟨fun|316=>188|n=>n,fun|9=>9|3=>3|4=>4|37=>31|0=>0|127=>269|5=>5|n=>n,fun|n=>n⟩
theorem Tryz.laysM316:Go.Proofs.LaysM.n316 Tryz.prog Tryz.laysM316_ren:={
 mixed:=by kernel_rfl
 f316:=Tryz.func188.trans (congrArg some (by kernel_rfl))
 t0:=Tryz.underlying0
 a0:=Tryz.isAgg0
 z0:=Tryz.sizeOf0
 v0:=Tryz.zeroValue0
 t3:=Tryz.underlying3
 a3:=Tryz.isAgg3
 z3:=Tryz.sizeOf3
 v3:=Tryz.zeroValue3
 t4:=Tryz.underlying4
 a4:=Tryz.isAgg4
 z4:=Tryz.sizeOf4
 v4:=Tryz.zeroValue4
 t9:=Tryz.underlying9
 a9:=Tryz.isAgg9
 z9:=Tryz.sizeOf9
 v9:=Tryz.zeroValue9
 t37:=Tryz.underlying31
 a37:=Tryz.isAgg31
 z37:=Tryz.sizeOf31
 v37:=Tryz.zeroValue31
 t127:=Tryz.underlying269
 a127:=Tryz.isAgg269
 z127:=Tryz.sizeOf269
 v127:=Tryz.zeroValue269
 t5:=Tryz.underlying5
 a5:=Tryz.isAgg5
 z5:=Tryz.sizeOf5
 v5:=Tryz.zeroValue5
 i0:=by kernel_rfl
 i3:=by kernel_rfl
 i4:=by kernel_rfl
 i5:=by kernel_rfl
 i9:=by kernel_rfl
 i37:=by kernel_rfl
 i127:=by kernel_rfl }
open Go.RowKit in
theorem Tryz.stringslite_Clone(s:ByteArray)(w:World)(hlim:s.size≤281474976710656):
 Calls Tryz.prog 188 #[.string s] w fun e w'=>e= .returned (.string s)∧Below w.heap.size w w':=Any.stringslite_Clone Tryz.laysM316 s w hlim
end Go.Proofs
namespace Go.Proofs.YtcjmcgolgbkknaaGreatDoor
section
open Go.RowKit
def OS(w:World)(base:Nat)(v:Value)(xs:List ByteArray):Prop:=w.ownsRow base 9 1 v xs.length (xs.map Value.string)
theorem OS.below{w w':World}{base:Nat}{v:Value}{xs:List ByteArray}(h:OS w base v xs)(hb:Below w.heap.size w w'):OS w' base v xs:=
 World.ownsRow.kept (row:=none) h ⟨hb.os,hb.tape,hb.output,hb.size,fun k hk _=>hb.block k hk⟩ (by cases v.ownBlock<;>simp)

theorem EK(s:ByteArray)(w:World)(hs:s.size≤281474976710656):
 Calls Tryz.prog 152 #[.string s] w fun e w'=>e= .returned (.string s)∧Below w.heap.size w w':=by
 go_enter Tryz.func152,Tryz.ntmps152
 go_wp2_with fail
 refine(Tryz.stringslite_Clone s _ hs).mono ?_;rintro e w' ⟨rfl,b⟩;go_wp2;go_ret;exact⟨rfl,b⟩
theorem Jm(n m:Int)(s t:ByteArray)(va vb:Value)(xs ys:List Int)(w:World)(ha:RI w va xs)(hb:RI w vb ys):
 Calls Tryz.prog 173 #[qv n s va,qv m t vb] w fun e w'=>e= .returned (.bool (BQ n m s t xs ys))∧Below w.heap.size w w':=by
 have B:=hide (Bj w (.cells #[.int .i64 n,.string s,va] 38) (.cells #[.int .i64 m,.string t,vb] 38));have SM:=hide (aW w.heap.size (w.heap.size+1) n m s t va vb xs ys _ ((AJ w #[.int .i64 n,.string s,va] 38 rfl).alloc _) (AJ (w.alloc _) #[.int .i64 m,.string t,vb] 38 (by simp)) (ha.below B.out Ak) (hb.below B.out Ak));clear ha hb;go_enter Tryz.func173,Tryz.ntmps173
 go_wp2_with fail
 refine SM.out.mono ?_;rintro e w1 ⟨rfl,d,rfl⟩;go_wp2;go_ret;exact⟨rfl,below_drewN' B.out _⟩

abbrev zq:Obj:= .cells #[.int .i64 0,.string ⟨#[]⟩,.slice none 0 0] 38

theorem aV (g : Nat) (n :        Int)(s:ByteArray)(ao:Option Addr)(ca:Nat)(xs:List Int)(w:World)(hg:Loc w g #[.int .i64 n,.string s,.slice ao xs.length ca])(ha:RI w (.slice ao xs.length ca) xs)(hs:s.size≤281474976710656):
 Calls Tryz.prog 151 #[.pointer (some ⟨g,0,none⟩)] w fun e w'=>∃u,e= .returned (qv n s u)∧OI w' w.heap.size u xs∧Below w.heap.size w w':=by
 have CL:=hide fun w=>EK s w hs;have hgl:=hg.lt;obtain⟨w0,hw0⟩:∃w0,w.alloc zq=w0:=⟨_,rfl⟩
 have B0:Below w.heap.size w w0:=hw0▸Aj _ _;have Z0:Loc w0 w.heap.size #[.int .i64 0,.string ⟨#[]⟩,.slice none 0 0]:=hw0▸AJ w _ _ rfl;have s0:w0.heap.size=w.heap.size+1:=by rw[←hw0];simp
 have G0:=hg.below B0 hgl
 have K:Hid (∀w',Below w0.heap.size w0 w'→Below w0.heap.size w0 w'∧w'.cell? ⟨g,0,none⟩=some (.int .i64 n)∧w'.cell? ⟨g,1,none⟩=some (.string s)):=hide fun w' hb=>
  ⟨hb,(G0.up hb).cell 0 rfl,(G0.up hb).cell 1 rfl⟩
 have RA:=hide ha;have HZ:=hide Z0;have HG:=hide G0;clear ha hg Z0 G0;go_enter Tryz.func151,Tryz.ntmps151
 go_upto_region 1 with fail
 clear hw0
 go_cut [3] (fun c wx=>∃h,c= .pointer (some ⟨h,0,none⟩)∧w0.heap.size≤h∧Loc wx h #[.int .i64 n,.string s,.slice none 0 0]∧Below w0.heap.size w0 wx)
 case first=>
  clear HZ HG RA;refine kC K (Below.drew (Below.refl _ _)) (fun hHeld=>?_);obtain⟨wd,hd⟩:∃wd,w0.drew=wd:=⟨_,rfl⟩
  have bd:Below w0.heap.size w0 wd:=hd▸Below.drew (Below.refl _ _);have uX:=bd.size;rw[hd]at hHeld⊢;clear hd;refine tx 0 4 ?_;refine tx 1 5 ?_;refine tx 2 6 ?_;refine tx 3 7 ?_;refine tx 4 8 ?_;refine tx 5 9 ?_;refine tx 6 10 ?_;refine tx 7 11 ?_;refine wpAnyH_ready (rs:=[8,10]) (by kernel_rfl) (by simp) (AllReadyH.cons rfl (fun KK AA=>?_) (AllReadyH.cons rfl (fun KK AA=>?_) AllReadyH.nil))
  ·go_simp;refine(CL.out _).mono ?_;rintro e Nr ⟨rfl,FM⟩;have bc1:Below w0.heap.size w0 Nr:=bu bd FM;have og:=FM.size;clear hHeld FM;refine AA.out _ _ (K.out _ bc1) (fun hHeld=>?_);clear AA KK;refine tx 9 13 ?_;refine rd 10 rfl (fun KK AA=>?_);go_simp;obtain⟨gD,Ki⟩:∃x,Nr.alloc (.cells #[.int .i64 0,.string ⟨#[]⟩,.slice none 0 0] 38)=x:=⟨_,rfl⟩
   have p9:Below w0.heap.size w0 gD:=Ki▸bc1.alloc bc1.size _;have lg:Loc gD Nr.heap.size #[.int .i64 0,.string ⟨#[]⟩,.slice none 0 0]:=Ki▸AJ Nr _ _ rfl;rw[Ki];clear hHeld Ki;refine AA.out _ _ (K.out _ p9) (fun hHeld=>?_);clear AA KK;have q0:=lg.cell 0 rfl;have q1:=lg.cell 1 rfl;have q2:=lg.cell 2 rfl;have FG:=lg.frozen;refine rd 11 rfl (fun KK AA=>?_);go_simp;have bs:Below w0.heap.size w0 (((gD.setCell ⟨Nr.heap.size,0,none⟩ (.int .i64 n)).setCell ⟨Nr.heap.size,1,none⟩ (.string s)).setCell ⟨Nr.heap.size,2,none⟩ (.slice none 0 0)):=Below.set (Below.set (Below.set p9 _ _ (by omega)) _ _ (by omega)) _ _ (by omega);clear hHeld;refine AA.out _ _ (K.out _ bs) (fun hHeld=>?_);clear AA KK hHeld;refine Bw ?_;go_wp2_with fail
   go_meet
   exact⟨_,rfl,by omega,((lg.set 0 _ rfl).set 1 _ rfl).set 2 _ rfl,bs⟩
  go_simp;obtain⟨oo,Kh⟩:∃x,wd.alloc (.cells #[.int .i64 0,.string ⟨#[]⟩,.slice none 0 0] 38)=x:=⟨_,rfl⟩
  have p8:Below w0.heap.size w0 oo:=Kh▸bd.alloc bd.size _;have lg:Loc oo wd.heap.size #[.int .i64 0,.string ⟨#[]⟩,.slice none 0 0]:=Kh▸AJ wd _ _ rfl;rw[Kh];clear hHeld Kh;refine AA.out _ _ (K.out _ p8) (fun hHeld=>?_);clear AA KK;refine rd 8 rfl (fun KK AA=>?_);go_simp;refine(CL.out _).mono ?_;rintro e oq ⟨rfl,FM⟩;have p_:Below w0.heap.size w0 oq:=bu p8 FM;have oZ:=FM.size;have lg:=lg.up FM;clear hHeld FM;refine AA.out _ _ (K.out _ p_) (fun hHeld=>?_);clear AA KK;refine tx 9 13 ?_;have q0:=lg.cell 0 rfl;have q1:=lg.cell 1 rfl;have q2:=lg.cell 2 rfl;have FG:=lg.frozen;refine rd 11 rfl (fun KK AA=>?_);go_simp;have bs:Below w0.heap.size w0 (((oq.setCell ⟨wd.heap.size,0,none⟩ (.int .i64 n)).setCell ⟨wd.heap.size,1,none⟩ (.string s)).setCell ⟨wd.heap.size,2,none⟩ (.slice none 0 0)):=Below.set (Below.set (Below.set p_ _ _ (by omega)) _ _ (by omega)) _ _ (by omega);clear hHeld;refine AA.out _ _ (K.out _ bs) (fun hHeld=>?_);clear AA KK hHeld;refine Bw ?_;go_wp2_with fail
  go_meet
  exact⟨_,rfl,by omega,((lg.set 0 _ rfl).set 1 _ rfl).set 2 _ rfl,bs⟩
 case rest=>
 obtain⟨h,rfl,hh,LH,bw⟩:=hcut;have G1:=HG.out.below bw HG.out.lt;have Z1:=HZ.out.below bw HZ.out.lt;have R1:=RA.out;have B1:Below w.heap.size w wc:=bu B0 bw;have s1:=bw.size;have l1:=LH.lt;have x2:=G1.cell 2 rfl;have y0:=Z1.cell 0 rfl;have y1:=Z1.cell 1 rfl;have y2:=Z1.cell 2 rfl;have fy:=Z1.frozen;have h0:=LH.cell 0 rfl;have h1:=LH.cell 1 rfl;have h2:=LH.cell 2 rfl;have fh:=LH.frozen;have hl:=R1.1;clear HG HZ RA K CL bw B0;by_cases hx:xs=[]
 ·subst hx;go_wp2;refine bodyPost_ret (v:=qv n s (.slice none 0 0)) (by simp[results,Tryz.results151,go_sem,y0,y1,y2]) rfl ?_;exact⟨_,rfl,World.ownsRow_nil _ _ _ _,Below.set (Below.set (Below.set B1 _ _ Ak) _ _ Ak) _ _ Ak⟩
 have hp:0<xs.length:=List.length_pos_iff.2 hx;obtain⟨cs,hcs⟩:∃cs,xs.map (Value.int .i64)=cs:=⟨_,rfl⟩
 have hcl:cs.length=xs.length:=by rw[←hcs];simp
 have hone:∀v ∈ cs,v.oneCell'=true:=by rw[←hcs];exact Fe xs
 obtain⟨ad,rfl,hcells⟩:∃ad,ao=some ad∧∀j u,cs[j]? =some u→w.cell? (ad.add j)=some u:=by
  obtain⟨_,QR,V8,e,hr⟩:=R1;cases e
  rcases hr with rfl|⟨b,off,rfl,hr⟩
  ·exact absurd rfl hx
  exact⟨_,rfl,hcs▸GV hr⟩
 have hrows:∀w',Below w.heap.size w w'→∀j u,cs[j]? =some u→w'.cell? (ad.add j)=some u:=fun w' hb j u hj=>(hb.cell (AQ (hcells j u hj))).trans (hcells j u hj);have HR:=hide hrows;have HC:=hide hcs;obtain⟨i0,hi,hz0,hz1,hz2⟩:=info_parts Tryz.info3;obtain⟨m,hm⟩:∃m,xs.length=m:=⟨_,rfl⟩
 rw[hm]at hl hcl hp x2 G1;have Hm:=hide hm;clear R1 hcells hrows hcs hm hx;have hgt:decide ((0:Int)<(m:Int))=true:=by simpa using hp
 go_upto_region 4 with (first | (at_make;refine wpList_make_full _ rfl _ _ 24 rfl wc.heap.size 3 i0 (.int .i64 0) 1 Tryz.underlying24 hi hz0 hz1 .i64 .i64 m m m rfl rfl rfl rfl (by rw[hz2];omega) (by unfold maxLen;omega) Ak ?_;intro w2 ho2 hg2
                                 have b2:Below wc.heap.size wc w2:=(Below.refl _ _).grown hg2 Ak (by simp);have L2:=LH.up b2;have k2:=L2.cell 2 rfl;have f2:=L2.frozen))
 obtain⟨hlen,hrow⟩:=ho2;rcases hrow with⟨e,_⟩|⟨row,cap,cur,e,hrb,jC,_,hcm,hcz,hct⟩
 ·cases e
 cases e
 have hlt2:wc.heap.size<w2.heap.size:=(Array.getElem?_eq_some_iff.1 jC).1;obtain⟨w3,hw3⟩:∃w3,w2.setCell ⟨h,2,none⟩ (.slice (some ⟨wc.heap.size,0,none⟩) m m)=w3:=⟨_,rfl⟩
 have B3:Below w.heap.size w w3:=hw3▸Below.set (bu B1 b2) (g:=h) 2 _ (by omega);have K3:Kp w2 w3 (fun k=>k=h):=hw3▸AB w2 h 2 _;have L3:Loc w3 h #[.int .i64 n,.string s,.slice (some ⟨wc.heap.size,0,none⟩) m m]:=hw3▸L2.set 2 _ rfl;have Z3:=(Z1.up b2).kp K3 (by omega);have G3:=(G1.up b2).kp K3 (by omega);have H3:w3.heap[wc.heap.size]? =some (.cells cur.toList.toArray 3 (0,0)):=by rw[K3.block _ hlt2 (by omega)];simpa using jC
 have c3:=HR.out w3 B3;have z3:=K3.size;have p2:=L3.cell 2 rfl;have q2:=G3.cell 2 rfl;have jI:cur.toList.length=m:=by simpa using hcz
 rw[hw3];clear hw3 k2 f2 h0 h1 h2 fh y0 y1 y2 fy x2;have xg:=hide H3;have C3:=hide c3
 go_region_law (refine step_copy_splice rfl (.tmp 28) (.tmp 32) 24 24 rfl 3 Tryz.underlying24 (by rw[hi];simp[hz1]) (some ⟨wc.heap.size,0,none⟩) (some ad) m m m ca (by simp[Act.eval]) (by simp[Act.eval]) wc.heap.size 0 cur.toList 3 xg.out cs (by rw[hcl];simp) (fun _=>⟨rfl,_,rfl,C3.out⟩) (by omega) hone wc.heap.size w3 ⟨rfl,rfl,rfl,Nat.le_refl _,fun _ _=>rfl⟩ Ak ?_;intro w4 hg4 hb4)
 all_goals
  have L4:=L3.below hb4 l1;have Z4:=Z3.below hb4 (by omega);have B4:Below w.heap.size w w4:=B3.trans (hb4.mono (by omega));have h0:=L4.cell 0 rfl;have h1:=L4.cell 1 rfl;have h2:=L4.cell 2 rfl;have y0:=Z4.cell 0 rfl;have y1:=Z4.cell 1 rfl;have y2:=Z4.cell 2 rfl;have fy:=Z4.frozen
  have O4:OI w4 w.heap.size (.slice (some ⟨wc.heap.size,0,none⟩) m m) xs:=by
   refine⟨by rw[Hm.out];simp[Hm.out],.inr ⟨wc.heap.size,m,_,by rw[Hm.out],by omega,hg4.out,by rw[Hm.out];exact Nat.le_refl _,hcm,?_,?_⟩⟩
   ·rw[List.size_toArray,length_splice _ _ _ (by omega),jI,Nat.mul_one]
   rw[HC.out];simp[splice,Hm.out,hcl]
  have HO:=hide O4;clear L3 Z3 G3 H3 c3 p2 q2 K3 L4 Z4 O4 hg4 hb4 LH Z1 G1 b2 L2 hlen hct hcz jC;go_wp2;refine bodyPost_ret (v:=qv n s (.slice (some ⟨wc.heap.size,0,none⟩) m m)) (by simp[results,Tryz.results151,go_sem,y0,y1,y2]) rfl ?_;have K5:Kp w4 (((w4.setCell ⟨w.heap.size,0,none⟩ (.int .i64 n)).setCell ⟨w.heap.size,1,none⟩ (.string s)).setCell ⟨w.heap.size,2,none⟩ (.slice (some ⟨wc.heap.size,0,none⟩) m m)) (fun k=>k=w.heap.size):=((AB _ _ _ _).trans (AB _ _ _ _)).trans (AB _ _ _ _);exact⟨_,rfl,HO.out.kp K5 (fun k hk=>by simp[Value.ownBlock]at hk;omega),Below.set (Below.set (Below.set B4 _ _ Ak) _ _ Ak) _ _ Ak⟩
end
section
open Go.RowKit
variable [∀(a b c d:Int),Decidable (BG a b c d)]
def MI(t:MT):Prop:=(-9223372036854775808≤t.bv∧t.bv≤9223372036854775807)∧In64 t.bw
theorem GY(t t':MT)(ao bo co QR oK nP:Option Addr)(ca cb cc V8 cb' cc':Nat)(w:World)(hm:MI t)(hm':MI t')(hP:Pow w)(ha:RI w (.slice ao t.bw.length ca) t.bw)(hb:RI w (.slice bo t.pw.length cb) t.pw)(hc:RI w (.slice co t.qw.length cc) t.qw)(ha':RI w (.slice QR t'.bw.length V8) t'.bw)(hb':RI w (.slice oK t'.pw.length cb') t'.pw)(hc':RI w (.slice nP t'.qw.length cc') t'.qw):
 Calls Tryz.prog 185 #[Dw t (.slice ao t.bw.length ca) (.slice bo t.pw.length cb) (.slice co t.qw.length cc),Dw t' (.slice QR t'.bw.length V8) (.slice oK t'.pw.length cb') (.slice nP t'.qw.length cc')] w fun e w'=>e= .returned (.bool (Dq t t'))∧Below w.heap.size w w':=by
 have C1:=hide fun w hP h h'=>QK t.bn t'.bn t.bv t'.bv t.bs t'.bs ao QR ca V8 t.bw t'.bw w hm.1.1 hm.1.2 hm'.1.1 hm'.1.2 hm.2 hm'.2 hP h h';have C2:=hide fun w h h'=>Jm t.pv t'.pv t.ps t'.ps (.slice bo t.pw.length cb) (.slice oK t'.pw.length cb') t.pw t'.pw w h h';have C3:=hide fun w h h'=>Jm t.qv t'.qv t.qs t'.qs (.slice co t.qw.length cc) (.slice nP t'.qw.length cc') t.qw t'.qw w h h';have E4:=fun w=>pW t.fr t.tu t.am t.no t'.fr t'.tu t'.am t'.no w;have GU:=Vr;have hP1:=hide hP;have ha1:=hide ha;have hb1:=hide hb;have hc1:=hide hc;have ha2:=hide ha';have hb2:=hide hb';have hc2:=hide hc';clear ha hb hc ha' hb' hc' hm hm' hP;unfold Dq;generalize I6 t.bn t'.bn t.bv t'.bv t.bs t'.bs t.bw t'.bw=b1 at *;generalize BQ t.pv t'.pv t.ps t'.ps t.pw t'.pw=b2 at *;generalize BQ t.qv t'.qv t.qs t'.qs t.qw t'.qw=b3 at *;have HT:Hid (decide (t.fr=t'.fr∧t.tu=t'.tu∧t.am=t'.am∧t.no=t'.no)=uT t t'):=hide rfl;rw[HT.out]at E4;generalize uT t t'=b4 at *;clear HT;obtain⟨w0,hw0,AO,A,B,DC⟩:=Gb w #[.int .i64 t.k,.int .i64 t.vw,.string t.bn,.int .i64 t.bv,.string t.bs,.slice ao t.bw.length ca,.int .i64 t.pv,.string t.ps,.slice bo t.pw.length cb,.int .i64 t.qv,.string t.qs,.slice co t.qw.length cc,.int .i64 t.wh,.int .i64 t.fr,.int .i64 t.tu,.int .i64 t.am,.int .i64 t.no] 75 #[.int .i64 t'.k,.int .i64 t'.vw,.string t'.bn,.int .i64 t'.bv,.string t'.bs,.slice QR t'.bw.length V8,.int .i64 t'.pv,.string t'.ps,.slice oK t'.pw.length cb',.int .i64 t'.qv,.string t'.qs,.slice nP t'.qw.length cc',.int .i64 t'.wh,.int .i64 t'.fr,.int .i64 t'.tu,.int .i64 t'.am,.int .i64 t'.no] 75;go_enter Tryz.func185,Tryz.ntmps185
 by_cases h1:t.k=t'.k
 ·have dh1:decide (t.k=t'.k)=true:=by simpa using h1
  have fM:=hide h1;clear h1;by_cases h2:t.vw=t'.vw
  ·have dh2:decide (t.vw=t'.vw)=true:=by simpa using h2
   have j3:=hide h2;clear h2;have hPx:=hP1.out.below AO;obtain⟨Bi,Db,Da,Em,FL,GD⟩:=QQ A 0 1 2 3 4 5;obtain⟨cB0,cB1,cB2,cB3,Pz,Py⟩:=QQ B 0 1 2 3 4 5;go_wp2_with fail
   clear hw0;refine(C1.out _ hPx (ha1.out.below AO) (ha2.out.below AO)).mono ?_;rintro _ w1 ⟨rfl,bb⟩;clear Bi Db Da Em FL GD cB0 cB1 cB2 cB3 Pz Py;have AZ:=bu AO bb;have Cx:=bb.size;replace A:=A.up bb;replace B:=B.up bb;clear AO bb;cases b1
   ·go_wp2;go_ret;exact⟨by simp[fM.out,j3.out],AZ⟩
   obtain⟨Gq,Ga,Gp⟩:=B_ A 6 7 8;obtain⟨Px,Pw,Pv⟩:=B_ B 6 7 8;go_wp2_with fail
   refine(C2.out _ (hb1.out.below AZ) (hb2.out.below AZ)).mono ?_;rintro _ w2 ⟨rfl,bb⟩;clear Gq Ga Gp Px Pw Pv;have Ao:=bu AZ bb;have Ex:=bb.size;replace A:=A.up bb;replace B:=B.up bb;clear AZ bb;cases b2
   ·go_wp2;go_ret;exact⟨by simp[fM.out,j3.out],Ao⟩
   obtain⟨Fp,CG,Cm⟩:=B_ A 9 10 11;obtain⟨NB,Ff,GA⟩:=B_ B 9 10 11;go_wp2_with fail
   refine(C3.out _ (hc1.out.below Ao) (hc2.out.below Ao)).mono ?_;rintro _ w3 ⟨rfl,bb⟩;clear Fp CG Cm NB Ff GA;have BK:=bu Ao bb;have IW:=bb.size;replace A:=A.up bb;replace B:=B.up bb;clear Ao bb;cases b3
   ·go_wp2;go_ret;exact⟨by simp[fM.out,j3.out],BK⟩
   by_cases h3:t.wh=t'.wh
   ·have dh3:decide (t.wh=t'.wh)=true:=by simpa using h3
    have Hh3:=hide h3;clear h3;obtain⟨C9,BV,DR,DN,DL⟩:=Za A 12 13 14 15 16;obtain⟨F_,F3,Gn,Gm,Gl⟩:=Za B 12 13 14 15 16;go_wp2;go_ret;exact⟨by simp[fM.out,j3.out,Hh3.out],BK⟩
   have dh3:decide (t.wh=t'.wh)=false:=by simpa using h3
   have C9:=A.cell 12 rfl;have F_:=B.cell 12 rfl;go_wp2;go_ret;exact⟨by simp[fM.out,j3.out,h3],BK⟩
  have dh2:decide (t.vw=t'.vw)=false:=by simpa using h2
  obtain⟨Bi,Db⟩:=Cn A 0 1;obtain⟨cB0,cB1⟩:=Cn B 0 1;go_wp2;go_ret;exact⟨by simp[fM.out,h2],AO⟩
 have dh1:decide (t.k=t'.k)=false:=by simpa using h1
 have Bi:=A.cell 0 rfl;have cB0:=B.cell 0 rfl;go_wp2;go_ret;exact⟨by simp[h1],AO⟩
end
end Go.Proofs.YtcjmcgolgbkknaaGreatDoor
