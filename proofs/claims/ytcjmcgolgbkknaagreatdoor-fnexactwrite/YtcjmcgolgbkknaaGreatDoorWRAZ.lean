/- Lemmas; their conditions stand in each statement. -/
import Derived.Test.YtcjmcgolgbkknaaGreatDoorWRAY
set_option maxRecDepth 100000
set_option maxHeartbeats 16000000
set_option linter.unusedSectionVars false
namespace Go.Proofs.YtcjmcgolgbkknaaGreatDoor
section
open Go.RowKit
def EC(n:Nat)(s:Int):Bool:=decide (n≤100000)&&(decide (0≤s)&&decide (s≤(n:Int)))
theorem eT{n:Nat}{s:Int}:EC n s=true↔n≤100000∧0≤s∧s≤(n:Int):=by simp[EC]

theorem rR(x lo hi:Int)(w:World):Calls Tryz.prog 96 #[.int .i64 x,.int .i64 lo,.int .i64 hi] w fun e w'=>e= .returned (.bool (decide (lo≤x)&&decide (x≤hi)))∧w'=w:=by
 by_cases h1:lo≤x<;>by_cases h2:x≤hi<;>simp only[h1,h2,decide_true,decide_false,Bool.and_true,Bool.and_false]
 all_goals
  go_enter Tryz.func96,Tryz.ntmps96
  go_wp2;go_ret;exact⟨rfl,rfl⟩
theorem AAm(x lo hi:Int)(w:World):Calls Tryz.prog 81 #[.int .i64 x,.int .i64 lo,.int .i64 hi] w fun e w'=>e= .returned (.bool (decide (lo≤x)&&decide (x≤hi)))∧w'=w:=by
 by_cases h1:lo≤x<;>by_cases h2:x≤hi<;>simp only[h1,h2,decide_true,decide_false,Bool.and_true,Bool.and_false]
 all_goals
  go_enter Tryz.func81,Tryz.ntmps81
  go_wp2;go_ret;exact⟨rfl,rfl⟩
theorem Kh(ao:Option Addr)(n ca:Nat)(s:Int)(w:World):
 Calls Tryz.prog 100 #[dv (.slice ao n ca) s] w fun e w'=>e= .returned (.bool (EC n s))∧Below w.heap.size w w':=by
 have WI:=hide fun w=>rR s 0 (n:Int) w;by_cases h1:n≤100000
 ·have hd:EC n s=(decide (0≤s)&&decide (s≤(n:Int))):=by simp[EC,h1]
  have h2:((n:Int)≤100000):=by omega
  rw[hd];generalize (decide (0≤s)&&decide (s≤(n:Int)))=b at *;clear hd;go_enter Tryz.func100,Tryz.ntmps100
  go_wp2_with fail
  refine(WI.out _).mono ?_;rintro e w1 ⟨rfl,rfl⟩;go_wp2;go_ret;exact⟨rfl,Ac _ _⟩
 have hd:EC n s=false:=by simp[EC,h1]
 have h2:¬((n:Int)≤100000):=by omega
 rw[hd];clear hd;go_enter Tryz.func100,Tryz.ntmps100
 go_wp2;go_ret;exact⟨rfl,Ac _ _⟩
theorem ET(ao:Option Addr)(n ca:Nat)(s:Int)(w:World):
 Calls Tryz.prog 85 #[dv (.slice ao n ca) s] w fun e w'=>e= .returned (.bool (EC n s))∧Below w.heap.size w w':=by
 have WI:=hide fun w=>AAm s 0 (n:Int) w;by_cases h1:n≤100000
 ·have hd:EC n s=(decide (0≤s)&&decide (s≤(n:Int))):=by simp[EC,h1]
  have h2:((n:Int)≤100000):=by omega
  rw[hd];generalize (decide (0≤s)&&decide (s≤(n:Int)))=b at *;clear hd;go_enter Tryz.func85,Tryz.ntmps85
  go_wp2_with fail
  refine(WI.out _).mono ?_;rintro e w1 ⟨rfl,rfl⟩;go_wp2;go_ret;exact⟨rfl,Ac _ _⟩
 have hd:EC n s=false:=by simp[EC,h1]
 have h2:¬((n:Int)≤100000):=by omega
 rw[hd];clear hd;go_enter Tryz.func85,Tryz.ntmps85
 go_wp2;go_ret;exact⟨rfl,Ac _ _⟩

def RF(w:World)(g:Nat)(v:Value)(xs:List Int):Prop:=
 xs.length≤4194304∧∃ao cap,v= .slice ao xs.length cap∧(xs.length≤cap∧cap≤maxLen)∧(xs=[]∨∃b off,ao=some ⟨b,off,none⟩∧b≠g∧∀k,k<xs.length→w.cell? ⟨b,off+k,none⟩=some (.int .u8 (xs.getD k 0)))
theorem RF.rb{w:World}{g:Nat}{v:Value}{xs:List Int}(h:RF w g v xs):RB w v xs:=by
 obtain⟨hl,ao,cap,e,hc,h⟩:=h;refine⟨by omega,ao,cap,e,hc,?_⟩;rcases h with h|⟨b,off,e,_,h⟩
 ·exact .inl h
 exact .inr ⟨b,off,e,h⟩
theorem RF.kp{w w':World}{g:Nat}{v:Value}{xs:List Int}(h:RF w g v xs)(k:Kp w w' (fun k=>k=g)):RF w' g v xs:=by
 obtain⟨hl,ao,cap,e,hc,h⟩:=h;refine⟨hl,ao,cap,e,hc,?_⟩;rcases h with h|⟨b,off,e,hb,h⟩
 ·exact .inl h
 exact .inr ⟨b,off,e,hb,fun j hj=>k.cell (h j hj) hb⟩
theorem RF.below{w w':World}{g:Nat}{v:Value}{xs:List Int}(h:RF w g v xs)(b:Below w.heap.size w w'):RF w' g v xs:=h.kp (Below.Bf b _)
theorem RB.rf{w:World}{g:Nat}{v:Value}{xs:List Int}(h:RB w v xs)(hl:xs.length≤4194304)(hg:w.heap.size≤g):RF w g v xs:=by
 obtain⟨_,ao,cap,e,hc,h⟩:=h;refine⟨hl,ao,cap,e,hc,?_⟩;rcases h with h|⟨b,off,e,h⟩
 ·exact .inl h
 by_cases h0:xs=[]
 ·exact .inl h0
 have hp:0<xs.length:=List.length_pos_iff.2 h0;exact .inr ⟨b,off,e,fun e'=>by have:=AU (h 0 hp);simp at this;omega,h⟩
theorem OB.rf{w:World}{base g:Nat}{v:Value}{xs:List Int}(h:OB w base v xs)(hl:xs.length≤4194304)(hg:g<base):RF w g v xs:=by
 refine⟨hl,?_⟩;rcases h.2 with⟨rfl,h0⟩|⟨b,cap,cur,rfl,hb,_,oq,hcm,_⟩
 ·exact⟨none,0,by rw[h0],⟨by omega,by unfold maxLen;omega⟩,.inl (List.length_eq_zero_iff.1 h0)⟩
 refine⟨_,cap,rfl,⟨oq,hcm⟩,.inr ⟨b,0,rfl,by omega,fun k hk=>?_⟩⟩;have:=World.ownsRow.cellAt h k (by omega);rw[Nat.zero_add,this];simp[List.getElem?_map,List.getElem?_eq_getElem hk]
theorem RF.form{w:World}{g:Nat}{v:Value}{xs:List Int}(h:RF w g v xs):∃ao ca,v= .slice ao xs.length ca:=by
 obtain⟨_,ao,cap,e,_⟩:=h;exact⟨ao,cap,e⟩

abbrev aF(m:Int)(v:Value)(s n:Int):Array Value:= #[.int .i32 m,.int .u32 0,v,.int .i64 s,.int .i64 n]
theorem ny(g:Nat)(v:Value)(s n:Int)(w:World)(h:Loc w g (aF 0 v s n)):
 Calls Tryz.prog 224 #[.pointer (some ⟨g,0,none⟩)] w fun e w'=>e= .returned (.tuple #[])∧Loc w' g (aF 1 v s n)∧Kp w w' (fun k=>k=g):=by
 refine(Go.MuLone.lock_free vZ ⟨g,0,none⟩ w (h.cell 0 rfl) (h.frozen 0)).mono ?_;rintro e w' ⟨rfl,rfl⟩;exact⟨rfl,h.set 0 _ rfl,AJ _ _ _ _⟩
theorem OW(g:Nat)(v:Value)(s n:Int)(u:FrameMode)(w:World)(h:Loc w g (aF 1 v s n)):
 CallsD Tryz.prog 225 #[.pointer (some ⟨g,0,none⟩)] u w fun e u' w'=>u'=u∧(e= .returned (.tuple #[])∧Loc w' g (aF 0 v s n)∧Kp w w' (fun k=>k=g)):=by
 refine(Go.MuLone.unlock_deferred vZ ⟨g,0,none⟩ u w (h.cell 0 rfl) (h.frozen 0)).mono ?_;rintro e u' w' ⟨rfl,rfl,rfl⟩;exact⟨rfl,rfl,h.set 0 _ rfl,AJ _ _ _ _⟩
end
section
open Go.RowKit
variable [∀(a b c d:Int),Decidable (BK a b c d)]
def jB(t:MT):MT:=⟨t.k,0,t.bn,t.bv,t.bs,t.bw,0,⟨#[]⟩,[],0,⟨#[]⟩,[],0,0,0,0,0⟩
def jA(t:MT):MT:=⟨t.k,0,⟨#[]⟩,0,⟨#[]⟩,[],t.pv,t.ps,t.pw,0,⟨#[]⟩,[],0,0,0,0,0⟩
def iy(t:MT):MT:=⟨t.k,t.vw,⟨#[]⟩,0,⟨#[]⟩,[],0,⟨#[]⟩,[],t.qv,t.qs,t.qw,t.wh,0,0,0,0⟩
def iw(t:MT):MT:=⟨t.k,0,⟨#[]⟩,0,⟨#[]⟩,[],0,⟨#[]⟩,[],0,⟨#[]⟩,[],0,t.fr,t.tu,t.am,t.no⟩
def sw(t:MT):MT:=⟨t.k,0,⟨#[]⟩,0,⟨#[]⟩,[],0,⟨#[]⟩,[],0,⟨#[]⟩,[],0,0,0,0,0⟩
def Qf(t:MT):MT:=if t.k=1 then jB t else if t.k=2 then jA t else if t.k=3 then iy t else if t.k=4 then iw t else sw t
theorem AAj{t:MT}(h:t.k=1):Qf t=jB t:=by unfold Qf;rw[if_pos h]
theorem AAi{t:MT}(h:t.k=2):Qf t=jA t:=by unfold Qf;rw[if_neg (by omega),if_pos h]
theorem AAh{t:MT}(h:t.k=3):Qf t=iy t:=by unfold Qf;rw[if_neg (by omega),if_neg (by omega),if_pos h]
theorem AAg{t:MT}(h:t.k=4):Qf t=iw t:=by unfold Qf;rw[if_neg (by omega),if_neg (by omega),if_neg (by omega),if_pos h]
theorem ADK{t:MT}(h1:¬t.k=1)(h2:¬t.k=2)(h3:¬t.k=3)(h4:¬t.k=4):Qf t=sw t:=by unfold Qf;rw[if_neg h1,if_neg h2,if_neg h3,if_neg h4]
def K9(t:MT):Bool:=Dz (Qf t) t
theorem Cw(w:World):RI w (.slice none 0 0) []:=⟨by simp,.none,0,rfl,.inl rfl⟩
theorem kinds(k:Int):k=1∨k=2∨k=3∨k=4∨(¬k=1∧¬k=2∧¬k=3∧¬k=4):=by omega
theorem jP(t:MT)(ao bo co:Option Addr)(ca cb cc:Nat)(w:World)(hk:t.k=1)(ha:RI w (.slice ao t.bw.length ca) t.bw)(hb:RI w (.slice bo t.pw.length cb) t.pw)(hc:RI w (.slice co t.qw.length cc) t.qw):
 Calls Tryz.prog 130 #[F8 t (.slice ao t.bw.length ca) (.slice bo t.pw.length cb) (.slice co t.qw.length cc)] w fun e w'=>e= .returned (.bool (Dz (jB t) t))∧Below w.heap.size w w':=by
 have dk1:decide (t.k=1)=true:=by simpa using hk
 have eQ:(t.k==1)=true:=by simpa using hk
 have SM:=hide fun w h1 h2 h3 h4 h5 h6=>Fq (jB t) t ao .none .none ao bo co ca 0 0 ca cb cc w h1 h2 h3 h4 h5 h6;have HK:=hide hk;clear hk;have ha1:=hide ha;have hb1:=hide hb;have hc1:=hide hc;clear ha hb hc;obtain⟨w0,hw0,AO,A,Cm⟩:=bx1 w #[.int .i64 t.k,.int .i64 t.vw,.string t.bn,.int .i64 t.bv,.string t.bs,.slice ao t.bw.length ca,.int .i64 t.pv,.string t.ps,.slice bo t.pw.length cb,.int .i64 t.qv,.string t.qs,.slice co t.qw.length cc,.int .i64 t.wh,.int .i64 t.fr,.int .i64 t.tu,.int .i64 t.am,.int .i64 t.no] 75;go_enter Tryz.func130,Tryz.ntmps130
 have CJ:=A.cell 0 rfl;go_upto_region 2 with fail
 clear hw0 CJ;obtain⟨w1,hw1⟩:∃y,w0.alloc (.cells #[.int .i64 t.k,.int .i64 0,.string ⟨#[]⟩,.int .i64 0,.string ⟨#[]⟩,.slice none 0 0,.int .i64 0,.string ⟨#[]⟩,.slice none 0 0,.int .i64 0,.string ⟨#[]⟩,.slice none 0 0,.int .i64 0,.int .i64 0,.int .i64 0,.int .i64 0,.int .i64 0] 75)=y:=⟨_,rfl⟩
 have bb:Below w0.heap.size w0 w1:=hw1▸Ac _ _;have X:Loc w1 w0.heap.size #[.int .i64 t.k,.int .i64 0,.string ⟨#[]⟩,.int .i64 0,.string ⟨#[]⟩,.slice none 0 0,.int .i64 0,.string ⟨#[]⟩,.slice none 0 0,.int .i64 0,.string ⟨#[]⟩,.slice none 0 0,.int .i64 0,.int .i64 0,.int .i64 0,.int .i64 0,.int .i64 0]:=hw1▸AB w0 _ _ rfl;have q8:w0.heap.size+1≤w1.heap.size:=by rw[←hw1];simp
 rw[hw1];clear hw1;have AL:=bu AO bb;have Cj:=bb.size;replace A:=A.up bb;clear AO bb;obtain⟨CJ,D7,GA,Gn,Io⟩:=eZ A 0 2 3 4 5;obtain⟨cX2,cX3,cX4,cX5⟩:=YF X 2 3 4 5;have fX:=X.frozen;go_upto_region 13 with fail
 clear CJ D7 GA Gn Io cX2 cX3 cX4 cX5 fX;obtain⟨w2,hw2⟩:∃Co,((((w1.setCell ⟨w0.heap.size,2,none⟩ (.string t.bn)).setCell ⟨w0.heap.size,3,none⟩ (.int .i64 t.bv)).setCell ⟨w0.heap.size,4,none⟩ (.string t.bs)).setCell ⟨w0.heap.size,5,none⟩ (.slice ao t.bw.length ca))=Co:=⟨_,rfl⟩
 have kN:Kp w1 w2 (fun k=>k=w0.heap.size):=hw2▸(((AJ _ _ _ _).trans (AJ _ _ _ _)).trans (AJ _ _ _ _)).trans (AJ _ _ _ _);replace X:Loc w2 (w0.heap.size) #[.int .i64 t.k,.int .i64 0,.string t.bn,.int .i64 t.bv,.string t.bs,.slice ao t.bw.length ca,.int .i64 0,.string ⟨#[]⟩,.slice none 0 0,.int .i64 0,.string ⟨#[]⟩,.slice none 0 0,.int .i64 0,.int .i64 0,.int .i64 0,.int .i64 0,.int .i64 0]:=hw2▸((((X.set 2 _ rfl).set 3 _ rfl).set 4 _ rfl).set 5 _ rfl);replace A:=A.kp kN (by omega);have Ah:=Below.kp AL kN AL.size (fun k hk=>by omega);have Ej:=kN.size;rw[hw2];clear hw2 kN AL;have fE:=SM.out _ (ha1.out.below Ah) (Cw _) (Cw _) (ha1.out.below Ah) (hb1.out.below Ah) (hc1.out.below Ah);clear SM ha1 hb1 hc1;have H5:=hide fE;clear fE;go_wp2_with (first|(refine Al X 75 _ rfl _ rfl rfl Tryz.underlying75 rfl (by kernel_rfl) ?_)|(refine Al A 75 _ rfl _ rfl rfl Tryz.underlying75 rfl (by kernel_rfl) ?_))
 refine H5.out.mono ?_;rintro _ w3 ⟨rfl,bb⟩;have BH:=bu Ah bb;have IL:=bb.size;replace A:=A.up bb;replace X:=X.up bb;clear Ah bb;go_wp2;go_ret;exact⟨rfl,BH⟩

theorem jO(t:MT)(ao bo co:Option Addr)(ca cb cc:Nat)(w:World)(hk:t.k=2)(ha:RI w (.slice ao t.bw.length ca) t.bw)(hb:RI w (.slice bo t.pw.length cb) t.pw)(hc:RI w (.slice co t.qw.length cc) t.qw):
 Calls Tryz.prog 130 #[F8 t (.slice ao t.bw.length ca) (.slice bo t.pw.length cb) (.slice co t.qw.length cc)] w fun e w'=>e= .returned (.bool (Dz (jA t) t))∧Below w.heap.size w w':=by
 have dk1:decide (t.k=1)=false:=by simp;omega
 have eQ:(t.k==1)=false:=by simp;omega
 have dk2:decide (t.k=2)=true:=by simpa using hk
 have pF:(t.k==2)=true:=by simpa using hk
 have SM:=hide fun w h1 h2 h3 h4 h5 h6=>Fq (jA t) t .none bo .none ao bo co 0 cb 0 ca cb cc w h1 h2 h3 h4 h5 h6;have HK:=hide hk;clear hk;have ha1:=hide ha;have hb1:=hide hb;have hc1:=hide hc;clear ha hb hc;obtain⟨w0,hw0,AO,A,Cm⟩:=bx1 w #[.int .i64 t.k,.int .i64 t.vw,.string t.bn,.int .i64 t.bv,.string t.bs,.slice ao t.bw.length ca,.int .i64 t.pv,.string t.ps,.slice bo t.pw.length cb,.int .i64 t.qv,.string t.qs,.slice co t.qw.length cc,.int .i64 t.wh,.int .i64 t.fr,.int .i64 t.tu,.int .i64 t.am,.int .i64 t.no] 75;go_enter Tryz.func130,Tryz.ntmps130
 have CJ:=A.cell 0 rfl;go_upto_region 2 with fail
 clear hw0 CJ;obtain⟨w1,hw1⟩:∃y,w0.alloc (.cells #[.int .i64 t.k,.int .i64 0,.string ⟨#[]⟩,.int .i64 0,.string ⟨#[]⟩,.slice none 0 0,.int .i64 0,.string ⟨#[]⟩,.slice none 0 0,.int .i64 0,.string ⟨#[]⟩,.slice none 0 0,.int .i64 0,.int .i64 0,.int .i64 0,.int .i64 0,.int .i64 0] 75)=y:=⟨_,rfl⟩
 have bb:Below w0.heap.size w0 w1:=hw1▸Ac _ _;have X:Loc w1 w0.heap.size #[.int .i64 t.k,.int .i64 0,.string ⟨#[]⟩,.int .i64 0,.string ⟨#[]⟩,.slice none 0 0,.int .i64 0,.string ⟨#[]⟩,.slice none 0 0,.int .i64 0,.string ⟨#[]⟩,.slice none 0 0,.int .i64 0,.int .i64 0,.int .i64 0,.int .i64 0,.int .i64 0]:=hw1▸AB w0 _ _ rfl;have q8:w0.heap.size+1≤w1.heap.size:=by rw[←hw1];simp
 rw[hw1];clear hw1;have AL:=bu AO bb;have Cj:=bb.size;replace A:=A.up bb;clear AO bb;obtain⟨CJ,I_,Iw,I9⟩:=YF A 0 6 7 8;obtain⟨cX6,cX7,cX8⟩:=CW X 6 7 8;have fX:=X.frozen;go_upto_region 13 with fail
 clear CJ I_ Iw I9 cX6 cX7 cX8 fX;obtain⟨w2,hw2⟩:∃Co,(((w1.setCell ⟨w0.heap.size,6,none⟩ (.int .i64 t.pv)).setCell ⟨w0.heap.size,7,none⟩ (.string t.ps)).setCell ⟨w0.heap.size,8,none⟩ (.slice bo t.pw.length cb))=Co:=⟨_,rfl⟩
 have kN:Kp w1 w2 (fun k=>k=w0.heap.size):=hw2▸((AJ _ _ _ _).trans (AJ _ _ _ _)).trans (AJ _ _ _ _);replace X:Loc w2 (w0.heap.size) #[.int .i64 t.k,.int .i64 0,.string ⟨#[]⟩,.int .i64 0,.string ⟨#[]⟩,.slice none 0 0,.int .i64 t.pv,.string t.ps,.slice bo t.pw.length cb,.int .i64 0,.string ⟨#[]⟩,.slice none 0 0,.int .i64 0,.int .i64 0,.int .i64 0,.int .i64 0,.int .i64 0]:=hw2▸(((X.set 6 _ rfl).set 7 _ rfl).set 8 _ rfl);replace A:=A.kp kN (by omega);have Ah:=Below.kp AL kN AL.size (fun k hk=>by omega);have Ej:=kN.size;rw[hw2];clear hw2 kN AL;have fE:=SM.out _ (Cw _) (hb1.out.below Ah) (Cw _) (ha1.out.below Ah) (hb1.out.below Ah) (hc1.out.below Ah);clear SM ha1 hb1 hc1;have H5:=hide fE;clear fE;go_wp2_with (first|(refine Al X 75 _ rfl _ rfl rfl Tryz.underlying75 rfl (by kernel_rfl) ?_)|(refine Al A 75 _ rfl _ rfl rfl Tryz.underlying75 rfl (by kernel_rfl) ?_))
 refine H5.out.mono ?_;rintro _ w3 ⟨rfl,bb⟩;have BH:=bu Ah bb;have IL:=bb.size;replace A:=A.up bb;replace X:=X.up bb;clear Ah bb;go_wp2;go_ret;exact⟨rfl,BH⟩

theorem jN(t:MT)(ao bo co:Option Addr)(ca cb cc:Nat)(w:World)(hk:t.k=3)(ha:RI w (.slice ao t.bw.length ca) t.bw)(hb:RI w (.slice bo t.pw.length cb) t.pw)(hc:RI w (.slice co t.qw.length cc) t.qw):
 Calls Tryz.prog 130 #[F8 t (.slice ao t.bw.length ca) (.slice bo t.pw.length cb) (.slice co t.qw.length cc)] w fun e w'=>e= .returned (.bool (Dz (iy t) t))∧Below w.heap.size w w':=by
 have dk1:decide (t.k=1)=false:=by simp;omega
 have eQ:(t.k==1)=false:=by simp;omega
 have dk2:decide (t.k=2)=false:=by simp;omega
 have pF:(t.k==2)=false:=by simp;omega
 have dk3:decide (t.k=3)=true:=by simpa using hk
 have wJ:(t.k==3)=true:=by simpa using hk
 have SM:=hide fun w h1 h2 h3 h4 h5 h6=>Fq (iy t) t .none .none co ao bo co 0 0 cc ca cb cc w h1 h2 h3 h4 h5 h6;have HK:=hide hk;clear hk;have ha1:=hide ha;have hb1:=hide hb;have hc1:=hide hc;clear ha hb hc;obtain⟨w0,hw0,AO,A,Cm⟩:=bx1 w #[.int .i64 t.k,.int .i64 t.vw,.string t.bn,.int .i64 t.bv,.string t.bs,.slice ao t.bw.length ca,.int .i64 t.pv,.string t.ps,.slice bo t.pw.length cb,.int .i64 t.qv,.string t.qs,.slice co t.qw.length cc,.int .i64 t.wh,.int .i64 t.fr,.int .i64 t.tu,.int .i64 t.am,.int .i64 t.no] 75;go_enter Tryz.func130,Tryz.ntmps130
 have CJ:=A.cell 0 rfl;go_upto_region 2 with fail
 clear hw0 CJ;obtain⟨w1,hw1⟩:∃y,w0.alloc (.cells #[.int .i64 t.k,.int .i64 0,.string ⟨#[]⟩,.int .i64 0,.string ⟨#[]⟩,.slice none 0 0,.int .i64 0,.string ⟨#[]⟩,.slice none 0 0,.int .i64 0,.string ⟨#[]⟩,.slice none 0 0,.int .i64 0,.int .i64 0,.int .i64 0,.int .i64 0,.int .i64 0] 75)=y:=⟨_,rfl⟩
 have bb:Below w0.heap.size w0 w1:=hw1▸Ac _ _;have X:Loc w1 w0.heap.size #[.int .i64 t.k,.int .i64 0,.string ⟨#[]⟩,.int .i64 0,.string ⟨#[]⟩,.slice none 0 0,.int .i64 0,.string ⟨#[]⟩,.slice none 0 0,.int .i64 0,.string ⟨#[]⟩,.slice none 0 0,.int .i64 0,.int .i64 0,.int .i64 0,.int .i64 0,.int .i64 0]:=hw1▸AB w0 _ _ rfl;have q8:w0.heap.size+1≤w1.heap.size:=by rw[←hw1];simp
 rw[hw1];clear hw1;have AL:=bu AO bb;have Cj:=bb.size;replace A:=A.up bb;clear AO bb;obtain⟨CJ,Dk⟩:=B_ A 0 1;have cX1:=X.cell 1 rfl;have fX:=X.frozen;go_upto_region 9 with fail
 clear CJ Dk cX1 fX;obtain⟨w2,hw2⟩:∃Co,(w1.setCell ⟨w0.heap.size,1,none⟩ (.int .i64 t.vw))=Co:=⟨_,rfl⟩
 have kN:Kp w1 w2 (fun k=>k=w0.heap.size):=hw2▸AJ _ _ _ _;replace X:Loc w2 (w0.heap.size) #[.int .i64 t.k,.int .i64 t.vw,.string ⟨#[]⟩,.int .i64 0,.string ⟨#[]⟩,.slice none 0 0,.int .i64 0,.string ⟨#[]⟩,.slice none 0 0,.int .i64 0,.string ⟨#[]⟩,.slice none 0 0,.int .i64 0,.int .i64 0,.int .i64 0,.int .i64 0,.int .i64 0]:=hw2▸(X.set 1 _ rfl);replace A:=A.kp kN (by omega);have Ah:=Below.kp AL kN AL.size (fun k hk=>by omega);have Ej:=kN.size;rw[hw2];clear hw2 kN AL;obtain⟨Ht,Ct,Dj⟩:=CW A 9 10 11;obtain⟨cX9,ADr,ADq⟩:=CW X 9 10 11;have fX:=X.frozen;go_upto_region 10 with fail
 clear Ht Ct Dj cX9 ADr ADq fX;obtain⟨w3,hw3⟩:∃Co,(((w2.setCell ⟨w0.heap.size,9,none⟩ (.int .i64 t.qv)).setCell ⟨w0.heap.size,10,none⟩ (.string t.qs)).setCell ⟨w0.heap.size,11,none⟩ (.slice co t.qw.length cc))=Co:=⟨_,rfl⟩
 have kN:Kp w2 w3 (fun k=>k=w0.heap.size):=hw3▸((AJ _ _ _ _).trans (AJ _ _ _ _)).trans (AJ _ _ _ _);replace X:Loc w3 (w0.heap.size) #[.int .i64 t.k,.int .i64 t.vw,.string ⟨#[]⟩,.int .i64 0,.string ⟨#[]⟩,.slice none 0 0,.int .i64 0,.string ⟨#[]⟩,.slice none 0 0,.int .i64 t.qv,.string t.qs,.slice co t.qw.length cc,.int .i64 0,.int .i64 0,.int .i64 0,.int .i64 0,.int .i64 0]:=hw3▸(((X.set 9 _ rfl).set 10 _ rfl).set 11 _ rfl);replace A:=A.kp kN (by omega);have BH:=Below.kp Ah kN Ah.size (fun k hk=>by omega);have IL:=kN.size;rw[hw3];clear hw3 kN Ah;have D6:=A.cell 12 rfl;have ADp:=X.cell 12 rfl;have fX:=X.frozen;go_upto_region 13 with fail
 clear D6 ADp fX;obtain⟨w4,hw4⟩:∃Co,(w3.setCell ⟨w0.heap.size,12,none⟩ (.int .i64 t.wh))=Co:=⟨_,rfl⟩
 have kN:Kp w3 w4 (fun k=>k=w0.heap.size):=hw4▸AJ _ _ _ _;replace X:Loc w4 (w0.heap.size) #[.int .i64 t.k,.int .i64 t.vw,.string ⟨#[]⟩,.int .i64 0,.string ⟨#[]⟩,.slice none 0 0,.int .i64 0,.string ⟨#[]⟩,.slice none 0 0,.int .i64 t.qv,.string t.qs,.slice co t.qw.length cc,.int .i64 t.wh,.int .i64 0,.int .i64 0,.int .i64 0,.int .i64 0]:=hw4▸(X.set 12 _ rfl);replace A:=A.kp kN (by omega);have Cr:=Below.kp BH kN BH.size (fun k hk=>by omega);have Nq:=kN.size;rw[hw4];clear hw4 kN BH;have fE:=SM.out _ (Cw _) (Cw _) (hc1.out.below Cr) (ha1.out.below Cr) (hb1.out.below Cr) (hc1.out.below Cr);clear SM ha1 hb1 hc1;have H5:=hide fE;clear fE;go_wp2_with (first|(refine Al X 75 _ rfl _ rfl rfl Tryz.underlying75 rfl (by kernel_rfl) ?_)|(refine Al A 75 _ rfl _ rfl rfl Tryz.underlying75 rfl (by kernel_rfl) ?_))
 refine H5.out.mono ?_;rintro _ w5 ⟨rfl,bb⟩;have Fj:=bu Cr bb;have Yt:=bb.size;replace A:=A.up bb;replace X:=X.up bb;clear Cr bb;go_wp2;go_ret;exact⟨rfl,Fj⟩

theorem jM(t:MT)(ao bo co:Option Addr)(ca cb cc:Nat)(w:World)(hk:t.k=4)(ha:RI w (.slice ao t.bw.length ca) t.bw)(hb:RI w (.slice bo t.pw.length cb) t.pw)(hc:RI w (.slice co t.qw.length cc) t.qw):
 Calls Tryz.prog 130 #[F8 t (.slice ao t.bw.length ca) (.slice bo t.pw.length cb) (.slice co t.qw.length cc)] w fun e w'=>e= .returned (.bool (Dz (iw t) t))∧Below w.heap.size w w':=by
 have dk1:decide (t.k=1)=false:=by simp;omega
 have eQ:(t.k==1)=false:=by simp;omega
 have dk2:decide (t.k=2)=false:=by simp;omega
 have pF:(t.k==2)=false:=by simp;omega
 have dk3:decide (t.k=3)=false:=by simp;omega
 have wJ:(t.k==3)=false:=by simp;omega
 have dk4:decide (t.k=4)=true:=by simpa using hk
 have ek4:(t.k==4)=true:=by simpa using hk
 have SM:=hide fun w h1 h2 h3 h4 h5 h6=>Fq (iw t) t .none .none .none ao bo co 0 0 0 ca cb cc w h1 h2 h3 h4 h5 h6;have HK:=hide hk;clear hk;have ha1:=hide ha;have hb1:=hide hb;have hc1:=hide hc;clear ha hb hc;obtain⟨w0,hw0,AO,A,Cm⟩:=bx1 w #[.int .i64 t.k,.int .i64 t.vw,.string t.bn,.int .i64 t.bv,.string t.bs,.slice ao t.bw.length ca,.int .i64 t.pv,.string t.ps,.slice bo t.pw.length cb,.int .i64 t.qv,.string t.qs,.slice co t.qw.length cc,.int .i64 t.wh,.int .i64 t.fr,.int .i64 t.tu,.int .i64 t.am,.int .i64 t.no] 75;go_enter Tryz.func130,Tryz.ntmps130
 have CJ:=A.cell 0 rfl;go_upto_region 2 with fail
 clear hw0 CJ;obtain⟨w1,hw1⟩:∃y,w0.alloc (.cells #[.int .i64 t.k,.int .i64 0,.string ⟨#[]⟩,.int .i64 0,.string ⟨#[]⟩,.slice none 0 0,.int .i64 0,.string ⟨#[]⟩,.slice none 0 0,.int .i64 0,.string ⟨#[]⟩,.slice none 0 0,.int .i64 0,.int .i64 0,.int .i64 0,.int .i64 0,.int .i64 0] 75)=y:=⟨_,rfl⟩
 have bb:Below w0.heap.size w0 w1:=hw1▸Ac _ _;have X:Loc w1 w0.heap.size #[.int .i64 t.k,.int .i64 0,.string ⟨#[]⟩,.int .i64 0,.string ⟨#[]⟩,.slice none 0 0,.int .i64 0,.string ⟨#[]⟩,.slice none 0 0,.int .i64 0,.string ⟨#[]⟩,.slice none 0 0,.int .i64 0,.int .i64 0,.int .i64 0,.int .i64 0,.int .i64 0]:=hw1▸AB w0 _ _ rfl;have q8:w0.heap.size+1≤w1.heap.size:=by rw[←hw1];simp
 rw[hw1];clear hw1;have AL:=bu AO bb;have Cj:=bb.size;replace A:=A.up bb;clear AO bb;obtain⟨CJ,Ca,EF,EE,ED⟩:=eZ A 0 13 14 15 16;obtain⟨ADo,ADn,ADm,ADl⟩:=YF X 13 14 15 16;have fX:=X.frozen;go_upto_region 13 with fail
 clear CJ Ca EF EE ED ADo ADn ADm ADl fX;obtain⟨w2,hw2⟩:∃Co,((((w1.setCell ⟨w0.heap.size,13,none⟩ (.int .i64 t.fr)).setCell ⟨w0.heap.size,14,none⟩ (.int .i64 t.tu)).setCell ⟨w0.heap.size,15,none⟩ (.int .i64 t.am)).setCell ⟨w0.heap.size,16,none⟩ (.int .i64 t.no))=Co:=⟨_,rfl⟩
 have kN:Kp w1 w2 (fun k=>k=w0.heap.size):=hw2▸(((AJ _ _ _ _).trans (AJ _ _ _ _)).trans (AJ _ _ _ _)).trans (AJ _ _ _ _);replace X:Loc w2 (w0.heap.size) #[.int .i64 t.k,.int .i64 0,.string ⟨#[]⟩,.int .i64 0,.string ⟨#[]⟩,.slice none 0 0,.int .i64 0,.string ⟨#[]⟩,.slice none 0 0,.int .i64 0,.string ⟨#[]⟩,.slice none 0 0,.int .i64 0,.int .i64 t.fr,.int .i64 t.tu,.int .i64 t.am,.int .i64 t.no]:=hw2▸((((X.set 13 _ rfl).set 14 _ rfl).set 15 _ rfl).set 16 _ rfl);replace A:=A.kp kN (by omega);have Ah:=Below.kp AL kN AL.size (fun k hk=>by omega);have Ej:=kN.size;rw[hw2];clear hw2 kN AL;have fE:=SM.out _ (Cw _) (Cw _) (Cw _) (ha1.out.below Ah) (hb1.out.below Ah) (hc1.out.below Ah);clear SM ha1 hb1 hc1;have H5:=hide fE;clear fE;go_wp2_with (first|(refine Al X 75 _ rfl _ rfl rfl Tryz.underlying75 rfl (by kernel_rfl) ?_)|(refine Al A 75 _ rfl _ rfl rfl Tryz.underlying75 rfl (by kernel_rfl) ?_))
 refine H5.out.mono ?_;rintro _ w3 ⟨rfl,bb⟩;have BH:=bu Ah bb;have IL:=bb.size;replace A:=A.up bb;replace X:=X.up bb;clear Ah bb;go_wp2;go_ret;exact⟨rfl,BH⟩

theorem jQ(t:MT)(ao bo co:Option Addr)(ca cb cc:Nat)(w:World)(h1:¬t.k=1)(h2:¬t.k=2)(h3:¬t.k=3)(h4:¬t.k=4)(ha:RI w (.slice ao t.bw.length ca) t.bw)(hb:RI w (.slice bo t.pw.length cb) t.pw)(hc:RI w (.slice co t.qw.length cc) t.qw):
 Calls Tryz.prog 130 #[F8 t (.slice ao t.bw.length ca) (.slice bo t.pw.length cb) (.slice co t.qw.length cc)] w fun e w'=>e= .returned (.bool (Dz (sw t) t))∧Below w.heap.size w w':=by
 have dk1:decide (t.k=1)=false:=by simp;omega
 have eQ:(t.k==1)=false:=by simp;omega
 have dk2:decide (t.k=2)=false:=by simp;omega
 have pF:(t.k==2)=false:=by simp;omega
 have dk3:decide (t.k=3)=false:=by simp;omega
 have wJ:(t.k==3)=false:=by simp;omega
 have dk4:decide (t.k=4)=false:=by simp;omega
 have ek4:(t.k==4)=false:=by simp;omega
 have SM:=hide fun w h1 h2 h3 h4 h5 h6=>Fq (sw t) t .none .none .none ao bo co 0 0 0 ca cb cc w h1 h2 h3 h4 h5 h6;have HK:=hide True.intro;have ha1:=hide ha;have hb1:=hide hb;have hc1:=hide hc;clear ha hb hc;obtain⟨w0,hw0,AO,A,Cm⟩:=bx1 w #[.int .i64 t.k,.int .i64 t.vw,.string t.bn,.int .i64 t.bv,.string t.bs,.slice ao t.bw.length ca,.int .i64 t.pv,.string t.ps,.slice bo t.pw.length cb,.int .i64 t.qv,.string t.qs,.slice co t.qw.length cc,.int .i64 t.wh,.int .i64 t.fr,.int .i64 t.tu,.int .i64 t.am,.int .i64 t.no] 75;go_enter Tryz.func130,Tryz.ntmps130
 have CJ:=A.cell 0 rfl;go_upto_region 2 with fail
 clear hw0 CJ;obtain⟨w1,hw1⟩:∃y,w0.alloc (.cells #[.int .i64 t.k,.int .i64 0,.string ⟨#[]⟩,.int .i64 0,.string ⟨#[]⟩,.slice none 0 0,.int .i64 0,.string ⟨#[]⟩,.slice none 0 0,.int .i64 0,.string ⟨#[]⟩,.slice none 0 0,.int .i64 0,.int .i64 0,.int .i64 0,.int .i64 0,.int .i64 0] 75)=y:=⟨_,rfl⟩
 have bb:Below w0.heap.size w0 w1:=hw1▸Ac _ _;have X:Loc w1 w0.heap.size #[.int .i64 t.k,.int .i64 0,.string ⟨#[]⟩,.int .i64 0,.string ⟨#[]⟩,.slice none 0 0,.int .i64 0,.string ⟨#[]⟩,.slice none 0 0,.int .i64 0,.string ⟨#[]⟩,.slice none 0 0,.int .i64 0,.int .i64 0,.int .i64 0,.int .i64 0,.int .i64 0]:=hw1▸AB w0 _ _ rfl;have q8:w0.heap.size+1≤w1.heap.size:=by rw[←hw1];simp
 rw[hw1];clear hw1;have AL:=bu AO bb;have Cj:=bb.size;replace A:=A.up bb;clear AO bb;have fE:=SM.out _ (Cw _) (Cw _) (Cw _) (ha1.out.below AL) (hb1.out.below AL) (hc1.out.below AL);clear SM ha1 hb1 hc1;have H5:=hide fE;clear fE;have CJ:=A.cell 0 rfl;go_wp2_with (first|(refine Al X 75 _ rfl _ rfl rfl Tryz.underlying75 rfl (by kernel_rfl) ?_)|(refine Al A 75 _ rfl _ rfl rfl Tryz.underlying75 rfl (by kernel_rfl) ?_))
 refine H5.out.mono ?_;rintro _ w2 ⟨rfl,bb⟩;clear CJ;have Ah:=bu AL bb;have Ej:=bb.size;replace A:=A.up bb;replace X:=X.up bb;clear AL bb;go_wp2;go_ret;exact⟨rfl,Ah⟩

theorem Fw(t:MT)(ao bo co:Option Addr)(ca cb cc:Nat)(w:World)(ha:RI w (.slice ao t.bw.length ca) t.bw)(hb:RI w (.slice bo t.pw.length cb) t.pw)(hc:RI w (.slice co t.qw.length cc) t.qw):
 Calls Tryz.prog 130 #[F8 t (.slice ao t.bw.length ca) (.slice bo t.pw.length cb) (.slice co t.qw.length cc)] w fun e w'=>e= .returned (.bool (K9 t))∧Below w.heap.size w w':=by
 unfold K9;rcases kinds t.k with h|h|h|h|⟨h1,h2,h3,h4⟩
 ·rw[AAj h];exact jP t ao bo co ca cb cc w h ha hb hc
 ·rw[AAi h];exact jO t ao bo co ca cb cc w h ha hb hc
 ·rw[AAh h];exact jN t ao bo co ca cb cc w h ha hb hc
 ·rw[AAg h];exact jM t ao bo co ca cb cc w h ha hb hc
 rw[ADK h1 h2 h3 h4];exact jQ t ao bo co ca cb cc w h1 h2 h3 h4 ha hb hc
end
section
open Go.RowKit
variable [∀(a b c d:Int),Decidable (BK a b c d)] [∀(a b c d:Nat),Decidable (Dc a b c d)] [∀(last:Int)(s:St),Decidable (Ak last s)] [∀(x:T4),Decidable (Dv x)] [∀(n:Int)(s:List Int),Decidable (Dw n s)] [∀(n f:Int),Decidable (A9 n f)]
theorem dV{s t:ByteArray}(h:s=t):(s.toList==t.toList)=true:=by simp[h]
theorem XY(n f:Int)(m:ByteArray)(v:Int)(s:ByteArray)(ao:Option Addr)(ca:Nat)(xs:List Int)(w:World)(hm:m.size≤33554432)(hs:s.size≤33554432)(hE:Env w)(ha:RI w (.slice ao xs.length ca) xs):
 Calls Tryz.prog 353 #[cv n f,bv m v s (.slice ao xs.length ca)] w fun e w'=>e= .returned (.bool (Xz n f m v s xs))∧Below w.heap.size w w':=by
 obtain⟨w0,hw0,AO,LC,LB,_⟩:=El w #[.int .i64 n,.int .i64 f] 48 #[.string m,.int .i64 v,.string s,.slice ao xs.length ca] 71;have OK:=hide fun w'(b:Below w0.heap.size w0 w')=>ML n f v s ao ca xs w' hs ((hE.below AO).below b) ((ha.below AO).below b);have HT:=hide fun w'(b:Below w0.heap.size w0 w')=>Qn m w' hm ((hE.below AO).below b);have UP:=hide fun w'(b:Below w0.heap.size w0 w')=>oM m w' hm ((hE.below AO).below b);have hB:Xz n f m v s xs=(D9 n f v s xs&&decide (0<Bg m)&&decide (GG m=s)):=rfl;rw[hB];clear hB ha hE;generalize D9 n f v s xs=q at *;generalize Bg m=k at *;generalize GG m=u at *;cases q
 ·simp only[Bool.false_and];go_enter Tryz.func353,Tryz.ntmps353
  have K:=kw (ka (Hr LC 0 1) (oF LB 0 1 2 3));go_upto_region 1 with fail
  clear hw0;refine Em K (fun bA hHeld=>?_);refine tx 0 5 ?_;refine tx 1 6 ?_;refine tx 2 7 ?_;refine rd 3 rfl (fun KK AA=>?_);go_simp;have hgo:=bA;refine(OK.out _ hgo).mono ?_;rintro e Dl ⟨rfl,bb⟩;have Am:Below w0.heap.size w0 Dl:=bu bA bb;clear bA hgo bb hHeld;refine AA.out _ _ (K.out _ Am) (fun hHeld=>?_);clear AA KK;refine tx 4 9 ?_;refine sx 5 10 ?_;refine sx 6 11 ?_;refine sx 7 12 ?_;refine sx 8 13 ?_;refine tx 9 14 ?_;refine tx 10 15 ?_;refine sx 11 16 ?_;refine sx 14 19 ?_;refine sx 12 17 ?_;refine sx 15 20 ?_;refine sx 13 18 ?_;refine sx 16 21 ?_;refine sx 17 22 ?_;refine tx 18 23 ?_;refine tx 19 4 ?_;clear hHeld;refine Bu ?_;have bb:=Am;have Q_:=bu AO bb;have mI:=bb.size;replace LC:=LC.up bb;replace LB:=LB.up bb;clear AO bb Am K;go_wp2;go_ret;exact⟨rfl,Q_⟩
 simp only[Bool.true_and];by_cases hk:0<k
 ·have hd:decide (0<k)=true:=by simpa using hk
  rw[hd,Bool.true_and];by_cases hu:u=s
  ·have hv:decide (u=s)=true:=by simpa using hu
   have hy:=dV hu;rw[hv];clear hu hv;go_enter Tryz.func353,Tryz.ntmps353
   have K:=kw (ka (Hr LC 0 1) (oF LB 0 1 2 3));go_upto_region 1 with fail
   clear hw0;refine Em K (fun bA hHeld=>?_);refine tx 0 5 ?_;refine tx 1 6 ?_;refine tx 2 7 ?_;refine rd 3 rfl (fun KK AA=>?_);go_simp;have hgo:=bA;refine(OK.out _ hgo).mono ?_;rintro e Dl ⟨rfl,bb⟩;have Am:Below w0.heap.size w0 Dl:=bu bA bb;clear bA hgo bb hHeld;refine AA.out _ _ (K.out _ Am) (fun hHeld=>?_);clear AA KK;refine tx 4 9 ?_;refine tx 5 10 ?_;refine tx 6 11 ?_;refine rd 7 rfl (fun KK AA=>?_);go_simp;have hgo:=Am;refine(HT.out _ hgo).mono ?_;rintro e Ea ⟨rfl,bb⟩;have BG:Below w0.heap.size w0 Ea:=bu Am bb;clear Am hgo bb hHeld;refine AA.out _ _ (K.out _ BG) (fun hHeld=>?_);clear AA KK;refine tx 8 13 ?_;refine tx 9 14 ?_;refine tx 10 15 ?_;refine tx 11 16 ?_;refine tx 14 19 ?_;refine tx 12 17 ?_;refine tx 15 20 ?_;refine tx 16 21 ?_;refine rd 13 rfl (fun KK AA=>?_);go_simp;have hgo:=BG;refine(UP.out _ hgo).mono ?_;rintro e J2 ⟨rfl,bb⟩;have EY:Below w0.heap.size w0 J2:=bu BG bb;clear BG hgo bb hHeld;refine AA.out _ _ (K.out _ EY) (fun hHeld=>?_);clear AA KK;refine tx 17 22 ?_;refine tx 18 23 ?_;refine tx 19 4 ?_;clear hHeld;refine Bu ?_;have bb:=EY;have Kw:=bu AO bb;have Yo:=bb.size;replace LC:=LC.up bb;replace LB:=LB.up bb;clear AO bb EY K;go_wp2;go_ret;exact⟨rfl,Kw⟩
  have hv:decide (u=s)=false:=by simpa using hu
  have hy:=D5 hu;rw[hv];clear hu hv;go_enter Tryz.func353,Tryz.ntmps353
  have K:=kw (ka (Hr LC 0 1) (oF LB 0 1 2 3));go_upto_region 1 with fail
  clear hw0;refine Em K (fun bA hHeld=>?_);refine tx 0 5 ?_;refine tx 1 6 ?_;refine tx 2 7 ?_;refine rd 3 rfl (fun KK AA=>?_);go_simp;have hgo:=bA;refine(OK.out _ hgo).mono ?_;rintro e Dl ⟨rfl,bb⟩;have Am:Below w0.heap.size w0 Dl:=bu bA bb;clear bA hgo bb hHeld;refine AA.out _ _ (K.out _ Am) (fun hHeld=>?_);clear AA KK;refine tx 4 9 ?_;refine tx 5 10 ?_;refine tx 6 11 ?_;refine rd 7 rfl (fun KK AA=>?_);go_simp;have hgo:=Am;refine(HT.out _ hgo).mono ?_;rintro e Ea ⟨rfl,bb⟩;have BG:Below w0.heap.size w0 Ea:=bu Am bb;clear Am hgo bb hHeld;refine AA.out _ _ (K.out _ BG) (fun hHeld=>?_);clear AA KK;refine tx 8 13 ?_;refine tx 9 14 ?_;refine tx 10 15 ?_;refine tx 11 16 ?_;refine tx 14 19 ?_;refine tx 12 17 ?_;refine tx 15 20 ?_;refine tx 16 21 ?_;refine rd 13 rfl (fun KK AA=>?_);go_simp;have hgo:=BG;refine(UP.out _ hgo).mono ?_;rintro e J2 ⟨rfl,bb⟩;have EY:Below w0.heap.size w0 J2:=bu BG bb;clear BG hgo bb hHeld;refine AA.out _ _ (K.out _ EY) (fun hHeld=>?_);clear AA KK;refine tx 17 22 ?_;refine tx 18 23 ?_;refine tx 19 4 ?_;clear hHeld;refine Bu ?_;have bb:=EY;have Kw:=bu AO bb;have Yo:=bb.size;replace LC:=LC.up bb;replace LB:=LB.up bb;clear AO bb EY K;go_wp2;go_ret;exact⟨rfl,Kw⟩
 have hd:decide (0<k)=false:=by simpa using hk
 rw[hd,Bool.false_and];go_enter Tryz.func353,Tryz.ntmps353
 have K:=kw (ka (Hr LC 0 1) (oF LB 0 1 2 3));go_upto_region 1 with fail
 clear hw0;refine Em K (fun bA hHeld=>?_);refine tx 0 5 ?_;refine tx 1 6 ?_;refine tx 2 7 ?_;refine rd 3 rfl (fun KK AA=>?_);go_simp;have hgo:=bA;refine(OK.out _ hgo).mono ?_;rintro e Dl ⟨rfl,bb⟩;have Am:Below w0.heap.size w0 Dl:=bu bA bb;clear bA hgo bb hHeld;refine AA.out _ _ (K.out _ Am) (fun hHeld=>?_);clear AA KK;refine tx 4 9 ?_;refine tx 5 10 ?_;refine tx 6 11 ?_;refine rd 7 rfl (fun KK AA=>?_);go_simp;have hgo:=Am;refine(HT.out _ hgo).mono ?_;rintro e Ea ⟨rfl,bb⟩;have BG:Below w0.heap.size w0 Ea:=bu Am bb;clear Am hgo bb hHeld;refine AA.out _ _ (K.out _ BG) (fun hHeld=>?_);clear AA KK;refine tx 8 13 ?_;refine tx 9 14 ?_;refine tx 10 15 ?_;refine sx 11 16 ?_;refine sx 14 19 ?_;refine sx 12 17 ?_;refine sx 15 20 ?_;refine sx 13 18 ?_;refine sx 16 21 ?_;refine sx 17 22 ?_;refine tx 18 23 ?_;refine tx 19 4 ?_;clear hHeld;refine Bu ?_;have bb:=BG;have Ky:=bu AO bb;have Yp:=bb.size;replace LC:=LC.up bb;replace LB:=LB.up bb;clear AO bb BG K;go_wp2;go_ret;exact⟨rfl,Ky⟩

theorem Fs(n f:Int)(m:ByteArray)(v:Int)(s:ByteArray)(ao:Option Addr)(ca:Nat)(xs:List Int)(w:World)(hm:m.size≤1048576)(hs:s.size≤1048576)(ha:RI w (.slice ao xs.length ca) xs):
 Calls Tryz.prog 131 #[cv n f,bv m v s (.slice ao xs.length ca)] w fun e w'=>e= .returned (.bool (Xz n f m v s xs))∧Below w.heap.size w w':=by
 obtain⟨w0,hw0,AO,LC,LB,_⟩:=El w #[.int .i64 n,.int .i64 f] 48 #[.string m,.int .i64 v,.string s,.slice ao xs.length ca] 71;have OK:=hide fun w'(b:Below w0.heap.size w0 w')=>Fp n f v s ao ca xs w' (by omega) ((ha.below AO).below b);have NO:=hide fun w'=>Cg m w' (by omega);have UP:=hide fun w'=>mW m w' (by omega);have hB:Xz n f m v s xs=(D9 n f v s xs&&((AV m).isSome&&decide (m≠⟨#[]⟩))&&decide (GG m=s)):=by rw[←Z7];rfl
 rw[hB];clear hB ha;generalize D9 n f v s xs=q at *;generalize (AV m).isSome=k at *;generalize GG m=u at *;cases q
 ·simp only[Bool.false_and];go_enter Tryz.func131,Tryz.ntmps131
  have K:=kw (ka (Hr LC 0 1) (oF LB 0 1 2 3));go_upto_region 1 with fail
  clear hw0;refine Em K (fun bA hHeld=>?_);refine tx 0 5 ?_;refine tx 1 6 ?_;refine tx 2 7 ?_;refine rd 3 rfl (fun KK AA=>?_);go_simp;have hgo:=bA;refine(OK.out _ hgo).mono ?_;rintro e Dl ⟨rfl,bb⟩;have Am:Below w0.heap.size w0 Dl:=bu bA bb;clear bA hgo bb hHeld;refine AA.out _ _ (K.out _ Am) (fun hHeld=>?_);clear AA KK;refine tx 4 9 ?_;refine sx 5 10 ?_;refine sx 6 11 ?_;refine sx 7 12 ?_;refine tx 8 13 ?_;refine tx 9 14 ?_;refine sx 10 15 ?_;refine sx 11 16 ?_;refine sx 12 17 ?_;refine tx 13 18 ?_;refine tx 14 19 ?_;refine sx 15 20 ?_;refine sx 18 23 ?_;refine sx 16 21 ?_;refine sx 19 24 ?_;refine sx 17 22 ?_;refine sx 20 25 ?_;refine sx 21 26 ?_;refine tx 22 27 ?_;refine tx 23 4 ?_;clear hHeld;refine Bu ?_;have bb:=Am;have Q_:=bu AO bb;have mI:=bb.size;replace LC:=LC.up bb;replace LB:=LB.up bb;clear AO bb Am K;go_wp2;go_ret;exact⟨rfl,Q_⟩
 simp only[Bool.true_and];cases k
 ·simp only[Bool.false_and];go_enter Tryz.func131,Tryz.ntmps131
  have K:=kw (ka (Hr LC 0 1) (oF LB 0 1 2 3));go_upto_region 1 with fail
  clear hw0;refine Em K (fun bA hHeld=>?_);refine tx 0 5 ?_;refine tx 1 6 ?_;refine tx 2 7 ?_;refine rd 3 rfl (fun KK AA=>?_);go_simp;have hgo:=bA;refine(OK.out _ hgo).mono ?_;rintro e Dl ⟨rfl,bb⟩;have Am:Below w0.heap.size w0 Dl:=bu bA bb;clear bA hgo bb hHeld;refine AA.out _ _ (K.out _ Am) (fun hHeld=>?_);clear AA KK;refine tx 4 9 ?_;refine tx 5 10 ?_;refine tx 6 11 ?_;refine rd 7 rfl (fun KK AA=>?_);go_simp;have hgo:=Am;refine(NO.out _).mono ?_;rintro e Ea ⟨rfl,bb⟩;have BG:Below w0.heap.size w0 Ea:=bu Am bb;clear Am hgo bb hHeld;refine AA.out _ _ (K.out _ BG) (fun hHeld=>?_);clear AA KK;refine tx 8 13 ?_;refine tx 9 14 ?_;refine sx 10 15 ?_;refine sx 11 16 ?_;refine sx 12 17 ?_;refine tx 13 18 ?_;refine tx 14 19 ?_;refine sx 15 20 ?_;refine sx 18 23 ?_;refine sx 16 21 ?_;refine sx 19 24 ?_;refine sx 17 22 ?_;refine sx 20 25 ?_;refine sx 21 26 ?_;refine tx 22 27 ?_;refine tx 23 4 ?_;clear hHeld;refine Bu ?_;have bb:=BG;have Ky:=bu AO bb;have Yp:=bb.size;replace LC:=LC.up bb;replace LB:=LB.up bb;clear AO bb BG K;go_wp2;go_ret;exact⟨rfl,Ky⟩
 simp only[Bool.true_and];by_cases he:m=⟨#[]⟩
 ·have hd:decide (m≠⟨#[]⟩)=false:=by simpa using he
  have hy:(m.toList==[])=true:=by rw[he,ByteArray.toList_eq];rfl
  rw[hd,Bool.false_and];clear he hd;go_enter Tryz.func131,Tryz.ntmps131
  have K:=kw (ka (Hr LC 0 1) (oF LB 0 1 2 3));go_upto_region 1 with fail
  clear hw0;refine Em K (fun bA hHeld=>?_);refine tx 0 5 ?_;refine tx 1 6 ?_;refine tx 2 7 ?_;refine rd 3 rfl (fun KK AA=>?_);go_simp;have hgo:=bA;refine(OK.out _ hgo).mono ?_;rintro e Dl ⟨rfl,bb⟩;have Am:Below w0.heap.size w0 Dl:=bu bA bb;clear bA hgo bb hHeld;refine AA.out _ _ (K.out _ Am) (fun hHeld=>?_);clear AA KK;refine tx 4 9 ?_;refine tx 5 10 ?_;refine tx 6 11 ?_;refine rd 7 rfl (fun KK AA=>?_);go_simp;have hgo:=Am;refine(NO.out _).mono ?_;rintro e Ea ⟨rfl,bb⟩;have BG:Below w0.heap.size w0 Ea:=bu Am bb;clear Am hgo bb hHeld;refine AA.out _ _ (K.out _ BG) (fun hHeld=>?_);clear AA KK;refine tx 8 13 ?_;refine tx 9 14 ?_;refine tx 10 15 ?_;refine tx 11 16 ?_;refine tx 12 17 ?_;refine tx 13 18 ?_;refine tx 14 19 ?_;refine sx 15 20 ?_;refine sx 18 23 ?_;refine sx 16 21 ?_;refine sx 19 24 ?_;refine sx 17 22 ?_;refine sx 20 25 ?_;refine sx 21 26 ?_;refine tx 22 27 ?_;refine tx 23 4 ?_;clear hHeld;refine Bu ?_;have bb:=BG;have Ky:=bu AO bb;have Yp:=bb.size;replace LC:=LC.up bb;replace LB:=LB.up bb;clear AO bb BG K;go_wp2;go_ret;exact⟨rfl,Ky⟩
 have hd:decide (m≠⟨#[]⟩)=true:=by simpa using he
 have hne:=y9 he;rw[hd,Bool.true_and];clear he hd;by_cases hu:u=s
 ·have hv:decide (u=s)=true:=by simpa using hu
  have hy:=dV hu;rw[hv];clear hu hv;go_enter Tryz.func131,Tryz.ntmps131
  have K:=kw (ka (Hr LC 0 1) (oF LB 0 1 2 3));go_upto_region 1 with fail
  clear hw0;refine Em K (fun bA hHeld=>?_);refine tx 0 5 ?_;refine tx 1 6 ?_;refine tx 2 7 ?_;refine rd 3 rfl (fun KK AA=>?_);go_simp;have hgo:=bA;refine(OK.out _ hgo).mono ?_;rintro e Dl ⟨rfl,bb⟩;have Am:Below w0.heap.size w0 Dl:=bu bA bb;clear bA hgo bb hHeld;refine AA.out _ _ (K.out _ Am) (fun hHeld=>?_);clear AA KK;refine tx 4 9 ?_;refine tx 5 10 ?_;refine tx 6 11 ?_;refine rd 7 rfl (fun KK AA=>?_);go_simp;have hgo:=Am;refine(NO.out _).mono ?_;rintro e Ea ⟨rfl,bb⟩;have BG:Below w0.heap.size w0 Ea:=bu Am bb;clear Am hgo bb hHeld;refine AA.out _ _ (K.out _ BG) (fun hHeld=>?_);clear AA KK;refine tx 8 13 ?_;refine tx 9 14 ?_;refine tx 10 15 ?_;refine tx 11 16 ?_;refine tx 12 17 ?_;refine tx 13 18 ?_;refine tx 14 19 ?_;refine tx 15 20 ?_;refine tx 18 23 ?_;refine tx 16 21 ?_;refine tx 19 24 ?_;refine tx 20 25 ?_;refine rd 17 rfl (fun KK AA=>?_);go_simp;have hgo:=BG;refine(UP.out _).mono ?_;rintro e J2 ⟨rfl,bb⟩;have EY:Below w0.heap.size w0 J2:=bu BG bb;clear BG hgo bb hHeld;refine AA.out _ _ (K.out _ EY) (fun hHeld=>?_);clear AA KK;refine tx 21 26 ?_;refine tx 22 27 ?_;refine tx 23 4 ?_;clear hHeld;refine Bu ?_;have bb:=EY;have Kw:=bu AO bb;have Yo:=bb.size;replace LC:=LC.up bb;replace LB:=LB.up bb;clear AO bb EY K;go_wp2;go_ret;exact⟨rfl,Kw⟩
 have hv:decide (u=s)=false:=by simpa using hu
 have hy:=D5 hu;rw[hv];clear hu hv;go_enter Tryz.func131,Tryz.ntmps131
 have K:=kw (ka (Hr LC 0 1) (oF LB 0 1 2 3));go_upto_region 1 with fail
 clear hw0;refine Em K (fun bA hHeld=>?_);refine tx 0 5 ?_;refine tx 1 6 ?_;refine tx 2 7 ?_;refine rd 3 rfl (fun KK AA=>?_);go_simp;have hgo:=bA;refine(OK.out _ hgo).mono ?_;rintro e Dl ⟨rfl,bb⟩;have Am:Below w0.heap.size w0 Dl:=bu bA bb;clear bA hgo bb hHeld;refine AA.out _ _ (K.out _ Am) (fun hHeld=>?_);clear AA KK;refine tx 4 9 ?_;refine tx 5 10 ?_;refine tx 6 11 ?_;refine rd 7 rfl (fun KK AA=>?_);go_simp;have hgo:=Am;refine(NO.out _).mono ?_;rintro e Ea ⟨rfl,bb⟩;have BG:Below w0.heap.size w0 Ea:=bu Am bb;clear Am hgo bb hHeld;refine AA.out _ _ (K.out _ BG) (fun hHeld=>?_);clear AA KK;refine tx 8 13 ?_;refine tx 9 14 ?_;refine tx 10 15 ?_;refine tx 11 16 ?_;refine tx 12 17 ?_;refine tx 13 18 ?_;refine tx 14 19 ?_;refine tx 15 20 ?_;refine tx 18 23 ?_;refine tx 16 21 ?_;refine tx 19 24 ?_;refine tx 20 25 ?_;refine rd 17 rfl (fun KK AA=>?_);go_simp;have hgo:=BG;refine(UP.out _).mono ?_;rintro e J2 ⟨rfl,bb⟩;have EY:Below w0.heap.size w0 J2:=bu BG bb;clear BG hgo bb hHeld;refine AA.out _ _ (K.out _ EY) (fun hHeld=>?_);clear AA KK;refine tx 21 26 ?_;refine tx 22 27 ?_;refine tx 23 4 ?_;clear hHeld;refine Bu ?_;have bb:=EY;have Kw:=bu AO bb;have Yo:=bb.size;replace LC:=LC.up bb;replace LB:=LB.up bb;clear AO bb EY K;go_wp2;go_ret;exact⟨rfl,Kw⟩
end
end Go.Proofs.YtcjmcgolgbkknaaGreatDoor
