/- Lemmas; their conditions stand in each statement. -/
import Derived.Test.YtcjmcgolgbkknaaGreatDoorRSBK
set_option maxRecDepth 100000
set_option maxHeartbeats 16000000
set_option linter.unusedSectionVars false
namespace Go.Proofs.YtcjmcgolgbkknaaGreatDoor
section
open Go.RowKit
variable [∀(a b c d:Int),Decidable (BD a b c d)] [∀(a b c d:Nat),Decidable (Dg a b c d)] [∀(last:Int)(s:St),Decidable (Ak last s)] [∀(x:T4),Decidable (Dt x)] [∀(n:Int)(s:List Int),Decidable (Du n s)] [∀(n f:Int),Decidable (A_ n f)]
theorem AD4(b off n ca q m:Nat)(w:World)(h:q+m≤ca)(hq:q<ca):
 (Instr.slice 31 (.slice (some ⟨b,off,none⟩) n ca) (some (.int .i64 (q:Int))) (some (.int .i64 ((q:Int)+(m:Int)))) none).run Tryz.prog w= .ok (.slice (some ⟨b,off+q,none⟩) m (ca-q)) w:=by
 obtain⟨i0,hi,hz0,hz1,hz2⟩:=info_parts Tryz.info5;rw[run_slice_lh (ht:=Tryz.underlying31) (kl:= .i64) (kh:= .i64) (l:=(q:Int)) (h:=(q:Int)+(m:Int)) (h0:=by omega) (h1:=by omega) (h2:=by omega)];have he:Tryz.prog.elem 31=5:=by simp[Program.elem,Tryz.underlying31]
 have hs:(sizeOf (Tryz.prog.elem 31)).run Tryz.prog w= .ok 1 w:=by rw[he];simp[sizeOf,typeInfo,hi,hz1]
 rw[hs];have hne:ca≠q:=by omega
 have e1:((q:Int)+(m:Int)).toNat=q+m:=by omega
 simp[sliced,Result.andThen,hne,e1,Addr.add]
theorem RB.sub{w:World}{b off n ca:Nat}{xs:List Int}(h:RB w (.slice (some ⟨b,off,none⟩) n ca) xs)(q m:Nat)(hq:q+m≤xs.length):RB w (.slice (some ⟨b,off+q,none⟩) m (ca-q)) ((xs.drop q).take m):=by
 obtain⟨hl,ao,cap,e,hc,h⟩:=h;cases e
 have hw:=Hy xs q m hq;refine⟨by omega,_,_,by rw[hw],⟨by omega,by unfold maxLen at *; omega⟩,?_⟩;rcases h with rfl|⟨b',off',e,h⟩
 ·left;simp
 cases e
 right
 refine⟨b,off+q,rfl,fun k hk=>?_⟩;rw[hw]at hk;exact Lf h hq k hk
theorem RB.at{w:World}{ao:Option Addr}{n ca:Nat}{xs:List Int}(h:RB w (.slice ao n ca) xs)(hx:0<xs.length):(n=xs.length∧n≤ca)∧∃b off,ao=some ⟨b,off,none⟩∧∀k,k<xs.length→w.cell? ⟨b,off+k,none⟩=some (.int .u8 (xs.getD k 0)):=by
 obtain⟨hl,Q7,Xp,e,hc,h⟩:=h;cases e
 rcases h with rfl|⟨b,off,rfl,h⟩
 ·simp at hx
 exact⟨⟨rfl,hc.1⟩,b,off,rfl,h⟩
theorem iq{xs:List Int}(hb:Aw xs){n f p:Int}(h:AV xs p=none):D7 n f xs p=none:=by rw[←Tu hb];unfold Pj;rw[h]
theorem We{xs:List Int}(hb:Aw xs){n f p m q:Int}(h:AV xs p=some (m,q))(hc:¬(m<(xs.length:Int)-q∧xs.getD (q+m).toNat 0=10)):D7 n f xs p=none:=by rw[←Tu hb];unfold Pj;rw[h];simp only;rw[if_neg hc]
theorem tC{xs:List Int}(hb:Aw xs){n f p:Int}{m q:Nat}(h:AV xs p=some ((m:Int),(q:Int)))(hc:(m:Int)<(xs.length:Int)-q)(ht:xs.getD (q+m) 0=10):D7 n f xs p=(C_ 7 n f ((xs.drop q).take m)).map fun t=>(t,((q+m+1:Nat):Int)):=by
 rw[←Tu hb];unfold Pj;rw[h];simp only;rw[if_pos ⟨hc,by rw[←ht];congr 1⟩,Int.toNat_natCast,Int.toNat_natCast];cases C_ 7 n f ((xs.drop q).take m)with
 |none=>rfl
 |some t=>simp
theorem Lp(n f:Int)(ao:Option Addr)(ca:Nat)(xs:List Int)(w:World)(hx:xs.length≤1048576)(hr:RB w (.slice ao xs.length ca) xs)(hb:Aw xs)(x:Dx×Int)(VL:Hid (Fs n f xs=x)):
 Calls Tryz.prog 32 #[cv n f,.slice ao xs.length ca] w fun e w'=>∃u,e= .returned (.tuple #[sv x.1.1 x.1.2.1 x.1.2.2.1.1 x.1.2.2.1.2.1 u x.1.2.2.2,.int .i64 x.2])∧OI w' w.heap.size u x.1.2.2.1.2.2∧Below w.heap.size w w':=by
 obtain⟨w0,hw0⟩:∃y,(w.alloc (.cells #[.int .i64 n,.int .i64 f] 48)).alloc (.cells #[.int .i64 0,.int .i64 0,.int .i64 0,.string ⟨#[]⟩,.slice none 0 0,.string ⟨#[]⟩] 40)=y:=⟨_,rfl⟩
 have B0:Below w.heap.size w w0:=hw0▸BG _ _ _;have LC:Loc w0 w.heap.size #[.int .i64 n,.int .i64 f]:=hw0▸(AJ w _ _ rfl).alloc _;have LZ:Loc w0 (w.heap.size+1) #[.int .i64 0,.int .i64 0,.int .i64 0,.string ⟨#[]⟩,.slice none 0 0,.string ⟨#[]⟩]:=hw0▸AJ (w.alloc _) _ _ (by simp);have z0:w.heap.size+1+1≤w0.heap.size:=by rw[←hw0];simp
 have RW:=hide fun w'(b:Below w.heap.size w w')=>hr.below b;have VN:=hide hb;clear hr hb;go_enter Tryz.func32,Tryz.ntmps32
 go_wp2_with fail
 clear hw0;refine(Vt _).mono ?_;rintro e w1 ⟨rfl,b1⟩;replace LC:=LC.up b1;replace LZ:=LZ.up b1;have z1:=b1.size;have B1:=bu B0 b1;clear b1 B0;go_upto_region 2 with fail
 obtain⟨w2,hw2⟩:∃y,w1.alloc (.cells #[.int .i64 0,.int .i64 0,.int .i64 0,.string ⟨#[]⟩,.slice none 0 0,.string ⟨#[]⟩] 40)=y:=⟨_,rfl⟩
 rw[hw2];have b2:Below w1.heap.size w1 w2:=hw2▸Ao _ _;have LB:Loc w2 w1.heap.size #[.int .i64 0,.int .i64 0,.int .i64 0,.string ⟨#[]⟩,.slice none 0 0,.string ⟨#[]⟩]:=hw2▸AJ w1 _ _ rfl;clear hw2;replace LC:=LC.up b2;replace LZ:=LZ.up b2;have B2:=bu B1 b2;clear b2 B1;obtain⟨hB,ehB⟩:∃y,w1.heap.size=y:=⟨_,rfl⟩
 rw[ehB]at LB⊢;have zB:w.heap.size+1+1≤hB:=by omega
 clear ehB z1;go_wp2;have HI:=hide (show Fs n f xs=Ea n f xs (xs.length+1) 0 jC from rfl)
 go_loopw [5,7] (fun r i wr=>∃(vo lo v:Int)(s:ByteArray)(ua:Option Addr)(uc:Nat)(ys:List Int)(d:ByteArray)(p:Int)(k:Nat),r= .int .i64 0∧i= .int .i64 p∧Hid (Fs n f xs=Ea n f xs k p (vo,lo,(v,s,ys),d))∧((xs.length:Int)<p+k∧0≤p∧p≤xs.length)∧Loc wr w.heap.size #[.int .i64 n,.int .i64 f]∧Loc wr (w.heap.size+1) #[.int .i64 0,.int .i64 0,.int .i64 0,.string ⟨#[]⟩,.slice none 0 0,.string ⟨#[]⟩]∧Loc wr hB #[.int .i64 vo,.int .i64 lo,.int .i64 v,.string s,.slice ua ys.length uc,.string d]∧OI wr w.heap.size (.slice ua ys.length uc) ys∧(∀j,(Value.slice ua ys.length uc).ownBlock=some j→j≠hB∧j≠w.heap.size∧j≠w.heap.size+1)∧Below w.heap.size w wr) (fun _ i _=>xs.length+1-(intOf i).toNat)
 case atStart=>exact⟨0,0,0,⟨#[]⟩,none,0,[],⟨#[]⟩,0,xs.length+1,rfl,rfl,HI,⟨by omega,by omega,by omega⟩,LC,LZ,LB,World.ownsRow_nil _ _ _ _,(fun j e=>by cases e),B2⟩
 case round=>
  clear LC LZ LB B2 HI;obtain⟨vo,lo,v,s,ua,uc,ys,d,p,k,rfl,rfl,HI,⟨hk,hp0,hp1⟩,LC,LZ,LB,oB,tB,X5⟩:=hrel;have zr:=X5.size;have lB:=LB.lt;cases hgn:AV xs p with
  |none=>
   have hnone:=iq (n:=n) (f:=f) VN.out hgn;have GN:=hide (Kg (.slice ao xs.length ca) xs p wr (RW.out _ X5) VN.out.get (n:=0) (q:=0) (c:=false) (by rw[hgn];exact⟨rfl,rfl,rfl⟩));clear hgn;go_wp2_with fail
   refine GN.out.mono ?_;rintro _ Ip ⟨rfl,bb⟩;have QZ:=bu X5 bb;have AC9:=bb.size;replace LC:=LC.up bb;replace LZ:=LZ.up bb;replace LB:=LB.up bb;replace oB:=oB.below bb;clear X5 bb GN;have hx1:x=((vo,lo,(v,s,ys),d),p):=by rw[←VL.out,HI.out,FD hnone]
   have e0:=LB.cell 0 rfl;have e1:=LB.cell 1 rfl;have e2:=LB.cell 2 rfl;have e3:=LB.cell 3 rfl;have e4:=LB.cell 4 rfl;have e5:=LB.cell 5 rfl;have y0:=LZ.cell 0 rfl;have y1:=LZ.cell 1 rfl;have y2:=LZ.cell 2 rfl;have y3:=LZ.cell 3 rfl;have y4:=LZ.cell 4 rfl;have y5:=LZ.cell 5 rfl;have fy:=LZ.frozen;have O6:=hide oB;subst hx1;clear VL HI hnone oB LC LZ LB RW VN;have K7:=VK Ip (w.heap.size+1) (.int .i64 vo) (.int .i64 lo) (.int .i64 v) (.string s) (.slice ua ys.length uc) (.string d);go_wp2;refine bodyPost_ret (v:= .tuple #[sv vo lo v s (.slice ua ys.length uc) d,.int .i64 p]) (by simp[results,Tryz.results32,go_sem,y0,y1,y2,y3,y4,y5]) rfl ?_;exact⟨_,rfl,O6.out.kp K7 (fun j hj e=>by have:=tB j hj;omega),Below.kp QZ K7 QZ.size (fun j e=>by omega)⟩
  | some z=>
   obtain⟨m,q⟩:=z;have bd:=Ec xs VN.out.get p m q hgn;have hlt:=SH VN.out hgn;obtain⟨m,rfl⟩:=Int.eq_ofNat_of_zero_le bd.1;obtain⟨q,rfl⟩:=Int.eq_ofNat_of_zero_le (show 0≤q by omega);have GN:=hide (Kg (.slice ao xs.length ca) xs p wr (RW.out _ X5) VN.out.get (n:=(m:Int)) (q:=(q:Int)) (c:=true) (by rw[hgn];exact⟨rfl,rfl,rfl⟩));have ew1:IntKind.i64.wrap ((xs.length:Int)-(q:Int))=(xs.length:Int)-(q:Int):=by rw[IntKind.wrap_i64];omega
   have ew2:IntKind.i64.wrap ((q:Int)+(m:Int))=(q:Int)+(m:Int):=by rw[IntKind.wrap_i64];omega
   go_wp2_with fail
   refine GN.out.mono ?_;rintro _ Ip ⟨rfl,bb⟩;have QZ:=bu X5 bb;have AC9:=bb.size;replace LC:=LC.up bb;replace LZ:=LZ.up bb;replace LB:=LB.up bb;replace oB:=oB.below bb;clear X5 bb GN;by_cases hsz:(m:Int)<(xs.length:Int)-(q:Int)
   ·skip
    have hd:decide ((xs.length:Int)-(q:Int)≤(m:Int))=false:=by simp;omega
    obtain⟨⟨_,j3⟩,bb0,off,rfl,hcl⟩:=(RW.out _ QZ).at (by omega);have hc:=hcl (q+m) (by omega);have hc2:Ip.cell? ⟨bb0,off+(q+m),none⟩=some (.int .u8 (xs.getD (q+m) 0)):=hc;clear hcl hc;by_cases h10:xs.getD (q+m) 0=10
    ·skip
     rw[h10]at hc2;have HG:=hide (tC (n:=n) (f:=f) VN.out hgn (by omega) h10);have hsl:=fun w=>AD4 bb0 off xs.length ca q m w (by omega) (by omega);have hwl:=Hy xs q m (by omega);have RS:=hide fun w'(b:Below Ip.heap.size Ip w')=>(RW.out w' (bu QZ b)).sub q m (by omega);have BS:=hide (VN.out.piece q m);obtain⟨sub,hsub⟩:∃y,(xs.drop q).take m=y:=⟨_,rfl⟩
     rw[hsub]at HG hwl RS BS;have SO:=hide fun w'(b:Below Ip.heap.size Ip w')=>Ow n f (some ⟨bb0,off+q,none⟩) (ca-q) sub w' (by omega) (by have:=RS.out w' b;rwa [hwl]) BS.out _ _ (hide ⟨rfl,rfl⟩);rw[hwl]at SO;have HM:Hid (Fs n f xs=Ea n f xs k p (vo,lo,(v,s,ys),d)):=HI;obtain⟨fb,yN⟩:∃y,(C_ 7 n f sub).isSome=y:=⟨_,rfl⟩
     obtain⟨tt,htt⟩:∃y,(C_ 7 n f sub).getD Rz=y:=⟨_,rfl⟩
     rw[yN,htt]at SO
     have HS:Hid (fb=true→D7 n f xs p=some (tt,((q+m+1:Nat):Int))):=hide fun h=>by
      rw[HG.out];cases hs:C_ 7 n f sub with
      |none=>rw[hs]at yN;rw[h]at yN;cases yN
      |some t=>rw[hs]at htt;simp at htt;rw[htt];rfl
     have HN:Hid (fb=false→D7 n f xs p=none):=hide fun h=>by
      rw[HG.out];cases hs:C_ 7 n f sub with
      |none=>rfl
      |some t=>rw[hs,h]at yN;cases yN
     obtain⟨dP,lo',⟨v',s',ys'⟩,d'⟩:=tt;simp only at SO;clear yN htt HG hsub hwl RS BS HM h10 hgn ew1;have hdd:((10:Int) != 10)=false:=by decide
     have K:=kw (JB LC 0 1);go_upto_region 6 with fail
     go_cut [11,12] (fun c d1 wx=>∃h uu,c= .pointer (some ⟨h,0,none⟩)∧d1= .bool fb∧Ip.heap.size≤h∧h<wx.heap.size∧Loc wx h #[.int .i64 dP,.int .i64 lo',.int .i64 v',.string s',uu,.string d']∧OI wx Ip.heap.size uu ys'∧(∀j,uu.ownBlock=some j→Ip.heap.size≤j∧j<wx.heap.size∧j≠h)∧Below Ip.heap.size Ip wx)
     case first=>
      refine mG K (Below.drew (Below.refl _ _)) (fun hHeld=>?_);obtain⟨wd,hd⟩:∃wd,Ip.drew=wd:=⟨_,rfl⟩
      have bd:Below Ip.heap.size Ip wd:=hd▸Below.drew (Below.refl _ _);have zH:=bd.size;rw[hd]at hHeld⊢;clear hd;refine tx 0 43 ?_;refine tx 1 44 ?_;refine tx 2 45 ?_;refine tx 3 46 ?_;refine tx 4 47 ?_;refine tx 5 48 ?_;refine tx 6 49 ?_;refine wpAnyH_ready (rs:=[7,11]) (by kernel_rfl) (by simp) (AllReadyH.cons rfl (fun KK AA=>?_) (AllReadyH.cons rfl (fun KK AA=>?_) AllReadyH.nil))
      ·go_simp;have hgo:=bd;refine(SO.out _ hgo).mono ?_;rintro e EP ⟨vv,rfl,oS,Dn⟩;have wS:Below Ip.heap.size Ip EP:=bu bd Dn;have ABK:=Dn.size;have tl:=World.ownsRow.lt oS;obtain⟨aa,kk,rfl⟩:=oS.form;clear hHeld Dn hgo;refine AA.out _ _ (K.out _ wS) (fun hHeld=>?_);clear AA KK;refine tx 8 42 ?_;refine tx 9 51 ?_;refine tx 10 52 ?_;refine rd 11 rfl (fun KK AA=>?_);go_simp;obtain⟨OU,P5⟩:∃x,EP.alloc (.cells #[.int .i64 0,.int .i64 0,.int .i64 0,.string ⟨#[]⟩,.slice none 0 0,.string ⟨#[]⟩] 40)=x:=⟨_,rfl⟩
       have aK:Below EP.heap.size EP OU:=P5▸Af _ _;have wO:Below Ip.heap.size Ip OU:=bu wS aK;have ABH:OU.heap.size=EP.heap.size+1:=by rw[←P5];simp
       have lg:Loc OU EP.heap.size #[.int .i64 0,.int .i64 0,.int .i64 0,.string ⟨#[]⟩,.slice none 0 0,.string ⟨#[]⟩]:=P5▸AJ EP _ _ rfl;replace oS:=oS.below aK;rw[P5];clear hHeld P5 aK;refine AA.out _ _ (K.out _ wO) (fun hHeld=>?_);clear AA KK;have q0:=lg.cell 0 rfl;have q1:=lg.cell 1 rfl;have q2:=lg.cell 2 rfl;have q3:=lg.cell 3 rfl;have q4:=lg.cell 4 rfl;have q5:=lg.cell 5 rfl;have FG:=lg.frozen;refine rd 12 rfl (fun KK AA=>?_);go_simp;have bs:Below Ip.heap.size Ip ((((((OU.setCell ⟨EP.heap.size,0,none⟩ (.int .i64 dP)).setCell ⟨EP.heap.size,1,none⟩ (.int .i64 lo')).setCell ⟨EP.heap.size,2,none⟩ (.int .i64 v')).setCell ⟨EP.heap.size,3,none⟩ (.string s')).setCell ⟨EP.heap.size,4,none⟩ (.slice aa (ys').length kk)).setCell ⟨EP.heap.size,5,none⟩ (.string d')):=(Below.set (Below.set (Below.set (Below.set (Below.set (Below.set wO _ _ (by omega)) _ _ (by omega)) _ _ (by omega)) _ _ (by omega)) _ _ (by omega)) _ _ (by omega))
       clear hHeld;refine AA.out _ _ (K.out _ bs) (fun hHeld=>?_);clear AA KK;refine tx 13 12 ?_;clear hHeld;refine Bq ?_;go_wp2_with fail
       go_meet
       have k3:Kp OU ((((((OU.setCell ⟨EP.heap.size,0,none⟩ (.int .i64 dP)).setCell ⟨EP.heap.size,1,none⟩ (.int .i64 lo')).setCell ⟨EP.heap.size,2,none⟩ (.int .i64 v')).setCell ⟨EP.heap.size,3,none⟩ (.string s')).setCell ⟨EP.heap.size,4,none⟩ (.slice aa (ys').length kk)).setCell ⟨EP.heap.size,5,none⟩ (.string d')) (fun k=>k=EP.heap.size):=(((((AB _ _ _ _).trans (AB _ _ _ _)).trans (AB _ _ _ _)).trans (AB _ _ _ _)).trans (AB _ _ _ _)).trans (AB _ _ _ _);have ll:=lg.lt;exact⟨_,_,rfl,rfl,by omega,by simpa using ll,((((((lg.set 0 _ rfl).set 1 _ rfl).set 2 _ rfl).set 3 _ rfl).set 4 _ rfl).set 5 _ rfl),(oS.kp k3 (fun j hj e=>by have:=tl j hj;omega)).mono (by omega),fun j hj=>by have:=tl j hj;simp;omega,bs⟩
      go_simp;obtain⟨dL,Pz⟩:∃x,wd.alloc (.cells #[.int .i64 0,.int .i64 0,.int .i64 0,.string ⟨#[]⟩,.slice none 0 0,.string ⟨#[]⟩] 40)=x:=⟨_,rfl⟩
      have qM:Below wd.heap.size wd dL:=Pz▸Af _ _;have qi:Below Ip.heap.size Ip dL:=bu bd qM;have ABG:dL.heap.size=wd.heap.size+1:=by rw[←Pz];simp
      have lg:Loc dL wd.heap.size #[.int .i64 0,.int .i64 0,.int .i64 0,.string ⟨#[]⟩,.slice none 0 0,.string ⟨#[]⟩]:=Pz▸AJ wd _ _ rfl;rw[Pz];clear hHeld Pz qM;refine AA.out _ _ (K.out _ qi) (fun hHeld=>?_);clear AA KK;refine rd 7 rfl (fun KK AA=>?_);go_simp;have hgo:=qi;refine(SO.out _ hgo).mono ?_;rintro e dO ⟨vv,rfl,oS,Dn⟩;have wR:Below Ip.heap.size Ip dO:=bu qi Dn;have ABJ:=Dn.size;replace lg:=lg.up Dn;have tl:=World.ownsRow.lt oS;obtain⟨aa,kk,rfl⟩:=oS.form;clear hHeld Dn hgo;refine AA.out _ _ (K.out _ wR) (fun hHeld=>?_);clear AA KK;refine tx 8 42 ?_;refine tx 9 51 ?_;refine tx 10 52 ?_;have q0:=lg.cell 0 rfl;have q1:=lg.cell 1 rfl;have q2:=lg.cell 2 rfl;have q3:=lg.cell 3 rfl;have q4:=lg.cell 4 rfl;have q5:=lg.cell 5 rfl;have FG:=lg.frozen;refine rd 12 rfl (fun KK AA=>?_);go_simp;have bs:Below Ip.heap.size Ip ((((((dO.setCell ⟨wd.heap.size,0,none⟩ (.int .i64 dP)).setCell ⟨wd.heap.size,1,none⟩ (.int .i64 lo')).setCell ⟨wd.heap.size,2,none⟩ (.int .i64 v')).setCell ⟨wd.heap.size,3,none⟩ (.string s')).setCell ⟨wd.heap.size,4,none⟩ (.slice aa (ys').length kk)).setCell ⟨wd.heap.size,5,none⟩ (.string d')):=(Below.set (Below.set (Below.set (Below.set (Below.set (Below.set wR _ _ (by omega)) _ _ (by omega)) _ _ (by omega)) _ _ (by omega)) _ _ (by omega)) _ _ (by omega))
      clear hHeld;refine AA.out _ _ (K.out _ bs) (fun hHeld=>?_);clear AA KK;refine tx 13 12 ?_;clear hHeld;refine Bq ?_;go_wp2_with fail
      go_meet
      have k3:Kp dO ((((((dO.setCell ⟨wd.heap.size,0,none⟩ (.int .i64 dP)).setCell ⟨wd.heap.size,1,none⟩ (.int .i64 lo')).setCell ⟨wd.heap.size,2,none⟩ (.int .i64 v')).setCell ⟨wd.heap.size,3,none⟩ (.string s')).setCell ⟨wd.heap.size,4,none⟩ (.slice aa (ys').length kk)).setCell ⟨wd.heap.size,5,none⟩ (.string d')) (fun k=>k=wd.heap.size):=(((((AB _ _ _ _).trans (AB _ _ _ _)).trans (AB _ _ _ _)).trans (AB _ _ _ _)).trans (AB _ _ _ _)).trans (AB _ _ _ _);have ll:=lg.lt;exact⟨_,_,rfl,rfl,by omega,by simpa using ll,((((((lg.set 0 _ rfl).set 1 _ rfl).set 2 _ rfl).set 3 _ rfl).set 4 _ rfl).set 5 _ rfl),(oS.kp k3 (fun j hj e=>by have:=tl j hj;omega)).mono (by omega),fun j hj=>by have:=tl j hj;simp;omega,bs⟩
     case rest=>
     clear K;obtain⟨wq6,hwq⟩:∃x,x=wc:=⟨_,rfl⟩
     subst hwq;obtain⟨hLS,vLS,rfl,rfl,gLS,eLS,LS,oN,toN,bb⟩:=hcut;obtain⟨aoN,koN,rfl⟩:=oN.form;have vI:=bu QZ bb;have AFF:=bb.size;replace LC:=LC.up bb;replace LZ:=LZ.up bb;replace LB:=LB.up bb;replace oB:=oB.below bb;clear QZ bb SO hsl hc2 hd hdd;cases fb with
     |false=>
      have hnone:=HN.out (by trivial);clear HS HN oN LS;have hx1:x=((vo,lo,(v,s,ys),d),p):=by rw[←VL.out,HI.out,FD hnone]
      have e0:=LB.cell 0 rfl;have e1:=LB.cell 1 rfl;have e2:=LB.cell 2 rfl;have e3:=LB.cell 3 rfl;have e4:=LB.cell 4 rfl;have e5:=LB.cell 5 rfl;have y0:=LZ.cell 0 rfl;have y1:=LZ.cell 1 rfl;have y2:=LZ.cell 2 rfl;have y3:=LZ.cell 3 rfl;have y4:=LZ.cell 4 rfl;have y5:=LZ.cell 5 rfl;have fy:=LZ.frozen;have O6:=hide oB;subst hx1;clear VL HI hnone oB LC LZ LB RW VN;have K7:=VK wq6 (w.heap.size+1) (.int .i64 vo) (.int .i64 lo) (.int .i64 v) (.string s) (.slice ua ys.length uc) (.string d);go_wp2;refine bodyPost_ret (v:= .tuple #[sv vo lo v s (.slice ua ys.length uc) d,.int .i64 p]) (by simp[results,Tryz.results32,go_sem,y0,y1,y2,y3,y4,y5]) rfl ?_;exact⟨_,rfl,O6.out.kp K7 (fun j hj e=>by have:=tB j hj;omega),Below.kp vI K7 vI.size (fun j e=>by omega)⟩
     | true=>
      have hs4:=HS.out (by trivial);have st:=KC VN.out hs4
      have HL:Hid (Fs n f xs=Ea n f xs (k-1) ((q+m+1:Nat):Int) (dP,lo',(v',s',ys'),d')):=by
       rw[HI.out];obtain⟨j,rfl⟩:∃j,k=j+1:=⟨k-1,by omega⟩
       rw[KE hs4];exact hide rfl
      have e0:=LS.cell 0 rfl;have e1:=LS.cell 1 rfl;have e2:=LS.cell 2 rfl;have e3:=LS.cell 3 rfl;have e4:=LS.cell 4 rfl;have e5:=LS.cell 5 rfl;have y0:=LB.cell 0 rfl;have y1:=LB.cell 1 rfl;have y2:=LB.cell 2 rfl;have y3:=LB.cell 3 rfl;have y4:=LB.cell 4 rfl;have y5:=LB.cell 5 rfl;have fy:=LB.frozen;have HB:=hide LB;have HC:=hide LC;have HZ:=hide LZ;have ON:=hide oN;have ew3:IntKind.i64.wrap ((q:Int)+(m:Int)+1)=(q:Int)+(m:Int)+1:=by rw[IntKind.wrap_i64];omega
      clear HI HS HN hs4 oB oN LS LB LC LZ;have K7:=VK wq6 hB (.int .i64 dP) (.int .i64 lo') (.int .i64 v') (.string s') (.slice aoN ys'.length koN) (.string d');go_wp2
      go_roundw
      case rel=>
       refine⟨dP,lo',v',s',aoN,koN,ys',d',((q+m+1:Nat):Int),k-1,rfl,by push_cast;rfl,HL,⟨by omega,by omega,by omega⟩,HC.out.kp K7 (by omega),HZ.out.kp K7 (by omega),?_,(ON.out.kp K7 (fun j hj e=>by have:=toN j hj;omega)).mono (by omega),(fun j hj=>by have:=toN j hj;omega),Below.kp vI K7 vI.size (fun j e=>by omega)⟩;exact(((((HB.out.set 0 _ rfl).set 1 _ rfl).set 2 _ rfl).set 3 _ rfl).set 4 _ rfl).set 5 _ rfl
      case measure=>simp[intOf];omega
    skip
    have hnone:=We (n:=n) (f:=f) VN.out hgn (fun h=>h10 (by rw[←h.2];congr 1));have hdd:((xs.getD (q+m) 0) != 10)=true:=by simpa using h10
    generalize xs.getD (q+m) 0=c10 at *;clear hgn;have hx1:x=((vo,lo,(v,s,ys),d),p):=by rw[←VL.out,HI.out,FD hnone]
    have e0:=LB.cell 0 rfl;have e1:=LB.cell 1 rfl;have e2:=LB.cell 2 rfl;have e3:=LB.cell 3 rfl;have e4:=LB.cell 4 rfl;have e5:=LB.cell 5 rfl;have y0:=LZ.cell 0 rfl;have y1:=LZ.cell 1 rfl;have y2:=LZ.cell 2 rfl;have y3:=LZ.cell 3 rfl;have y4:=LZ.cell 4 rfl;have y5:=LZ.cell 5 rfl;have fy:=LZ.frozen;have O6:=hide oB;subst hx1;clear VL HI hnone oB LC LZ LB RW VN;have K7:=VK Ip (w.heap.size+1) (.int .i64 vo) (.int .i64 lo) (.int .i64 v) (.string s) (.slice ua ys.length uc) (.string d);go_wp2;refine bodyPost_ret (v:= .tuple #[sv vo lo v s (.slice ua ys.length uc) d,.int .i64 p]) (by simp[results,Tryz.results32,go_sem,y0,y1,y2,y3,y4,y5]) rfl ?_;exact⟨_,rfl,O6.out.kp K7 (fun j hj e=>by have:=tB j hj;omega),Below.kp QZ K7 QZ.size (fun j e=>by omega)⟩
   skip
   have hnone:=We (n:=n) (f:=f) VN.out hgn (fun h=>hsz h.1);have hd:decide ((xs.length:Int)-(q:Int)≤(m:Int))=true:=by simp;omega
   clear hgn ew2;have hx1:x=((vo,lo,(v,s,ys),d),p):=by rw[←VL.out,HI.out,FD hnone]
   have e0:=LB.cell 0 rfl;have e1:=LB.cell 1 rfl;have e2:=LB.cell 2 rfl;have e3:=LB.cell 3 rfl;have e4:=LB.cell 4 rfl;have e5:=LB.cell 5 rfl;have y0:=LZ.cell 0 rfl;have y1:=LZ.cell 1 rfl;have y2:=LZ.cell 2 rfl;have y3:=LZ.cell 3 rfl;have y4:=LZ.cell 4 rfl;have y5:=LZ.cell 5 rfl;have fy:=LZ.frozen;have O6:=hide oB;subst hx1;clear VL HI hnone oB LC LZ LB RW VN;have K7:=VK Ip (w.heap.size+1) (.int .i64 vo) (.int .i64 lo) (.int .i64 v) (.string s) (.slice ua ys.length uc) (.string d);go_wp2;refine bodyPost_ret (v:= .tuple #[sv vo lo v s (.slice ua ys.length uc) d,.int .i64 p]) (by simp[results,Tryz.results32,go_sem,y0,y1,y2,y3,y4,y5]) rfl ?_;exact⟨_,rfl,O6.out.kp K7 (fun j hj e=>by have:=tB j hj;omega),Below.kp QZ K7 QZ.size (fun j e=>by omega)⟩
end
section
open Go Go.RowKit
variable [∀(a b c d:Int),Decidable (BD a b c d)] [∀(n f:Int),Decidable (A_ n f)] [∀(a b c d:Nat),Decidable (Dg a b c d)] [∀(x:T4),Decidable (Dt x)] [∀(last:Int)(s:St),Decidable (Ak last s)] [∀(n:Int)(s:List Int),Decidable (Du n s)] [∀(x y:T4),Decidable (Io x y)] [∀(ts:List T4),Decidable (Asc ts)] [∀(ts:List T4),Decidable (Eh ts)] [∀(ts:List T4),Decidable (Le ts)]
theorem FK.below{w w':World}{t:Cu}{a b c d e:Value}(h:FK w t a b c d e)(hb:Below w.heap.size w w'):FK w' t a b c d e:=
 ⟨h.q.below hb,h.p.below hb,h.tb.below hb,h.d.below hb,h.h.below hb⟩
end
end Go.Proofs.YtcjmcgolgbkknaaGreatDoor
