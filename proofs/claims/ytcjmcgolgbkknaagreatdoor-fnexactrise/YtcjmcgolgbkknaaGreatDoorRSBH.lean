/- Lemmas; their conditions stand in each statement. -/
import Derived.Test.YtcjmcgolgbkknaaGreatDoorRSBG
set_option maxRecDepth 100000
set_option maxHeartbeats 16000000
set_option linter.unusedSectionVars false
set_option linter.unusedSimpArgs false
namespace Go.Proofs.YtcjmcgolgbkknaaGreatDoor
section
open Go.RowKit
variable [∀(a b c d:Int),Decidable (BD a b c d)] [∀(a b c d:Nat),Decidable (Dg a b c d)] [∀(last:Int)(s:St),Decidable (Ak last s)] [∀(x:T4),Decidable (Dt x)] [∀(n:Int)(s:List Int),Decidable (Du n s)] [∀(n f:Int),Decidable (A_ n f)]
def yo(g:Nat)(ao:Option Addr)(ca:Nat)(xs:List Int)(fr p:Int)(ok:Bool)(w:World)(e:Ending)(w':World):Prop:=
 ∃(u:Value)(ys:List Int)(q:Int)(ok':Bool),e= .returned u∧Jw ok (EK 7 xs p) ok' ys q∧ys.length≤7∧Eg xs p q∧Loc w' g #[.slice ao xs.length ca,.int .i64 fr,.int .i64 q,Gb ok' fr]∧OI w' w.heap.size u ys∧Kp w w' (fun k=>k=g)

theorem nM(W0:World)(g:Nat)(ao:Option Addr)(ca:Nat)(xs:List Int)(fr p:Int)(ok:Bool)(w:World)(hr:RB W0 (.slice ao xs.length ca) xs)(hb:Bytes xs)(hE:Env W0)(h0:W0.heap.size≤g)(hB:Below W0.heap.size W0 w)(hl:Loc w g #[.slice ao xs.length ca,.int .i64 fr,.int .i64 p,Gb ok fr]):
 Calls Tryz.prog 243 #[.pointer (some ⟨g,0,none⟩)] w (yo g ao ca xs fr p ok w):=by
 obtain⟨i0,hi,hz0,hz1,hz2⟩:=info_parts Tryz.info3;have hgw:=hl.lt;have NU:=hide fun(p:Int)(ok:Bool)(w':World)(k:Kp w w' (fun k=>k=g)) hl=>Kj W0 g ao ca xs fr p ok w' hr hb hE (Below.kp hB k hB.size (fun j e=>by omega)) hl;have N0:=hide (NU.out p ok w (Kp.refl _ _) hl);clear hl hr hb hE h0 hB;go_enter Tryz.func243,Tryz.ntmps243
 go_wp2_with fail
 refine N0.out.mono ?_;rintro e w1 ⟨m,q1,ok1,rfl,G1,hm,S1,L1,K1⟩;clear N0;have IV:=hide (RJ (L:=7) G1 hm.1);obtain⟨dm,hdm⟩:∃b,decide (m≤7)=b:=⟨_,rfl⟩
 rw[hdm]at IV;clear G1;go_wp2_with fail
 refine(JN g _ fr q1 ok1 dm w1 L1).mono ?_;rintro e w2 ⟨rfl,L2,K2⟩;have K3:=K1.trans K2;clear K1 K2 L1 hdm;generalize (ok1&&dm)=KT at *;go_wp2
 go_loopw [4] (fun v wr=>∃(ys:List Int)(q:Int)(Tn:Bool),OI wr w.heap.size v ys∧ys.length≤7∧Hid (JV 7 ok xs p m ys q Tn)∧Eg xs p q∧Loc wr g #[.slice ao xs.length ca,.int .i64 fr,.int .i64 q,Gb Tn fr]∧Kp w wr (fun k=>k=g)) (fun v _=>7-AAY v)
 case atStart=>exact⟨[],q1,KT,World.ownsRow_nil _ _ _ _,by simp,IV,S1,L2,K3⟩
 case round=>
  clear IV L2 K3 S1;obtain⟨ys,q,Tn,ho,hl7,IV,S1,LG,KG⟩:=hrel;have c3:=LG.cell 3 rfl;obtain⟨va,vc,rfl⟩:=ho.form;have hlt:=World.ownsRow.lt ho;have hsz:=KG.size;cases Tn with
  |false=>
   have c3':wr.cell? ⟨g,3,none⟩=some (Wt fr):=c3;have HF:=hide (NM IV.out (.inl rfl));clear c3;go_wp2;go_ret;exact⟨_,ys,q,false,rfl,HF.out,hl7,S1,LG,ho,KG⟩
  | true=>
   have c3':wr.cell? ⟨g,3,none⟩=some .nilIface:=c3;clear c3;by_cases hlm:(ys.length:Int)<m
   ·have hm7:=((IV.out.2 rfl).2.2.1:m≤7)
    have hd:decide ((ys.length:Int)<m)=true:=by simpa using hlm
    have NX:=hide (NU.out q true wr KG LG);have LG':=hide LG;clear LG;go_wp2_with fail
    refine NX.out.mono ?_;rintro e w5 ⟨x,q2,ok5,rfl,G5,hx,S5,L5,K5⟩;have o5:=ho.kp K5 (fun k hk e=>by have:=hlt k hk;subst e;omega);have ST:=hide (VS IV.out hlm G5);have z5:=K5.size;clear NX c3' G5 LG'
    go_wp2_with (first
     | (at_builtin;refine wpList_append_own _ rfl _ _ 24 rfl w.heap.size 3 i0 (.int .i64 0) 1 8 Tryz.underlying24 hi hz0 hz1 hz2 rfl (by decide) (.slice va ys.length vc) _ _ rfl (World.ownsRow.alloc o5 _) ⟨w5.heap.size,0,none⟩ 1 1 [.int .i64 x] rfl rfl (one_cell _ _ _) (Rv _ _) (by unfold maxLen;omega) (by omega) (by simp;omega) ?_;intro v' w6 ho' hg' _
        have KA:=(Ck hg')))
    go_roundw
    case rel=>
     have K6:Kp w w6 (fun k=>k=g):=((KG.trans K5).trans (Below.Bo (Ao _ _) _)).over KA (fun j e=> .inl (by have:=hlt j e;omega));have L6:=(L5.alloc (.cells #[.int .i64 x] 3)).kp KA (fun e=>by have:=hlt g e;omega);have hl6:(ys++[x]).length≤7:=by rw[List.length_append];simp only[List.length_cons,List.length_nil];omega
     exact⟨ys++[x],q2,ok5,OI.more ho',hl6,ST,S1.trans S5,L6,K6⟩
    case measure=>
     have hln:=(OI.more ho').form;obtain⟨a,b,rfl⟩:=hln;simp[AAY];omega
   have hd:decide ((ys.length:Int)<m)=false:=by simpa using hlm
   have HF:=hide (NM IV.out (.inr hlm));go_wp2;go_ret;exact⟨_,ys,q,true,rfl,HF.out,hl7,S1,LG,ho,KG⟩
def AA5(g:Nat)(ao:Option Addr)(ca:Nat)(xs:List Int)(fr p:Int)(ok:Bool)(w:World)(e:Ending)(w':World):Prop:=
 ∃(v:Int)(s:ByteArray)(ua:Option Addr)(uc:Nat)(ys:List Int)(q:Int)(ok':Bool),e= .returned (qv v s (.slice ua ys.length uc))∧Jw ok (Hq 7 xs p) ok' (v,s,ys) q∧s.size≤xs.length∧ys.length≤7∧Eg xs p q∧Loc w' g #[.slice ao xs.length ca,.int .i64 fr,.int .i64 q,Gb ok' fr]∧OI w' w.heap.size (.slice ua ys.length uc) ys∧Kp w w' (fun k=>k=g)
def yt(g:Nat)(ao:Option Addr)(ca:Nat)(xs:List Int)(fr p:Int)(ok:Bool)(w:World)(e:Ending)(w':World):Prop:=
 ∃(vo lo v:Int)(s:ByteArray)(ua:Option Addr)(uc:Nat)(ys:List Int)(d:ByteArray)(q:Int)(ok':Bool),e= .returned (sv vo lo v s (.slice ua ys.length uc) d)∧Jw ok (Cv 7 xs p) ok' (vo,lo,(v,s,ys),d) q∧(s.size≤xs.length∧d.size≤xs.length)∧ys.length≤7∧Eg xs p q∧Loc w' g #[.slice ao xs.length ca,.int .i64 fr,.int .i64 q,Gb ok' fr]∧OI w' w.heap.size (.slice ua ys.length uc) ys∧Kp w w' (fun k=>k=g)

theorem sH(W0:World)(g:Nat)(ao:Option Addr)(ca:Nat)(xs:List Int)(fr p:Int)(ok:Bool)(w:World)(hr:RB W0 (.slice ao xs.length ca) xs)(hb:Bytes xs)(hE:Env W0)(h0:W0.heap.size≤g)(hB:Below W0.heap.size W0 w)(hl:Loc w g #[.slice ao xs.length ca,.int .i64 fr,.int .i64 p,Gb ok fr]):
 Calls Tryz.prog 218 #[.pointer (some ⟨g,0,none⟩)] w (AA5 g ao ca xs fr p ok w):=by
 have hgw:=hl.lt;obtain⟨w0,hw0⟩:∃y,w.alloc (.cells #[.int .i64 0,.string ⟨#[]⟩,.slice none 0 0] 38)=y:=⟨_,rfl⟩
 have B0:Below w.heap.size w w0:=hw0▸Ao _ _;have LZ:Loc w0 w.heap.size #[.int .i64 0,.string ⟨#[]⟩,.slice none 0 0]:=hw0▸AJ w _ _ rfl;have K0:Kp w w0 (fun k=>k=g):=Below.Bo B0 _;have z0:w.heap.size+1≤w0.heap.size:=by rw[←hw0];simp
 have NU:=hide fun(p:Int)(ok:Bool)(w':World)(k:Kp w w' (fun k=>k=g)) hl=>Kj W0 g ao ca xs fr p ok w' hr hb hE (Below.kp hB k hB.size (fun j e=>by omega)) hl;have TE:=hide fun(p:Int)(ok:Bool)(w':World)(k:Kp w w' (fun k=>k=g)) hl=>Rh W0 g ao ca xs fr p ok w' hr hb hE (Below.kp hB k hB.size (fun j e=>by omega)) hl;have WH:=hide fun(p:Int)(ok:Bool)(w':World)(k:Kp w w' (fun k=>k=g)) hl=>nM W0 g ao ca xs fr p ok w' hr hb hE h0 (Below.kp hB k hB.size (fun j e=>by omega)) hl;have N0:=hide (NU.out p ok w0 K0 (hl.below B0 hgw));clear hl hr hb hE h0 hB B0 NU;go_enter Tryz.func218,Tryz.ntmps218
 go_wp2_with fail
 clear hw0;refine N0.out.mono ?_;rintro e w1 ⟨v,q1,ok1,rfl,G1,hv,S1,L1,K1⟩;have T1:=hide (TE.out q1 ok1 w1 (K0.trans K1) L1);replace LZ:=LZ.kp K1 (by omega);replace K1:=K0.trans K1;clear N0 K0 TE L1;go_wp2_with fail
 refine T1.out.mono ?_;rintro e w2 ⟨s,q2,KT,rfl,G2,hs,S2,L2,K2⟩;have W2:=hide (WH.out q2 KT w2 (K1.trans K2) L2);replace LZ:=LZ.kp K2 (by omega);have z2:=LZ.lt;replace K2:=K1.trans K2;clear T1 K1 WH L2;go_wp2_with fail
 refine W2.out.mono ?_;rintro e w3 ⟨u,ys,q3,ik,rfl,G3,h7,S3,L3,o3,K3⟩;replace LZ:=LZ.kp K3 (by omega);have z3:=K3.size;replace K3:=K2.trans K3;have lt3:=World.ownsRow.lt o3;obtain⟨ua,uc,rfl⟩:=o3.form;have HG:=hide (pQ G1 G2 G3);have O3:=hide o3;have HL:=hide L3;have HZ:=hide LZ;have y0:=LZ.cell 0 rfl;have y1:=LZ.cell 1 rfl;have y2:=LZ.cell 2 rfl;have fy:=LZ.frozen;have SS:=hide ((S1.trans S2).trans S3);clear G1 G2 G3 o3 L3 LZ W2 K2 S1 S2 S3 hv;go_wp2;have K5:Kp w3 (((w3.setCell ⟨w.heap.size,0,none⟩ (.int .i64 v)).setCell ⟨w.heap.size,1,none⟩ (.string s)).setCell ⟨w.heap.size,2,none⟩ (.slice ua ys.length uc)) (fun k=>k=w.heap.size):=((AB _ _ _ _).trans (AB _ _ _ _)).trans (AB _ _ _ _);refine bodyPost_ret (v:=qv v s (.slice ua ys.length uc)) (by simp[results,Tryz.results218,go_sem,y0,y1,y2]) rfl ?_;exact⟨v,s,ua,uc,ys,q3,ik,rfl,HG.out,hs,h7,SS.out,HL.out.kp K5 (by omega),(O3.out.kp K5 (fun k hk e=>by have:=lt3 k hk;omega)).mono (by omega),K3.over K5 (fun j e=> .inl (by omega))⟩

theorem g_(W0:World)(g:Nat)(ao:Option Addr)(ca:Nat)(xs:List Int)(fr p:Int)(ok:Bool)(w:World)(hr:RB W0 (.slice ao xs.length ca) xs)(hb:Bytes xs)(hE:Env W0)(h0:W0.heap.size≤g)(hB:Below W0.heap.size W0 w)(hl:Loc w g #[.slice ao xs.length ca,.int .i64 fr,.int .i64 p,Gb ok fr]):
 Calls Tryz.prog 190 #[.pointer (some ⟨g,0,none⟩)] w (yt g ao ca xs fr p ok w):=by
 have hgw:=hl.lt;obtain⟨w0,hw0⟩:∃y,w.alloc (.cells #[.int .i64 0,.int .i64 0,.int .i64 0,.string ⟨#[]⟩,.slice none 0 0,.string ⟨#[]⟩] 40)=y:=⟨_,rfl⟩
 have B0:Below w.heap.size w w0:=hw0▸Ao _ _;have LZ:Loc w0 w.heap.size #[.int .i64 0,.int .i64 0,.int .i64 0,.string ⟨#[]⟩,.slice none 0 0,.string ⟨#[]⟩]:=hw0▸AJ w _ _ rfl;have K0:Kp w w0 (fun k=>k=g):=Below.Bo B0 _;have z0:w.heap.size+1≤w0.heap.size:=by rw[←hw0];simp
 have NU:=hide fun(p:Int)(ok:Bool)(w':World)(k:Kp w w' (fun k=>k=g)) hl=>Kj W0 g ao ca xs fr p ok w' hr hb hE (Below.kp hB k hB.size (fun j e=>by omega)) hl;have TE:=hide fun(p:Int)(ok:Bool)(w':World)(k:Kp w w' (fun k=>k=g)) hl=>Rh W0 g ao ca xs fr p ok w' hr hb hE (Below.kp hB k hB.size (fun j e=>by omega)) hl;have QC:=hide fun(p:Int)(ok:Bool)(w':World)(k:Kp w w' (fun k=>k=g)) hl=>sH W0 g ao ca xs fr p ok w' hr hb hE h0 (Below.kp hB k hB.size (fun j e=>by omega)) hl;have N0:=hide (NU.out p ok w0 K0 (hl.below B0 hgw));clear hl hr hb hE h0 hB B0;go_enter Tryz.func190,Tryz.ntmps190
 go_wp2_with fail
 clear hw0;refine N0.out.mono ?_;rintro e w1 ⟨vo,q1,ok1,rfl,G1,hv,S1,L1,K1⟩;have N1:=hide (NU.out q1 ok1 w1 (K0.trans K1) L1);replace LZ:=LZ.kp K1 (by omega);replace K1:=K0.trans K1;clear N0 K0 L1 hv NU;go_wp2_with fail
 refine N1.out.mono ?_;rintro e w2 ⟨lo,q2,KT,rfl,G2,hv,S2,L2,K2⟩;have Q2:=hide (QC.out q2 KT w2 (K1.trans K2) L2);replace LZ:=LZ.kp K2 (by omega);replace K2:=K1.trans K2;have z2:=LZ.lt;clear N1 K1 L2 hv QC;go_wp2_with fail
 refine Q2.out.mono ?_;rintro e w3 ⟨v,s,ua,uc,ys,q3,ik,rfl,G3,hs,h7,S3,L3,o3,K3⟩;have T3:=hide (TE.out q3 ik w3 (K2.trans K3) L3);replace LZ:=LZ.kp K3 (by omega);replace K3:=K2.trans K3;have lt3:=World.ownsRow.lt o3;have z3:=K3.size;have O3:=hide o3;clear Q2 K2 L3 TE o3;go_wp2_with fail
 refine T3.out.mono ?_;rintro e w4 ⟨d,q4,Tq,rfl,G4,hd,S4,L4,K4⟩;replace LZ:=LZ.kp K4 (by omega);replace O3:=hide (O3.out.kp K4 (fun k hk e=>by have:=lt3 k hk;omega));have z4:=K4.size;replace K4:=K3.trans K4;have HG:=hide (XU G1 G2 G3 G4);have HL:=hide L4;have y0:=LZ.cell 0 rfl;have y1:=LZ.cell 1 rfl;have y2:=LZ.cell 2 rfl;have y3:=LZ.cell 3 rfl;have y4:=LZ.cell 4 rfl;have y5:=LZ.cell 5 rfl;have fy:=LZ.frozen;have SS:=hide (((S1.trans S2).trans S3).trans S4);have K6:=VK w4 w.heap.size (.int .i64 vo) (.int .i64 lo) (.int .i64 v) (.string s) (.slice ua ys.length uc) (.string d);clear G1 G2 G3 G4 L4 LZ T3 K3 S1 S2 S3 S4;go_wp2;refine bodyPost_ret (v:=sv vo lo v s (.slice ua ys.length uc) d) (by simp[results,Tryz.results190,go_sem,y0,y1,y2,y3,y4,y5]) rfl ?_;exact⟨vo,lo,v,s,ua,uc,ys,d,q4,Tq,rfl,HG.out,⟨hs,hd⟩,h7,SS.out,HL.out.kp K6 (by omega),(O3.out.kp K6 (fun k hk e=>by have:=lt3 k hk;omega)).mono (by omega),K4.over K6 (fun j e=> .inl (by omega))⟩
end
section
variable [∀(a b c d:Int),Decidable (BD a b c d)] [∀(a b c d:Nat),Decidable (Dg a b c d)] [∀(last:Int)(s:St),Decidable (Ak last s)] [∀(x:T4),Decidable (Dt x)] [∀(n:Int)(s:List Int),Decidable (Du n s)] [∀(n f:Int),Decidable (A_ n f)]
def Rx(t:Dx):List Int:=EJ (PH t).length++PH t++[10]
def D7(n f:Int)(xs:List Int)(p:Int):Option (Dx×Int):=match AV xs p with
 |none=>none
 | some x=>match Cv 7 xs x.2 with
  |none=>none
  |some y=>if(Jl n f y.1&&(y.2-x.2==x.1))=true then(match AV xs y.2 with
   |none=>none
   |some z=>if z.1=10 then some (y.1,z.2)else none)else none
def Pj(n f:Int)(xs:List Int)(p:Int):Option (Dx×Int):=match AV xs p with
 |none=>none
 |some x=>if x.1<(xs.length:Int)-x.2∧xs.getD (x.2+x.1).toNat 0=10 then(match C_ 7 n f ((xs.drop x.2.toNat).take x.1.toNat)with
  |none=>none
  |some t=>some (t,x.2+x.1+1))else none
theorem dn:EJ 10=[10]:=by decide
theorem Ry{xs:List Int}(hb:Aw xs)(n f p:Int)(t:Dx)(q:Int):D7 n f xs p=some (t,q)↔Jl n f t=true∧Bp xs p (Rx t) q:=by
 unfold Rx;rw[A8]
 constructor
 ·intro h;unfold D7 at h;cases hg:AV xs p with
  |none=>rw[hg]at h;cases h
  | some x=>
   rw[hg]at h;obtain⟨m,r⟩:=x;simp only at h;obtain⟨hm,hs⟩:=(A9 hb p m r).1 hg;cases hg1:Cv 7 xs r with
   |none=>rw[hg1]at h;cases h
   | some y=>
    rw[hg1]at h;obtain⟨u,r1⟩:=y;simp only at h;by_cases hq:(Jl n f u&&(r1-r==m))=true
    ·rw[if_pos hq]at h;simp only[Bool.and_eq_true,beq_iff_eq]at hq;have hs1:=(Gq hb 7 (by omega) (by omega) n f r u r1 hq.1).1 hg1;have hle:=CE hs1;cases hg2:AV xs r1 with
     |none=>rw[hg2]at h;cases h
     | some z=>
      rw[hg2]at h;obtain⟨c,r2⟩:=z;simp only at h;by_cases hc:c=10
      ·rw[if_pos hc]at h;simp only[Option.some.injEq,Prod.mk.injEq]at h;obtain⟨rfl,rfl⟩:=h;subst hc;have hs2:=((A9 hb r1 10 r2).1 hg2).2;rw[dn]at hs2;refine⟨hq.1,r1,A8.2 ⟨r,?_,hs1⟩,hs2⟩;rw[show((PH u).length:Int)=m from by omega];exact hs
      rw[if_neg hc]at h;cases h
    rw[if_neg hq]at h;cases h
 rintro⟨ht,r1,h01,hs2⟩;obtain⟨r,hs,hs1⟩:=A8.1 h01;have hl:=V_ ht;have hle:=CE hs1;unfold D7;rw[(A9 hb p _ r).2 ⟨⟨by omega,by omega⟩,hs⟩];simp only;rw[(Gq hb 7 (by omega) (by omega) n f r t r1 ht).2 hs1];simp only;rw[if_pos (by simp[ht];omega),(A9 hb r1 10 q).2 ⟨⟨by omega,by omega⟩,by rw[dn];exact hs2⟩];simp
theorem Aw.piece{xs:List Int}(hb:Aw xs)(k m:Nat):Aw ((xs.drop k).take m):=fun y hy=>hb y (List.mem_of_mem_drop (List.mem_of_mem_take hy))
theorem iy{xs:List Int}(hb:Aw xs)(n f p:Int)(t:Dx)(q:Int):Pj n f xs p=some (t,q)↔Jl n f t=true∧Bp xs p (Rx t) q:=by
 unfold Rx;rw[A8]
 constructor
 ·intro h;unfold Pj at h;cases hg:AV xs p with
  |none=>rw[hg]at h;cases h
  | some x=>
   rw[hg]at h;obtain⟨m,r⟩:=x;simp only at h;obtain⟨hm,hs⟩:=(A9 hb p m r).1 hg;have hle:=CE hs;by_cases hc:m<(xs.length:Int)-r∧xs.getD (r+m).toNat 0=10
   ·rw[if_pos hc]at h;obtain⟨m,rfl⟩:=Int.eq_ofNat_of_zero_le hm.1;obtain⟨r,rfl⟩:=Int.eq_ofNat_of_zero_le (show 0≤r by omega);rw[Int.toNat_natCast,Int.toNat_natCast]at h;cases hg2:C_ 7 n f ((xs.drop r).take m)with
    |none=>rw[hg2]at h;cases h
    |some u=>
     rw[hg2]at h;simp only[Option.some.injEq,Prod.mk.injEq]at h;obtain⟨rfl,rfl⟩:=h;obtain⟨h1,h2⟩:=(Jc (hb.piece r m) 7 (by omega) (by omega) n f u).1 hg2;have hl:(PH u).length=m:=by rw[←h2];exact Hy xs r m (by omega)
     refine⟨h1,(r:Int)+m,A8.2 ⟨r,?_,Ja (by omega) h2⟩,?_⟩
     ·rw[hl];exact hs
     have hk:r+m<xs.length:=by omega
     have:=Yo (c:=10) hk (by rw[←hc.2];congr 1)
     rwa [Int.natCast_add]at this
   rw[if_neg hc]at h;cases h
 rintro⟨ht,r1,h01,hs2⟩;obtain⟨r,hs,hs1⟩:=A8.1 h01;have hl:=V_ ht;have hle:=CE hs1;have hle2:=CE hs2;simp only[List.length_cons,List.length_nil]at hle2;obtain⟨k,rfl,hk1,hk2,hk3⟩:=J3 hs1;obtain⟨j,rfl,hj1,hj2,hj3⟩:=J3 hs2;have hj:j=k+(PH t).length:=by omega
 have hg:xs.getD j 0=10:=by
  have hlt:j<xs.length:=by simp at hj2;omega
  rw[List.length_singleton,List.drop_eq_getElem_cons hlt,List.take_succ_cons,List.take_zero]at hj3;rw[List.getD_eq_getElem?_getD,List.getElem?_eq_getElem hlt];simpa using hj3
 unfold Pj;rw[(A9 hb p _ k).2 ⟨⟨by omega,by omega⟩,hs⟩];simp only;rw[if_pos ⟨by simp at hj2;omega,by rw[←hg];congr 1;omega⟩,Int.toNat_natCast,Int.toNat_natCast,hk3,(Jc (by rw[←hk3];exact hb.piece _ _) 7 (by omega) (by omega) n f t).2 ⟨ht,rfl⟩];simp only[Option.some.injEq,Prod.mk.injEq,true_and];simp at hj1;omega
theorem Tu{xs:List Int}(hb:Aw xs)(n f p:Int):Pj n f xs p=D7 n f xs p:=by
 apply Option.ext
 rintro⟨t,q⟩;rw[iy hb,Ry hb]
theorem iw{n f:Int}{t:Dx}(h:Jl n f t=true):2≤(Rx t).length:=by
 unfold Rx;have:=nU h;simp only[List.length_append,List.length_cons,List.length_nil];omega
theorem KC{xs:List Int}(hb:Aw xs){n f p:Int}{t:Dx}{q:Int}(h:D7 n f xs p=some (t,q)):Jl n f t=true∧0≤p∧p<q∧q≤xs.length:=by
 obtain⟨h1,h2⟩:=(Ry hb n f p t q).1 h;have:=CE h2;have:=iw h1;exact⟨h1,by omega,by omega,by omega⟩

def Ea(n f:Int)(xs:List Int):Nat→Int→Dx→Dx×Int
 |0,p,t=>(t,p)
 |k+1,p,t=>match D7 n f xs p with
  |none=>(t,p)
  |some x=>Ea n f xs k x.2 x.1
def jC:Dx:=(0,0,(0,⟨#[]⟩,[]),⟨#[]⟩)
def Fs(n f:Int)(xs:List Int):Dx×Int:=Ea n f xs (xs.length+1) 0 jC
theorem FD{n f:Int}{xs:List Int}{p:Int}(h:D7 n f xs p=none)(k:Nat)(t:Dx):Ea n f xs k p t=(t,p):=by
 cases k with
 |zero=>rfl
 |succ k=>rw[Ea,h]
theorem KE{n f:Int}{xs:List Int}{p:Int}{u:Dx}{q:Int}(h:D7 n f xs p=some (u,q))(k:Nat)(t:Dx):Ea n f xs (k+1) p t=Ea n f xs k q u:=by
 rw[Ea,h]
theorem jR{xs:List Int}(hb:Aw xs)(n f:Int)(k:Nat)(p:Int)(t:Dx)(h0:0≤p)(h1:p≤xs.length)(h:(xs.length:Int)<p+k):
 0≤(Ea n f xs k p t).2∧p≤(Ea n f xs k p t).2∧(Ea n f xs k p t).2≤xs.length∧D7 n f xs (Ea n f xs k p t).2=none∧((Ea n f xs k p t).1=t∨Jl n f (Ea n f xs k p t).1=true):=by
 induction k generalizing p t with
 |zero=>omega
 | succ k ih=>
  cases hg:D7 n f xs p with
  |none=>rw[FD hg];exact⟨h0,by simp,h1,hg,.inl rfl⟩
  |some x=>
   obtain⟨u,q⟩:=x;have st:=KC hb hg;rw[KE hg];obtain⟨a,b,c,d,e⟩:=ih q u (by omega) (by omega) (by omega);refine⟨a,by omega,c,d,?_⟩;rcases e with e|e
   ·right;rw[e];exact st.1
   exact .inr e
end
section
open Go.RowKit
variable [∀(a b c d:Int),Decidable (BD a b c d)] [∀(a b c d:Nat),Decidable (Dg a b c d)] [∀(last:Int)(s:St),Decidable (Ak last s)] [∀(x:T4),Decidable (Dt x)] [∀(n:Int)(s:List Int),Decidable (Du n s)] [∀(n f:Int),Decidable (A_ n f)]
theorem pV{n f:Int}{xs:List Int}{p:Int}{ok1 KT Tq:Bool}{ln q1:Int}{t:Dx}{q2 x q3:Int}(b:Bool)(h1:Jw true (AV xs p) ok1 ln q1)(h2:Jw ok1 (Cv 7 xs q1) KT t q2)(hb:(Jl n f t&&(q2-q1==ln))=b)(h3:Jw (KT&&b) (AV xs q2) Tq x q3):Jw true (D7 n f xs p) (Tq&&(x==10)) t q3:=by
 obtain⟨a1,b1⟩:=h1;obtain⟨a2,b2⟩:=h2;obtain⟨a3,b3⟩:=h3;unfold D7;cases hg:AV xs p with
 |none=>rw[hg]at a1;simp at a1;subst a1;simp at a2;subst a2;simp at a3;subst a3;exact⟨by simp,by simp⟩
 | some z=>
  rw[hg]at a1 b1;simp at a1;subst a1;obtain rfl:=Option.some.inj (b1 rfl);simp only;cases hg2:Cv 7 xs q1 with
  |none=>rw[hg2]at a2;simp at a2;subst a2;simp at a3;subst a3;exact⟨by simp,by simp⟩
  | some z=>
   rw[hg2]at a2 b2;simp at a2;subst a2;obtain rfl:=Option.some.inj (b2 rfl);simp only;cases b with
   |false=>simp at a3;subst a3;rw[hb];exact⟨by simp,by simp⟩
   | true=>
    rw[if_pos hb];simp only[Bool.true_and,Bool.and_true]at a3;cases hg3:AV xs q2 with
    |none=>rw[hg3]at a3;simp at a3;subst a3;exact⟨by simp,by simp⟩
    |some z=>
     rw[hg3]at a3 b3;simp at a3;subst a3;obtain rfl:=Option.some.inj (b3 rfl);simp only;by_cases h10:x=10
     ·rw[if_pos h10];exact⟨by simp[h10],fun _=>rfl⟩
     rw[if_neg h10];exact⟨by simp[h10],by simp[h10]⟩
def yw(n f:Int)(g:Nat)(ao:Option Addr)(ca:Nat)(xs:List Int)(p:Int)(w:World)(e:Ending)(w':World):Prop:=
 ∃(vo lo v:Int)(s:ByteArray)(ua:Option Addr)(uc:Nat)(ys:List Int)(d:ByteArray)(q:Int)(ok':Bool),e= .returned (sv vo lo v s (.slice ua ys.length uc) d)∧Jw true (D7 n f xs p) ok' (vo,lo,(v,s,ys),d) q∧ys.length≤7∧(0≤q∧q≤xs.length)∧Loc w' g #[.slice ao xs.length ca,.int .i64 p,.int .i64 q,Gb ok' p]∧OI w' w.heap.size (.slice ua ys.length uc) ys∧Kp w w' (fun k=>k=g)

theorem iA(W0:World)(n f:Int)(g:Nat)(ao:Option Addr)(ca:Nat)(xs:List Int)(fr p:Int)(w:World)(hx:xs.length≤33554432)(hp0:0≤p)(hp1:p≤xs.length)(hr:RB W0 (.slice ao xs.length ca) xs)(hb:Bytes xs)(hE:Env W0)(h0:W0.heap.size≤g)(hB:Below W0.heap.size W0 w)(hl:Loc w g #[.slice ao xs.length ca,.int .i64 fr,.int .i64 p,.nilIface]):
 Calls Tryz.prog 154 #[.pointer (some ⟨g,0,none⟩),cv n f] w (yw n f g ao ca xs p w):=by
 have hgw:=hl.lt;obtain⟨w9,SC⟩:∃y,(w.alloc (.cells #[.int .i64 n,.int .i64 f] 48)).alloc (.cells #[.int .i64 0,.int .i64 0,.int .i64 0,.string ⟨#[]⟩,.slice none 0 0,.string ⟨#[]⟩] 40)=y:=⟨_,rfl⟩
 have b9:Below w.heap.size w w9:=SC▸BG _ _ _;have z9:w9.heap.size=w.heap.size+1+1:=by rw[←SC];simp
 have L9:=hl.below b9 hgw;have KS:Kp w9 (w9.setCell ⟨g,1,none⟩ (.int .i64 p)) (fun k=>k=g):=AB _ _ _ _;obtain⟨w0,hw0⟩:∃y,w9.setCell ⟨g,1,none⟩ (.int .i64 p)=y:=⟨_,rfl⟩
 rw[hw0]at KS;have LG:Loc w0 g #[.slice ao xs.length ca,.int .i64 p,.int .i64 p,Gb true p]:=hw0▸L9.set 1 _ rfl;have LC:Loc w0 w.heap.size #[.int .i64 n,.int .i64 f]:=(SC▸(AJ w _ _ rfl).alloc _:Loc w9 w.heap.size #[.int .i64 n,.int .i64 f]).kp KS (by omega);have LZ:Loc w0 (w.heap.size+1) #[.int .i64 0,.int .i64 0,.int .i64 0,.string ⟨#[]⟩,.slice none 0 0,.string ⟨#[]⟩]:=(SC▸AJ (w.alloc _) _ _ (by simp):Loc w9 (w.heap.size+1) #[.int .i64 0,.int .i64 0,.int .i64 0,.string ⟨#[]⟩,.slice none 0 0,.string ⟨#[]⟩]).kp KS (by omega);have z0:w.heap.size+1+1≤w0.heap.size:=by have:=KS.size;omega
 have K0:Kp w w0 (fun k=>k=g):=(Below.Bo b9 _).trans KS;have x1:=L9.cell 1 rfl;have x2:=L9.cell 2 rfl;have fx:=L9.frozen;have NU:=hide fun(q:Int)(ok:Bool)(w':World)(k:Kp w w' (fun k=>k=g)) hl=>Kj W0 g ao ca xs p q ok w' hr hb hE (Below.kp hB k hB.size (fun j e=>by omega)) hl;have SA:=hide fun(q:Int)(ok:Bool)(w':World)(k:Kp w w' (fun k=>k=g)) hl=>g_ W0 g ao ca xs p q ok w' hr hb hE h0 (Below.kp hB k hB.size (fun j e=>by omega)) hl;have EN:=hide fun(w':World)(k:Kp w w' (fun k=>k=g))=>hE.below (Below.kp hB k hB.size (fun j e=>by omega));have N0:=hide (NU.out p true w0 K0 LG);have H0:=hide hw0;clear LG hr hb hw0 hl hB hE L9 b9;go_enter Tryz.func154,Tryz.ntmps154
 go_upto_region 2 with fail
 rw[H0.out];clear SC H0 z9 KS x1 x2 fx;go_wp2_with fail
 refine N0.out.mono ?_;rintro e w1 ⟨ln,q1,ok1,rfl,G1,hln,S1,LG,K1⟩;clear N0;replace LC:=LC.kp K1 (by omega);replace LZ:=LZ.kp K1 (by omega);have z1:=K1.size;replace K1:=K0.trans K1;clear K0;have hq1:0≤q1∧q1≤xs.length:=by unfold Eg at S1;omega
 have g2:=LG.cell 2 rfl;have SN:=hide (SA.out q1 ok1 w1 K1 LG);clear SA S1 LG;go_wp2_with fail
 clear g2;refine SN.out.mono ?_;rintro e w2 ⟨vo,lo,v,s,ua,uc,ys,d,q2,KT,rfl,G2,⟨hs,hd⟩,h7,S2,LG,oQ,K2⟩;clear SN;replace LC:=LC.kp K2 (by omega);replace LZ:=LZ.kp K2 (by omega);have z2:=K2.size;replace K2:=K1.trans K2;clear K1;have wC:=World.ownsRow.lt oQ;have hq2:0≤q2∧q2≤xs.length:=by unfold Eg at S2;omega
 clear S2;go_upto_region 5 with fail
 obtain⟨w8,hw8⟩:∃y,w2.alloc (.cells #[.int .i64 vo,.int .i64 lo,.int .i64 v,.string s,.slice ua ys.length uc,.string d] 40)=y:=⟨_,rfl⟩
 rw[hw8];have b8:Below w2.heap.size w2 w8:=hw8▸Ao _ _;have LQ:Loc w8 w2.heap.size #[.int .i64 vo,.int .i64 lo,.int .i64 v,.string s,.slice ua ys.length uc,.string d]:=hw8▸AJ w2 _ _ rfl;have z8:w2.heap.size+1≤w8.heap.size:=by rw[←hw8];simp
 clear hw8;replace LC:=LC.up b8;replace LZ:=LZ.up b8;replace LG:=LG.up b8;replace oQ:=oQ.below b8;have K8:=K2.trans (Below.Bo b8 _);clear b8 K2;have HN:Hid (∀(b:Bool),(Ir n f vo lo v s ys d&&(q2-q1==ln))=b→∀(Tq:Bool)(x q3:Int),Jw (KT&&b) (AV xs q2) Tq x q3→Jw true (D7 n f xs p) (Tq&&(x==10)) (vo,lo,(v,s,ys),d) q3):=hide fun b hb Tq x q3 h3=>pV b G1 G2 hb h3;have QO:=hide (Pv n f vo lo v s ua uc ys d w8 (by omega) (by omega) (EN.out _ K8) (oQ.ri (by omega)));generalize Ir n f vo lo v s ys d=bq at *;have c0:=LC.cell 0 rfl;have c1:=LC.cell 1 rfl;have d0:=LQ.cell 0 rfl;have d1:=LQ.cell 1 rfl;have d2:=LQ.cell 2 rfl;have d3:=LQ.cell 3 rfl;have d4:=LQ.cell 4 rfl;have d5:=LQ.cell 5 rfl;go_wp2_with fail
 clear c0 c1 d0 d1 d2 d3 d4 d5;refine QO.out.mono ?_;rintro e w3 ⟨rfl,b3⟩;clear QO EN;replace LZ:=LZ.up b3;replace LG:=LG.up b3;replace LQ:=LQ.up b3;replace oQ:=oQ.below b3;have z3:=b3.size;have K3:=K8.trans (Below.Bo b3 _);clear b3 K8 LC G1 G2;have g2:=LG.cell 2 rfl;have hwr:IntKind.i64.wrap (q2-q1)=q2-q1:=by rw[IntKind.wrap_i64];omega
 obtain⟨be,hbe⟩:∃y,(q2-q1==ln)=y:=⟨_,rfl⟩
 rw[hbe]at HN;cases bq with
 |true=>
  go_wp2_with fail
  refine(JN g _ p q2 KT be w3 LG).mono ?_;rintro e w4 ⟨rfl,LG4,K4⟩;replace LZ:=LZ.kp K4 (by omega);replace LQ:=LQ.kp K4 (by omega);replace oQ:=oQ.kp K4 (fun k hk e=>by have:=wC k hk;omega);have z4:=K4.size;replace K4:=K3.trans K4;clear K3 LG g2 hbe hwr;have N4:=hide (NU.out q2 (KT&&be) w4 K4 LG4);clear LG4;go_wp2_with fail
  refine N4.out.mono ?_;rintro e w5 ⟨y,q3,Tq,rfl,G4,hy,S4,LG,K5⟩;clear N4;replace LZ:=LZ.kp K5 (by omega);replace LQ:=LQ.kp K5 (by omega);replace oQ:=oQ.kp K5 (fun k hk e=>by have:=wC k hk;omega);have z5:=K5.size;replace K5:=K4.trans K5;clear K4;have HG:=hide (HN.out be rfl Tq y q3 G4);obtain⟨bt,hbt⟩:∃z,(y==(10:Int))=z:=⟨_,rfl⟩
  rw[hbt]at HG;have hq3:0≤q3∧q3≤xs.length:=by unfold Eg at S4;omega
  clear G4 S4 HN;go_wp2_with fail
  refine(JN g _ p q3 Tq bt w5 LG).mono ?_;rintro e w6 ⟨rfl,LG6,K6⟩;clear hbt;replace LZ:=LZ.kp K6 (by omega);replace LQ:=LQ.kp K6 (by omega);replace oQ:=oQ.kp K6 (fun k hk e=>by have:=wC k hk;omega);have z6:=K6.size;replace K6:=K5.trans K6;clear K5 LG;have e0:=LQ.cell 0 rfl;have e1:=LQ.cell 1 rfl;have e2:=LQ.cell 2 rfl;have e3:=LQ.cell 3 rfl;have e4:=LQ.cell 4 rfl;have e5:=LQ.cell 5 rfl;have y0:=LZ.cell 0 rfl;have y1:=LZ.cell 1 rfl;have y2:=LZ.cell 2 rfl;have y3:=LZ.cell 3 rfl;have y4:=LZ.cell 4 rfl;have y5:=LZ.cell 5 rfl;have fy:=LZ.frozen;have O6:=hide oQ;have H6:=hide LG6;clear oQ LQ LZ LG6;have K7:=VK w6 (w.heap.size+1) (.int .i64 vo) (.int .i64 lo) (.int .i64 v) (.string s) (.slice ua ys.length uc) (.string d);generalize (Tq&&bt)=okf at *;go_wp2;refine bodyPost_ret (v:=sv vo lo v s (.slice ua ys.length uc) d) (by simp[results,Tryz.results154,go_sem,y0,y1,y2,y3,y4,y5]) rfl ?_;exact⟨vo,lo,v,s,ua,uc,ys,d,q3,okf,rfl,HG.out,h7,hq3,H6.out.kp K7 (by omega),(O6.out.kp K7 (fun k hk e=>by have:=wC k hk;omega)).mono (by omega),K6.over K7 (fun j e=> .inl (by omega))⟩
 |false=>
  clear hbe hwr;go_wp2_with fail
  refine(JN g _ p q2 KT false w3 LG).mono ?_;rintro e w4 ⟨rfl,LG4,K4⟩;replace LZ:=LZ.kp K4 (by omega);replace LQ:=LQ.kp K4 (by omega);replace oQ:=oQ.kp K4 (fun k hk e=>by have:=wC k hk;omega);have z4:=K4.size;replace K4:=K3.trans K4;clear K3 LG g2;have N4:=hide (NU.out q2 (KT&&false) w4 K4 LG4);clear LG4;go_wp2_with fail
  refine N4.out.mono ?_;rintro e w5 ⟨y,q3,Tq,rfl,G4,hy,S4,LG,K5⟩;clear N4;replace LZ:=LZ.kp K5 (by omega);replace LQ:=LQ.kp K5 (by omega);replace oQ:=oQ.kp K5 (fun k hk e=>by have:=wC k hk;omega);have z5:=K5.size;replace K5:=K4.trans K5;clear K4;have HG:=hide (HN.out false rfl Tq y q3 G4);obtain⟨bt,hbt⟩:∃z,(y==(10:Int))=z:=⟨_,rfl⟩
  rw[hbt]at HG;have hq3:0≤q3∧q3≤xs.length:=by unfold Eg at S4;omega
  clear G4 S4 HN;go_wp2_with fail
  refine(JN g _ p q3 Tq bt w5 LG).mono ?_;rintro e w6 ⟨rfl,LG6,K6⟩;clear hbt;replace LZ:=LZ.kp K6 (by omega);replace LQ:=LQ.kp K6 (by omega);replace oQ:=oQ.kp K6 (fun k hk e=>by have:=wC k hk;omega);have z6:=K6.size;replace K6:=K5.trans K6;clear K5 LG;have e0:=LQ.cell 0 rfl;have e1:=LQ.cell 1 rfl;have e2:=LQ.cell 2 rfl;have e3:=LQ.cell 3 rfl;have e4:=LQ.cell 4 rfl;have e5:=LQ.cell 5 rfl;have y0:=LZ.cell 0 rfl;have y1:=LZ.cell 1 rfl;have y2:=LZ.cell 2 rfl;have y3:=LZ.cell 3 rfl;have y4:=LZ.cell 4 rfl;have y5:=LZ.cell 5 rfl;have fy:=LZ.frozen;have O6:=hide oQ;have H6:=hide LG6;clear oQ LQ LZ LG6;have K7:=VK w6 (w.heap.size+1) (.int .i64 vo) (.int .i64 lo) (.int .i64 v) (.string s) (.slice ua ys.length uc) (.string d);generalize (Tq&&bt)=okf at *;go_wp2;refine bodyPost_ret (v:=sv vo lo v s (.slice ua ys.length uc) d) (by simp[results,Tryz.results154,go_sem,y0,y1,y2,y3,y4,y5]) rfl ?_;exact⟨vo,lo,v,s,ua,uc,ys,d,q3,okf,rfl,HG.out,h7,hq3,H6.out.kp K7 (by omega),(O6.out.kp K7 (fun k hk e=>by have:=wC k hk;omega)).mono (by omega),K6.over K7 (fun j e=> .inl (by omega))⟩
def qL(w:World)(g j:Nat):Int:=intOf ((w.cell? ⟨g,j,none⟩).getD .nilIface)
theorem Xo{w:World}{g j:Nat}{x:Int}(h:w.cell? ⟨g,j,none⟩=some (.int .i64 x)):qL w g j=x:=by unfold qL;rw[h];rfl

theorem L8(n f:Int)(ao:Option Addr)(ca:Nat)(xs:List Int)(w:World)(hx:xs.length≤33554432)(hr:RB w (.slice ao xs.length ca) xs)(hb:Aw xs)(hE:Env w)(hT:JW w)(x:Dx×Int)(VL:Hid (Fs n f xs=x)):
 Calls Tryz.prog 106 #[cv n f,.slice ao xs.length ca] w fun e w'=>∃u,e= .returned (.tuple #[sv x.1.1 x.1.2.1 x.1.2.2.1.1 x.1.2.2.1.2.1 u x.1.2.2.2,.int .i64 x.2])∧OI w' w.heap.size u x.1.2.2.1.2.2∧Below w.heap.size w w':=by
 obtain⟨w0,hw0⟩:∃y,(w.alloc (.cells #[.int .i64 n,.int .i64 f] 48)).alloc (.cells #[.int .i64 0,.int .i64 0,.int .i64 0,.string ⟨#[]⟩,.slice none 0 0,.string ⟨#[]⟩] 40)=y:=⟨_,rfl⟩
 have B0:Below w.heap.size w w0:=hw0▸BG _ _ _;have LC:Loc w0 w.heap.size #[.int .i64 n,.int .i64 f]:=hw0▸(AJ w _ _ rfl).alloc _;have LZ:Loc w0 (w.heap.size+1) #[.int .i64 0,.int .i64 0,.int .i64 0,.string ⟨#[]⟩,.slice none 0 0,.string ⟨#[]⟩]:=hw0▸AJ (w.alloc _) _ _ (by simp);have z0:w.heap.size+1+1≤w0.heap.size:=by rw[←hw0];simp
 have NO:=hide fun(g:Nat)(fr p:Int)(w':World)(h0:0≤p)(h1:p≤xs.length)(hg:w.heap.size≤g)(b:Below w.heap.size w w') hl=>iA w n f g ao ca xs fr p w' hx h0 h1 hr hb.get hE hg b hl;have ET:=hide fun w'(b:Below w.heap.size w w')=>hT.below b;have VN:=hide hb;clear hr hE hT hb;go_enter Tryz.func106,Tryz.ntmps106
 go_wp2_with fail
 clear hw0;refine(XC _).mono ?_;rintro e w1 ⟨rfl,b1⟩;replace LC:=LC.up b1;replace LZ:=LZ.up b1;have z1:=b1.size;have B1:=bu B0 b1;clear b1 B0;go_upto_region 2 with fail
 obtain⟨w2,hw2⟩:∃y,w1.alloc (.cells #[.int .i64 0,.int .i64 0,.int .i64 0,.string ⟨#[]⟩,.slice none 0 0,.string ⟨#[]⟩] 40)=y:=⟨_,rfl⟩
 rw[hw2];have b2:Below w1.heap.size w1 w2:=hw2▸Ao _ _;have LB:Loc w2 w1.heap.size #[.int .i64 0,.int .i64 0,.int .i64 0,.string ⟨#[]⟩,.slice none 0 0,.string ⟨#[]⟩]:=hw2▸AJ w1 _ _ rfl;have z2:w2.heap.size=w1.heap.size+1:=by rw[←hw2];simp
 clear hw2;replace LC:=LC.up b2;replace LZ:=LZ.up b2;have B2:=bu B1 b2;clear b2 B1;obtain⟨hB,ehB⟩:∃y,w1.heap.size=y:=⟨_,rfl⟩
 rw[ehB]at LB⊢;have zB:w.heap.size+1+1≤hB:=by omega
 have lB:=LB.lt;clear z2 ehB z1;go_wp2;obtain⟨g,eg⟩:∃y,w2.heap.size=y:=⟨_,rfl⟩
 obtain⟨w3,hw3⟩:∃y,w2.alloc (.cells #[.slice ao xs.length ca,.int .i64 0,.int .i64 0,.nilIface] 197)=y:=⟨_,rfl⟩
 rw[hw3];have b3:Below w2.heap.size w2 w3:=hw3▸Ao _ _;have LG:Loc w3 g #[.slice ao xs.length ca,.int .i64 0,.int .i64 0,.nilIface]:=hw3▸AJ w2 _ _ eg;clear hw3;replace LC:=LC.up b3;replace LZ:=LZ.up b3;replace LB:=LB.up b3;have B3:=bu B2 b3;rw[eg]at lB⊢;clear b3 B2 eg;have HI:=hide (show Fs n f xs=Ea n f xs (xs.length+1) 0 jC from rfl)
 go_loopw [5] (fun r wr=>∃(vo lo v:Int)(s:ByteArray)(ua:Option Addr)(uc:Nat)(ys:List Int)(d:ByteArray)(fr p:Int)(k:Nat),r= .int .i64 0∧Hid (Fs n f xs=Ea n f xs k p (vo,lo,(v,s,ys),d))∧((xs.length:Int)<p+k∧0≤p∧p≤xs.length)∧ys.length≤7∧Loc wr w.heap.size #[.int .i64 n,.int .i64 f]∧Loc wr (w.heap.size+1) #[.int .i64 0,.int .i64 0,.int .i64 0,.string ⟨#[]⟩,.slice none 0 0,.string ⟨#[]⟩]∧Loc wr hB #[.int .i64 vo,.int .i64 lo,.int .i64 v,.string s,.slice ua ys.length uc,.string d]∧Loc wr g #[.slice ao xs.length ca,.int .i64 fr,.int .i64 p,.nilIface]∧OI wr w.heap.size (.slice ua ys.length uc) ys∧(∀j,(Value.slice ua ys.length uc).ownBlock=some j→j≠hB∧j≠g∧j≠w.heap.size∧j≠w.heap.size+1)∧Below w.heap.size w wr) (fun _ wr=>xs.length+1-(qL wr g 2).toNat)
 case atStart=>exact⟨0,0,0,⟨#[]⟩,none,0,[],⟨#[]⟩,0,0,xs.length+1,rfl,HI,⟨by omega,by omega,by omega⟩,by simp,LC,LZ,LB,LG,World.ownsRow_nil _ _ _ _,(fun j e=>by cases e),B3⟩
 case round=>
  clear LC LZ LB LG B3 HI;obtain⟨vo,lo,v,s,ua,uc,ys,d,fr,p,k,rfl,HI,⟨hk,hp0,hp1⟩,h7,LC,LZ,LB,LG,oB,tB,BR⟩:=hrel;have zr:=BR.size;have lG:=LG.lt;have HM:=hide (Xo (LG.cell 2 rfl));have NX:=hide (NO.out g fr p wr hp0 hp1 (by omega) BR LG);have c0:=LC.cell 0 rfl;have c1:=LC.cell 1 rfl;clear LG;go_wp2_with fail
  clear c0 c1;refine NX.out.mono ?_;rintro e w4 ⟨dP,lo',v',s',ua',uc',ys',d',q,ok,rfl,G4,h7',hq,LG,oN,K4⟩;clear NX;replace LC:=LC.kp K4 (by omega);replace LZ:=LZ.kp K4 (by omega);replace LB:=LB.kp K4 (by omega);replace oB:=oB.kp K4 (fun j hj e=>by have:=tB j hj;omega);have z4:=K4.size;have B4:=Below.kp BR K4 BR.size (fun j e=>by omega);have ltN:=World.ownsRow.lt oN;clear K4 BR;go_upto_region 4 with fail
  obtain⟨w5,SE⟩:∃y,w4.alloc (.cells #[.int .i64 dP,.int .i64 lo',.int .i64 v',.string s',.slice ua' ys'.length uc',.string d'] 40)=y:=⟨_,rfl⟩
  rw[SE];have b5:Below w4.heap.size w4 w5:=SE▸Ao _ _;have LS:Loc w5 w4.heap.size #[.int .i64 dP,.int .i64 lo',.int .i64 v',.string s',.slice ua' ys'.length uc',.string d']:=SE▸AJ w4 _ _ rfl;have z5:w4.heap.size+1≤w5.heap.size:=by rw[←SE];simp
  clear SE;replace LC:=LC.up b5;replace LZ:=LZ.up b5;replace LB:=LB.up b5;replace LG:=LG.up b5;replace oB:=oB.below b5;replace oN:=oN.below b5;have B5:=bu B4 b5;clear b5 B4;have LA:=hide (jT g _ p q ok w5 (ET.out _ B5) LG);go_wp2_with fail
  refine LA.out.mono ?_;rintro e w6 ⟨rfl,b6⟩;clear LA;replace LC:=LC.up b6;replace LZ:=LZ.up b6;replace LB:=LB.up b6;replace LG:=LG.up b6;replace LS:=LS.up b6;replace oB:=oB.below b6;replace oN:=oN.below b6;have z6:=b6.size;have B6:=bu B5 b6;clear b6 B5;cases ok with
  | false=>
   have hnone:D7 n f xs p=none:=by
    have:=G4.1;simp only[Bool.true_and]at this;cases hc:D7 n f xs p with
    |none=>rfl
    |some z=>rw[hc]at this;simp at this
   have hx1:x=((vo,lo,(v,s,ys),d),p):=by rw[←VL.out,HI.out,FD hnone]
   have e0:=LB.cell 0 rfl;have e1:=LB.cell 1 rfl;have e2:=LB.cell 2 rfl;have e3:=LB.cell 3 rfl;have e4:=LB.cell 4 rfl;have e5:=LB.cell 5 rfl;have y0:=LZ.cell 0 rfl;have y1:=LZ.cell 1 rfl;have y2:=LZ.cell 2 rfl;have y3:=LZ.cell 3 rfl;have y4:=LZ.cell 4 rfl;have y5:=LZ.cell 5 rfl;have fy:=LZ.frozen;have O6:=hide oB;subst hx1;clear VL HI G4 hnone oB oN LC LZ LB LG LS NO ET VN HM ltN;have K7:=VK w6 (w.heap.size+1) (.int .i64 vo) (.int .i64 lo) (.int .i64 v) (.string s) (.slice ua ys.length uc) (.string d);go_wp2;refine bodyPost_ret (v:= .tuple #[sv vo lo v s (.slice ua ys.length uc) d,.int .i64 p]) (by simp[results,Tryz.results106,go_sem,y0,y1,y2,y3,y4,y5]) rfl ?_;exact⟨_,rfl,O6.out.kp K7 (fun j hj e=>by have:=tB j hj;omega),Below.kp B6 K7 B6.size (fun j e=>by omega)⟩
  | true=>
   have hs4:=G4.2 rfl;have st:=KC VN.out hs4
   have HN:Hid (Fs n f xs=Ea n f xs (k-1) q (dP,lo',(v',s',ys'),d')):=by
    rw[HI.out];obtain⟨j,rfl⟩:∃j,k=j+1:=⟨k-1,by omega⟩
    rw[KE hs4];exact hide rfl
   have e0:=LS.cell 0 rfl;have e1:=LS.cell 1 rfl;have e2:=LS.cell 2 rfl;have e3:=LS.cell 3 rfl;have e4:=LS.cell 4 rfl;have e5:=LS.cell 5 rfl;have y0:=LB.cell 0 rfl;have y1:=LB.cell 1 rfl;have y2:=LB.cell 2 rfl;have y3:=LB.cell 3 rfl;have y4:=LB.cell 4 rfl;have y5:=LB.cell 5 rfl;have fy:=LB.frozen;have HB:=hide LB;have HG:=hide LG;have HC:=hide LC;have HZ:=hide LZ;have ON:=hide oN;clear HI G4 hs4 oB oN LS LB LG LC LZ NO ET VN;have K7:=VK w6 hB (.int .i64 dP) (.int .i64 lo') (.int .i64 v') (.string s') (.slice ua' ys'.length uc') (.string d');go_wp2
   go_roundw
   case rel=>
    refine⟨dP,lo',v',s',ua',uc',ys',d',p,q,k-1,rfl,HN,⟨by omega,by omega,by omega⟩,h7',HC.out.kp K7 (by omega),HZ.out.kp K7 (by omega),?_,HG.out.kp K7 (by omega),(ON.out.kp K7 (fun j hj e=>by have:=ltN j hj;omega)).mono (by omega),(fun j hj=>by have:=ltN j hj;omega),Below.kp B6 K7 B6.size (fun j e=>by omega)⟩;exact(((((HB.out.set 0 _ rfl).set 1 _ rfl).set 2 _ rfl).set 3 _ rfl).set 4 _ rfl).set 5 _ rfl
   case measure=>
    have hm2:=Xo ((HG.out.kp K7 (by omega)).cell 2 rfl);simp only[HM.out,hm2];omega
end
section
open Go.RowKit
theorem fA(ao:Option Addr)(n ca k:Nat)(w:World)(hk:k≤ca):
 (Instr.slice 31 (.slice ao n ca) none (some (.int .i64 (k:Int))) none).run Tryz.prog w= .ok (.slice ao k ca) w:=by
 obtain⟨i0,hi,hz0,hz1,hz2⟩:=info_parts Tryz.info5;rw[run_slice_h (ht:=Tryz.underlying31) (kh:= .i64) (h:=(k:Int)) (h0:=by omega) (h2:=by omega)];have he:Tryz.prog.elem 31=5:=by simp[Program.elem,Tryz.underlying31]
 have hs:(sizeOf (Tryz.prog.elem 31)).run Tryz.prog w= .ok 1 w:=by rw[he];simp[sizeOf,typeInfo,hi,hz1]
 rw[hs];simp[sliced,Result.andThen];intro _;cases ao<;>rfl
end
section
open Go Go.RowKit
variable [∀(a b c d:Int),Decidable (BD a b c d)] [∀(a b c d:Nat),Decidable (Dg a b c d)] [∀(last:Int)(s:St),Decidable (Ak last s)] [∀(x:T4),Decidable (Dt x)] [∀(n:Int)(s:List Int),Decidable (Du n s)] [∀(n f:Int),Decidable (A_ n f)]
structure LF(xs:List Int)(x:Dx×Int):Prop where
 lo:0≤x.2
 hi:x.2≤(xs.length:Int)
 vo:0≤x.1.1∧x.1.1≤60
 lk:0≤x.1.2.1∧x.1.2.1≤60
 n:0≤x.1.2.2.1.1∧x.1.2.2.1.1≤60
 s:x.1.2.2.1.2.1.size≤1920
 q:x.1.2.2.1.2.2.length≤7
 d:x.1.2.2.2.size≤1920
theorem IK{xs:List Int}(hb:Aw xs)(n f:Int):LF xs (Fs n f xs):=by
 obtain⟨h1,_,h3,_,h⟩:=jR hb n f (xs.length+1) 0 jC (by omega) (by omega) (by omega);rcases h with h|h
 ·have e:(Fs n f xs).1=jC:=h;refine⟨h1,h3,?_,?_,?_,?_,?_,?_⟩<;>rw[e]<;>(try exact(by decide))<;>simp[jC]
 obtain⟨a,b,⟨c,d,e,_⟩,g⟩:=Jb h;exact⟨h1,h3,a,b,c,d,e,g⟩
abbrev hov(vo lo v:Int)(s:ByteArray)(a:Value)(d:ByteArray)(b:Value)(su:Int):Value:= .agg #[.int .i64 vo,.int .i64 lo,.int .i64 v,.string s,a,.string d,b,.int .i64 su]
theorem UU(n f:Int)(ao:Option Addr)(ca:Nat)(xs:List Int)(su:Int)(w:World)(hl:xs.length≤1048577)(hr:RB w (.slice ao xs.length ca) xs)(hb:Aw xs)(hE:Env w)(hT:JW w)(x:Dx×Int)(VL:Hid (Fs n f xs=x))(k:Nat)(hk:x.2=k):
 Calls Tryz.prog 41 #[cv n f,dv (.slice ao xs.length ca) su] w fun e w'=>∃u,e= .returned (hov x.1.1 x.1.2.1 x.1.2.2.1.1 x.1.2.2.1.2.1 u x.1.2.2.2 (.slice ao k ca) k)∧OI w' w.heap.size u x.1.2.2.1.2.2∧Below w.heap.size w w':=by
 have lf:=IK hb n f;rw[VL.out]at lf;have LN:=hide fun w he ht h=>L8 n f ao ca xs w (by omega) h hb he ht x VL;obtain⟨⟨p1,p2,⟨p3,p4,p5⟩,p6⟩,p7⟩:=x;simp only at hk LN lf⊢;subst hk;have j3:k≤ca:=by have h1:=lf.hi;obtain⟨_,_,_,e,hc,_⟩:=hr;cases e;simp only at h1;omega
 have hs1:∀w,(Instr.slice 31 (.slice ao xs.length ca) none (some (.int .i64 (k:Int))) none).run Tryz.prog w= .ok (.slice ao k ca) w:=fun w=>fA ao xs.length ca k w j3;have hq:=lf.q;simp only at hq;have HE:=hide hE;have HT:=hide hT;have HR:=hide hr;clear lf hb hE hT hr VL j3;obtain⟨w0,hw0,AP,LC,D,O,De⟩:=zM w #[.int .i64 n,.int .i64 f] 48 #[.slice ao xs.length ca,.int .i64 su] 43 #[.int .i64 0,.int .i64 0,.int .i64 0,.string ⟨#[]⟩,.slice none 0 0,.string ⟨#[]⟩,.slice none 0 0,.int .i64 0] 95;go_enter Tryz.func41,Tryz.ntmps41
 obtain⟨AZ,Ac⟩:=Cw LC 0 1;have cD0:=D.cell 0 rfl;go_wp2_with fail
 clear hw0;refine(LN.out _ (HE.out.below AP) (HT.out.below AP) (HR.out.below AP)).mono ?_;rintro _ w1 ⟨u,rfl,oS,bb⟩;clear AZ Ac cD0;have AU:=bu AP bb;have DU:=bb.size;replace LC:=LC.up bb;replace D:=D.up bb;replace O:=O.up bb;clear AP bb;have toS:=World.ownsRow.lt oS;obtain⟨Ik,Ih,rfl⟩:=oS.form;go_upto_region 2 with(refine Cb (AJ w1 #[.int .i64 0,.int .i64 0,.int .i64 0,.string ⟨#[]⟩,.slice none 0 0,.string ⟨#[]⟩] 40 rfl) 40 #[.int .i64 p1,.int .i64 p2,.int .i64 p3,.string p4,.slice Ik p5.length Ih,.string p6] rfl _ _ rfl rfl rfl (by kernel_rfl) rfl (by simp[Value.oneCell']) ?_)
 obtain⟨w2,hw2⟩:∃y,(w1.alloc (.cells #[.int .i64 0,.int .i64 0,.int .i64 0,.string ⟨#[]⟩,.slice none 0 0,.string ⟨#[]⟩] 40)).setRow w1.heap.size #[.int .i64 p1,.int .i64 p2,.int .i64 p3,.string p4,.slice Ik p5.length Ih,.string p6]=y:=⟨_,rfl⟩
 rw[hw2];have bb:Below w1.heap.size w1 w2:=hw2▸Dq _ _ _ _;have S:Loc w2 w1.heap.size #[.int .i64 p1,.int .i64 p2,.int .i64 p3,.string p4,.slice Ik p5.length Ih,.string p6]:=hw2▸Fz _ _ _ _;have zw2:w2.heap.size=w1.heap.size+1:=by rw[←hw2];exact FW _ _ _ _
 clear hw2;have Al:=bu AU bb;have FM:=bb.size;replace LC:=LC.up bb;replace D:=D.up bb;replace O:=O.up bb;replace oS:=oS.below bb;clear AU bb;have K:Hid (∀w',Kp w2 w' (fun k=>k=w.heap.size+1+1)→(fun w'=>Kp w2 w' (fun k=>k=w.heap.size+1+1)∧Loc w' (w1.heap.size) #[.int .i64 p1,.int .i64 p2,.int .i64 p3,.string p4,.slice Ik p5.length Ih,.string p6]∧(w'.cell? ⟨w.heap.size+1,0,none⟩=some (.slice ao xs.length ca)∧w'.cell? ⟨w.heap.size+1,1,none⟩=some (.int .i64 su))) w'):=hide fun w' hk'=>⟨hk',S.kp hk' (by omega),⟨(D.kp hk' (by omega)).cell 0 rfl,(D.kp hk' (by omega)).cell 1 rfl⟩⟩
 refine wrk K (fun wd2 bA bb hHeld=>?_);have dD:=bu Al bb;have AC7:=bb.size;replace LC:=LC.up bb;replace D:=D.up bb;replace O:=O.up bb;replace S:=S.up bb;replace oS:=oS.below bb;clear Al bb;refine take_at (i:=0) (d:=14) (v:= .agg #[.int .i64 p1,.int .i64 p2,.int .i64 p3,.string p4,.slice Ik p5.length Ih,.string p6]) rfl rfl (by kernel_rfl) (by kernel_rfl) (by kernel_rfl) (fun _ _ _ h=>h) ?_ (by assumption) ?_
 ·exact CJ rfl 40 _ rfl rfl _ (fun w h=>h.2.1) Tryz.underlying40 rfl (by kernel_rfl)
 simp only[pU];refine tx 1 15 ?_;refine tx 3 17 ?_;refine tx 5 19 ?_;refine tx 2 16 ?_;refine tx 4 18 ?_;refine tx 6 20 ?_;refine tx 7 21 ?_;refine rd 8 rfl (fun KK AA=>?_);rw[if_pos (by rfl)];refine wp_store_mid 95 (.tmp 4) (.tmp 21) rfl (w.heap.size+1+1) 0 #[.int .i64 p1,.int .i64 p2,.int .i64 p3,.string p4,.slice Ik p5.length Ih,.string p6,.slice ao k ca,.int .i64 (k:Int)] rfl rfl (O.there 0 8 (by simp)) (by kernel_rfl) (by simp[Value.oneCell']) ?_;obtain⟨dI,hq⟩:∃y,wd2.setCells (w.heap.size+1+1) 0 [.int .i64 p1,.int .i64 p2,.int .i64 p3,.string p4,.slice Ik p5.length Ih,.string p6,.slice ao k ca,.int .i64 (k:Int)]=y:=⟨_,rfl⟩
 have kN:Kp wd2 dI (fun k=>k=w.heap.size+1+1):=hq▸AY _ _ _ _;have wN:Kp w2 dI (fun k=>k=w.heap.size+1+1):=bA.trans (kN.mono (fun k e=>e));replace O:Loc dI (w.heap.size+1+1) #[.int .i64 p1,.int .i64 p2,.int .i64 p3,.string p4,.slice Ik p5.length Ih,.string p6,.slice ao k ca,.int .i64 (k:Int)]:=hq▸O.setCells _ _ rfl;rw[show wd2.setCells (w.heap.size+1+1) 0 (Array.toList #[.int .i64 p1,.int .i64 p2,.int .i64 p3,.string p4,.slice Ik p5.length Ih,.string p6,.slice ao k ca,.int .i64 (k:Int)])=dI from hq];clear hHeld;refine AA.out _ _ (K.out _ wN) (fun hHeld=>?_);clear AA KK bA;replace LC:=LC.kp kN (by omega);replace D:=D.kp kN (by omega);replace S:=S.kp kN (by omega);replace oS:=oS.kp kN (fun j hj e=>by have:=toS j hj;omega);have zD:=Below.kp dD kN dD.size (fun k hk=>by omega);have AC2:=kN.size;clear hq kN dD hHeld;refine Bq ?_;clear K wN;go_wp2;refine bodyPost_ret (v:=hov p1 p2 p3 p4 (.slice Ik p5.length Ih) p6 (.slice ao k ca) k) (CG Tryz.results41 _ O rfl Tryz.underlying95 rfl (by kernel_rfl)) rfl ?_;exact⟨_,rfl,oS.mono (by omega),zD⟩
end
section
open Go.RowKit
theorem xZ{w:World}{ao:Option Addr}{n ca:Nat}{xs:List Int}(h:RB w (.slice ao n ca) xs):n=xs.length∧n≤ca:=by
 obtain⟨_,a,c,e,hc,_⟩:=h;injection e with e1 e2 e3
 subst e1 e2 e3;exact⟨rfl,hc.1⟩
end
end Go.Proofs.YtcjmcgolgbkknaaGreatDoor
