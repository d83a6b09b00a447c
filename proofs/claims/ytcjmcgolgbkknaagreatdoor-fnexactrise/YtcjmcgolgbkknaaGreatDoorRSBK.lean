/- Lemmas; their conditions stand in each statement. -/
import Derived.Test.YtcjmcgolgbkknaaGreatDoorRSBJ
set_option maxRecDepth 100000
set_option maxHeartbeats 16000000
set_option linter.unusedSectionVars false
namespace Go.Proofs.YtcjmcgolgbkknaaGreatDoor
section
open Go.RowKit
variable [∀(a b c d:Int),Decidable (BD a b c d)] [∀(a b c d:Nat),Decidable (Dg a b c d)] [∀(last:Int)(s:St),Decidable (Ak last s)] [∀(x:T4),Decidable (Dt x)] [∀(n:Int)(s:List Int),Decidable (Du n s)] [∀(n f:Int),Decidable (A_ n f)]
theorem SH{xs:List Int}(hb:Aw xs){p m q:Int}(h:AV xs p=some (m,q)):p<q∧q≤xs.length:=by
 obtain⟨hm,hs⟩:=(A9 hb p m q).1 h;have:=CE hs;have:=PQ m hm.1 hm.2;omega
theorem Kg(v:Value)(xs:List Int)(p:Int)(w:World)(h:RB w v xs)(hb:Bytes xs){n q:Int}{c:Bool}(hr:AA0 (AV xs p)=n∧AAz (AV xs p)=q∧(AV xs p).isSome=c):
 Calls Tryz.prog 92 #[v,.int .i64 p] w fun e w'=>e= .returned (.tuple #[.int .i64 n,.int .i64 q,.bool c])∧Below w.heap.size w w':=by
 obtain⟨rfl,rfl,rfl⟩:=hr;refine(JI v xs p w h hb).mono ?_;rintro e w' ⟨rfl,rfl⟩;exact⟨rfl,Below.refl _ _⟩
theorem Rb(v:Value)(xs:List Int)(p:Int)(w:World)(h:RB w v xs)(hb:Bytes xs){n:ByteArray}{q:Int}{c:Bool}(hr:vU (Ap xs p)=n∧vT (Ap xs p)=q∧(Ap xs p).isSome=c):
 Calls Tryz.prog 171 #[v,.int .i64 p] w fun e w'=>e= .returned (.tuple #[.string n,.int .i64 q,.bool c])∧Below w.heap.size w w':=by
 obtain⟨rfl,rfl,rfl⟩:=hr;refine(TY v xs p w h hb).mono ?_;rintro e w' ⟨rfl,rfl⟩;exact⟨rfl,Below.refl _ _⟩

def vD(g:Nat)(ao:Option Addr)(ca:Nat)(xs:List Int)(p:Int)(ok:Bool)(w:World)(e:Ending)(w':World):Prop:=
 ∃(x:Int)(q:Int)(ok':Bool),e= .returned (.int .i64 x)∧Jw ok (AV xs p) ok' x q∧(0≤x∧x≤2147483647)∧Eg xs p q∧Hid (ok'=true→p<q∧q≤xs.length)∧Loc w' g #[.slice ao xs.length ca,.int .i64 q,.bool ok']∧Kp w w' (fun k=>k=g)
theorem PE(W0:World)(g:Nat)(ao:Option Addr)(ca:Nat)(xs:List Int)(p:Int)(ok:Bool)(w:World)(hr:RB W0 (.slice ao xs.length ca) xs)(hbl:Aw xs)(hB:Below W0.heap.size W0 w)(hl:Loc w g #[.slice ao xs.length ca,.int .i64 p,.bool ok]):
 Calls Tryz.prog 134 #[.pointer (some ⟨g,0,none⟩)] w (vD g ao ca xs p ok w):=by
 have hb:=hbl.get;cases hgn:AV xs p with
 |none=>
  have GN:=hide fun w'(b:Below w.heap.size w w')=>Kg (.slice ao xs.length ca) xs p w' (hr.below (bu hB b)) hb (n:=0) (q:=0) (c:=false) (by rw[hgn];exact⟨rfl,rfl,rfl⟩);have LG:=hl;clear hr hB hl;have Bw:Below w.heap.size w w:=Below.refl _ _;go_enter Tryz.func134,Tryz.ntmps134
  have K:=kw (Qw LG 0 1 2);go_upto_region 1 with fail
  refine Ei K (fun bA hHeld=>?_);refine tx 0 7 ?_;refine tx 4 11 ?_;refine tx 1 8 ?_;refine tx 5 12 ?_;refine tx 2 9 ?_;refine tx 6 13 ?_;refine tx 3 10 ?_;refine tx 7 14 ?_;refine rd 8 rfl (fun KK AA=>?_);go_simp;have hgo:=bA;refine(GN.out _ hgo).mono ?_;rintro e BN ⟨rfl,bb⟩;have Ai:Below w.heap.size w BN:=bu bA bb;clear bA hgo bb hHeld;refine AA.out _ _ (K.out _ Ai) (fun hHeld=>?_);clear AA KK;refine tx 9 6 ?_;refine tx 10 16 ?_;refine tx 11 17 ?_;refine tx 12 18 ?_;refine tx 13 3 ?_;refine tx 14 4 ?_;refine tx 15 5 ?_;clear hHeld;refine Bq ?_;have bb:=Ai;have Ct:=bu Bw bb;have Gs:=bb.size;replace LG:=LG.up bb;clear Bw bb Ai K GN;have KB:=Below.Bo Ct (fun k=>k=g);have c1:=LG.cell 1 rfl;have c2:=LG.cell 2 rfl;have f2:=LG.frozen;have HL:=hide LG;clear LG;go_wp2;go_ret;exact⟨0,p,false,rfl,⟨by simp[hgn],by simp⟩,by simp,.inl rfl,hide (by simp),HL.out.set 2 _ rfl,KB.trans (AB _ _ _ _)⟩
 | some z=>
  obtain⟨n,q⟩:=z;have GN:=hide fun w'(b:Below w.heap.size w w')=>Kg (.slice ao xs.length ca) xs p w' (hr.below (bu hB b)) hb (n:=n) (q:=q) (c:=true) (by rw[hgn];exact⟨rfl,rfl,rfl⟩);have bd:=Ec xs hb p n q hgn;have HQ:=hide (SH hbl hgn);have LG:=hl;clear hr hB hl;have Bw:Below w.heap.size w w:=Below.refl _ _;go_enter Tryz.func134,Tryz.ntmps134
  have K:=kw (Qw LG 0 1 2);go_upto_region 1 with fail
  refine Ei K (fun bA hHeld=>?_);refine tx 0 7 ?_;refine tx 4 11 ?_;refine tx 1 8 ?_;refine tx 5 12 ?_;refine tx 2 9 ?_;refine tx 6 13 ?_;refine tx 3 10 ?_;refine tx 7 14 ?_;refine rd 8 rfl (fun KK AA=>?_);go_simp;have hgo:=bA;refine(GN.out _ hgo).mono ?_;rintro e BN ⟨rfl,bb⟩;have Ai:Below w.heap.size w BN:=bu bA bb;clear bA hgo bb hHeld;refine AA.out _ _ (K.out _ Ai) (fun hHeld=>?_);clear AA KK;refine tx 9 6 ?_;refine tx 10 16 ?_;refine tx 11 17 ?_;refine tx 12 18 ?_;refine tx 13 3 ?_;refine tx 14 4 ?_;refine tx 15 5 ?_;clear hHeld;refine Bq ?_;have bb:=Ai;have Ct:=bu Bw bb;have Gs:=bb.size;replace LG:=LG.up bb;clear Bw bb Ai K GN;have KB:=Below.Bo Ct (fun k=>k=g);have c1:=LG.cell 1 rfl;have c2:=LG.cell 2 rfl;have f2:=LG.frozen;have HL:=hide LG;clear LG;cases ok with
  |false=>
   go_wp2;go_ret;exact⟨0,p,false,rfl,⟨by simp[hgn],by simp⟩,by simp,.inl rfl,hide (by simp),HL.out.set 2 _ rfl,KB.trans (AB _ _ _ _)⟩
  |true=>
   go_wp2;go_ret;exact⟨n,q,true,rfl,⟨by simp[hgn],fun _=>hgn⟩,by omega,.inr (by omega),hide fun _=>HQ.out,HL.out.set 1 _ rfl,KB.trans (AB _ _ _ _)⟩

theorem Z7{xs:List Int}(hb:Aw xs){p:Int}{s:ByteArray}{q:Int}(h:Ap xs p=some (s,q)):p<q∧q≤xs.length:=by
 obtain⟨hm,hs⟩:=(FV hb p s q).1 h;have:=CE hs;rw[Mc]at this;have:=(NW 4 s.size).2;omega

def qz(g:Nat)(ao:Option Addr)(ca:Nat)(xs:List Int)(p:Int)(ok:Bool)(w:World)(e:Ending)(w':World):Prop:=
 ∃(x:ByteArray)(q:Int)(ok':Bool),e= .returned (.string x)∧Jw ok (Ap xs p) ok' x q∧x.size≤xs.length∧Eg xs p q∧Hid (ok'=true→p<q∧q≤xs.length)∧Loc w' g #[.slice ao xs.length ca,.int .i64 q,.bool ok']∧Kp w w' (fun k=>k=g)
theorem Re(W0:World)(g:Nat)(ao:Option Addr)(ca:Nat)(xs:List Int)(p:Int)(ok:Bool)(w:World)(hr:RB W0 (.slice ao xs.length ca) xs)(hbl:Aw xs)(hB:Below W0.heap.size W0 w)(hl:Loc w g #[.slice ao xs.length ca,.int .i64 p,.bool ok]):
 Calls Tryz.prog 136 #[.pointer (some ⟨g,0,none⟩)] w (qz g ao ca xs p ok w):=by
 have hb:=hbl.get;cases hgn:Ap xs p with
 |none=>
  have GN:=hide fun w'(b:Below w.heap.size w w')=>Rb (.slice ao xs.length ca) xs p w' (hr.below (bu hB b)) hb (n:=⟨#[]⟩) (q:=0) (c:=false) (by rw[hgn];exact⟨rfl,rfl,rfl⟩);have LG:=hl;clear hr hB hl;have Bw:Below w.heap.size w w:=Below.refl _ _;go_enter Tryz.func136,Tryz.ntmps136
  have K:=kw (Qw LG 0 1 2);go_upto_region 1 with fail
  refine Ei K (fun bA hHeld=>?_);refine tx 0 7 ?_;refine tx 4 11 ?_;refine tx 1 8 ?_;refine tx 5 12 ?_;refine tx 2 9 ?_;refine tx 6 13 ?_;refine tx 3 10 ?_;refine tx 7 14 ?_;refine rd 8 rfl (fun KK AA=>?_);go_simp;have hgo:=bA;refine(GN.out _ hgo).mono ?_;rintro e BN ⟨rfl,bb⟩;have Ai:Below w.heap.size w BN:=bu bA bb;clear bA hgo bb hHeld;refine AA.out _ _ (K.out _ Ai) (fun hHeld=>?_);clear AA KK;refine tx 9 6 ?_;refine tx 10 16 ?_;refine tx 11 17 ?_;refine tx 12 18 ?_;refine tx 13 3 ?_;refine tx 14 4 ?_;refine tx 15 5 ?_;clear hHeld;refine Bq ?_;have bb:=Ai;have Ct:=bu Bw bb;have Gs:=bb.size;replace LG:=LG.up bb;clear Bw bb Ai K GN;have KB:=Below.Bo Ct (fun k=>k=g);have c1:=LG.cell 1 rfl;have c2:=LG.cell 2 rfl;have f2:=LG.frozen;have HL:=hide LG;clear LG;go_wp2;go_ret;exact⟨⟨#[]⟩,p,false,rfl,⟨by simp[hgn],by simp⟩,Nat.zero_le _,.inl rfl,hide (by simp),HL.out.set 2 _ rfl,KB.trans (AB _ _ _ _)⟩
 | some z=>
  obtain⟨n,q⟩:=z;have GN:=hide fun w'(b:Below w.heap.size w w')=>Rb (.slice ao xs.length ca) xs p w' (hr.below (bu hB b)) hb (n:=n) (q:=q) (c:=true) (by rw[hgn];exact⟨rfl,rfl,rfl⟩);have bd:=P_ xs hb p n q hgn;have HQ:=hide (Z7 hbl hgn);have LG:=hl;clear hr hB hl;have Bw:Below w.heap.size w w:=Below.refl _ _;go_enter Tryz.func136,Tryz.ntmps136
  have K:=kw (Qw LG 0 1 2);go_upto_region 1 with fail
  refine Ei K (fun bA hHeld=>?_);refine tx 0 7 ?_;refine tx 4 11 ?_;refine tx 1 8 ?_;refine tx 5 12 ?_;refine tx 2 9 ?_;refine tx 6 13 ?_;refine tx 3 10 ?_;refine tx 7 14 ?_;refine rd 8 rfl (fun KK AA=>?_);go_simp;have hgo:=bA;refine(GN.out _ hgo).mono ?_;rintro e BN ⟨rfl,bb⟩;have Ai:Below w.heap.size w BN:=bu bA bb;clear bA hgo bb hHeld;refine AA.out _ _ (K.out _ Ai) (fun hHeld=>?_);clear AA KK;refine tx 9 6 ?_;refine tx 10 16 ?_;refine tx 11 17 ?_;refine tx 12 18 ?_;refine tx 13 3 ?_;refine tx 14 4 ?_;refine tx 15 5 ?_;clear hHeld;refine Bq ?_;have bb:=Ai;have Ct:=bu Bw bb;have Gs:=bb.size;replace LG:=LG.up bb;clear Bw bb Ai K GN;have KB:=Below.Bo Ct (fun k=>k=g);have c1:=LG.cell 1 rfl;have c2:=LG.cell 2 rfl;have f2:=LG.frozen;have HL:=hide LG;clear LG;cases ok with
  |false=>
   go_wp2;go_ret;exact⟨⟨#[]⟩,p,false,rfl,⟨by simp[hgn],by simp⟩,Nat.zero_le _,.inl rfl,hide (by simp),HL.out.set 2 _ rfl,KB.trans (AB _ _ _ _)⟩
  |true=>
   go_wp2;go_ret;exact⟨n,q,true,rfl,⟨by simp[hgn],fun _=>hgn⟩,by omega,.inr (by omega),hide fun _=>HQ.out,HL.out.set 1 _ rfl,KB.trans (AB _ _ _ _)⟩

def vC(g:Nat)(ao:Option Addr)(ca:Nat)(xs:List Int)(p:Int)(ok:Bool)(w:World)(e:Ending)(w':World):Prop:=
 ∃(u:Value)(ys:List Int)(q:Int)(ok':Bool),e= .returned u∧Jw ok (EK 2147483647 xs p) ok' ys q∧ys.length≤xs.length∧Eg xs p q∧Loc w' g #[.slice ao xs.length ca,.int .i64 q,.bool ok']∧OI w' w.heap.size u ys∧Kp w w' (fun k=>k=g)

theorem nL(W0:World)(g:Nat)(ao:Option Addr)(ca:Nat)(xs:List Int)(p:Int)(ok:Bool)(w:World)(hx:xs.length≤1048576)(hr:RB W0 (.slice ao xs.length ca) xs)(hb:Aw xs)(h0:W0.heap.size≤g)(hB:Below W0.heap.size W0 w)(hl:Loc w g #[.slice ao xs.length ca,.int .i64 p,.bool ok]):
 Calls Tryz.prog 170 #[.pointer (some ⟨g,0,none⟩)] w (vC g ao ca xs p ok w):=by
 obtain⟨i0,hi,hz0,hz1,hz2⟩:=info_parts Tryz.info3;have hgw:=hl.lt;obtain⟨w0,hw0⟩:∃y,w.alloc (.cells #[] 3)=y:=⟨_,rfl⟩
 have b0:Below w.heap.size w w0:=hw0▸Ao _ _;have K0:Kp w w0 (fun k=>k=g):=Below.Bo b0 _;have o0:OI w0 w.heap.size (.slice (some ⟨w.heap.size,0,none⟩) 0 0) []:=hw0▸World.ownsRow_lit w #[] 0 Ae (by unfold maxLen;omega) rfl;have NU:=hide fun(p:Int)(ok:Bool)(w':World)(k:Kp w w' (fun k=>k=g)) hl=>PE W0 g ao ca xs p ok w' hr hb (Below.kp hB k hB.size (fun j e=>by omega)) hl;have N0:=hide (NU.out p ok w0 K0 (hl.below b0 hgw));have z0:=K0.size;clear hl hr hb h0 hB b0;go_enter Tryz.func170,Tryz.ntmps170
 go_wp2_with fail
 clear hw0;refine N0.out.mono ?_;rintro e w1 ⟨m,q1,ok1,rfl,G1,hm,S1,Q1,L1,K1⟩
 have IV:Hid (JV 2147483647 ok xs p m [] q1 ok1):=by
  have:=RJ (L:=2147483647) G1 hm.1;rw[decide_eq_true hm.2,Bool.and_true]at this;exact hide this
 have BV:Hid (ok1=true→((0:Nat):Int)<q1∧q1≤xs.length):=hide fun h=>by
  have h1:=(G1.2 h)
  have h2:=Q1.out h;have h3:¬p<0:=fun hn=>by rw[GH xs p hn]at h1;cases h1
  omega
 have o1:=o0.kp K1 (fun k hk e=>by have:=World.ownsRow.lt o0 k hk;omega);have K2:=K0.trans K1;clear N0 G1 o0 K0 K1 Q1;go_wp2
 go_loopw [3,5] (fun v i wr=>∃(ys:List Int)(q:Int)(Tn:Bool),i= .int .i64 (ys.length:Int)∧OI wr w.heap.size v ys∧ys.length≤xs.length∧Hid (Tn=true→(ys.length:Int)<q∧q≤xs.length)∧Hid (JV 2147483647 ok xs p m ys q Tn)∧Eg xs p q∧Loc wr g #[.slice ao xs.length ca,.int .i64 q,.bool Tn]∧Kp w wr (fun k=>k=g)) (fun _ i _=>2147483648-(intOf i).toNat)
 case atStart=>exact⟨[],q1,ok1,rfl,o1,by simp,BV,IV,S1,L1,K2⟩
 case round=>
  clear IV L1 K2 S1 BV o1;obtain⟨ys,q,Tn,rfl,ho,hlx,BV,IV,S1,LG,KG⟩:=hrel;have c2:=LG.cell 2 rfl;obtain⟨va,vc,rfl⟩:=ho.form;have hlt:=World.ownsRow.lt ho;have hsz:=KG.size;have OH:=hide ho;obtain⟨k,hk⟩:∃k,ys.length=k:=⟨_,rfl⟩
  have Hk:=hide hk;rw[hk]at hlx BV OH hlt⊢;clear ho;by_cases hlm:(k:Int)<m
  ·have hd:decide ((k:Int)<m)=true:=by simpa using hlm
   cases Tn with
   |false=>
    have HF:=hide (NM IV.out (.inl rfl));have LGh:=hide LG;clear hk LG;go_wp2;go_ret;exact⟨_,ys,q,false,rfl,HF.out,by rw[Hk.out];exact hlx,S1,LGh.out,OH.out,KG⟩
   | true=>
    have NX:=hide (NU.out q true wr KG LG);have bv:=BV.out rfl;have ML:=hide (show(ys.length:Int)<m by omega);clear LG hk;go_wp2_with fail
    clear c2;refine NX.out.mono ?_;rintro e w5 ⟨x,q2,ok5,rfl,G5,hx5,S5,Q5,L5,K5⟩;have o5:=OH.out.kp K5 (fun j hj e=>by have:=hlt j hj;subst e;omega);have ST:=hide (VS IV.out ML.out G5);have z5:=K5.size;have BW:Hid (ok5=true→((k+1:Nat):Int)<q2∧q2≤xs.length):=hide fun h=>by have:=Q5.out h;omega
    have o5':w5.ownsRow w.heap.size 3 1 (.slice va k vc) ys.length (ys.map (Value.int .i64)):=o5;rw[Hk.out]at o5';have O5:=hide o5';clear NX G5 Q5 BV IV o5 o5' OH
    go_wp2_with (first
     | (at_builtin;refine wpList_append_own _ rfl _ _ 24 rfl w.heap.size 3 i0 (.int .i64 0) 1 8 Tryz.underlying24 hi hz0 hz1 hz2 rfl (by decide) (.slice va k vc) _ _ rfl (World.ownsRow.alloc O5.out _) ⟨w5.heap.size,0,none⟩ 1 1 [.int .i64 x] rfl rfl (one_cell _ _ _) (Rv _ _) (by unfold maxLen;omega) (by omega) (by simp;omega) ?_;intro v' w6 ho' hg' _
        have KA:=(Ck hg')
        have HO':=hide ho';clear ho' hg'))
    go_roundw
    case rel=>
     have K6:Kp w w6 (fun k=>k=g):=((KG.trans K5).trans (Below.Bo (Ao _ _) _)).over KA (fun j e=> .inl (by have:=hlt j e;omega));have L6:=(L5.alloc (.cells #[.int .i64 x] 3)).kp KA (fun e=>by have:=hlt g e;omega);have O6:OI w6 w.heap.size v' (ys++[x]):=OI.more (by rw[Hk.out];exact HO'.out);have hl6:(ys++[x]).length=k+1:=by rw[List.length_append,Hk.out];rfl
     refine⟨ys++[x],q2,ok5,?_,O6,by omega,by rw[hl6];exact BW,ST,S1.trans S5,L6,K6⟩;rw[hl6];go_num
    case measure=>simp[intOf];omega
  have hd:decide ((k:Int)<m)=false:=by simpa using hlm
  have HF:=hide (NM IV.out (.inr (by omega)));have LGh:=hide LG;clear hk LG;go_wp2;go_ret;exact⟨_,ys,q,Tn,rfl,HF.out,by rw[Hk.out];exact hlx,S1,LGh.out,OH.out,KG⟩
def Rz:Dx:=(0,0,(0,⟨#[]⟩,[]),⟨#[]⟩)
theorem gy{L n f:Int}{xs:List Int}{ok:Bool}{t:Dx}{q:Int}(h:Jw true (Cv L xs 0) ok t q):C_ L n f xs=if(ok&&(Jl n f t&&(q==(xs.length:Int))))=true then some t else none:=by
 obtain⟨h1,h2⟩:=h;unfold C_;cases hg:Cv L xs 0 with
 |none=>rw[hg]at h1;simp at h1;simp[h1]
 |some x=>
  rw[hg]at h1 h2;simp only[Option.isSome_some,Bool.and_true]at h1;subst h1;obtain rfl:=Option.some.inj (h2 rfl);simp
def yu(g:Nat)(ao:Option Addr)(ca:Nat)(xs:List Int)(p:Int)(ok:Bool)(w:World)(e:Ending)(w':World):Prop:=
 ∃(v:Int)(s:ByteArray)(ua:Option Addr)(uc:Nat)(ys:List Int)(q:Int)(ok':Bool),e= .returned (qv v s (.slice ua ys.length uc))∧Jw ok (Hq 2147483647 xs p) ok' (v,s,ys) q∧s.size≤xs.length∧ys.length≤xs.length∧Eg xs p q∧Loc w' g #[.slice ao xs.length ca,.int .i64 q,.bool ok']∧OI w' w.heap.size (.slice ua ys.length uc) ys∧Kp w w' (fun k=>k=g)

theorem sF(W0:World)(g:Nat)(ao:Option Addr)(ca:Nat)(xs:List Int)(p:Int)(ok:Bool)(w:World)(hx:xs.length≤1048576)(hr:RB W0 (.slice ao xs.length ca) xs)(hb:Aw xs)(h0:W0.heap.size≤g)(hB:Below W0.heap.size W0 w)(hl:Loc w g #[.slice ao xs.length ca,.int .i64 p,.bool ok]):
 Calls Tryz.prog 135 #[.pointer (some ⟨g,0,none⟩)] w (yu g ao ca xs p ok w):=by
 have hgw:=hl.lt;have NU:=hide fun(p:Int)(ok:Bool)(w':World)(k:Kp w w' (fun k=>k=g)) hl=>PE W0 g ao ca xs p ok w' hr hb (Below.kp hB k hB.size (fun j e=>by omega)) hl;have TE:=hide fun(p:Int)(ok:Bool)(w':World)(k:Kp w w' (fun k=>k=g)) hl=>Re W0 g ao ca xs p ok w' hr hb (Below.kp hB k hB.size (fun j e=>by omega)) hl;have WH:=hide fun(p:Int)(ok:Bool)(w':World)(k:Kp w w' (fun k=>k=g)) hl=>nL W0 g ao ca xs p ok w' hx hr hb h0 (Below.kp hB k hB.size (fun j e=>by omega)) hl;obtain⟨w0,hw0⟩:∃y,(w.alloc (.cells #[.int .i64 0,.string ⟨#[]⟩,.slice none 0 0] 38)).alloc (.cells #[.int .i64 0,.string ⟨#[]⟩,.slice none 0 0] 38)=y:=⟨_,rfl⟩
 have b0:Below w.heap.size w w0:=hw0▸BG _ _ _;have LZ:Loc w0 w.heap.size #[.int .i64 0,.string ⟨#[]⟩,.slice none 0 0]:=hw0▸(AJ w _ _ rfl).alloc _;have LB:Loc w0 (w.heap.size+1) #[.int .i64 0,.string ⟨#[]⟩,.slice none 0 0]:=hw0▸AJ (w.alloc _) _ _ (by simp);have z0:w.heap.size+1+1≤w0.heap.size:=by rw[←hw0];simp
 have X9:Kp w w0 (fun k=>k=g):=Below.Bo b0 _;have LG:=hl.below b0 hgw;have H0:=hide hw0;clear hw0 hl hr hb hB b0;go_enter Tryz.func135,Tryz.ntmps135
 go_upto_region 2 with fail
 rw[H0.out];clear H0;have C1:=hide (NU.out p ok w0 X9 LG);clear LG;go_wp2_with fail
 refine C1.out.mono ?_;rintro e w1 ⟨v,q1,ok1,rfl,G1,hv,S1,_,LG,kC⟩;replace LZ:=LZ.kp kC (by omega);replace LB:=LB.kp kC (by omega);have rJ:=kC.size;replace X9:=X9.trans kC;clear kC C1 NU;have y0:=LB.cell 0 rfl;have y1:=LB.cell 1 rfl;have y2:=LB.cell 2 rfl;have fy:=LB.frozen;go_upto_region 3 with fail
 clear fy y0 y1 y2;obtain⟨xB,UR⟩:∃y,(w1.setCell ⟨w.heap.size+1,0,none⟩ (.int .i64 v))=y:=⟨_,rfl⟩
 have kS:Kp w1 xB (fun k=>k=w.heap.size+1):=UR▸AB _ _ _ _;rw[UR];replace LB:Loc xB (w.heap.size+1) #[.int .i64 v,.string ⟨#[]⟩,.slice none 0 0]:=UR▸(LB.set 0 _ rfl);replace LZ:=LZ.kp kS (by omega);replace LG:=LG.kp kS (by omega);have ACZ:=kS.size;replace X9:=X9.over kS (fun j e=> .inl (by omega));clear kS UR;have C1:=hide (TE.out q1 ok1 xB X9 LG);clear LG;go_wp2_with fail
 refine C1.out.mono ?_;rintro e w2 ⟨s,q2,KT,rfl,G2,hs,S2,_,LG,kC⟩;replace LZ:=LZ.kp kC (by omega);replace LB:=LB.kp kC (by omega);have zw2:=kC.size;replace X9:=X9.trans kC;clear kC C1 TE;have y0:=LB.cell 0 rfl;have y1:=LB.cell 1 rfl;have y2:=LB.cell 2 rfl;have fy:=LB.frozen;go_upto_region 4 with fail
 clear fy y0 y1 y2;obtain⟨wz,UQ⟩:∃y,(w2.setCell ⟨w.heap.size+1,1,none⟩ (.string s))=y:=⟨_,rfl⟩
 have kS:Kp w2 wz (fun k=>k=w.heap.size+1):=UQ▸AB _ _ _ _;rw[UQ];replace LB:Loc wz (w.heap.size+1) #[.int .i64 v,.string s,.slice none 0 0]:=UQ▸(LB.set 1 _ rfl);replace LZ:=LZ.kp kS (by omega);replace LG:=LG.kp kS (by omega);have ACY:=kS.size;replace X9:=X9.over kS (fun j e=> .inl (by omega));clear kS UQ;have zW:=LB.lt;have C1:=hide (WH.out q2 KT wz X9 LG);clear LG;go_wp2_with fail
 refine C1.out.mono ?_;rintro e w3 ⟨u,ys,q3,ik,rfl,G3,hl3,S3,LG,o3,kC⟩;replace LZ:=LZ.kp kC (by omega);replace LB:=LB.kp kC (by omega);have lT:=World.ownsRow.lt o3;have zw3:=kC.size;replace X9:=X9.trans kC;clear kC C1 WH;obtain⟨ua,uc,rfl⟩:=o3.form;have y0:=LB.cell 0 rfl;have y1:=LB.cell 1 rfl;have y2:=LB.cell 2 rfl;have fy:=LB.frozen;go_upto_region 5 with fail
 clear fy y0 y1 y2;obtain⟨vR,UO⟩:∃y,(w3.setCell ⟨w.heap.size+1,2,none⟩ (.slice ua ys.length uc))=y:=⟨_,rfl⟩
 have kS:Kp w3 vR (fun k=>k=w.heap.size+1):=UO▸AB _ _ _ _;rw[UO];replace LB:Loc vR (w.heap.size+1) #[.int .i64 v,.string s,.slice ua ys.length uc]:=UO▸(LB.set 2 _ rfl);replace LZ:=LZ.kp kS (by omega);replace LG:=LG.kp kS (by omega);replace o3:=o3.kp kS (fun j hj e=>by have:=lT j hj;omega);have ACW:=kS.size;replace X9:=X9.over kS (fun j e=> .inl (by omega));clear kS UO;have HG:=hide (pQ G1 G2 G3);have SS:=hide ((S1.trans S2).trans S3);clear G1 G2 G3 S1 S2 S3 hv;have y0:=LZ.cell 0 rfl;have e0:=LB.cell 0 rfl;have y1:=LZ.cell 1 rfl;have e1:=LB.cell 1 rfl;have y2:=LZ.cell 2 rfl;have e2:=LB.cell 2 rfl;have fy:=LZ.frozen;have O3:=hide o3;have HL:=hide LG;clear o3 LG LZ LB;go_wp2;have K5:Kp vR (((vR.setCell ⟨w.heap.size,0,none⟩ (.int .i64 v)).setCell ⟨w.heap.size,1,none⟩ (.string s)).setCell ⟨w.heap.size,2,none⟩ (.slice ua ys.length uc)) (fun k=>k=w.heap.size):=((AB _ _ _ _).trans (AB _ _ _ _)).trans (AB _ _ _ _);refine bodyPost_ret (v:=qv v s (.slice ua ys.length uc)) (by simp[results,Tryz.results135,go_sem,y0,y1,y2]) rfl ?_;exact⟨v,s,ua,uc,ys,q3,ik,rfl,HG.out,hs,hl3,SS.out,HL.out.kp K5 (by omega),(O3.out.kp K5 (fun k hk e=>by have:=lT k hk;omega)).mono (by omega),X9.over K5 (fun j e=> .inl (by omega))⟩
theorem Ow(n f:Int)(ao:Option Addr)(ca:Nat)(xs:List Int)(w:World)(hx:xs.length≤1048576)(hr:RB w (.slice ao xs.length ca) xs)(hb:Aw xs)(x:Dx)(b:Bool)(VL:Hid ((C_ 7 n f xs).getD Rz=x∧(C_ 7 n f xs).isSome=b)):
 Calls Tryz.prog 93 #[cv n f,.slice ao xs.length ca] w fun e w'=>∃u,e= .returned (.tuple #[sv x.1 x.2.1 x.2.2.1.1 x.2.2.1.2.1 u x.2.2.2,.bool b])∧OI w' w.heap.size u x.2.2.1.2.2∧Below w.heap.size w w':=by
 have HX:Hid ((C_ 2147483647 n f xs).getD Rz=x∧(C_ 2147483647 n f xs).isSome=b):=by rw[gu hb];exact VL
 clear VL;obtain⟨w0,hw0⟩:∃y,(((w.alloc (.cells #[.int .i64 n,.int .i64 f] 48)).alloc (.cells #[.int .i64 0,.int .i64 0,.int .i64 0,.string ⟨#[]⟩,.slice none 0 0,.string ⟨#[]⟩] 40)).alloc (.cells #[.slice ao xs.length ca,.int .i64 0,.bool true] 172)).alloc (.cells #[.int .i64 0,.int .i64 0,.int .i64 0,.string ⟨#[]⟩,.slice none 0 0,.string ⟨#[]⟩] 40)=y:=⟨_,rfl⟩
 have B0:Below w.heap.size w w0:=hw0▸((BG _ _ _).alloc (by simp;omega) _).alloc (by simp;omega) _;have LC:Loc w0 w.heap.size #[.int .i64 n,.int .i64 f]:=hw0▸(((AJ w _ _ rfl).alloc _).alloc _).alloc _;have LZ:Loc w0 (w.heap.size+1) #[.int .i64 0,.int .i64 0,.int .i64 0,.string ⟨#[]⟩,.slice none 0 0,.string ⟨#[]⟩]:=hw0▸((AJ (w.alloc _) _ _ (by simp)).alloc _).alloc _;have LG:Loc w0 (w.heap.size+1+1) #[.slice ao xs.length ca,.int .i64 0,.bool true]:=hw0▸(AJ ((w.alloc _).alloc _) _ _ (by simp)).alloc _;have LB:Loc w0 (w.heap.size+1+1+1) #[.int .i64 0,.int .i64 0,.int .i64 0,.string ⟨#[]⟩,.slice none 0 0,.string ⟨#[]⟩]:=hw0▸AJ (((w.alloc _).alloc _).alloc _) _ _ (by simp);have z0:w.heap.size+1+1+1+1≤w0.heap.size:=by rw[←hw0];simp
 have NU:=hide fun(p:Int)(ok:Bool)(w':World)(k:Below w.heap.size w w') hl=>PE w (w.heap.size+1+1) ao ca xs p ok w' hr hb k hl;have TE:=hide fun(p:Int)(ok:Bool)(w':World)(k:Below w.heap.size w w') hl=>Re w (w.heap.size+1+1) ao ca xs p ok w' hr hb k hl;have QC:=hide fun(p:Int)(ok:Bool)(w':World)(k:Below w.heap.size w w') hl=>sF w (w.heap.size+1+1) ao ca xs p ok w' hx hr hb (by omega) k hl;have H0:=hide hw0;clear hw0 hr hb;go_enter Tryz.func93,Tryz.ntmps93
 go_upto_region 3 with fail
 rw[H0.out];clear H0;have C1:=hide (NU.out 0 true w0 B0 LG);clear LG;go_wp2_with fail
 refine C1.out.mono ?_;rintro e w1 ⟨vo,q1,ok1,rfl,G1,hv,S1,_,LG,kC⟩;replace LC:=LC.kp kC (by omega);replace LZ:=LZ.kp kC (by omega);replace LB:=LB.kp kC (by omega);have rJ:=kC.size;replace B0:=Below.kp B0 kC B0.size (fun j e=>by omega);clear kC C1 hv;have y0:=LB.cell 0 rfl;have y1:=LB.cell 1 rfl;have y2:=LB.cell 2 rfl;have y3:=LB.cell 3 rfl;have y4:=LB.cell 4 rfl;have y5:=LB.cell 5 rfl;have fy:=LB.frozen;go_upto_region 4 with fail
 clear fy y0 y1 y2 y3 y4 y5;obtain⟨xB,UR⟩:∃y,(w1.setCell ⟨w.heap.size+1+1+1,0,none⟩ (.int .i64 vo))=y:=⟨_,rfl⟩
 have kS:Kp w1 xB (fun k=>k=w.heap.size+1+1+1):=UR▸AB _ _ _ _;rw[UR];replace LB:Loc xB (w.heap.size+1+1+1) #[.int .i64 vo,.int .i64 0,.int .i64 0,.string ⟨#[]⟩,.slice none 0 0,.string ⟨#[]⟩]:=UR▸(LB.set 0 _ rfl);replace LC:=LC.kp kS (by omega);replace LZ:=LZ.kp kS (by omega);replace LG:=LG.kp kS (by omega);have ACZ:=kS.size;replace B0:=Below.kp B0 kS B0.size (fun j e=>by omega);clear kS UR;have C1:=hide (NU.out q1 ok1 xB B0 LG);clear LG;go_wp2_with fail
 refine C1.out.mono ?_;rintro e w2 ⟨lo,q2,KT,rfl,G2,hv,S2,_,LG,kC⟩;replace LC:=LC.kp kC (by omega);replace LZ:=LZ.kp kC (by omega);replace LB:=LB.kp kC (by omega);have zw2:=kC.size;replace B0:=Below.kp B0 kC B0.size (fun j e=>by omega);clear kC C1 hv NU;have y0:=LB.cell 0 rfl;have y1:=LB.cell 1 rfl;have y2:=LB.cell 2 rfl;have y3:=LB.cell 3 rfl;have y4:=LB.cell 4 rfl;have y5:=LB.cell 5 rfl;have fy:=LB.frozen;go_upto_region 5 with fail
 clear fy y0 y1 y2 y3 y4 y5;obtain⟨wz,UQ⟩:∃y,(w2.setCell ⟨w.heap.size+1+1+1,1,none⟩ (.int .i64 lo))=y:=⟨_,rfl⟩
 have kS:Kp w2 wz (fun k=>k=w.heap.size+1+1+1):=UQ▸AB _ _ _ _;rw[UQ];replace LB:Loc wz (w.heap.size+1+1+1) #[.int .i64 vo,.int .i64 lo,.int .i64 0,.string ⟨#[]⟩,.slice none 0 0,.string ⟨#[]⟩]:=UQ▸(LB.set 1 _ rfl);replace LC:=LC.kp kS (by omega);replace LZ:=LZ.kp kS (by omega);replace LG:=LG.kp kS (by omega);have ACY:=kS.size;replace B0:=Below.kp B0 kS B0.size (fun j e=>by omega);clear kS UQ;have zW:=LB.lt;have C1:=hide (QC.out q2 KT wz B0 LG);clear LG;go_wp2_with fail
 refine C1.out.mono ?_;rintro e w3 ⟨v,s,ua,uc,ys,q3,ik,rfl,G3,hs,hl3,S3,LG,o3,kC⟩;replace LC:=LC.kp kC (by omega);replace LZ:=LZ.kp kC (by omega);replace LB:=LB.kp kC (by omega);have lT:=World.ownsRow.lt o3;have zw3:=kC.size;replace B0:=Below.kp B0 kC B0.size (fun j e=>by omega);clear kC C1 QC;have y0:=LB.cell 0 rfl;have y1:=LB.cell 1 rfl;have y2:=LB.cell 2 rfl;have y3:=LB.cell 3 rfl;have y4:=LB.cell 4 rfl;have y5:=LB.cell 5 rfl;have fy:=LB.frozen;go_upto_region 6 with fail
 clear fy y0 y1 y2 y3 y4 y5;obtain⟨vR,UO⟩:∃y,(((w3.setCell ⟨w.heap.size+1+1+1,2,none⟩ (.int .i64 v)).setCell ⟨w.heap.size+1+1+1,3,none⟩ (.string s)).setCell ⟨w.heap.size+1+1+1,4,none⟩ (.slice ua ys.length uc))=y:=⟨_,rfl⟩
 have kS:Kp w3 vR (fun k=>k=w.heap.size+1+1+1):=UO▸((AB _ _ _ _).trans (AB _ _ _ _)).trans (AB _ _ _ _);rw[UO];replace LB:Loc vR (w.heap.size+1+1+1) #[.int .i64 vo,.int .i64 lo,.int .i64 v,.string s,.slice ua ys.length uc,.string ⟨#[]⟩]:=UO▸(((LB.set 2 _ rfl).set 3 _ rfl).set 4 _ rfl);replace LC:=LC.kp kS (by omega);replace LZ:=LZ.kp kS (by omega);replace LG:=LG.kp kS (by omega);replace o3:=o3.kp kS (fun j hj e=>by have:=lT j hj;omega);have ACW:=kS.size;replace B0:=Below.kp B0 kS B0.size (fun j e=>by omega);clear kS UO;have C1:=hide (TE.out q3 ik vR B0 LG);clear LG;go_wp2_with fail
 refine C1.out.mono ?_;rintro e w4 ⟨d,q4,ok,rfl,G4,hd,S4,_,LG,kC⟩;replace LC:=LC.kp kC (by omega);replace LZ:=LZ.kp kC (by omega);replace LB:=LB.kp kC (by omega);replace o3:=o3.kp kC (fun j hj e=>by have:=lT j hj;omega);have zw4:=kC.size;replace B0:=Below.kp B0 kC B0.size (fun j e=>by omega);clear kC C1 TE;have y0:=LB.cell 0 rfl;have y1:=LB.cell 1 rfl;have y2:=LB.cell 2 rfl;have y3:=LB.cell 3 rfl;have y4:=LB.cell 4 rfl;have y5:=LB.cell 5 rfl;have fy:=LB.frozen;go_upto_region 7 with fail
 clear fy y0 y1 y2 y3 y4 y5;obtain⟨zY,tZ⟩:∃y,(w4.setCell ⟨w.heap.size+1+1+1,5,none⟩ (.string d))=y:=⟨_,rfl⟩
 have kS:Kp w4 zY (fun k=>k=w.heap.size+1+1+1):=tZ▸AB _ _ _ _;rw[tZ];replace LB:Loc zY (w.heap.size+1+1+1) #[.int .i64 vo,.int .i64 lo,.int .i64 v,.string s,.slice ua ys.length uc,.string d]:=tZ▸(LB.set 5 _ rfl);replace LC:=LC.kp kS (by omega);replace LZ:=LZ.kp kS (by omega);replace LG:=LG.kp kS (by omega);replace o3:=o3.kp kS (fun j hj e=>by have:=lT j hj;omega);have AE9:=kS.size;replace B0:=Below.kp B0 kS B0.size (fun j e=>by omega);clear kS tZ;have HR:Hid (C_ 2147483647 n f xs=if(ok&&(Ir n f vo lo v s ys d&&(q4==(xs.length:Int))))=true then some (vo,lo,(v,s,ys),d)else none):=hide (gy (XU G1 G2 G3 G4));have QO:=hide (Ov n f vo lo v s ua uc ys d zY (by omega) (by omega) (o3.ri (by omega)));generalize Ir n f vo lo v s ys d=bq at *;clear G1 G2 G3 G4 S1 S2 S3 S4;have g1:=LG.cell 1 rfl;have g2:=LG.cell 2 rfl;have O3:=hide o3;clear o3 LG;obtain⟨be,hbe⟩:∃y,(q4==(xs.length:Int))=y:=⟨_,rfl⟩
 rw[hbe]at HR;have hne:(q4 != (xs.length:Int))=!be:=by rw[←hbe];rfl
 cases ok with
 |false=>
  clear QO LC hbe hne g1;have hx1:x=Rz:=by have h:=HX.out.1;rw[HR.out]at h;exact h.symm
  have hb1:b=false:=by have h:=HX.out.2;rw[HR.out]at h;exact h.symm
  subst hx1 hb1;have y0:=LZ.cell 0 rfl;have y1:=LZ.cell 1 rfl;have y2:=LZ.cell 2 rfl;have y3:=LZ.cell 3 rfl;have y4:=LZ.cell 4 rfl;have y5:=LZ.cell 5 rfl;have fy:=LZ.frozen;clear HR HX O3 LZ LB;have K5:=VK zY (w.heap.size+1) (.int .i64 0) (.int .i64 0) (.int .i64 0) (.string ⟨#[]⟩) (.slice none 0 0) (.string ⟨#[]⟩);go_wp2;refine bodyPost_ret (v:= .tuple #[sv 0 0 0 ⟨#[]⟩ (.slice none 0 0) ⟨#[]⟩,.bool false]) (by simp[results,Tryz.results93,go_sem,y0,y1,y2,y3,y4,y5]) rfl ?_;exact⟨_,rfl,World.ownsRow_nil _ _ _ _,Below.kp B0 K5 B0.size (fun k e=>by omega)⟩
 | true=>
  cases be with
  |false=>
   have hne':(q4 != (xs.length:Int))=true:=hne;rw[Bool.and_false,Bool.and_false]at HR;clear QO LC hbe hne;have hx1:x=Rz:=by have h:=HX.out.1;rw[HR.out]at h;exact h.symm
   have hb1:b=false:=by have h:=HX.out.2;rw[HR.out]at h;exact h.symm
   subst hx1 hb1;have y0:=LZ.cell 0 rfl;have y1:=LZ.cell 1 rfl;have y2:=LZ.cell 2 rfl;have y3:=LZ.cell 3 rfl;have y4:=LZ.cell 4 rfl;have y5:=LZ.cell 5 rfl;have fy:=LZ.frozen;clear HR HX O3 LZ LB;have K5:=VK zY (w.heap.size+1) (.int .i64 0) (.int .i64 0) (.int .i64 0) (.string ⟨#[]⟩) (.slice none 0 0) (.string ⟨#[]⟩);go_wp2;refine bodyPost_ret (v:= .tuple #[sv 0 0 0 ⟨#[]⟩ (.slice none 0 0) ⟨#[]⟩,.bool false]) (by simp[results,Tryz.results93,go_sem,y0,y1,y2,y3,y4,y5]) rfl ?_;exact⟨_,rfl,World.ownsRow_nil _ _ _ _,Below.kp B0 K5 B0.size (fun k e=>by omega)⟩
  | true=>
   have hne':(q4 != (xs.length:Int))=false:=hne;clear hbe hne;have c0:=LC.cell 0 rfl;have c1:=LC.cell 1 rfl;have d0:=LB.cell 0 rfl;have d1:=LB.cell 1 rfl;have d2:=LB.cell 2 rfl;have d3:=LB.cell 3 rfl;have d4:=LB.cell 4 rfl;have d5:=LB.cell 5 rfl;go_wp2_with fail
   clear c0 c1 d0 d1 d2 d3 d4 d5 g1 g2 hne';refine QO.out.mono ?_;rintro e w6 ⟨rfl,b6⟩;clear QO;replace LZ:=LZ.up b6;replace LB:=LB.up b6;replace O3:=hide (O3.out.below b6);have z6:=b6.size;have B6:=bu B0 b6;clear b6 LC;cases bq with
   |false=>
    have hx1:x=Rz:=by have h:=HX.out.1;rw[HR.out]at h;exact h.symm
    have hb1:b=false:=by have h:=HX.out.2;rw[HR.out]at h;exact h.symm
    subst hx1 hb1;have y0:=LZ.cell 0 rfl;have y1:=LZ.cell 1 rfl;have y2:=LZ.cell 2 rfl;have y3:=LZ.cell 3 rfl;have y4:=LZ.cell 4 rfl;have y5:=LZ.cell 5 rfl;have fy:=LZ.frozen;clear HR HX O3 LZ LB;have K5:=VK w6 (w.heap.size+1) (.int .i64 0) (.int .i64 0) (.int .i64 0) (.string ⟨#[]⟩) (.slice none 0 0) (.string ⟨#[]⟩);go_wp2;refine bodyPost_ret (v:= .tuple #[sv 0 0 0 ⟨#[]⟩ (.slice none 0 0) ⟨#[]⟩,.bool false]) (by simp[results,Tryz.results93,go_sem,y0,y1,y2,y3,y4,y5]) rfl ?_;exact⟨_,rfl,World.ownsRow_nil _ _ _ _,Below.kp B6 K5 B6.size (fun k e=>by omega)⟩
   |true=>
    have hx1:x=(vo,lo,(v,s,ys),d):=by have h:=HX.out.1;rw[HR.out]at h;exact h.symm
    have hb1:b=true:=by have h:=HX.out.2;rw[HR.out]at h;exact h.symm
    subst hx1 hb1;clear HR HX;have e0:=LB.cell 0 rfl;have e1:=LB.cell 1 rfl;have e2:=LB.cell 2 rfl;have e3:=LB.cell 3 rfl;have e4:=LB.cell 4 rfl;have e5:=LB.cell 5 rfl;have y0:=LZ.cell 0 rfl;have y1:=LZ.cell 1 rfl;have y2:=LZ.cell 2 rfl;have y3:=LZ.cell 3 rfl;have y4:=LZ.cell 4 rfl;have y5:=LZ.cell 5 rfl;have fy:=LZ.frozen;clear LB LZ;have K5:=VK w6 (w.heap.size+1) (.int .i64 vo) (.int .i64 lo) (.int .i64 v) (.string s) (.slice ua ys.length uc) (.string d);go_wp2;refine bodyPost_ret (v:= .tuple #[sv vo lo v s (.slice ua ys.length uc) d,.bool true]) (by simp[results,Tryz.results93,go_sem,y0,y1,y2,y3,y4,y5]) rfl ?_;exact⟨_,rfl,(O3.out.kp K5 (fun k hk e=>by have:=lT k hk;omega)).mono (by omega),Below.kp B6 K5 B6.size (fun k e=>by omega)⟩
end
end Go.Proofs.YtcjmcgolgbkknaaGreatDoor
