/- Lemmas; their conditions stand in each statement. -/
import Derived.Test.YtcjmcgolgbkknaaGreatDoorWRBE
set_option maxRecDepth 100000
set_option maxHeartbeats 16000000
set_option linter.unusedSectionVars false
set_option linter.unusedSimpArgs false
namespace Go.Proofs.YtcjmcgolgbkknaaGreatDoor
section
open Go.RowKit
theorem Lg(ao:Option Addr)(n ca:Nat)(s:Int)(xs:List Int)(w:World)(hr:RB w (.slice ao n ca) xs)(hl:xs.length≤4194304):
 Calls Tryz.prog 89 #[dv (.slice ao n ca) s] w fun e w'=>∃u,e= .returned (dv u s)∧OB w' w.heap.size u xs∧Below w.heap.size w w':=by
 have hn:xs.length=n:=(KX hr).1.symm;obtain⟨w1,hw1⟩:∃y,(w.alloc (.cells #[.slice ao n ca,.int .i64 s] 43)).alloc (.cells #[.slice none 0 0,.int .i64 0] 43)=y:=⟨_,rfl⟩
 have b1:Below w.heap.size w w1:=hw1▸Bn _ _ _;have L1:Loc w1 w.heap.size #[.slice ao n ca,.int .i64 s]:=hw1▸Loc.alloc (AB w _ _ rfl) _;have R1:Loc w1 (w.heap.size+1) #[.slice none 0 0,.int .i64 0]:=hw1▸AB (w.alloc _) _ _ (by simp);have P1:PB w1 (.slice ao n ca) xs:=(hr.below b1).pb;have z1:w.heap.size+1+1≤w1.heap.size:=hw1▸(by simp);have HN:=hide hn;have HW:=hide hw1;clear hr hw1 hn;go_enter Tryz.func89,Tryz.ntmps89
 go_upto_region 1 with fail
 rw[HW.out];clear HW;have hn:=HN.out;have K:Hid (∀w',Kp w1 w' (fun k=>k=w.heap.size+1)→(fun w'=>w'.cell? ⟨w.heap.size,0,none⟩=some (.slice ao n ca)∧w'.cell? ⟨w.heap.size,1,none⟩=some (.int .i64 s)) w'):=hide fun w' hk'=>⟨hk'.cell (L1.cell 0 rfl) (by simp),hk'.cell (L1.cell 1 rfl) (by simp)⟩
 obtain⟨wd,hwd⟩:∃y,w1.drew=y:=⟨_,rfl⟩
 have bd:Below w1.heap.size w1 wd:=hwd▸Below.drew (Below.refl _ _);have zh:=bd.size;have PD:=P1.below bd;refine wp_region_noPanic ?_;refine wp_region_held_drew (S:=fun w'=>w'.cell? ⟨w.heap.size,0,none⟩=some (.slice ao n ca)∧w'.cell? ⟨w.heap.size,1,none⟩=some (.int .i64 s)) (by kernel_rfl) (hwd▸K.out _ (Below.Bf bd _)) (fun hHeld=>?_);rw[hwd]at hHeld⊢;clear hwd;refine tx 1 4 ?_;refine tx 2 5 ?_;refine tx 4 7 ?_;refine tx 5 8 ?_;refine rd 0 rfl (fun KK AA=>?_);go_simp;obtain⟨wb,hq⟩:∃y,wd.alloc (.cells #[] 5)=y:=⟨_,rfl⟩
 have bl:Below wd.heap.size wd wb:=hq▸Ac _ _;have bb:Below w1.heap.size w1 wb:=bu bd bl;have O0:OB wb wd.heap.size (.slice (some ⟨wd.heap.size,0,none⟩) 0 0) []:=hq▸World.ownsRow_lit wd #[] 0 Af (by unfold maxLen;omega) rfl;have zq:wb.heap.size=wd.heap.size+1:=by rw[←hq];simp
 rw[hq];clear hq hHeld;refine AA.out _ _ (K.out _ (Below.Bf bb _)) (fun hHeld=>?_);clear AA KK;refine rd 3 rfl (fun KK AA=>?_);refine Df rfl (.tmp 3) (.tmp 5) rfl wd.heap.size (.slice (some ⟨wd.heap.size,0,none⟩) 0 0) (.slice ao n ca) [] xs rfl rfl O0 (PD.below bl) (by simp;omega) (by omega) ?_;intro u wa O g7 hown;have ba:Below w1.heap.size w1 wa:=bb.grown g7 bb.size (fun j hj=>by simp[Value.ownBlock]at hj;omega);rw[List.nil_append]at O;have q7:=g7.size;have tO:=World.ownsRow.lt O;obtain⟨ua,uc,rfl⟩:=O.form;rw[hn]at O tO hown⊢;clear hHeld;refine AA.out _ _ (K.out _ (Below.Bf ba _)) (fun hHeld=>?_);clear AA KK;refine tz 6 9 ?_;simp only[Act.put,List.setIfInBounds_toArray];have Rq:=R1.up ba;have q0:=Rq.cell 0 rfl;have q1:=Rq.cell 1 rfl;have FG:=Rq.frozen;refine rd 7 rfl (fun KK AA=>?_);go_simp;obtain⟨w5,N8⟩:∃y,(wa.setCell ⟨w.heap.size+1,0,none⟩ (.slice ua n uc)).setCell ⟨w.heap.size+1,1,none⟩ (.int .i64 s)=y:=⟨_,rfl⟩
 have k5:Kp wa w5 (fun k=>k=w.heap.size+1):=N8▸(AJ _ _ _ _).trans (AJ _ _ _ _);have R5:Loc w5 (w.heap.size+1) #[.slice ua n uc,.int .i64 s]:=N8▸(Rq.set 0 _ rfl).set 1 _ rfl;have bs:Kp w1 w5 (fun k=>k=w.heap.size+1):=(Below.Bf ba _).trans k5;rw[N8];clear N8 q0 q1 FG hHeld;refine AA.out _ _ (K.out _ bs) (fun hHeld=>?_);clear AA KK hHeld;refine Bu ?_;have O5:OB w5 w1.heap.size (.slice ua n uc) xs:=(O.kp k5 (fun j hj e=>by have:=(tO j hj).1;omega)).mono bd.size;have r0:=R5.cell 0 rfl;have r1:=R5.cell 1 rfl;have sz5:=bs.size;clear K O Rq tO hown g7 bl bb ba PD P1 L1 R1;go_wp2;refine bodyPost_ret (v:=dv (.slice ua n uc) s) (by simp[results,Tryz.results89,go_sem,r0,r1]) rfl ?_;exact⟨_,rfl,O5.mono (by omega),Below.kp b1 bs b1.size (fun k hk=>by omega)⟩
theorem OI.one{w:World}{base:Nat}{u:Value}{xs:List Int}(h:OI w base u xs):u.oneCell'=true:=by
 obtain⟨a,c,rfl⟩:=h.form;rfl
theorem X8{ops:Array Oper}{rest:List Oper}{o:Oper}{a:Act}{Q:Exit→Act→World→Prop}{w:World}(hgd:o.guard=none)(s x:Operand)
 (ho:o.op= .call { callee:= .builtin .append,args:= #[s,x],argTypes:= #[42,42] }) (base N:Nat) (v:Value) (ps:List Pt) (vs:List Value) (g cp:Nat) (m:Int) (nm:ByteArray) (u:Value) (xs:List Int) (hs:a.eval s=v) (hx:a.eval x= .slice (some ⟨g,0,none⟩) 1 cp)
 (htab:De w base v ps vs) (c0:w.cell? ⟨g,0,none⟩=some (.int .i64 m)) (c1:w.cell? ⟨g,1,none⟩=some (.string nm)) (c2:w.cell? ⟨g,2,none⟩=some u) (hu:OI w N u xs)
 (hN:∀k,k<ps.length→∀b,(vs.getD k (.slice none 0 0)).ownBlock=some b→b<N) (hbN:base≤N) (hl:ps.length≤4194304) (hbase:base≤w.heap.size)
 (h:∀v' w',De w' base v' (ps++[(m,nm,xs)]) (vs++[u])→w.grownBy w' v.ownBlock→(v'.ownBlock=v.ownBlock∨v'.ownBlock=some w.heap.size)→wpList Tryz.prog ops Q rest (a.put o.dst v') w'):
 wpList Tryz.prog ops Q (o :: rest) a w:=by
 obtain⟨i0,hi,hz0,hz1,hz2⟩:=info_parts Tryz.infoPt
 have hn:∀j y,(Fv ((m,nm),u))[j]? =some y→w.cell? ((⟨g,0,none⟩:Addr).add j)=some y:=by
  intro j y hj
  match j,hj with
  |0,hj=>simp[Fv]at hj;subst hj;simpa[Addr.add]using c0
  |1,hj=>simp[Fv]at hj;subst hj;simpa[Addr.add]using c1
  |2,hj=>simp[Fv]at hj;subst hj;simpa[Addr.add]using c2
  |j+3,hj=>simp[Fv]at hj
 have hp:∀y ∈ Fv ((m,nm),u),y.oneCell'=true:=by
  intro y hy;simp[Fv]at hy;rcases hy with rfl|rfl|rfl
  ·rfl
  ·rfl
  exact hu.one
 refine wpList_append_own_at _ hgd s x 42 ho base 72 i0 (qv 0 ⟨#[]⟩ (.slice none 0 0)) 3 48 Tryz.underlying42 hi hz0 hz1 hz2 rfl (by decide) v ps.length (Bw ((ps.map QZ).zip vs)) hs htab.row ⟨g,0,none⟩ 1 cp (Fv ((m,nm),u)) hx (by simp[Fv]) hn hp (by unfold maxLen;omega) (by omega) hbase ?_;intro v' w' ho' hg' _ hb';exact h v' w' (nS htab hu hN hbN ho' hg') hg' hb'
theorem iX(w:World):De (w.alloc (.cells #[] 72)) w.heap.size (.slice (some ⟨w.heap.size,0,none⟩) 0 0) [] []:=by
 refine⟨rfl,?_,fun k hk=>by simp at hk,fun i j _ hj=>by simp at hj⟩;have:=World.ownsRow_lit (base:=w.heap.size) (e:=72) (size:=3) w #[] 0 Af (by unfold maxLen;omega) (by simp);simpa[Bw]using this
theorem sH{ps:List Pt}{k:Nat}(hk:k<ps.length):ps.take (k+1)=ps.take k++[ps.getD k BQ]:=by
 rw[List.take_succ_eq_append_getElem hk];simp[List.getElem?_eq_getElem hk]

theorem Ue(v:Value)(ps:List Pt)(w:World)(hl:ps.length≤4194304)(h:PL w v ps):
 Calls Tryz.prog 88 #[v] w fun e w'=>∃u,e= .returned u∧NK w' w.heap.size u ps∧Below w.heap.size w w':=by
 obtain⟨ao,ca,rfl⟩:=h.form;obtain⟨n,hn⟩:∃n,ps.length=n:=⟨_,rfl⟩
 have Hn:=hide hn;obtain⟨w0,hw0⟩:∃y,w.alloc (.cells #[] 72)=y:=⟨_,rfl⟩
 have B0:Below w.heap.size w w0:=hw0▸Ac _ _;have T0:De w0 w.heap.size (.slice (some ⟨w.heap.size,0,none⟩) 0 0) [] []:=hw0▸iX w;have H:=hide h;rw[hn]at hl H⊢;clear h hn;go_enter Tryz.func88,Tryz.ntmps88
 go_wp2
 go_loopw [3,4] (fun t i wr=>∃(k:Nat)(vs:List Value)(ta:Option Addr)(tc:Nat),k≤n∧i= .int .i64 k∧t= .slice ta k tc∧De wr w.heap.size (.slice ta k tc) (ps.take k) vs∧Below w.heap.size w wr) (fun _ i _=>n-(intOf i).toNat)
 case atStart=>exact⟨0,_,_,_,Nat.zero_le _,rfl,rfl,T0,B0⟩
 case round=>
  clear T0 B0 hw0;obtain⟨k,vs,ta,tc,hk,rfl,rfl,T,br⟩:=hrel;by_cases hlt:k<n
  ·have hkx:k<ps.length:=by have:=Hn.out;omega
   have HT:=hide (sH hkx);obtain⟨g,off,u,rfl,c0,c1,c2,ru⟩:=(H.out.below br).at k hkx;obtain⟨x,hx⟩:∃x,ps.getD k BQ=x:=⟨_,rfl⟩
   rw[hx]at c0 c1 ru HT;clear hx;obtain⟨m,s,xs⟩:=x;simp only at c0 c1 ru;have CP:=hide fun w h=>Na m s u xs w h;obtain⟨ua,uc,rfl⟩:=ru.form;have RU:=hide ru;have TT:=hide T;have hlk:(ps.take k).length=k:=by simp;omega
   clear ru T H;generalize xs.length=xl at *;go_wp2_with fail
   refine(CP.out _ RU.out).mono ?_;rintro e w2 ⟨u2,rfl,o2,b2⟩;have T2:=TT.out.below b2;have B2:=bu br b2;obtain⟨w3,hw3⟩:∃y,w2.alloc (.cells #[.int .i64 m,.string s,u2] 72)=y:=⟨_,rfl⟩
   have t3:Below w2.heap.size w2 w3:=hw3▸Ac _ _;have L3:Loc w3 w2.heap.size #[.int .i64 m,.string s,u2]:=hw3▸AB w2 _ _ rfl;have T3:=hide (T2.below t3);have O3:=hide (o2.below t3);have B3:=bu B2 t3;have hN:Hid (∀j,j<(ps.take k).length→∀b,(vs.getD j (.slice none 0 0)).ownBlock=some b→b<wr.heap.size):=hide fun j hj b hb=>(World.ownsRow.lt (TT.out.each j hj) b hb).2;have d0:=L3.cell 0 rfl;have d1:=L3.cell 1 rfl;have d2:=L3.cell 2 rfl;obtain⟨xa,xc,rfl⟩:=o2.form;have sr:=br.size;have s3:=B3.size;clear T2 B2 o2 b2 TT CP RU c0 c1 c2 t3 L3
   go_wp2_with (first
    | (at_builtin;clear hw3;refine X8 rfl _ _ rfl w.heap.size wr.heap.size (.slice ta k tc) (ps.take k) vs w2.heap.size 1 m s _ xs rfl rfl T3.out d0 d1 d2 O3.out hN.out sr (by omega) s3 ?_;intro v4 w4 qz hg4 _
       have r4:=World.ownsRow.lt T3.out.row;have B4:=B3.grown hg4 s3 (fun j e=>(r4 j e).1);obtain⟨a4,c4,hv4⟩:=NK.form ⟨_,qz⟩;rw[←HT.out]at hv4 qz;rw[show(ps.take (k+1)).length=k+1 by simp;omega]at hv4;subst hv4;have O4:=hide qz;clear T3 O3 B3 qz hg4 r4 d0 d1 d2 hN))
   go_roundw
   case rel=>exact⟨k+1,_,a4,c4,by omega,by go_num,by go_num,O4.out,B4⟩
   case measure=>simp[intOf];omega
  have hkn:ps.take k=ps:=List.take_of_length_le (by have:=Hn.out;omega);rw[hkn]at T;have T':=hide T;clear T hkn H;go_wp2;go_ret;exact⟨_,rfl,⟨_,T'.out⟩,br⟩
end
section
open Go Go.RowKit
variable [∀(a b c d:Int),Decidable (BK a b c d)] [∀(n f:Int),Decidable (A9 n f)]
theorem OG.more{T:TypeId}{m:Nat}{w w':World}{base:Nat}{v v':Value}{rows:List (List Value)}(h:OG T m w base v rows)(r:List Value)(hr:r.length=m)(ho:w'.ownsRow base T m v' (rows.length+1) (rows.flatten++r)):OG T m w' base v' (rows++[r]):=by
 refine⟨fun c hc=>?_,by simpa using ho⟩;rcases List.mem_append.1 hc with h1|h1
 ·exact h.each c h1
 rw[List.mem_singleton.1 h1];exact hr
theorem bT(b o j:Nat):((⟨b,o,none⟩:Addr).add j)=⟨b,o+j,none⟩:=by unfold Addr.add;split<;>simp_all
theorem Mk{ops:Array Oper}{o:Oper}{a:Act}{w:World}{K:Act→World→Prop}{Q:Exit→Act→World→Prop}{E:Prop}(hgd:o.guard=none)(s x:Operand)
 (ho:o.op= .call { callee:= .builtin .append,args:= #[s,x],argTypes:= #[44,44] }) (base:Nat) (v:Value) (rows:List (List Value)) (g cp:Nat) (cs:Array Value) (hs:a.eval s=v) (hx:a.eval x= .slice (some ⟨g,0,none⟩) 1 cp)
 (hog:OG 138 18 w base v rows) (L:Loc w g cs) (hc:cs.toList.length=18) (h1:∀u ∈ cs.toList,u.oneCell'=true) (hl:rows.length≤1048577) (hbase:base≤w.heap.size)
 (h:∀v' w',OG 138 18 w' base v' (rows++[cs.toList])→w.grownBy w' v.ownBlock→(v'.ownBlock=v.ownBlock∨v'.ownBlock=some w.heap.size)→K (a.put o.dst v') w'):
 if Region.wanted o (yielded ops a.tmps)=true then Oper.wp Tryz.prog o a w K Q else E:=by
 have hw:Region.wanted o (yielded ops a.tmps)=true:=by simp[Region.wanted,hgd]
 rw[if_pos hw];obtain⟨i0,hi,hz0,hz1,hz2⟩:=info_parts Tryz.infoPo
 have hn:∀j y,cs.toList[j]? =some y→w.cell? ((⟨g,0,none⟩:Addr).add j)=some y:=by
  intro j y hj;rw[bT,Nat.zero_add];exact L.cell j (by simpa using hj)
 obtain⟨v',w',hrun,r1,r2,_,r4⟩:=run_append_own_at (P:=Tryz.prog) w base 44 o.type 138 i0 (ZH 0 IQ (.slice none 0 0) (.slice none 0 0) (.slice none 0 0)) 18 224 Tryz.underlying44 hi hz0 hz1 hz2 rfl (by decide) v rows.length rows.flatten hog.row ⟨g,0,none⟩ 1 cp cs.toList (by rw[hc]) hn h1 (by unfold maxLen;omega) (by omega) hbase;unfold Oper.wp;simp[execOp,ho,resolve,invoke,builtin,hs,hx,hrun,Result.andThen];exact h v' w' (hog.more _ hc r1) r2 r4
end
section
open Go.RowKit
theorem Zd(m:ByteArray)(v:Int)(s:ByteArray)(ao:Option Addr)(ca:Nat)(xs:List Int)(w:World)(ha:RI w (.slice ao xs.length ca) xs):
 Calls Tryz.prog 162 #[bv m v s (.slice ao xs.length ca)] w fun e w'=>∃u,e= .returned (bv m v s u)∧OI w' w.heap.size u xs∧Below w.heap.size w w':=by
 have CP:=hide fun w h=>Ke v s (.slice ao xs.length ca) xs w h;obtain⟨w0,hw0,AO,LB,LZ,_⟩:=El w #[.string m,.int .i64 v,.string s,.slice ao xs.length ca] 71 #[.string ⟨#[]⟩,.int .i64 0,.string ⟨#[]⟩,.slice none 0 0] 71;have s0:w.heap.size+1+1≤w0.heap.size:=by rw[←hw0];simp
 have HA:=hide (ha.below AO);clear ha;go_enter Tryz.func162,Tryz.ntmps162
 go_upto_region 1 with fail
 clear hw0;have bA:Below w0.heap.size w0 w0.drew:=Below.drew (Below.refl _ _);refine wp_region_noPanic ?_;refine wp_region_held_drew (S:=fun w'=>w'.cell? ⟨w.heap.size,0,none⟩=some (.string m)∧w'.cell? ⟨w.heap.size,1,none⟩=some (.int .i64 v)∧w'.cell? ⟨w.heap.size,2,none⟩=some (.string s)∧w'.cell? ⟨w.heap.size,3,none⟩=some (.slice ao xs.length ca)) (by kernel_rfl) ⟨LB.cell 0 rfl,LB.cell 1 rfl,LB.cell 2 rfl,LB.cell 3 rfl⟩ (fun hHeld=>?_);refine tx 0 3 ?_;refine tx 2 5 ?_;refine tx 1 4 ?_;refine tx 3 6 ?_;refine rd 4 rfl (fun KK AA=>?_);go_simp;refine(CP.out _ (HA.out.below bA)).mono ?_;rintro e w1 ⟨u,rfl,o1,bb⟩;have b1:Below w0.heap.size w0 w1:=bu bA bb;have LB1:=LB.up b1;have LZ1:=LZ.up b1;have zz1:=b1.size;have t1:=World.ownsRow.lt o1;obtain⟨ua,uc,rfl⟩:=o1.form;have zd:=bA.size;clear hHeld bb bA;refine AA.out _ _ ⟨LB1.cell 0 rfl,LB1.cell 1 rfl,LB1.cell 2 rfl,LB1.cell 3 rfl⟩ (fun hHeld=>?_);clear AA KK;refine tx 5 8 ?_;have k4:=kp4 w1 (w.heap.size+1) (.string m) (.int .i64 v) (.string s) (.slice ua xs.length uc);have zC:=LB1.kp k4 (by omega);have z0:=LZ1.cell 0 rfl;have z1:=LZ1.cell 1 rfl;have z2:=LZ1.cell 2 rfl;have z3:=LZ1.cell 3 rfl;have fz:=LZ1.frozen;refine rd 6 rfl (fun KK AA=>?_);go_simp;clear hHeld;refine AA.out _ _ ⟨zC.cell 0 rfl,zC.cell 1 rfl,zC.cell 2 rfl,zC.cell 3 rfl⟩ (fun hHeld=>?_);clear AA KK hHeld;refine Bu ?_;go_wp2;refine bodyPost_ret (v:=bv m v s (.slice ua xs.length uc)) (by simp[results,Tryz.results162,go_sem,z0,z1,z2,z3]) rfl ?_;exact⟨_,rfl,(o1.kp k4 (fun j hj e=>by have:=t1 j hj;simp at this;omega)).mono (by simp;omega),Below.kp (bu AO b1) k4 (by have:=AO.size;omega) (fun k hk=>by omega)⟩
end
section
open Go Go.RowKit
variable [∀(a b c d:Int),Decidable (BK a b c d)]
theorem XH(t:MT)(ao bo co:Option Addr)(ca cb cc:Nat)(w:World)(ha:RI w (.slice ao t.bw.length ca) t.bw)(hb:RI w (.slice bo t.pw.length cb) t.pw)(hc:RI w (.slice co t.qw.length cc) t.qw):
 Calls Tryz.prog 122 #[F8 t (.slice ao t.bw.length ca) (.slice bo t.pw.length cb) (.slice co t.qw.length cc)] w fun e w'=>∃u v x,e= .returned (F8 t u v x)∧OM w' w.heap.size u v x t.bw t.pw t.qw∧Below w.heap.size w w':=by
 have T1:=hide fun w' h=>Zd t.bn t.bv t.bs ao ca t.bw w' h;have T2:=hide fun w' h=>Na t.pv t.ps (.slice bo t.pw.length cb) t.pw w' h;have T3:=hide fun w' h=>Ke t.qv t.qs (.slice co t.qw.length cc) t.qw w' h;have HA:=hide ha;have HB:=hide hb;have HC:=hide hc;clear ha hb hc;obtain⟨w0,hw0,AO,P,O,Cm⟩:=El w #[.int .i64 t.k,.int .i64 t.vw,.string t.bn,.int .i64 t.bv,.string t.bs,.slice ao t.bw.length ca,.int .i64 t.pv,.string t.ps,.slice bo t.pw.length cb,.int .i64 t.qv,.string t.qs,.slice co t.qw.length cc,.int .i64 t.wh,.int .i64 t.fr,.int .i64 t.tu,.int .i64 t.am,.int .i64 t.no] 75 #[.int .i64 0,.int .i64 0,.string ⟨#[]⟩,.int .i64 0,.string ⟨#[]⟩,.slice none 0 0,.int .i64 0,.string ⟨#[]⟩,.slice none 0 0,.int .i64 0,.string ⟨#[]⟩,.slice none 0 0,.int .i64 0,.int .i64 0,.int .i64 0,.int .i64 0,.int .i64 0] 75;go_enter Tryz.func122,Tryz.ntmps122
 go_wp2_with (first|(refine A7 [.string t.bn,.int .i64 t.bv,.string t.bs,.slice ao t.bw.length ca] (P.range 2 4 rfl) 71 _ rfl _ rfl rfl Tryz.underlying71 rfl (by kernel_rfl) ?_))
 clear hw0;refine(T1.out _ (HA.out.below AO)).mono ?_;rintro _ w1 ⟨u,rfl,oA,bb⟩;have AL:=bu AO bb;have Cj:=bb.size;replace P:=P.up bb;replace O:=O.up bb;clear AO bb;have toA:=World.ownsRow.lt oA;obtain⟨EG,D_,rfl⟩:=oA.form;go_upto_region 2 with(first|(refine En #[.string t.bn,.int .i64 t.bv,.string t.bs,.slice EG t.bw.length D_] (P.there 2 4 (by simp)) 71 rfl _ _ rfl rfl rfl (by kernel_rfl) (by simp[Value.oneCell']) ?_))
 obtain⟨w2,hw2⟩:∃y,(w1.setCells (w.heap.size) 2 [.string t.bn,.int .i64 t.bv,.string t.bs,.slice EG t.bw.length D_])=y:=⟨_,rfl⟩
 rw[hw2];have kN:Kp w1 w2 (fun k=>k=w.heap.size):=hw2▸AQ _ _ _ _;replace P:Loc w2 (w.heap.size) #[.int .i64 t.k,.int .i64 t.vw,.string t.bn,.int .i64 t.bv,.string t.bs,.slice EG t.bw.length D_,.int .i64 t.pv,.string t.ps,.slice bo t.pw.length cb,.int .i64 t.qv,.string t.qs,.slice co t.qw.length cc,.int .i64 t.wh,.int .i64 t.fr,.int .i64 t.tu,.int .i64 t.am,.int .i64 t.no]:=hw2▸(Loc.setCells (cs':=#[.int .i64 t.k,.int .i64 t.vw,.string t.bn,.int .i64 t.bv,.string t.bs,.slice EG t.bw.length D_,.int .i64 t.pv,.string t.ps,.slice bo t.pw.length cb,.int .i64 t.qv,.string t.qs,.slice co t.qw.length cc,.int .i64 t.wh,.int .i64 t.fr,.int .i64 t.tu,.int .i64 t.am,.int .i64 t.no]) [.string t.bn,.int .i64 t.bv,.string t.bs,.slice EG t.bw.length D_] 2 P rfl);replace O:=O.kp kN (by omega);replace oA:=oA.kp kN (fun j hj e=>by have:=toA j hj;omega);have Ah:=Below.kp AL kN AL.size (fun k hk=>by omega);have Ej:=kN.size;clear hw2 kN AL;go_wp2_with (first|(refine A7 [.int .i64 t.pv,.string t.ps,.slice bo t.pw.length cb] (P.range 6 3 rfl) 72 _ rfl _ rfl rfl Tryz.underlying72 rfl (by kernel_rfl) ?_))
 refine(T2.out _ (HB.out.below Ah)).mono ?_;rintro _ w3 ⟨u,rfl,oB,bb⟩;have BH:=bu Ah bb;have IL:=bb.size;replace P:=P.up bb;replace O:=O.up bb;replace oA:=oA.below bb;clear Ah bb;have Bj:=World.ownsRow.lt oB;obtain⟨GD,F9,rfl⟩:=oB.form;go_upto_region 3 with(first|(refine En #[.int .i64 t.pv,.string t.ps,.slice GD t.pw.length F9] (P.there 6 3 (by simp)) 72 rfl _ _ rfl rfl rfl (by kernel_rfl) (by simp[Value.oneCell']) ?_))
 obtain⟨w4,hw4⟩:∃y,(w3.setCells (w.heap.size) 6 [.int .i64 t.pv,.string t.ps,.slice GD t.pw.length F9])=y:=⟨_,rfl⟩
 rw[hw4];have kN:Kp w3 w4 (fun k=>k=w.heap.size):=hw4▸AQ _ _ _ _;replace P:Loc w4 (w.heap.size) #[.int .i64 t.k,.int .i64 t.vw,.string t.bn,.int .i64 t.bv,.string t.bs,.slice EG t.bw.length D_,.int .i64 t.pv,.string t.ps,.slice GD t.pw.length F9,.int .i64 t.qv,.string t.qs,.slice co t.qw.length cc,.int .i64 t.wh,.int .i64 t.fr,.int .i64 t.tu,.int .i64 t.am,.int .i64 t.no]:=hw4▸(Loc.setCells (cs':=#[.int .i64 t.k,.int .i64 t.vw,.string t.bn,.int .i64 t.bv,.string t.bs,.slice EG t.bw.length D_,.int .i64 t.pv,.string t.ps,.slice GD t.pw.length F9,.int .i64 t.qv,.string t.qs,.slice co t.qw.length cc,.int .i64 t.wh,.int .i64 t.fr,.int .i64 t.tu,.int .i64 t.am,.int .i64 t.no]) [.int .i64 t.pv,.string t.ps,.slice GD t.pw.length F9] 6 P rfl);replace O:=O.kp kN (by omega);replace oA:=oA.kp kN (fun j hj e=>by have:=toA j hj;omega);replace oB:=oB.kp kN (fun j hj e=>by have:=Bj j hj;omega);have Cr:=Below.kp BH kN BH.size (fun k hk=>by omega);have Nq:=kN.size;clear hw4 kN BH;go_wp2_with (first|(refine A7 [.int .i64 t.qv,.string t.qs,.slice co t.qw.length cc] (P.range 9 3 rfl) 38 _ rfl _ rfl rfl Tryz.underlying38 rfl (by kernel_rfl) ?_))
 refine(T3.out _ (HC.out.below Cr)).mono ?_;rintro _ w5 ⟨u,rfl,oC,bb⟩;have Fj:=bu Cr bb;have Yt:=bb.size;replace P:=P.up bb;replace O:=O.up bb;replace oA:=oA.below bb;replace oB:=oB.below bb;clear Cr bb;have toC:=World.ownsRow.lt oC;obtain⟨FI,FH,rfl⟩:=oC.form;go_upto_region 4 with(first|(refine En #[.int .i64 t.qv,.string t.qs,.slice FI t.qw.length FH] (P.there 9 3 (by simp)) 38 rfl _ _ rfl rfl rfl (by kernel_rfl) (by simp[Value.oneCell']) ?_))
 obtain⟨w6,Oi⟩:∃y,(w5.setCells (w.heap.size) 9 [.int .i64 t.qv,.string t.qs,.slice FI t.qw.length FH])=y:=⟨_,rfl⟩
 rw[Oi];have kN:Kp w5 w6 (fun k=>k=w.heap.size):=Oi▸AQ _ _ _ _;replace P:Loc w6 (w.heap.size) #[.int .i64 t.k,.int .i64 t.vw,.string t.bn,.int .i64 t.bv,.string t.bs,.slice EG t.bw.length D_,.int .i64 t.pv,.string t.ps,.slice GD t.pw.length F9,.int .i64 t.qv,.string t.qs,.slice FI t.qw.length FH,.int .i64 t.wh,.int .i64 t.fr,.int .i64 t.tu,.int .i64 t.am,.int .i64 t.no]:=Oi▸(Loc.setCells (cs':=#[.int .i64 t.k,.int .i64 t.vw,.string t.bn,.int .i64 t.bv,.string t.bs,.slice EG t.bw.length D_,.int .i64 t.pv,.string t.ps,.slice GD t.pw.length F9,.int .i64 t.qv,.string t.qs,.slice FI t.qw.length FH,.int .i64 t.wh,.int .i64 t.fr,.int .i64 t.tu,.int .i64 t.am,.int .i64 t.no]) [.int .i64 t.qv,.string t.qs,.slice FI t.qw.length FH] 9 P rfl);replace O:=O.kp kN (by omega);replace oA:=oA.kp kN (fun j hj e=>by have:=toA j hj;omega);replace oB:=oB.kp kN (fun j hj e=>by have:=Bj j hj;omega);replace oC:=oC.kp kN (fun j hj e=>by have:=toC j hj;omega);have JD:=Below.kp Fj kN Fj.size (fun k hk=>by omega);have rz:=kN.size;clear Oi kN Fj;go_wp2_with (first|(refine Al P 75 _ rfl _ rfl rfl Tryz.underlying75 rfl (by kernel_rfl) ?_)|(refine BL O 75 #[.int .i64 t.k,.int .i64 t.vw,.string t.bn,.int .i64 t.bv,.string t.bs,.slice EG t.bw.length D_,.int .i64 t.pv,.string t.ps,.slice GD t.pw.length F9,.int .i64 t.qv,.string t.qs,.slice FI t.qw.length FH,.int .i64 t.wh,.int .i64 t.fr,.int .i64 t.tu,.int .i64 t.am,.int .i64 t.no] rfl _ _ rfl rfl rfl (by kernel_rfl) rfl (by simp[Value.oneCell']) ?_))
 obtain⟨wE,Bh⟩:∃Co,w6.setRow (w.heap.size+1) #[.int .i64 t.k,.int .i64 t.vw,.string t.bn,.int .i64 t.bv,.string t.bs,.slice EG t.bw.length D_,.int .i64 t.pv,.string t.ps,.slice GD t.pw.length F9,.int .i64 t.qv,.string t.qs,.slice FI t.qw.length FH,.int .i64 t.wh,.int .i64 t.fr,.int .i64 t.tu,.int .i64 t.am,.int .i64 t.no]=Co:=⟨_,rfl⟩
 have kN:Kp w6 wE (fun k=>k=w.heap.size+1):=Bh▸CG _ _ _;replace O:Loc wE (w.heap.size+1) #[.int .i64 t.k,.int .i64 t.vw,.string t.bn,.int .i64 t.bv,.string t.bs,.slice EG t.bw.length D_,.int .i64 t.pv,.string t.ps,.slice GD t.pw.length F9,.int .i64 t.qv,.string t.qs,.slice FI t.qw.length FH,.int .i64 t.wh,.int .i64 t.fr,.int .i64 t.tu,.int .i64 t.am,.int .i64 t.no]:=Bh▸O.row;replace P:=P.kp kN (by omega);replace oA:=oA.kp kN (fun j hj e=>by have:=toA j hj;omega);replace oB:=oB.kp kN (fun j hj e=>by have:=Bj j hj;omega);replace oC:=oC.kp kN (fun j hj e=>by have:=toC j hj;omega);have FC:=Below.kp JD kN JD.size (fun k hk=>by omega);have Oa:=kN.size;rw[Bh];clear Bh kN JD;refine bodyPost_ret (v:=F8 t (.slice EG t.bw.length D_) (.slice GD t.pw.length F9) (.slice FI t.qw.length FH)) (DL Tryz.results122 _ O rfl Tryz.underlying75 rfl (by kernel_rfl)) rfl ?_;exact⟨_,_,_,rfl,⟨w1.heap.size,w3.heap.size,oA.mono (by omega),fun j hj=>(toA j hj).2,oB.mono (by omega),fun j hj=>(Bj j hj).2,oC.mono (by omega),by omega,by omega⟩,FC⟩
end
section
open Go Go.RowKit
variable [∀(a b c d:Int),Decidable (BK a b c d)] [∀(n f:Int),Decidable (A9 n f)]
def OJ(w:World)(lo:Nat)(ps:List Ck)(rows:List (List Value))(g:Option Nat)(k:Nat):Prop:=∀j,j<k→∃a b c,rows.getD j []=Hd (ps.getD j AX).1 (ps.getD j AX).2 a b c∧OM w lo a b c (ps.getD j AX).2.bw (ps.getD j AX).2.pw (ps.getD j AX).2.qw∧∀i,(a.ownBlock=some i∨b.ownBlock=some i∨c.ownBlock=some i)→g≠some i
theorem OJ.below{w w':World}{lo k:Nat}{ps:List Ck}{rows:List (List Value)}{g:Option Nat}(h:OJ w lo ps rows g k)(hb:Below w.heap.size w w'):OJ w' lo ps rows g k:=fun j hj=>by
 obtain⟨a,b,c,e,m,x⟩:=h j hj;exact⟨a,b,c,e,m.below hb,x⟩
theorem OJ.more{w w':World}{lo k:Nat}{ps:List Ck}{rows:List (List Value)}{g g':Option Nat}(h:OJ w lo ps rows g k)(hr:rows.length=k)(hk:Kp w w' (fun i=>g=some i))(hg:g'=g∨g'=some w.heap.size){a b c:Value}
 (m:OM w lo a b c (ps.getD k AX).2.bw (ps.getD k AX).2.pw (ps.getD k AX).2.qw) (x:∀i,(a.ownBlock=some i∨b.ownBlock=some i∨c.ownBlock=some i)→g≠some i):
 OJ w' lo ps (rows++[Hd (ps.getD k AX).1 (ps.getD k AX).2 a b c]) g' (k+1):=fun j hj=>by
 have step:∀ {p q r:Value}{xs ys zs:List Int},OM w lo p q r xs ys zs→(∀i,(p.ownBlock=some i∨q.ownBlock=some i∨r.ownBlock=some i)→g≠some i)→OM w' lo p q r xs ys zs∧∀i,(p.ownBlock=some i∨q.ownBlock=some i∨r.ownBlock=some i)→g'≠some i:=by
  intro p q r xs ys zs hm hx;refine⟨hm.kp hk (fun i _ _ h3=>hx i h3),fun i hi=>?_⟩;rcases hg with rfl|rfl
  ·exact hx i hi
  obtain⟨l1,l2,l3⟩:=hm.lt;intro e;cases e
  rcases hi with hi|hi|hi
  ·have:=(l1 _ hi).2;omega
  ·have:=(l2 _ hi).2;omega
  have:=(l3 _ hi).2;omega
 by_cases e:j<k
 ·obtain⟨p,q,r,e1,e2,e3⟩:=h j e;obtain⟨s1,s2⟩:=step e2 e3;exact⟨p,q,r,by rw[List.getD_eq_getElem?_getD,List.getElem?_append_left (by omega),←List.getD_eq_getElem?_getD];exact e1,s1,s2⟩
 obtain rfl:j=k:=by omega
 obtain⟨s1,s2⟩:=step m x;exact⟨a,b,c,by rw[List.getD_eq_getElem?_getD,List.getElem?_append_right (by omega),hr,Nat.sub_self];rfl,s1,s2⟩
theorem UO{w:World}{b o:Nat}{c:Value}{cs:List Value}(h:w.rangeAt b o (c :: cs)):w.rangeAt b (o+1) cs:=fun j v hv=>by
 have:=h (j+1) v (by simpa using hv)
 rwa [show o+(j+1)=o+1+j by omega]at this
def Q8(w:World)(base:Nat)(v:Value)(ps:List Ck):Prop:=∃rows,OG 138 18 w base v rows∧rows.length=ps.length∧OJ w base ps rows v.ownBlock ps.length
theorem OJ.kp{w w':World}{lo k:Nat}{ps:List Ck}{rows:List (List Value)}{g:Option Nat}{X:Nat→Prop}(h:OJ w lo ps rows g k)(k':Kp w w' X)(hX:∀j,lo≤j→¬X j):OJ w' lo ps rows g k:=fun j hj=>by
 obtain⟨a,b,c,e,m,x⟩:=h j hj;exact⟨a,b,c,e,m.kp k' (fun i h1 _ _=>hX i h1),x⟩
theorem Q8.below{w w':World}{base:Nat}{v:Value}{ps:List Ck}(h:Q8 w base v ps)(hb:Below w.heap.size w w'):Q8 w' base v ps:=by
 obtain⟨rows,g,l,a⟩:=h;exact⟨rows,g.below hb,l,a.below hb⟩
theorem Q8.kp{w w':World}{base:Nat}{v:Value}{ps:List Ck}{X:Nat→Prop}(h:Q8 w base v ps)(k:Kp w w' X)(hX:∀j,base≤j→¬X j):Q8 w' base v ps:=by
 obtain⟨rows,g,l,a⟩:=h;exact⟨rows,g.kp k (fun j e=>hX j (g.lt j e).1),l,a.kp k hX⟩
theorem Q8.y8{w:World}{base:Nat}{v:Value}{ps:List Ck}(h:Q8 w base v ps):VX w base v ps:=by
 obtain⟨rows,g,l,a⟩:=h;exact⟨rows,g,l,fun j hj=>by obtain⟨a1,b1,c1,e,m,_⟩:=a j hj;exact⟨a1,b1,c1,e,m⟩⟩
theorem Q8.form{w:World}{base:Nat}{v:Value}{ps:List Ck}(h:Q8 w base v ps):∃ao ca,v= .slice ao ps.length ca:=h.y8.form
theorem nV(w:World):OG 138 18 (w.alloc (.cells #[] 138)) w.heap.size (.slice (some ⟨w.heap.size,0,none⟩) 0 0) []:=by
 refine⟨fun c hc=>by simp at hc,?_⟩;have:=World.ownsRow_lit (base:=w.heap.size) (e:=138) (size:=18) w #[] 0 Af (by unfold maxLen;omega) (by simp);simpa using this

theorem Uc(v:Value)(ps:List Ck)(w:World)(hl:ps.length≤1048577)(h:K8 w v ps):
 Calls Tryz.prog 90 #[v] w fun e w'=>∃u,e= .returned u∧Q8 w' w.heap.size u ps∧Below w.heap.size w w':=by
 obtain⟨ao,ca,rfl⟩:=h.form;obtain⟨n,hn⟩:∃n,ps.length=n:=⟨_,rfl⟩
 have Hn:=hide hn;obtain⟨w0,hw0⟩:∃y,w.alloc (.cells #[] 138)=y:=⟨_,rfl⟩
 have B0:Below w.heap.size w w0:=hw0▸Ac _ _;have T0:OG 138 18 w0 w.heap.size (.slice (some ⟨w.heap.size,0,none⟩) 0 0) []:=hw0▸nV w;have H:=hide h;rw[hn]at hl H⊢;clear h hn;go_enter Tryz.func90,Tryz.ntmps90
 go_wp2
 go_loopw [3,4] (fun t i wr=>∃(k:Nat)(R:List (List Value))(ta:Option Addr)(tc:Nat),k≤n∧i= .int .i64 k∧t= .slice ta k tc∧R.length=k∧OG 138 18 wr w.heap.size (.slice ta k tc) R∧OJ wr w.heap.size ps R (Value.slice ta k tc).ownBlock k∧Below w.heap.size w wr) (fun _ i _=>n-(intOf i).toNat)
 case atStart=>exact⟨0,[],_,_,Nat.zero_le _,rfl,rfl,rfl,T0,fun j hj=>by omega,B0⟩
 case round=>
  clear T0 B0 hw0;obtain⟨k,R,ta,tc,hk,rfl,rfl,hR,T,A,br⟩:=hrel;by_cases hlt:k<n
  ·have hkx:k<ps.length:=by have:=Hn.out;omega
   obtain⟨g,off,cs,rfl,_,c1,a,b,c,e,ra,rb,rc⟩:=RG.at H.out k hkx;subst e;obtain⟨x,hx⟩:∃x,ps.getD k AX=x:=⟨_,rfl⟩
   have Hx:=hide hx;rw[hx]at c1 ra rb rc;clear hx;obtain⟨m,t⟩:=x;simp only at c1 ra rb rc;have hgX:(Value.slice ta k tc).ownBlock≠some g:=fun e=>by have h1:=(OG.lt T g e).1;have h2:=Ch c1 (by simp);omega
   replace c1:=Aa c1 br (Ch c1 (by simp));replace ra:=ra.below br;replace rb:=rb.below br;replace rc:=rc.below br;obtain⟨oa,ka,rfl⟩:=ra.form;obtain⟨ob,kb,rfl⟩:=rb.form;obtain⟨oc,kc,rfl⟩:=rc.form;have TP:=hide fun w h1 h2 h3=>XH t oa ob oc ka kb kc w h1 h2 h3;have RA:=hide ra;have RB:=hide rb;have RC:=hide rc;have HT:=hide T;have HA:=hide A;have kV:=hide hR;have c0:=Aj c1 0 rfl;have cm:=UO c1;rw[Nat.add_zero]at c0;generalize t.bw.length=xl at *;generalize t.pw.length=yl at *;generalize t.qw.length=zl at *;clear H ra rb rc T A hR c1;have sr:=br.size;have K:Hid (∀w',Kp wr w' (fun j=>(Value.slice ta k tc).ownBlock=some j)→(fun w'=>w'.cell? ⟨g,off+k*18,none⟩=some (.int .i64 m)∧w'.rangeAt g (off+k*18+1) [.int .i64 t.k,.int .i64 t.vw,.string t.bn,.int .i64 t.bv,.string t.bs,.slice oa xl ka,.int .i64 t.pv,.string t.ps,.slice ob yl kb,.int .i64 t.qv,.string t.qs,.slice oc zl kc,.int .i64 t.wh,.int .i64 t.fr,.int .i64 t.tu,.int .i64 t.am,.int .i64 t.no]) w'):=hide fun w' hk'=>⟨hk'.cell c0 hgX,QP cm hk' hgX⟩
   clear c0 cm hgX;go_upto_region 5 with fail
   have bA:Below wr.heap.size wr wr.drew:=Below.drew (Below.refl _ _);refine wp_region_noPanic ?_;refine wp_region_held_drew (S:=fun w'=>w'.cell? ⟨g,off+k*18,none⟩=some (.int .i64 m)∧w'.rangeAt g (off+k*18+1) [.int .i64 t.k,.int .i64 t.vw,.string t.bn,.int .i64 t.bv,.string t.bs,.slice oa xl ka,.int .i64 t.pv,.string t.ps,.slice ob yl kb,.int .i64 t.qv,.string t.qs,.slice oc zl kc,.int .i64 t.wh,.int .i64 t.fr,.int .i64 t.tu,.int .i64 t.am,.int .i64 t.no]) (by kernel_rfl) (K.out _ (Below.Bf bA _)) (fun hHeld=>?_);refine tx 0 12 ?_;refine tx 1 13 ?_;refine tx 2 14 ?_;refine tx 6 18 ?_;refine tx 7 19 ?_;refine tx 3 15 ?_;refine tx 8 20 ?_;refine tx 4 16 ?_;refine tx 9 21 ?_;refine tx 5 17 ?_;refine take_at (i:=10) (d:=22) (v:= .agg #[.int .i64 t.k,.int .i64 t.vw,.string t.bn,.int .i64 t.bv,.string t.bs,.slice oa xl ka,.int .i64 t.pv,.string t.ps,.slice ob yl kb,.int .i64 t.qv,.string t.qs,.slice oc zl kc,.int .i64 t.wh,.int .i64 t.fr,.int .i64 t.tu,.int .i64 t.am,.int .i64 t.no]) rfl rfl (by kernel_rfl) (by kernel_rfl) (by kernel_rfl) (fun _ _ _ h=>h) ?_ (by assumption) ?_
   ·exact BA rfl 75 _ rfl rfl [.int .i64 t.k,.int .i64 t.vw,.string t.bn,.int .i64 t.bv,.string t.bs,.slice oa xl ka,.int .i64 t.pv,.string t.ps,.slice ob yl kb,.int .i64 t.qv,.string t.qs,.slice oc zl kc,.int .i64 t.wh,.int .i64 t.fr,.int .i64 t.tu,.int .i64 t.am,.int .i64 t.no] _ (fun w h=>h.2) Tryz.underlying75 rfl (by kernel_rfl)
   simp only[pU];refine rd 11 rfl (fun KK AA=>?_);go_simp;refine(TP.out _ (RA.out.below bA) (RB.out.below bA) (RC.out.below bA)).mono ?_;rintro e w2 ⟨u,v,x,rfl,m2,bb⟩;have b2:Below wr.heap.size wr w2:=bu bA bb
   have hN:Hid (∀i,(u.ownBlock=some i∨v.ownBlock=some i∨x.ownBlock=some i)→(Value.slice ta k tc).ownBlock≠some i):=hide fun i hi e=>by
    have h1:=(OG.lt HT.out i e).2;have h2:=bA.size;obtain⟨l1,l2,l3⟩:=m2.lt;rcases hi with hi|hi|hi
    ·have:=(l1 _ hi).1;omega
    ·have:=(l2 _ hi).1;omega
    have:=(l3 _ hi).1;omega
   obtain⟨aX,kX,bX,lX,cX,nX,rfl,rfl,rfl⟩:=m2.form;have M2:=hide (m2.mono (Nat.le_trans sr bA.size));clear m2 bb bA hHeld;refine AA.out _ _ (K.out _ (Below.Bf b2 _)) (fun hHeld=>?_);clear AA KK;have s2:=b2.size;refine tx 12 24 ?_;refine rd 13 rfl (fun KK AA=>?_);go_simp;obtain⟨w3,hw3⟩:∃y,w2.alloc (.cells #[.int .i64 m,.int .i64 t.k,.int .i64 t.vw,.string t.bn,.int .i64 t.bv,.string t.bs,.slice aX t.bw.length kX,.int .i64 t.pv,.string t.ps,.slice bX t.pw.length lX,.int .i64 t.qv,.string t.qs,.slice cX t.qw.length nX,.int .i64 t.wh,.int .i64 t.fr,.int .i64 t.tu,.int .i64 t.am,.int .i64 t.no] 138)=y:=⟨_,rfl⟩
   rw[hw3];have t3:Below w2.heap.size w2 w3:=hw3▸Ac _ _;have b3:Below wr.heap.size wr w3:=bu b2 t3;have L3:Hid (Loc w3 w2.heap.size #[.int .i64 m,.int .i64 t.k,.int .i64 t.vw,.string t.bn,.int .i64 t.bv,.string t.bs,.slice aX t.bw.length kX,.int .i64 t.pv,.string t.ps,.slice bX t.pw.length lX,.int .i64 t.qv,.string t.qs,.slice cX t.qw.length nX,.int .i64 t.wh,.int .i64 t.fr,.int .i64 t.tu,.int .i64 t.am,.int .i64 t.no]):=hide (hw3▸AB w2 _ _ rfl);have M3:=hide (M2.out.below t3);clear M2 hw3 t3 hHeld;refine AA.out _ _ (K.out _ (Below.Bf b3 _)) (fun hHeld=>?_);clear AA KK;have s3:=b3.size;refine rd 14 rfl (fun KK AA=>?_);refine Mk rfl (.tmp 12) (.tmp 25) rfl w.heap.size (.slice ta k tc) R w2.heap.size 1 #[.int .i64 m,.int .i64 t.k,.int .i64 t.vw,.string t.bn,.int .i64 t.bv,.string t.bs,.slice aX t.bw.length kX,.int .i64 t.pv,.string t.ps,.slice bX t.pw.length lX,.int .i64 t.qv,.string t.qs,.slice cX t.qw.length nX,.int .i64 t.wh,.int .i64 t.fr,.int .i64 t.tu,.int .i64 t.am,.int .i64 t.no] rfl rfl (HT.out.below b3) L3.out rfl (by intro u hu;simp at hu;rcases hu with rfl|rfl|rfl|rfl|rfl|rfl|rfl|rfl|rfl|rfl|rfl|rfl|rfl|rfl|rfl|rfl|rfl|rfl<;>rfl) (by have:=kV.out;omega) (by omega) ?_;intro v4 w4 qz hg4 hb4;have r4:=OG.lt HT.out;have K4:=hide (Bo hg4);have K4h:=K4;have bb:Below w.heap.size w3 w4:=(Below.refl _ _).grown hg4 (by omega) (fun j e=>(r4 j e).1);have B4:=hide (Below.trans (br.trans (b3.mono sr)) bb);obtain⟨a4,c4,hv4⟩:=qz.form;rw[List.length_append,kV.out]at hv4;subst hv4;have A3:=hide (HA.out.below b3);have O4:=hide qz;have vC:=hide hb4;have k4:Kp wr w4 (fun j=>(Value.slice ta k tc).ownBlock=some j):=(Below.Bf b3 _).trans K4.out;clear hHeld;refine AA.out _ _ (K.out _ k4) (fun hHeld=>?_);clear AA KK K K4 b2 b3 bb;change wpAnyH _ _ _ _ _ _ _ (Act.put _ (some 26) _) _;simp only[pU];refine tx 15 3 ?_;clear hHeld;refine Bu ?_;go_wp2
   go_roundw
   case rel=>
    have hR:=kV.out;refine⟨k+1,_,a4,c4,by omega,by go_num,by go_num,by simp[hR],O4.out,?_,B4.out⟩;have:=OJ.more A3.out hR K4h.out vC.out (by rw[Hx.out];exact M3.out) hN.out;rw[Hx.out]at this;exact this
   case measure=>simp[intOf];omega
  have hkn:k=ps.length:=by have:=Hn.out;omega
  have T':=hide T;have A':=hide A;have kV:=hide hR;have Hk:=hide hkn;clear T A H hR hkn;go_wp2;go_ret;exact⟨_,rfl,⟨R,T'.out,by rw[kV.out,Hk.out],by rw[←Hk.out];exact A'.out⟩,br⟩
theorem Ud(v:Value)(ps:List Ck)(w:World)(hl:ps.length≤1048577)(h:K8 w v ps):
 Calls Tryz.prog 90 #[v] w fun e w'=>∃u,e= .returned u∧VX w' w.heap.size u ps∧Below w.heap.size w w':=
 (Uc v ps w hl h).mono fun _ _ ⟨u,e,o,b⟩=>⟨u,e,o.y8,b⟩
end
end Go.Proofs.YtcjmcgolgbkknaaGreatDoor
