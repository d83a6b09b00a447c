/- Lemmas; their conditions stand in each statement. -/
import Derived.Test.YtkmnfeihjjccmaaGreatDoorTLAT
set_option maxRecDepth 100000
set_option maxHeartbeats 8000000
set_option linter.unusedSectionVars false
namespace Go.Proofs.YtkmnfeihjjccmaaGreatDoor
section
open Go.RowKit
variable [∀(a b c d:Int),Decidable (BD a b c d)]
variable [∀(a b c d:Nat),Decidable (Dj a b c d)]
theorem mM{w:World}{B B':Nat}{v:Value}{xs:List ByteArray}(h:OS w B v xs)(hB:B'≤B):OS w B' v xs:=by
 refine⟨h.1,?_⟩
 rcases h.2 with h|⟨g,cap,cur,h1,h2,h3⟩
 ·exact .inl h
 exact .inr ⟨g,cap,cur,h1,by omega,h3⟩

theorem aC(s:ByteArray)(w:World)(hs:s.size≤33554432):
 Calls Tryz.prog 143 #[.string s] w fun e w'=>∃v,e= .returned (.tuple #[v,.bool (Cb s).isSome])∧OT w' w.heap.size v ((Cb s).getD [])∧Below w.heap.size w w':=by
 obtain⟨i0,hi,hz0,hz1,hz2⟩:=info_parts Tryz.infoTx
 unfold Cb
 by_cases hz:s=⟨#[]⟩
 ·rw[if_pos hz]
  subst hz
  go_enter Tryz.func143,Tryz.ntmps143
  go_wp2
  go_ret2
  exact⟨_,rfl,World.ownsRow_lit w #[] 0 (Nat.le_refl _) (by unfold maxLen;omega) rfl,(Below.refl _ _).alloc (Nat.le_refl _) _⟩
 rw[if_neg hz]
 have hne:=EO hz
 have hne2:(s.toList==[])=false:=by
  rw[beq_eq_false_iff_ne];intro e;apply hz;apply ByteArray.ext;apply Array.toList_inj.1;rw[ByteArray.toList_eq]at e;exact e
 have SP:=hide fun w=>JL s 44 w hs
 have hpn:0<(Ah s 44).length:=by simp[Ah]
 have hpl:=Ha s 44
 have hpz:Hid (∀p ∈ Ah s 44,p.size≤33554432):=fun p hp=>Nat.le_trans (JX s 44 p hp) hs
 generalize Ah s 44=ps at *
 clear hz
 go_enter Tryz.func143,Tryz.ntmps143
 go_wp2_with fail
 refine(SP.out _).mono ?_
 rintro e w1 ⟨vp,rfl,op',b1'⟩
 have b1:Below w.heap.size w w1:=((Below.refl _ _).alloc (Nat.le_refl _) _).trans (b1'.mono (by simp))
 have op:OS w1 w.heap.size vp ps:=mM op' (by simp)
 have OL:=hide (OT.below (show OT _ w.heap.size _ [] from World.ownsRow_lit w #[] 0 (Nat.le_refl _) (by unfold maxLen;omega) rfl) b1')
 clear op' b1'
 rcases op.2 with⟨_,h0⟩|⟨gp,pc,wJ,rfl,_⟩
 ·omega
 have OP:=hide op
 clear op SP
 go_wp2
 go_loopw [4,6] (fun v i wr=>∃(k:Nat)(ys:List T4),k≤ps.length∧i= .int .i64 k∧ys.length=k∧Hid (CJ (ps.take k)=some ys)∧OT wr w.heap.size v ys∧OS wr w.heap.size (.slice (some ⟨gp,0,none⟩) ps.length pc) ps∧Below w.heap.size w wr) (fun _ i _=>ps.length-(intOf i).toNat)
 case atStart=>exact⟨0,[],by omega,rfl,rfl,rfl,OL.out,OP.out,b1⟩
 case round=>
  obtain⟨k,ys,hk,rfl,hyl,HA,ho,hp,hb⟩:=hrel
  have hsz:=hb.size
  by_cases hlt:k<ps.length
  ·have hc:=Mt hp rfl k hlt
   have hm:=hpz.out _ (O9 hlt)
   have HT:=hide (Iz ps k hlt)
   have CT:=hide fun w=>iA (ps.getD k ByteArray.empty) w hm
   have HB:=hide (And.intro ho (And.intro hp hb))
   clear ho hp hb hm
   generalize ps.getD k ByteArray.empty=p at *
   cases ht:C9 p.data.toList with
   |none=>
    have HN:Hid (CJ ps=none):=PX (k+1) (by rw[HT.out,Hy,ht];cases CJ (ps.take k)<;>rfl)
    rw[ht]at CT
    clear ht HT HA
    go_wp2_with fail
    refine(CT.out _).mono ?_
    rintro e w2 ⟨rfl,b2⟩
    have hw:Below w.heap.size w (w2.alloc (.cells #[.int .i64 0,.int .i64 0,.int .i64 0,.int .i64 0] 63)):=(HB.out.2.2.trans (b2.mono hsz)).alloc (by have:=b2.size;omega) _
    unfold QM
    go_wp2
    go_ret2
    exact⟨_,by rw[HN.out];rfl,by rw[HN.out];have hq:=World.ownsRow_lit (base:=w.heap.size) (e:=63) (size:=4) (w2.alloc (.cells #[.int .i64 0,.int .i64 0,.int .i64 0,.int .i64 0] 63)) #[] 0 hw.size (by unfold maxLen;omega) (by simp);simpa[OT,Av]using hq,hw.alloc hw.size _⟩
   | some q=>
    obtain⟨a,b,c,d⟩:=q
    have HN:Hid (CJ (ps.take (k+1))=some (ys++[((a:Int),(b:Int),(c:Int),(d:Int))])):=by
     show CJ _=_
     rw[HT.out,Hy,HA.out,ht];rfl
    rw[ht]at CT
    clear ht HT HA
    go_wp2_with fail
    refine(CT.out _).mono ?_
    rintro e w2 ⟨rfl,b2⟩
    obtain⟨ho,hp,hb⟩:=HB.out
    have s2:=b2.size
    have ho2:=KT (KT (ho.below b2) (.cells #[.int .i64 a,.int .i64 b,.int .i64 c,.int .i64 d] 63)) (.cells #[.int .i64 a,.int .i64 b,.int .i64 c,.int .i64 d] 63)
    have hp2:=os_alloc (os_alloc (hp.below b2) (.cells #[.int .i64 a,.int .i64 b,.int .i64 c,.int .i64 d] 63)) (.cells #[.int .i64 a,.int .i64 b,.int .i64 c,.int .i64 d] 63)
    have hb2:Below w.heap.size w ((w2.alloc (.cells #[.int .i64 a,.int .i64 b,.int .i64 c,.int .i64 d] 63)).alloc (.cells #[.int .i64 a,.int .i64 b,.int .i64 c,.int .i64 d] 63)):=((hb.trans (b2.mono hsz)).alloc (by omega) _).alloc (by simp;omega) _
    have jM:=pK hp2 ho2
    clear ho hp hb HB b2 hc
    unfold QM
    go_wp2_with (first
     |(at_builtin;refine wpList_append_own _ rfl _ _ 49 rfl w.heap.size 63 i0 (G9 0 0 0 0) 4 32 Tryz.underlying49 hi hz0 hz1 hz2 rfl (by decide) _ _ _ rfl ho2 ⟨w2.heap.size+1,0,none⟩ 1 1 (EL ((a:Int),(b:Int),(c:Int),(d:Int))) rfl rfl (by have:=Qu (w2.alloc (.cells #[.int .i64 a,.int .i64 b,.int .i64 c,.int .i64 d] 63)) ((a:Int),(b:Int),(c:Int),(d:Int)) 63;simpa using this) (O_ _) (by unfold maxLen;omega) (by omega) (by simp;omega) ?_;intro v' w3 ho' hg' _;have R:=ZL (by simp;omega) ho2 hb2 ho' hg';have RP:OS w3 w.heap.size (.slice (some ⟨gp,0,none⟩) ps.length pc) ps:=World.ownsRow.kept hp2 hg' jM;clear ho2 ho' hg' hb2 hp2 jM))
    go_roundw
    case rel=>exact⟨k+1,_,by omega,by go_num,by simp[hyl],HN,R.1,RP,R.2⟩
    case measure=>simp[intOf];omega
  have hkn:k=ps.length:=by omega
  have HN:Hid (CJ ps=some ys):=by
   have:=HA.out
   rw[hkn,List.take_of_length_le (Nat.le_refl _)]at this
   exact this
  have HO:=hide ho
  clear ho hp HA
  go_wp2
  go_ret2
  exact⟨_,by rw[HN.out];rfl,by rw[HN.out];exact HO.out,hb⟩
end
section
open Go.RowKit
variable [∀(a b c d:Int),Decidable (BD a b c d)]
variable [∀(a b c d:Nat),Decidable (Dj a b c d)]
variable [∀(last:Int)(s:St),Decidable (Au last s)]
theorem az{w:World}{B B' n n' s s':Nat}{e e':TypeId}{v u:Value}{xs ys:List Value}(h:w.ownsRow B e s v n xs)(h':w.ownsRow B' e' s' u n' ys)(he:e≠e'):v.ownBlock=none∨v.ownBlock≠u.ownBlock:=by
 rcases h.2 with⟨rfl,_⟩|⟨g,cap,cur,rfl,_,hg,_⟩
 ·exact .inl rfl
 rcases h'.2 with⟨rfl,_⟩|⟨g',cap',cur',rfl,_,hg',_⟩
 ·exact .inr (by simp[Value.ownBlock])
 refine .inr fun e2=>?_
 simp[Value.ownBlock]at e2
 rw[e2,hg']at hg
 simp at hg
 exact he hg.2.symm
theorem Xn{w:World}{B n s:Nat}{e:TypeId}{v:Value}{xs:List Value}{c:Nat}(h:w.ownsRow (B+1) e s v n xs):(Value.slice (some ⟨B,0,none⟩) 0 c).ownBlock=none∨(Value.slice (some ⟨B,0,none⟩) 0 c).ownBlock≠v.ownBlock:= .inr fun e=>by
 have:=(World.ownsRow.lt h B (by rw[←e];rfl)).1
 omega
theorem I5{w:World}{B B' n s:Nat}{e:TypeId}{v:Value}{xs:List Value}(h:w.ownsRow B e s v n xs)(hb:B'≤B):w.ownsRow B' e s v n xs:=by
 refine⟨h.1,?_⟩
 rcases h.2 with h|⟨g,cap,cur,h1,h2,h3⟩
 ·exact .inl h
 exact .inr ⟨g,cap,cur,h1,by omega,h3⟩
theorem QN(n:Int)(a:Option Addr)(l c:Nat):∀u ∈ FN (n,.slice a l c),u.oneCell'=true:=by
 intro u hu
 simp[FN]at hu
 rcases hu with rfl|rfl<;>rfl
theorem Ty(w:World)(p:Int×Value)(t:TypeId)(j:Nat)(u:Value)(h:(FN p)[j]? =some u):(w.alloc (.cells #[.int .i64 p.1,p.2] t)).cell? ((⟨w.heap.size,0,none⟩:Addr).add j)=some u:=by
 match j,h with
 |0,h=>simp[FN]at h;subst h;simp[Addr.add]
 |1,h=>simp[FN]at h;subst h;simp[Addr.add]
 |j+2,h=>simp[FN]at h
theorem XJ(p:ByteArray):stepOf p=if(CR 124 p.data.toList).2.2=true∧(numOf (CR 124 p.data.toList).1).isSome=true∧(Cb (BQ (CR 124 p.data.toList).2.1)).isSome=true then some (Gb (numOf (CR 124 p.data.toList).1),(Cb (BQ (CR 124 p.data.toList).2.1)).getD [])else none:=by
 unfold stepOf CR
 by_cases hm:(124:UInt8) ∈ p.data.toList
 ·rw[if_pos hm,if_pos hm]
  cases hn:numOf (hd 124 p.data.toList)with
  |none=>simp
  |some n=>
   cases ht:Cb (BQ (tl 124 p.data.toList))with
   |none=>simp
   |some ts=>simp[Gb]
 rw[if_neg hm,if_neg hm];simp
theorem gU(ps:List ByteArray)(k:Nat)(h:k+1<ps.length):ps.tail.take (k+1)=ps.tail.take k++[ps.getD (k+1) ByteArray.empty]:=by
 cases ps with
 |nil=>simp at h
 |cons p ps=>
  simp only[List.tail_cons]
  simp at h
  rw[List.take_succ_eq_append_getElem h]
  simp[List.getD_eq_getElem?_getD,List.getElem?_eq_getElem h]

theorem QX(s:ByteArray)(w:World)(hs:s.size≤33554432):
 Calls Tryz.prog 119 #[.string s] w fun e w'=>∃v,e= .returned (.tuple #[v,.bool (AQ s).isSome])∧Zh w' w.heap.size v ((AQ s).getD [])∧Below w.heap.size w w':=by
 obtain⟨i0,hi,hz0,hz1,hz2⟩:=info_parts Tryz.infoSt
 obtain⟨w0,hw0⟩:∃w0,(w.alloc (.cells #[] 182)).alloc (.cells #[] 182)=w0:=⟨_,rfl⟩
 have z0:w0.heap.size=w.heap.size+1+1:=by rw[←hw0];simp
 have B0:Below w.heap.size w w0:=hw0▸((Below.refl _ _).alloc (Nat.le_refl _) _).alloc (by simp) _
 have R1:(w.alloc (.cells #[] 182)).ownsRow w.heap.size 182 2 (.slice (some ⟨w.heap.size,0,none⟩) 0 0) 0 []:=World.ownsRow_lit w #[] 0 (Nat.le_refl _) (by unfold maxLen;omega) rfl
 have N0:w0.ownsRow w.heap.size 182 2 (.slice (some ⟨w.heap.size,0,none⟩) 0 0) 0 []:=hw0▸R1.alloc _
 have O0:w0.ownsRow (w.heap.size+1) 182 2 (.slice (some ⟨w.heap.size+1,0,none⟩) 0 0) 0 []:=by
  have:=World.ownsRow_lit (base:=w.heap.size+1) (e:=182) (size:=2) (w.alloc (.cells #[] 182)) #[] 0 (by simp) (by unfold maxLen;omega) rfl
  rw[hw0]at this
  have e:(w.alloc (.cells #[] 182)).heap.size=w.heap.size+1:=by simp
  rw[e]at this
  exact this
 clear R1
 unfold AQ
 by_cases hz:s=⟨#[]⟩
 ·rw[if_pos hz]
  subst hz
  go_enter Tryz.func119,Tryz.ntmps119
  go_wp2
  go_ret2
  refine⟨_,rfl,⟨[],rfl,?_,fun k hk=>by simp at hk,fun i j _ hj=>by simp at hj⟩,B0⟩
  refine⟨O0.1,?_⟩
  rcases O0.2 with h|⟨g,cap,cur,h1,h2,h3⟩
  ·exact .inl h
  exact .inr ⟨g,cap,cur,h1,by omega,h3⟩
 rw[if_neg hz]
 have hne:=EO hz
 have hne2:(s.toList==[])=false:=by
  rw[beq_eq_false_iff_ne];intro e;apply hz;apply ByteArray.ext;apply Array.toList_inj.1;rw[ByteArray.toList_eq]at e;exact e
 have SP:=hide fun w=>JL s 47 w hs
 have hpn:0<(Ah s 47).length:=by simp[Ah]
 have hpz:Hid (∀p ∈ Ah s 47,p.size≤33554432):=fun p hp=>Nat.le_trans (JX s 47 p hp) hs
 have hpl:=Ha s 47
 have NONE:Hid (∀w',Below w.heap.size w w'→w'.ownsRow w.heap.size 182 2 (.slice (some ⟨w.heap.size,0,none⟩) 0 0) 0 []→Zh w' w.heap.size (.slice (some ⟨w.heap.size,0,none⟩) 0 0) []):=hide fun w' _ h=>⟨[],rfl,h,fun k hk=>by simp at hk,fun i j _ hj=>by simp at hj⟩
 generalize Ah s 47=ps at *
 generalize hA:(if ps.getD 0 ByteArray.empty=⟨#[]⟩∧ps.length≤31 then(BI ps.tail).map (·.2)else none)=A
 have HA:=hide hA
 clear hz hA
 go_enter Tryz.func119,Tryz.ntmps119
 go_wp2_with fail
 clear hw0
 refine(SP.out _).mono ?_
 rintro e w1 ⟨vp,rfl,op,b1⟩
 have s1:=b1.size
 have B1:=bu B0 b1
 have k1:w0.grownBy w1 none:=⟨b1.os,b1.tape,b1.output,b1.size,fun k hk _=>b1.block k hk⟩
 have N1:=N0.kept k1 (by simp[Value.ownBlock])
 have O1:=O0.kept k1 (by simp[Value.ownBlock])
 rcases op.2 with⟨_,h0⟩|⟨gp,pc,wJ,rfl,_⟩
 ·omega
 have c0:=Mt op rfl 0 hpn
 have OP:=hide op
 have N1:=hide N1
 clear op SP k1 b1 N0 O0 B0
 by_cases h0:ps.getD 0 ByteArray.empty=⟨#[]⟩
 ·rw [h0]at c0
  by_cases h31:ps.length≤31
  ·have E:Hid (A=(BI ps.tail).map (·.2)):=hide (HA.out.symm.trans (if_pos ⟨h0,h31⟩))
   have AAl:decide ((31:Int)<(ps.length:Int))=false:=by simp;omega
   go_wp2
   clear c0
   go_loopw [5,7,8] (fun out last i wr=>∃(k:Nat)(l:Int)(ss:List St)(vs:List Value),k+1≤ps.length∧i= .int .i64 ((k+1:Nat):Int)∧last= .int .i64 l∧Hid (BI (ps.tail.take k)=some (l,ss))∧ss.length=k∧IY wr (w.heap.size+1) out ss vs∧OS wr w0.heap.size (.slice (some ⟨gp,0,none⟩) ps.length pc) ps∧wr.ownsRow w.heap.size 182 2 (.slice (some ⟨w.heap.size,0,none⟩) 0 0) 0 []∧Below w.heap.size w wr∧w.heap.size+1≤wr.heap.size) (fun _ _ i _=>ps.length-(intOf i).toNat)
   case atStart=>exact⟨0,0,[],[],by omega,by go_num,rfl,hide (by rw[List.take_zero];rfl),rfl,⟨rfl,O1,fun k hk=>by simp at hk,fun i j _ hj=>by simp at hj⟩,OP.out,N1.out,B1,by omega⟩
   case round=>
    clear O1 N1 OP B1
    obtain⟨k,l,ss,vs,hk,rfl,rfl,HR,hsl,rQ,hp,nr,br,sz⟩:=hrel
    subst hsl
    obtain⟨oa,oc,rfl⟩:=Zh.form ⟨vs,rQ⟩
    have RO1:=(Ig _ _ HR.out).2.1
    by_cases hlt:ss.length+1<ps.length
    ·have hc:=Mt hp rfl (ss.length+1) hlt
     have hm:=hpz.out _ (O9 hlt)
     have HT:=hide (gU ps ss.length hlt)
     have HC:=hide (XJ (ps.getD (ss.length+1) ByteArray.empty))
     have CUT:=hide fun w=>Qo 124 124 rfl (ps.getD (ss.length+1) ByteArray.empty) w hm
     generalize ps.getD (ss.length+1) ByteArray.empty=p at *
     have hc1:(CR 124 p.data.toList).1.length≤33554432∧(CR 124 p.data.toList).2.1.length≤33554432:=by
      have h1:=Ki 124 p.data.toList
      have h2:p.data.toList.length=p.size:=by simp
      omega
     obtain⟨c,hcc⟩:∃c,CR 124 p.data.toList=c:=⟨_,rfl⟩
     rw[hcc]at CUT HC hc1
     clear hcc
     have NU:=hide fun w=>Ii (BQ c.1) w (by rw[Da];unfold maxLen;omega)
     have TX:=hide fun w=>aC (BQ c.2.1) w (by rw[Da];omega)
     rw[A9]at NU
     obtain⟨cn,hcn⟩:∃x,numOf c.1=x:=⟨_,rfl⟩
     obtain⟨ct,hct⟩:∃x,Cb (BQ c.2.1)=x:=⟨_,rfl⟩
     rw[hcn]at NU HC
     rw[hct]at TX HC
     have hn0:0≤Gb cn∧Gb cn≤999999:=by
      cases cn with
      |none=>simp[Gb]
      |some m=>have:=Cw hcn;simp[Gb];omega
     clear hcn hct
     obtain⟨n,hn⟩:∃n,Gb cn=n:=⟨_,rfl⟩
     obtain⟨bn,hbn⟩:∃b,cn.isSome=b:=⟨_,rfl⟩
     obtain⟨bt,hbt⟩:∃b,ct.isSome=b:=⟨_,rfl⟩
     obtain⟨ts,hts⟩:∃b,ct.getD []=b:=⟨_,rfl⟩
     rw[hn]at NU HC hn0
     rw[hbn]at NU HC
     rw[hbt]at TX HC
     rw[hts]at TX HC
     clear hn hbn hbt hts
     have OST:=hide rQ
     have NR:=hide nr
     have HP:=hide hp
     clear rQ nr hp
     go_wp2_with fail
     refine(CUT.out _).mono ?_
     rintro _ w2 ⟨rfl,b2⟩
     go_wp2_with fail
     refine(NU.out _).mono ?_
     rintro _ w3 ⟨rfl,b3⟩
     have tH:Below wr.heap.size wr w3:=bu b2 b3
     go_wp2_with fail
     refine(TX.out _).mono ?_
     rintro _ w4 ⟨vt,rfl,ot,b4⟩
     have Zd:Below wr.heap.size wr w4:=bu tH b4
     have B4:=bu br Zd
     have s24:=Zd.size
     have s23:=tH.size
     have wL:=OST.out.below Zd
     have k24:wr.grownBy w4 none:=⟨Zd.os,Zd.tape,Zd.output,Zd.size,fun k hk _=>Zd.block k hk⟩
     have pQ:=World.ownsRow.kept NR.out k24 (by simp[Value.ownBlock])
     have zJ:=HP.out.below Zd
     obtain⟨ta,tc,rfl⟩:∃ta tc,vt= .slice ta ts.length tc:=by
      rcases ot.2 with⟨rfl,h0⟩|⟨g,cap,cur,rfl,_⟩
      ·exact⟨none,0,by rw[h0]⟩
      exact⟨_,_,rfl⟩
     clear CUT NU TX b2 b3 b4
     have RN:Hid (stepOf p=none→BI ps.tail=none):=hide fun h=>JK (ss.length+1) (by rw[HT.out,DR,HR.out];unfold Ez;rw[h];rfl)
     obtain⟨c1,c2,cb⟩:=c
     cases cb with
     |false=>
      have F:=hide (RN.out (by rw[HC.out,if_neg (by simp)]))
      go_wp2
      go_ret2
      rw[E.out,F.out]
      exact⟨_,rfl,NONE.out _ B4 pQ,B4⟩
     |true=>
     cases bn with
     |false=>
      have F:=hide (RN.out (by rw[HC.out,if_neg (by simp)]))
      go_wp2
      go_ret2
      rw[E.out,F.out]
      exact⟨_,rfl,NONE.out _ B4 pQ,B4⟩
     |true=>
     cases bt with
     |false=>
      have F:=hide (RN.out (by rw[HC.out,if_neg (by simp)]))
      go_wp2
      go_ret2
      rw[E.out,F.out]
      exact⟨_,rfl,NONE.out _ B4 pQ,B4⟩
     |true=>
     have HS:Hid (stepOf p=some (n,ts)):=hide (by rw[HC.out,if_pos (by simp)])
     have RG:Hid (¬Au l (n,ts)→BI ps.tail=none):=hide fun h=>JK (ss.length+1) (by rw[HT.out,DR,HR.out];unfold Ez;rw[HS.out];exact if_neg h)
     clear RN HC
     by_cases g1:n≤l
     ·have F:=hide (RG.out fun h=>by have:=h.1;simp only at this;omega)
      have g1':decide (n≤l)=true:=by simp;omega
      go_wp2
      go_ret2
      rw[E.out,F.out]
      exact⟨_,rfl,NONE.out _ B4 pQ,B4⟩
     have g1':decide (n≤l)=false:=by simp;omega
     by_cases g2:60<n
     ·have F:=hide (RG.out fun h=>by have:=h.2.1;simp only at this;omega)
      have g2':decide (60<n)=true:=by simp;omega
      go_wp2
      go_ret2
      rw[E.out,F.out]
      exact⟨_,rfl,NONE.out _ B4 pQ,B4⟩
     have g2':decide (60<n)=false:=by simp;omega
     by_cases g3:2<ts.length
     ·have F:=hide (RG.out fun h=>by have:=h.2.2;simp only at this;omega)
      have g3':decide ((2:Int)<(ts.length:Int))=true:=by simp;omega
      go_wp2
      go_ret2
      rw[E.out,F.out]
      exact⟨_,rfl,NONE.out _ B4 pQ,B4⟩
     have g3':decide ((2:Int)<(ts.length:Int))=false:=by simp;omega
     have HN:Hid (BI (ps.tail.take (ss.length+1))=some (n,ss++[(n,ts)])):=hide (by
      rw[HT.out,DR,HR.out];unfold Ez;rw[HS.out]
      exact if_pos ⟨by omega,by omega,by show ts.length≤2;omega⟩)
     have bX:Below w4.heap.size w4 (w4.alloc (.cells #[.int .i64 n,.slice ta ts.length tc] 182)):=(Below.refl _ _).alloc (Nat.le_refl _) _
     have Rs:=wL.below bX
     have wK:=ot.below bX
     have hpX:=zJ.below bX
     have nrX:=World.ownsRow.alloc pQ (.cells #[.int .i64 n,.slice ta ts.length tc] 182)
     have BX:=bu B4 bX
     have hN:∀k,k<ss.length→∀b,(vs.getD k (.slice none 0 0)).ownBlock=some b→b<w3.heap.size:=fun k hk b hb=>by
      have:=(World.ownsRow.lt (OST.out.each k hk) b hb).2;omega
     have AC_:ss.length≤31:=by omega
     clear RG wL ot zJ pQ B4
     go_wp2_with (first
      |(at_builtin;refine wpList_append_own _ rfl _ _ 157 rfl (w.heap.size+1) 182 i0 (.agg #[.int .i64 0,.slice none 0 0]) 2 32 Tryz.underlying157 hi hz0 hz1 hz2 rfl (by decide) _ _ _ rfl Rs.row ⟨w4.heap.size,0,none⟩ 1 1 (FN (n,.slice ta ts.length tc)) rfl rfl (Ty w4 (n,.slice ta ts.length tc) 182) (QN _ _ _ _) (by unfold maxLen;omega) (by omega) (by simp;omega) ?_;intro v' w5 ho' hg' _;have R:=Uw Rs wK hN (by omega) ho' hg';have RP:=World.ownsRow.kept hpX hg' (az hpX Rs.row (by decide));have RN:=World.ownsRow.kept nrX hg' (Xn Rs.row);have RB:=BX.grown hg' BX.size (fun k hk=>by have:=(World.ownsRow.lt Rs.row k hk).1;omega);have SZ:w4.heap.size≤w5.heap.size:=(by have:=hg'.size;simp at this;omega);clear ho' hg' Rs wK hpX nrX BX bX))
     go_roundw
     case rel=>exact⟨ss.length+1,n,_,_,by omega,by go_num,rfl,HN,by simp,R,RP,RN,RB,by omega⟩
     case measure=>simp[intOf];omega
    have hk2:ps.tail.take ss.length=ps.tail:=List.take_of_length_le (by simp;omega)
    rw[hk2]at HR
    have hlt':decide (((ss.length+1:Nat):Int)<(ps.length:Int))=false:=by simp;omega
    go_wp2
    go_ret2
    rw[E.out,HR.out]
    refine⟨_,rfl,⟨vs,rQ.len,?_,fun k hk=>?_,rQ.apart⟩,br⟩
    ·exact I5 rQ.row (by omega)
    exact I5 (rQ.each k hk) (by omega)
  have E:A=none:=HA.out.symm.trans (if_neg fun h=>h31 h.2)
  have AAl:decide ((31:Int)<(ps.length:Int))=true:=by simp;omega
  go_wp2
  go_ret2
  rw[E]
  exact⟨_,rfl,NONE.out _ B1 N1.out,B1⟩
 have E:A=none:=HA.out.symm.trans (if_neg fun h=>h0 h.1)
 have hn0:=EO h0
 have hn1:((ps.getD 0 ByteArray.empty).toList=[])=False:=eq_false fun e=>h0 (by apply ByteArray.ext;apply Array.toList_inj.1;rw[ByteArray.toList_eq]at e;exact e)
 generalize ps.getD 0 ByteArray.empty=p0 at *
 go_wp2
 go_ret2
 rw[E]
 exact⟨_,rfl,NONE.out _ B1 N1.out,B1⟩
end
section
open Go.RowKit
def Bytes(xs:List Int):Prop:=∀k,k<xs.length→0≤xs.getD k 0∧xs.getD k 0≤255
theorem Zj{w:World}{b off q n:Nat}{xs:List Int}(h:∀k,k<xs.length→w.cell? ⟨b,off+k,none⟩=some (.int .u8 (xs.getD k 0)))(hq:q+n≤xs.length):
 ∀i,i<n→w.cell? ⟨b,off+q+i,none⟩=some (.int .u8 (((xs.drop q).take n).getD i 0)):=by
 intro i hi
 rw[Nat.add_assoc,h (q+i) (by omega)]
 simp[List.getD_eq_getElem?_getD,List.getElem?_drop,hi]
theorem lF(xs:List Int)(q n:Nat)(hq:q+n≤xs.length):((xs.drop q).take n).length=n:=by simp;omega
end
section

def Cq(b:UInt8)(ps:List ByteArray):Nat→List UInt8
 |0=>[]
 |j+1=>(if 0<j then Cq b ps j++[b]else Cq b ps j)++(ps.getD j ByteArray.empty).data.toList
theorem Xx(b:UInt8)(ps qs:List ByteArray)(j:Nat)(h:j≤ps.length):Cq b (ps++qs) j=Cq b ps j:=by
 induction j with
 |zero=>rfl
 | succ j ih=>
  have e:(ps++qs).getD j ByteArray.empty=ps.getD j ByteArray.empty:=by
   rw[List.getD_eq_getElem?_getD,List.getD_eq_getElem?_getD,List.getElem?_append_left (by omega)]
  rw[Cq,Cq,ih (by omega),e]
theorem Lv(b:UInt8)(ps:List ByteArray)(x:ByteArray):Cq b (ps++[x]) (ps.length+1)=(if 0<ps.length then Cq b ps ps.length++[b]else Cq b ps ps.length)++x.data.toList:=by
 have e:(ps++[x]).getD ps.length ByteArray.empty=x:=by simp
 rw[Cq,Xx b ps [x] ps.length (Nat.le_refl _),e]
theorem ZY(s:ByteArray)(i j:Nat):(s.extract i j).data.toList=(s.data.toList.drop i).take (j-i):=by
 rw[ByteArray.data_extract,Array.toList_extract]
theorem aA(s:ByteArray)(b:UInt8)(k:Nat)(hk:k≤s.size):
 ((Gl s b.toNat k).1=[]∧(Gl s b.toNat k).2=0)∨(0<(Gl s b.toNat k).1.length∧Cq b (Gl s b.toNat k).1 (Gl s b.toNat k).1.length++[b]=s.data.toList.take (Gl s b.toNat k).2):=by
 induction k with
 |zero=>left;simp[Gl]
 | succ k ih=>
  have ih:=ih (by omega)
  have hks:k<s.size:=by omega
  by_cases hb:(s[k].toNat:Int)=b.toNat
  ·rw[KP s _ k hks hb]
   right
   have hle:=(Jc s b.toNat k).1
   have hbb:s[k]=b:=by
    apply UInt8.toNat_inj.1;omega
   have htk:s.data.toList.take (k+1)=s.data.toList.take k++[b]:=by
    rw[List.take_succ_eq_append_getElem (by simpa using hks)]
    congr 1
    rw[←hbb];rfl
   refine⟨by simp,?_⟩
   simp only[List.length_append,List.length_cons,List.length_nil,Nat.zero_add]
   rw[Lv,ZY,htk]
   congr 1
   rcases ih with⟨h1,h2⟩|⟨h1,h2⟩
   ·rw[h1,h2];simp[Cq]
   rw[if_pos h1,h2]
   rw[←List.take_add]
   congr 1;omega
  rw[Ik s _ k hks hb];exact ih
theorem JY(s:ByteArray)(b:UInt8):Cq b (Ah s b.toNat) (Ah s b.toNat).length=s.data.toList:=by
 have hle:=(Jc s b.toNat s.size).1
 have hinv:=aA s b s.size (Nat.le_refl _)
 have hlen:s.data.toList.length=s.size:=by simp
 unfold Ah
 simp only[List.length_append,List.length_cons,List.length_nil,Nat.zero_add]
 rw[Lv,ZY]
 rcases hinv with⟨h1,h2⟩|⟨h1,h2⟩
 ·rw[h1,h2]
  simp only[List.length_nil,Cq,List.drop_zero,Nat.sub_zero]
  rw[List.take_of_length_le (by omega)];simp
 rw[if_pos h1,h2,←List.take_add,List.take_of_length_le (by omega)]
end
section
variable [∀(a b c d:Int),Decidable (BD a b c d)]
variable [∀(a b c d:Nat),Decidable (Dj a b c d)]
variable [∀(x:T4),Decidable (Dr x)]
def jn:List (List UInt8)→List UInt8
 | []=>[]
 | [p]=>p
 |p :: q :: r=>p++44 :: jn (q :: r)
theorem ZR(ps:List (List UInt8))(p:List UInt8):jn (ps++[p])=(if 0<ps.length then jn ps++[44]else jn ps)++p:=by
 induction ps with
 |nil=>simp[jn]
 | cons x ps ih=>
  cases ps with
  |nil=>simp[jn]
  |cons y ps=>
   rw[List.cons_append]at ih
   rw[List.cons_append,List.cons_append,jn,jn,ih]
   simp
theorem dO(ps qs:List (List UInt8))(hp:∀p ∈ ps,44 ∉ p)(hq:∀q ∈ qs,44 ∉ q)(hn:ps≠[])(hm:qs≠[])(h:jn ps=jn qs):ps=qs:=by
 induction ps generalizing qs with
 |nil=>exact absurd rfl hn
 | cons p ps ih=>
  cases qs with
  |nil=>exact absurd rfl hm
  | cons q qs=>
   have hp0:=hp p (by simp)
   have hq0:=hq q (by simp)
   cases ps with
   |nil=>
    cases qs with
    |nil=>simp[jn]at h;rw[h]
    |cons q' qs=>simp only[jn]at h;rw[h]at hp0;simp at hp0
   | cons p' ps=>
    cases qs with
    |nil=>simp only[jn]at h;rw[←h]at hq0;simp at hq0
    |cons q' qs=>
     simp only[jn]at h
     have e1:p=q:=by rw[←Dq (y:=jn (p' :: ps)) hp0,h,Dq hq0]
     have e2:jn (p' :: ps)=jn (q' :: qs):=by rw[←EK (x:=p) (y:=jn (p' :: ps)) hp0,h,EK hq0]
     rw[e1,ih (q' :: qs) (fun x hx=>hp x (by simp at hx⊢;exact .inr hx)) (fun x hx=>hq x (by simp at hx⊢;exact .inr hx)) (by simp) (by simp) e2]
theorem Qp(ps:List ByteArray)(k:Nat)(hk:k≤ps.length):Cq 44 ps k=jn ((ps.take k).map fun s=>s.data.toList):=by
 induction k with
 |zero=>simp[Cq,jn]
 |succ k ih=>
  rw[Cq,ih (by omega),Iz ps k (by omega),List.map_append,List.map_singleton,ZR]
  simp only[List.length_map,List.length_take]
  rw[show min k ps.length=k from by omega]
theorem Zf(xs:List T4)(k:Nat)(hk:k≤xs.length):QI xs k=jn ((xs.take k).map fun x=>(WJ x).data.toList):=by
 induction k with
 |zero=>simp[QI,jn]
 | succ k ih=>
  have e:xs.take (k+1)=xs.take k++[xs.getD k (0,0,0,0)]:=by
   rw[List.take_succ_eq_append_getElem (by omega),List.getD_eq_getElem?_getD,List.getElem?_eq_getElem (by omega)];rfl
  rw[QI,ih (by omega),e,List.map_append,List.map_singleton,ZR]
  simp only[List.length_map,List.length_take]
  rw[show min k xs.length=k from by omega]
theorem aj(s:ByteArray)(k:Nat)(hk:k≤s.size):(∀p ∈ (Gl s 44 k).1,(44:UInt8) ∉ p.data.toList)∧(44:UInt8) ∉ (s.data.toList.drop (Gl s 44 k).2).take (k-(Gl s 44 k).2):=by
 induction k with
 |zero=>simp[Gl]
 | succ k ih=>
  obtain⟨h1,h2⟩:=ih (by omega)
  have hle:=(Jc s 44 k).1
  by_cases hb:(s[k].toNat:Int)=44
  ·rw[KP s 44 k (by omega) hb]
   refine⟨fun p hp=>?_,by simp⟩
   rw[List.mem_append]at hp
   rcases hp with hp|hp
   ·exact h1 p hp
   simp at hp;rw[hp,ext_list];exact h2
  rw[Ik s 44 k (by omega) hb]
  refine⟨h1,?_⟩
  have e:=Hg (m:=44) (l:=s.data.toList) (n:=(Gl s 44 k).2) (pos:=k) (v:=1) hle h2 (fun j hj=>by
   obtain rfl:j=0:=by omega
   rw[Nat.add_zero,List.getElem?_eq_getElem (by simp;omega)]
   intro e
   have e':s[k]=44:=Option.some.inj e
   rw[e']at hb;exact hb rfl)
  exact e
theorem UZ(s:ByteArray):∀p ∈ Ah s 44,(44:UInt8) ∉ p.data.toList:=by
 intro p hp
 obtain⟨h1,h2⟩:=aj s s.size (Nat.le_refl _)
 unfold Ah at hp
 rw[List.mem_append]at hp
 rcases hp with hp|hp
 ·exact h1 p hp
 simp at hp;rw[hp,ext_list];exact h2
theorem g_(s:ByteArray):Ah s 44≠[]:=by unfold Ah;simp
theorem Zm(x:T4):(44:UInt8) ∉ (WJ x).data.toList:=by
 unfold WJ txt
 obtain⟨a,b,c,d⟩:=x
 by_cases h:BD a b c d
 ·show(44:UInt8) ∉ (if BD a b c d then fP a b c d else(⟨#[]⟩:ByteArray)).data.toList
  rw[if_pos h]
  obtain⟨a',b',c',d',rfl,rfl,rfl,rfl⟩:=Ru h
  rw[Iy,A9]
  unfold lI
  have n:=fun n=>Hl n 44 (by decide)
  simp[n]
 show(44:UInt8) ∉ (if BD a b c d then fP a b c d else(⟨#[]⟩:ByteArray)).data.toList
 rw[if_neg h];simp
theorem ry{s:ByteArray}{q:Nat×Nat×Nat×Nat}(h:C9 s.data.toList=some q):WJ (ug q)=s∧Dr (ug q):=by
 obtain⟨a,b,c,d⟩:=q
 have hi:=Ns h
 exact⟨VR hi,I7.2 hi.1⟩
theorem AAW{x:T4}(h:Dr x):∃q,ug q=x∧C9 (WJ x).data.toList=some q:=by
 obtain⟨a,b,c,d⟩:=x
 obtain⟨a',b',c',d',rfl,rfl,rfl,rfl⟩:=Ru h
 refine⟨(a',b',c',d'),rfl,Nr ⟨I7.1 h,?_⟩⟩
 show _=(if BD (a':Int) b' c' d' then fP a' b' c' d' else(⟨#[]⟩:ByteArray)).data.toList
 rw[if_pos (show BD (a':Int) b' c' d' from h),Iy,A9]
theorem MG{ps:List ByteArray}{ys:List T4}(h:CJ ps=some ys):ys.map WJ=ps∧∀y ∈ ys,Dr y:=by
 induction ps generalizing ys with
 |nil=>simp[CJ]at h;subst h;simp
 | cons p ps ih=>
  rw[CJ]at h
  cases hp:C9 p.data.toList with
  |none=>rw[hp]at h;cases h
  | some q=>
   rw[hp]at h
   cases hq:CJ ps with
   |none=>rw[hq]at h;cases h
   |some zs=>
    rw[hq]at h;simp at h;subst h
    obtain⟨i1,i2⟩:=ih hq
    obtain⟨j1,j2⟩:=ry hp
    refine⟨by simp[i1,j1],fun y hy=>?_⟩
    simp at hy
    rcases hy with rfl|hy
    ·exact j2
    exact i2 y hy
theorem j3(ys:List T4)(h:∀y ∈ ys,Dr y):CJ (ys.map WJ)=some ys:=by
 induction ys with
 |nil=>rfl
 |cons y ys ih=>
  obtain⟨q,e,hq⟩:=AAW (h y (by simp))
  rw[List.map_cons,CJ,hq,ih (fun z hz=>h z (by simp[hz]))]
  simp[e]
theorem Tx{s:ByteArray}{ys:List T4}(h:Cb s=some ys):KE ys=s:=by
 unfold Cb at h
 split at h
 ·rename_i hz
  simp at h;subst h
  unfold KE;simp[QI,BQ,hz]
 obtain⟨h1,h2⟩:=MG h
 unfold KE
 rw[if_pos h2,Zf ys ys.length (Nat.le_refl _),List.take_of_length_le (Nat.le_refl _)]
 have hj:=JY s 44
 have e44:(((44:UInt8).toNat:Nat):Int)=44:=rfl
 rw[e44,Qp _ _ (Nat.le_refl _),List.take_of_length_le (Nat.le_refl _),←h1,List.map_map]at hj
 have hj':jn (ys.map fun x=>(WJ x).data.toList)=s.data.toList:=hj
 rw[hj',KG]
theorem Zl(ys:List T4)(h:∀y ∈ ys,Dr y):Cb (KE ys)=some ys:=by
 have e:KE ys=BQ (jn (ys.map fun x=>(WJ x).data.toList)):=by
  unfold KE
  rw[if_pos h,Zf ys ys.length (Nat.le_refl _),List.take_of_length_le (Nat.le_refl _)]
 cases ys with
 |nil=>rw[e];unfold Cb;simp[jn,BQ]
 | cons y ys=>
  have hne:KE (y :: ys)≠⟨#[]⟩:=by
   rw[e]
   intro hz
   have hz':=congrArg (fun s:ByteArray=>s.data.toList) hz
   have hy:=qg (h y (by simp))
   cases ys with
   |nil=>simp[jn,BQ]at hz';exact hy (ByteArray.ext hz')
   |cons y' ys=>simp[jn,BQ]at hz'
  unfold Cb
  rw[if_neg hne]
  have hj:=JY (KE (y :: ys)) 44
  have e44:(((44:UInt8).toNat:Nat):Int)=44:=rfl
  rw[e44,Qp _ _ (Nat.le_refl _),List.take_of_length_le (Nat.le_refl _)]at hj
  have hl:(KE (y :: ys)).data.toList=jn ((y :: ys).map fun x=>(WJ x).data.toList):=by rw[e];rfl
  rw[hl]at hj
  have hu:=dO _ _ (fun p hp=>by
   obtain⟨z,hz,rfl⟩:=List.mem_map.1 hp
   exact UZ _ z hz) (fun q hq=>by
   obtain⟨z,_,rfl⟩:=List.mem_map.1 hq
   exact Zm z) (by simp[g_]) (by simp) hj
  have hs:Ah (KE (y :: ys)) 44=(y :: ys).map WJ:=by
   have inj:∀(a b:List ByteArray),a.map (fun s=>s.data.toList)=b.map (fun s=>s.data.toList)→a=b:=by
    intro a
    induction a with
    |nil=>intro b hb;cases b with
     |nil=>rfl
     |cons=>simp at hb
    | cons x a ih=>
     intro b hb
     cases b with
     |nil=>simp at hb
     |cons z b=>
      simp at hb
      rw[ih b hb.2,ByteArray.ext hb.1]
   apply inj
   rw[hu,List.map_map];rfl
  rw[hs]
  exact j3 _ h
end
section
open Go.RowKit
variable [∀(a b c d:Int),Decidable (BD a b c d)]
variable [∀(a b c d:Nat),Decidable (Dj a b c d)]
variable [∀(last:Int)(s:St),Decidable (Au last s)]
variable [∀(x:T4),Decidable (Dr x)]
def jb(b:UInt8):List (List UInt8)→List UInt8
 | []=>[]
 | [p]=>p
 |p :: q :: r=>p++b :: jb b (q :: r)
theorem SB(b:UInt8)(p:List UInt8)(ps:List (List UInt8)):jb b (p :: ps)=p++ps.flatMap (fun t=>b :: t):=by
 induction ps generalizing p with
 |nil=>simp[jb]
 |cons q ps ih=>rw[jb,ih];simp
theorem nA(b:UInt8)(ps:List (List UInt8))(p:List UInt8):jb b (ps++[p])=(if 0<ps.length then jb b ps++[b]else jb b ps)++p:=by
 cases ps with
 |nil=>simp[jb]
 |cons x ps=>rw[List.cons_append,SB,SB];simp
theorem dP(b:UInt8)(ps qs:List (List UInt8))(hp:∀p ∈ ps,b ∉ p)(hq:∀q ∈ qs,b ∉ q)(hn:ps≠[])(hm:qs≠[])(h:jb b ps=jb b qs):ps=qs:=by
 induction ps generalizing qs with
 |nil=>exact absurd rfl hn
 | cons p ps ih=>
  cases qs with
  |nil=>exact absurd rfl hm
  | cons q qs=>
   have hp0:=hp p (by simp)
   have hq0:=hq q (by simp)
   cases ps with
   |nil=>
    cases qs with
    |nil=>simp[jb]at h;rw[h]
    |cons q' qs=>simp only[jb]at h;rw[h]at hp0;simp at hp0
   | cons p' ps=>
    cases qs with
    |nil=>simp only[jb]at h;rw[←h]at hq0;simp at hq0
    |cons q' qs=>
     simp only[jb]at h
     have e1:p=q:=by rw[←Dq (y:=jb b (p' :: ps)) hp0,h,Dq hq0]
     have e2:jb b (p' :: ps)=jb b (q' :: qs):=by rw[←EK (x:=p) (y:=jb b (p' :: ps)) hp0,h,EK hq0]
     rw[e1,ih (q' :: qs) (fun x hx=>hp x (by simp at hx⊢;exact .inr hx)) (fun x hx=>hq x (by simp at hx⊢;exact .inr hx)) (by simp) (by simp) e2]
theorem dM(b:UInt8)(ps:List ByteArray)(k:Nat)(hk:k≤ps.length):Cq b ps k=jb b ((ps.take k).map fun s=>s.data.toList):=by
 induction k with
 |zero=>simp[Cq,jb]
 |succ k ih=>
  rw[Cq,ih (by omega),Iz ps k (by omega),List.map_append,List.map_singleton,nA]
  simp only[List.length_map,List.length_take]
  rw[show min k ps.length=k from by omega]
theorem Xj(s:ByteArray)(b:UInt8)(k:Nat)(hk:k≤s.size):(∀p ∈ (Gl s b.toNat k).1,b ∉ p.data.toList)∧b ∉ (s.data.toList.drop (Gl s b.toNat k).2).take (k-(Gl s b.toNat k).2):=by
 induction k with
 |zero=>simp[Gl]
 | succ k ih=>
  obtain⟨h1,h2⟩:=ih (by omega)
  have hle:=(Jc s b.toNat k).1
  by_cases hb:(s[k].toNat:Int)=b.toNat
  ·rw[KP s b.toNat k (by omega) hb]
   refine⟨fun p hp=>?_,by simp⟩
   rw[List.mem_append]at hp
   rcases hp with hp|hp
   ·exact h1 p hp
   simp at hp;rw[hp,ext_list];exact h2
  rw[Ik s b.toNat k (by omega) hb]
  refine⟨h1,?_⟩
  exact Hg (m:=b) (l:=s.data.toList) (n:=(Gl s b.toNat k).2) (pos:=k) (v:=1) hle h2 (fun j hj=>by
   obtain rfl:j=0:=by omega
   rw[Nat.add_zero,List.getElem?_eq_getElem (by simp;omega)]
   intro e
   have e':s[k]=b:=Option.some.inj e
   rw[e']at hb;exact hb rfl)
theorem Rm(s:ByteArray)(b:UInt8):∀p ∈ Ah s b.toNat,b ∉ p.data.toList:=by
 intro p hp
 obtain⟨h1,h2⟩:=Xj s b s.size (Nat.le_refl _)
 unfold Ah at hp
 rw[List.mem_append]at hp
 rcases hp with hp|hp
 ·exact h1 p hp
 simp at hp;rw[hp,ext_list];exact h2
theorem UY(s:ByteArray)(b:UInt8):jb b ((Ah s b.toNat).map fun s=>s.data.toList)=s.data.toList:=by
 have:=JY s b
 rw[dM b _ _ (Nat.le_refl _),List.take_of_length_le (Nat.le_refl _)]at this
 exact this
theorem Ky(s:ByteArray)(b:Int):Ah s b≠[]:=by unfold Ah;simp
theorem gz(s:ByteArray)(b:UInt8)(ps:List (List UInt8))(hn:ps≠[])(hp:∀p ∈ ps,b ∉ p)(h:s.data.toList=jb b ps):(Ah s b.toNat).map (fun s=>s.data.toList)=ps:=by
 refine dP b _ _ (fun p hp'=>?_) hp (by simp[Ky]) hn ((UY s b).trans h)
 obtain⟨q,hq,rfl⟩:=List.mem_map.1 hp'
 exact Rm s b q hq

def Bi(s:St):List UInt8:=Lib.decDigits s.1.toNat++124 :: (KE s.2).data.toList
def nm(ss:List St):List UInt8:=ss.flatMap fun s=>47 :: Bi s
def Lg(s:St):Prop:=(1≤s.1∧s.1≤60)∧s.2.length≤2∧∀x ∈ s.2,Dr x
def IJ(ss:List St):Prop:=ss.length≤30∧(∀s ∈ ss,Lg s)∧ss.Pairwise (fun a b=>a.1<b.1)
theorem Wh(x:T4)(m:UInt8)(h:m.toNat<48∨57<m.toNat)(h1:m≠62)(h2:m≠58)(h3:m≠35):m ∉ (WJ x).data.toList:=by
 unfold WJ txt
 obtain⟨a,b,c,d⟩:=x
 by_cases ho:BD a b c d
 ·show m ∉ (if BD a b c d then fP a b c d else(⟨#[]⟩:ByteArray)).data.toList
  rw[if_pos ho]
  obtain⟨a',b',c',d',rfl,rfl,rfl,rfl⟩:=Ru ho
  rw[Iy,A9]
  unfold lI
  have n:=fun n=>Hl n m h
  simp[n,h1,h2,h3]
 show m ∉ (if BD a b c d then fP a b c d else(⟨#[]⟩:ByteArray)).data.toList
 rw[if_neg ho];simp
theorem We(ts:List T4)(m:UInt8)(h:m.toNat<48∨57<m.toNat)(h1:m≠62)(h2:m≠58)(h3:m≠35)(h4:m≠44):m ∉ (KE ts).data.toList:=by
 unfold KE
 split
 ·rw[A9]
  have:∀k,k≤ts.length→m ∉ QI ts k:=by
   intro k
   induction k with
   |zero=>intro _;simp[QI]
   |succ k ih=>
    intro hk
    have:=ih (by omega)
    have c:=Wh (ts.getD k (0,0,0,0)) m h h1 h2 h3
    rw[QI]
    split<;>simp[this,h4]<;>simpa using c
  exact this ts.length (Nat.le_refl _)
 simp
theorem EP(s:St):(47:UInt8) ∉ Bi s:=by
 unfold Bi
 have h1:=Hl s.1.toNat 47 (by decide)
 have h2:=We s.2 47 (by decide) (by decide) (by decide) (by decide) (by decide)
 simp[h1,h2]
theorem Ll{p:ByteArray}{s:St}(h:stepOf p=some s):p.data.toList=Bi s∧(0≤s.1)∧∀x ∈ s.2,Dr x:=by
 unfold stepOf at h
 split at h
 ·rename_i hm
  cases hn:numOf (hd 124 p.data.toList)with
  |none=>rw[hn]at h;cases h
  | some n=>
   rw[hn]at h
   cases ht:Cb (BQ (tl 124 p.data.toList))with
   |none=>rw[ht]at h;cases h
   | some ts=>
    rw[ht]at h
    cases h
    obtain⟨_,h2⟩:=Cw hn
    have h3:=Tx ht
    have e:p.data.toList=hd 124 p.data.toList++124 :: tl 124 p.data.toList:=by
     unfold hd tl
     generalize p.data.toList=l at hm
     induction l with
     |nil=>simp at hm
     |cons y l ih=>
      by_cases hy:y=124
      ·subst hy;simp
      have hm':(124:UInt8) ∈ l:=by rcases List.mem_cons.1 hm with e|e;exact absurd e.symm hy;exact e
      have:=ih hm'
      simp only[List.takeWhile_cons,List.dropWhile_cons,bne_iff_ne,ne_eq,hy,not_false_eq_true,if_true]
      rw[List.cons_append,←this]
    refine⟨?_,by simp,?_⟩
    ·rw[e,←h2]
     unfold Bi
     rw[h3]
     simp[A9]
    unfold Cb at ht
    split at ht
    ·cases ht;simp
    exact(MG ht).2
 cases h
theorem F_{p:ByteArray}{s:St}(h:Lg s)(hp:p.data.toList=Bi s):stepOf p=some s:=by
 obtain⟨⟨h1,h2⟩,_,h3⟩:=h
 have c:=Hl s.1.toNat 124 (by decide)
 unfold stepOf
 rw[hp]
 have hm:(124:UInt8) ∈ Bi s:=by unfold Bi;simp
 rw[if_pos hm]
 have e1:hd 124 (Bi s)=Lib.decDigits s.1.toNat:=by unfold Bi;exact Dq c
 have e2:tl 124 (Bi s)=(KE s.2).data.toList:=by unfold Bi;exact EK c
 rw[e1,e2,Gw (by omega),KG,Zl s.2 h3]
 obtain⟨v,ts⟩:=s
 simp at h1⊢
 omega
theorem aK(ps:List ByteArray)(q:Int×List St)(h:BI ps=some q):ps.map (fun p=>p.data.toList)=q.2.map Bi∧(∀s ∈ q.2,Lg s∧s.1≤q.1)∧q.2.Pairwise (fun a b=>a.1<b.1):=by
 generalize hn:ps.length=n
 induction n generalizing ps q with
 |zero=>
  have:ps=[]:=List.length_eq_zero_iff.1 hn
  subst this
  cases h
  simp
 | succ n ih=>
  obtain⟨ps',p,rfl⟩:∃ps' p,ps=ps'++[p]:=⟨ps.dropLast,ps.getLast (fun e=>by rw[e]at hn;simp at hn),(List.dropLast_concat_getLast _).symm⟩
  rw[DR]at h
  unfold Ez at h
  cases hr:BI ps' with
  |none=>rw[hr]at h;cases h
  | some q'=>
   rw[hr]at h
   cases hs:stepOf p with
   |none=>rw[hs]at h;simp at h
   | some s=>
    rw[hs]at h
    simp only[Option.bind_some]at h
    split at h
    ·rename_i hg
     cases h
     obtain⟨i1,i2,i3⟩:=ih ps' q' hr (by simpa using hn)
     obtain⟨_,o2,_,_⟩:=Ig ps' q' hr
     obtain⟨g1,g2,g3⟩:=hg
     obtain⟨t1,t2,t3⟩:=Ll hs
     refine⟨by simp[i1,t1],fun y hy=>?_,?_⟩
     ·rcases List.mem_append.1 hy with hy|hy
      ·exact⟨(i2 y hy).1,by have:=(i2 y hy).2;show y.1≤s.1;omega⟩
      simp at hy;subst hy
      exact⟨⟨⟨by omega,g2⟩,g3,t3⟩,Int.le_refl _⟩
     rw[List.pairwise_append]
     refine⟨i3,by simp,fun a ha b hb=>?_⟩
     simp at hb;subst hb
     have:=(i2 a ha).2
     omega
    cases h
theorem q9(ss:List St)(hok:∀s ∈ ss,Lg s)(hpw:ss.Pairwise (fun a b=>a.1<b.1))(ps:List ByteArray)(hp:ps.map (fun p=>p.data.toList)=ss.map Bi):∃l,BI ps=some (l,ss)∧∀x,(∀s ∈ ss,s.1<x)→0<x→l<x:=by
 generalize hn:ss.length=n
 induction n generalizing ss ps with
 |zero=>
  have:ss=[]:=List.length_eq_zero_iff.1 hn
  subst this
  have:ps=[]:=by simpa using hp
  subst this
  exact⟨0,rfl,fun x _ h=>h⟩
 |succ n ih=>
  obtain⟨ss',s,rfl⟩:∃ss' s,ss=ss'++[s]:=⟨ss.dropLast,ss.getLast (fun e=>by rw[e]at hn;simp at hn),(List.dropLast_concat_getLast _).symm⟩
  have hpl:ps.length=(ss'++[s]).length:=by have:=congrArg List.length hp;simpa using this
  obtain⟨ps',p,rfl⟩:∃ps' p,ps=ps'++[p]:=⟨ps.dropLast,ps.getLast (fun e=>by rw[e]at hpl;simp at hpl),(List.dropLast_concat_getLast _).symm⟩
  rw[List.map_append,List.map_append]at hp
  obtain⟨hp1,hp2⟩:=List.append_inj hp (by simp at hpl⊢;exact hpl)
  rw[List.pairwise_append]at hpw
  obtain⟨l,hl,hx⟩:=ih ss' (fun y hy=>hok y (by simp[hy])) hpw.1 ps' hp1 (by simpa using hn)
  have hs:=hok s (by simp)
  have hst:=F_ hs (p:=p) (by simpa using hp2)
  have hlt:l<s.1:=hx s.1 (fun y hy=>hpw.2.2 y hy s (by simp)) (by have:=hs.1;omega)
  refine⟨s.1,?_,fun x h1 _=>h1 s (by simp)⟩
  rw[DR,hl]
  unfold Ez
  simp only[Option.bind_some,hst]
  rw[if_pos (show Au l s from⟨hlt,hs.1.2,hs.2.1⟩)]
theorem pV(ss:List St):nm ss=jb 47 ([] :: ss.map Bi):=by
 rw[SB];unfold nm;simp[List.flatMap_map]
theorem Cc(s:ByteArray)(ss:List St):AQ s=some ss↔s.data.toList=nm ss∧IJ ss:=by
 unfold AQ
 by_cases hz:s=⟨#[]⟩
 ·rw[if_pos hz]
  subst hz
  constructor
  ·intro h;cases h;exact⟨rfl,by simp,by simp,by simp⟩
  rintro⟨h,_⟩
  cases ss with
  |nil=>rfl
  |cons x ss=>simp[nm]at h
 rw[if_neg hz]
 have hj:=UY s 47
 have e47:((47:UInt8).toNat:Int)=47:=rfl
 rw[e47]at hj
 constructor
 ·intro h
  split at h
  ·rename_i hc
   cases hr:BI (Ah s 47).tail with
   |none=>rw[hr]at h;cases h
   | some q=>
    rw[hr]at h
    cases h
    obtain⟨h1,h2,h3⟩:=aK _ q hr
    have hlen:=(Ig _ q hr).1
    cases hp:Ah s 47 with
    |nil=>exact absurd hp (Ky s 47)
    | cons p ps=>
     rw[hp]at hc h1 hj hlen
     simp at hc
     refine⟨?_,?_,fun y hy=>(h2 y hy).1,h3⟩
     ·rw[←hj,pV,List.map_cons,hc.1]
      simp only[List.tail_cons]at h1
      rw[h1]
     show q.2.length≤30
     simp at hlen
     omega
  cases h
 rintro⟨h1,h2,h3,h4⟩
 have hne:ss≠[]:=by
  rintro rfl
  apply hz
  apply ByteArray.ext
  apply Array.toList_inj.1
  rw[h1];rfl
 have hsp:=gz s 47 ([] :: ss.map Bi) (by simp) (fun p hp=>by
  rcases List.mem_cons.1 hp with rfl|hp
  ·simp
  obtain⟨y,_,rfl⟩:=List.mem_map.1 hp;exact EP y) (by rw[h1,pV])
 rw[e47]at hsp
 cases hp:Ah s 47 with
 |nil=>exact absurd hp (Ky s 47)
 |cons p ps=>
  rw[hp]at hsp
  simp only[List.map_cons,List.cons.injEq]at hsp
  obtain⟨l,hl,_⟩:=q9 ss h3 h4 ps hsp.2
  have hpl:ps.length=ss.length:=by have:=congrArg List.length hsp.2;simpa using this
  have hp0:p=⟨#[]⟩:=ByteArray.ext (Array.toList_inj.1 hsp.1)
  rw[if_pos ⟨by simpa using hp0,by simp;omega⟩,List.tail_cons,hl]
  rfl
theorem bQ(ss tt:List St):nm (ss++tt)=nm ss++nm tt:=by simp[nm]
theorem ZO(ss:List St)(x:St):nm (ss++[x])=nm ss++47 :: Bi x:=by simp[nm]
theorem IJ.pre{ss tt:List St}(h:IJ (ss++tt)):IJ ss:=by
 obtain⟨h1,h2,h3⟩:=h
 refine⟨by simp at h1;omega,fun s hs=>h2 s (by simp[hs]),?_⟩
 rw[List.pairwise_append]at h3;exact h3.1
theorem Tc{s t:ByteArray}(h:s.data.toList=t.data.toList):s=t:=ByteArray.ext (Array.toList_inj.1 h)
theorem Xu{a b x y:List UInt8}(hx:(47:UInt8) ∉ x)(hy:(47:UInt8) ∉ y)(h:a++47 :: x=b++47 :: y):a=b∧x=y:=by
 have hr:=congrArg List.reverse h
 simp only[List.reverse_append,List.reverse_cons,List.append_assoc,List.singleton_append]at hr
 have hx':(47:UInt8) ∉ x.reverse:=by simpa using hx
 have hy':(47:UInt8) ∉ y.reverse:=by simpa using hy
 have e1:x.reverse=y.reverse:=by rw[←Dq (y:=a.reverse) hx',hr,Dq hy']
 have e2:a.reverse=b.reverse:=by rw[←EK (x:=x.reverse) (y:=a.reverse) hx',hr,EK hy']
 exact⟨List.reverse_inj.1 e2,List.reverse_inj.1 e1⟩
theorem XL{x y:St}(hx:Lg x)(hy:Lg y)(h:Bi x=Bi y):x=y:=by
 have h1:=F_ hx (p:=BQ (Bi x)) (A9 _)
 have h2:=F_ hy (p:=BQ (Bi x)) ((A9 _).trans h)
 rw[h1]at h2
 exact Option.some.inj h2

theorem qi{l:List UInt8}(h:l≠[]):BQ l≠⟨#[]⟩:=fun e=>h (by have:=congrArg (fun s:ByteArray=>s.data.toList) e;simpa[A9]using this)
def FM(s:ByteArray):ByteArray:=BQ (nm ((AQ s).getD []).dropLast)
def Aq(s:ByteArray):Int:=(((AQ s).getD []).getLast?.map (·.1)).getD 0
def Be(s:ByteArray):Int:=match AQ s with|some ss=>(ss.length:Int)|none=> -1
theorem Vl{s:ByteArray}:Be s≤Aq s∧Be s≤30∧Aq s≤60:=by
 unfold Be Aq
 cases h:AQ s with
 |none=>simp
 | some ss=>
  have ok:=((Cc _ _).1 h).2
  simp only[Option.getD_some]
  refine⟨?_,by have:=ok.1;omega,?_⟩
  ·have key:∀ss:List St,(∀s ∈ ss,Lg s)→ss.Pairwise (fun a b=>a.1<b.1)→(ss.length:Int)≤(ss.getLast?.map (·.1)).getD 0:=by
    intro ss
    generalize hn:ss.length=n
    induction n generalizing ss with
    |zero=>intro _ _;have:ss=[]:=List.length_eq_zero_iff.1 hn;subst this;simp
    | succ n ih=>
     intro h1 h2
     obtain⟨ss',x,rfl⟩:∃ss' x,ss=ss'++[x]:=⟨ss.dropLast,ss.getLast (fun e=>by rw[e]at hn;simp at hn),(List.dropLast_concat_getLast _).symm⟩
     rw[List.pairwise_append]at h2
     have:=ih ss' (by simpa using hn) (fun s hs=>h1 s (by simp[hs])) h2.1
     have hx:=(h1 x (by simp)).1
     simp only[List.getLast?_append,List.getLast?_singleton,Option.some_or,Option.map_some,Option.getD_some]
     cases hl:ss'.getLast? with
     |none=>rw[hl]at this;simp at this;omega
     |some y=>
      rw[hl]at this
      simp at this
      have:=h2.2.2 y (List.mem_of_getLast? hl) x (by simp)
      omega
   exact key ss ok.2.1 ok.2.2
  cases hl:ss.getLast? with
  |none=>simp
  |some y=>simp;exact(ok.2.1 y (List.mem_of_getLast? hl)).1.2
end
end Go.Proofs.YtkmnfeihjjccmaaGreatDoor
