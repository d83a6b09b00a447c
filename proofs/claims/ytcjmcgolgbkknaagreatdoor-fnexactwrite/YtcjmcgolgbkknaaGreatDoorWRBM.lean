/- RepWriteFin: the walk of laws.FnExactWrite, short and long -/
import Derived.Test.YtcjmcgolgbkknaaGreatDoorWRBI
import Derived.Test.YtcjmcgolgbkknaaGreatDoorWRBL
set_option maxRecDepth 100000
set_option maxHeartbeats 16000000
set_option linter.unusedSectionVars false
set_option linter.unusedSimpArgs false
namespace Go.Proofs.YtcjmcgolgbkknaaGreatDoor
section
open Go Go.RowKit
variable [∀(a b c d:Int),Decidable (BK a b c d)] [∀(n f:Int),Decidable (A9 n f)] [∀(a b c d:Nat),Decidable (Dc a b c d)] [∀(x:T4),Decidable (Dv x)] [∀(last:Int)(s:St),Decidable (Ak last s)] [∀(n:Int)(s:List Int),Decidable (Dw n s)] [∀(x y:T4),Decidable (Hu x y)] [∀(ts:List T4),Decidable (Asc ts)] [∀(ts:List T4),Decidable (Dh ts)] [∀(ts:List T4),Decidable (J9 ts)]
theorem SB(n f:Int)(t:Bv)(ao bo co od oe:Option Addr)(ca cb cc cd ce:Nat)(rs:List Pr)(w:World)(p1 p2 p3:Int)(p4:ByteArray)(p5:List Int)(p6:ByteArray)(aS:Option Addr)(cS:Nat)(ht:t.tab=rs.map YC)(g:1048576<(t.s.size:Int)+t.qw.length+t.d.size+t.pool.length+rs.length+Bt rs+t.AY.length+t.held.length+BJ t.held)(hc:E_ w co rs)(hh:Gr w (.slice oe t.held.length ce) t.held)(mx:uz t rs):
 Calls Tryz.prog 4 #[cv n f,FX t (.slice ao t.qw.length ca) (.slice bo t.pool.length cb) (.slice co t.tab.length cc) (.slice od t.AY.length cd) (.slice oe t.held.length ce),sv p1 p2 p3 p4 (.slice aS p5.length cS) p6] w fun e w'=>e= .returned (.bool true)∧Below w.heap.size w w':=by
 have hrl:rs.length=t.tab.length:=by rw[ht];simp
 have ZA:=hide fun w(h:E_ w co rs)(h':Gr w (.slice oe t.held.length ce) t.held)=>mD t ao bo co od oe ca cb cc cd ce rs 1048576 w h h' (by omega) mx (by omega) g;rw[hrl]at ZA;have d1:decide ((-1:Int)<0)=true:=by decide
 have HC:=hide hc;have HH:=hide hh;clear hc hh g hrl ht mx;obtain⟨w0,hw0,AO,LC,LA,LM,Cm⟩:=yT w #[.int .i64 n,.int .i64 f] 23 #[.int .i64 t.id,.int .i64 t.vw,.int .i64 t.ak,.int .i64 t.vo,.int .i64 t.lo,.int .i64 t.n,.string t.s,.slice ao t.qw.length ca,.string t.d,.slice bo t.pool.length cb,.slice co t.tab.length cc,.slice od t.AY.length cd,.int .i64 t.su,.slice oe t.held.length ce] 36 #[.int .i64 p1,.int .i64 p2,.int .i64 p3,.string p4,.slice aS p5.length cS,.string p6] 28;go_enter Tryz.func4,Tryz.ntmps4
 go_wp2_with (first|(refine Al LA 36 _ rfl _ rfl rfl Tryz.underlying36 rfl (by kernel_rfl) ?_))
 clear hw0;refine(ZA.out _ (HC.out.below AO) (HH.out.below AO)).mono ?_;rintro _ w1 ⟨rfl,bb⟩;have AL:=bu AO bb;have Cj:=bb.size;replace LC:=LC.up bb;replace LA:=LA.up bb;replace LM:=LM.up bb;clear AO bb;go_wp2;go_ret;exact⟨rfl,AL⟩
theorem R_(n f:Int)(t:Bv)(ao bo co od oe:Option Addr)(ca cb cc cd ce:Nat)(rs:List Pr)(w:World)(p1 p2 p3:Int)(p4:ByteArray)(p5:List Int)(p6:ByteArray)(aS:Option Addr)(cS:Nat)(ht:t.tab=rs.map YC)(g:(t.s.size:Int)+t.qw.length+t.d.size+t.pool.length+rs.length+Bt rs+t.AY.length+t.held.length+BJ t.held≤1048576)(gm:1048576<(t.s.size:Int)+t.qw.length+t.d.size+t.pool.length+rs.length+Bt rs+t.AY.length+t.held.length+BJ t.held+((p4.size:Int)+p5.length+p6.size))(hc:E_ w co rs)(hh:Gr w (.slice oe t.held.length ce) t.held)(m1:p4.size≤9223372036854775807)(m2:p5.length≤9223372036854775807)(m3:p6.size≤9223372036854775807):
 Calls Tryz.prog 4 #[cv n f,FX t (.slice ao t.qw.length ca) (.slice bo t.pool.length cb) (.slice co t.tab.length cc) (.slice od t.AY.length cd) (.slice oe t.held.length ce),sv p1 p2 p3 p4 (.slice aS p5.length cS) p6] w fun e w'=>e= .returned (.bool true)∧Below w.heap.size w w':=by
 have hrl:rs.length=t.tab.length:=by rw[ht];simp
 have ZA:=hide fun w(h:E_ w co rs)(h':Gr w (.slice oe t.held.length ce) t.held)=>Sa t ao bo co od oe ca cb cc cd ce rs 1048576 w h h' (by omega) g;rw[hrl]at ZA;have hz:∃z:Int,(1048576:Int)-((t.s.size:Int)+t.qw.length+t.d.size+t.pool.length+t.tab.length+Bt rs+t.AY.length+t.held.length+BJ t.held)=z∧0≤z∧z<(p4.size:Int)+p5.length+p6.size∧z≤1048576:=⟨_,rfl,by omega,by omega,by omega⟩
 obtain⟨z,hz,hz0,hz4,hz5⟩:=hz;rw[hz]at ZA;have d1:decide (z<0)=false:=by simp;omega
 have ZB:=hide fun w=>SY p1 p2 p3 p4 aS p5.length cS p6 z w hz0 hz4 m1 m2 m3 hz5;have d2:decide ((-1:Int)<0)=true:=by decide
 have HC:=hide hc;have HH:=hide hh;clear hc hh g gm hrl ht m1 m2 m3 hz hz0 hz4 hz5;obtain⟨w0,hw0,AO,LC,LA,LM,Cm⟩:=yT w #[.int .i64 n,.int .i64 f] 23 #[.int .i64 t.id,.int .i64 t.vw,.int .i64 t.ak,.int .i64 t.vo,.int .i64 t.lo,.int .i64 t.n,.string t.s,.slice ao t.qw.length ca,.string t.d,.slice bo t.pool.length cb,.slice co t.tab.length cc,.slice od t.AY.length cd,.int .i64 t.su,.slice oe t.held.length ce] 36 #[.int .i64 p1,.int .i64 p2,.int .i64 p3,.string p4,.slice aS p5.length cS,.string p6] 28;go_enter Tryz.func4,Tryz.ntmps4
 go_wp2_with (first|(refine Al LA 36 _ rfl _ rfl rfl Tryz.underlying36 rfl (by kernel_rfl) ?_))
 clear hw0;refine(ZA.out _ (HC.out.below AO) (HH.out.below AO)).mono ?_;rintro _ w1 ⟨rfl,bb⟩;have AL:=bu AO bb;have Cj:=bb.size;replace LC:=LC.up bb;replace LA:=LA.up bb;replace LM:=LM.up bb;clear AO bb;go_wp2_with (first|(refine Al LM 28 _ rfl _ rfl rfl Tryz.underlying28 rfl (by kernel_rfl) ?_))
 refine(ZB.out _).mono ?_;rintro _ w2 ⟨rfl,bb⟩;have Ah:=bu AL bb;have Ej:=bb.size;replace LC:=LC.up bb;replace LA:=LA.up bb;replace LM:=LM.up bb;clear AL bb;go_wp2;go_ret;exact⟨rfl,Ah⟩
theorem uw(s:Int)(xs ys:List Int)(h:xs.length≤1048576):(NH s xs ys).length≤1048577:=by
 unfold NH
 split
 ·rename_i hb;unfold Ja at hb;simp only[Bool.and_eq_true,decide_eq_true_eq]at hb;rw[List.length_append];omega
 omega
theorem rQ(n f:Int){t:Bv}(p1 p2 p3:Int){p4:ByteArray}{p5:List Int}{p6:ByteArray}(h:J8 t)(z:RZ t)(hd:t.AY.length≤1048576)(h4:p4.size≤1048576)(h5:p5.length≤1048576)(h6:p6.size≤1048576):J8 (FB n f t p1 p2 p3 p4 p5 p6)∧RZ (FB n f t p1 p2 p3 p4 p5 p6):=by
 unfold FB
 split
 ·exact⟨h,z⟩
 split
 ·exact⟨⟨by show p5.length≤_;omega,h.p,h.tb,uw _ _ _ hd,h.h,h.tt,h.hh⟩,⟨by show p4.size≤_;omega,by show p6.size≤_;omega,z.tt,z.hh⟩⟩
 exact⟨h,z⟩
theorem mq{t u:Bv}{rs:List Pr}(ht:t.tab=rs.map YC)(g:(t.s.size:Int)+t.qw.length+t.d.size+t.pool.length+rs.length+Bt rs+t.AY.length+t.held.length+BJ t.held≤1048576)(h1:u.pool=t.pool)(h2:u.tab=t.tab)(h3:u.held=t.held)(h4:u.qw.length≤1048577)(h5:u.AY.length≤1048577):WT 1 u≤90000000:=by
 unfold WT;have e1:=Sv (YB 1 u) u.held
 have e2:YB 1 u=1+u.qw.length+u.pool.length*4+2*u.tab.length+Vn u.tab+u.AY.length:=by
  unfold YB iA dW iB;rw[nM]
 rw[h1,h2]at e2;rw[h3]at e1⊢;have e3:Vn t.tab≤Bt rs:=by rw[ht];exact SK rs
 have e4:t.tab.length=rs.length:=by rw[ht];simp
 omega
theorem rP(n f:Int)(t:Bv)(p1 p2 p3:Int)(p4:ByteArray)(p5:List Int)(p6:ByteArray):(FB n f t p1 p2 p3 p4 p5 p6).pool=t.pool∧(FB n f t p1 p2 p3 p4 p5 p6).tab=t.tab∧(FB n f t p1 p2 p3 p4 p5 p6).held=t.held:=by
 unfold FB
 split
 ·exact⟨rfl,rfl,rfl⟩
 split
 ·exact⟨rfl,rfl,rfl⟩
 exact⟨rfl,rfl,rfl⟩
theorem Ut(n f:Int)(t:Bv)(ao bo co od oe:Option Addr)(ca cb cc cd ce:Nat)(rs:List Pr)(p1 p2 p3:Int)(p4:ByteArray)(p5:List Int)(p6:ByteArray)(aS:Option Addr)(cS:Nat)(w:World)(ht:t.tab=rs.map YC)(hm:uz t rs)(aq:RD w ao t.qw)(ap:AR w bo t.pool)(at_:E_ w co rs)(he:∀r ∈ rs,RD w r.2.2.1 r.2.2.2.2∧J7 r.2.2.2.2)(ad:zF w od cd t.AY∧∀k,k<t.AY.length→0≤t.AY.getD k 0∧t.AY.getD k 0≤255)(ah:RG (OH t.held) 18 w (.slice oe t.held.length ce) t.held.length)(hh:∀p ∈ t.held,(J7 p.2.bw∧J7 p.2.pw∧J7 p.2.qw)∧MI p.2)(m1:p4.size≤maxLen)(m2:p5.length≤maxLen)(m3:p6.size≤maxLen)(ma:RD w aS p5)(hE:Env w):
 Calls Tryz.prog 4 #[cv n f,FX t (.slice ao t.qw.length ca) (.slice bo t.pool.length cb) (.slice co rs.length cc) (.slice od t.AY.length cd) (.slice oe t.held.length ce),sv p1 p2 p3 p4 (.slice aS p5.length cS) p6] w fun e w'=>e= .returned (.bool true)∧Below w.heap.size w w':=by
 unfold maxLen at m1 m2 m3;have hrl:rs.length=t.tab.length:=by rw[ht];simp
 rw[hrl];by_cases g:(t.s.size:Int)+t.qw.length+t.d.size+t.pool.length+rs.length+Bt rs+t.AY.length+t.held.length+BJ t.held≤1048576
 ·by_cases gm:(t.s.size:Int)+t.qw.length+t.d.size+t.pool.length+rs.length+Bt rs+t.AY.length+t.held.length+BJ t.held+((p4.size:Int)+p5.length+p6.size)≤1048576
  ·obtain⟨hsm,hrs,hI⟩:=nA ht g aq ap at_ he ad.1 ah;have hri:=xS ht g hh;have hrz:=xR hrs;have hd:t.AY.length≤1048576:=by omega
   have hn:(Fa n f p1 p2 p3 p4 p5 p6).length≤1048576:=Nat.le_trans (nZ _ _ _ _ _ _ _ _) (by omega);obtain⟨hm2,hz2⟩:=rQ n f p1 p2 p3 hsm hrz hd (p4:=p4) (p5:=p5) (p6:=p6) (by omega) (by omega) (by omega);have hq:=mq ht g rfl rfl rfl hsm.q hsm.d;obtain⟨e1,e2,e3⟩:=rP n f t p1 p2 p3 p4 p5 p6;have hq2:=mq ht g e1 e2 e3 hm2.q hm2.d;have wD:J8 (Ha n f t p1 p2 p3 p4 p5 p6):=by unfold Ha;split;exact hm2;exact hsm
   have hqu:WT 1 (Ha n f t p1 p2 p3 p4 p5 p6)≤100000000:=by unfold Ha;split<;>omega
   exact R9 Env (fun _ _ h b=>h.below b) n f t ao bo co od oe ca cb cc cd ce rs w p1 p2 p3 p4 p5 p6 aS cS (Ha n f t p1 p2 p3 p4 p5 p6) (Ph n f t p1 p2 p3 p4 p5 p6) wD hq hqu ht g gm at_ (OH.low ah) hsm hI hE (ma.ri (by omega))
    (fun ao bo co od oe aS ca cb cc cd ce cS w h h1=>gY n f t p1 p2 p3 p4 p5 p6 ao bo co od oe aS ca cb cc cd ce cS w hsm hrs hd (by omega) (by omega) hn h h1)
    (fun ao bo co od oe aS ca cb cc cd ce cS w he h h1=>jY n f t p1 p2 p3 p4 p5 p6 ao bo co od oe aS ca cb cc cd ce cS w hsm hri hrz hm2 hz2 hd (by omega) (by omega) hn he h h1)
  exact R_ n f t ao bo co od oe ca cb cc cd ce rs w p1 p2 p3 p4 p5 p6 aS cS ht g (by omega) at_ (OH.low ah) m1 m2 m3
 exact SB n f t ao bo co od oe ca cb cc cd ce rs w p1 p2 p3 p4 p5 p6 aS cS ht (by omega) at_ (OH.low ah) hm
end
end Go.Proofs.YtcjmcgolgbkknaaGreatDoor
