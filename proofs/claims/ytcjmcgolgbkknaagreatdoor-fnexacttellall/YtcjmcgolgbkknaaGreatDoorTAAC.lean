/- A Conf and a certificate that came in. -/
import Derived.Test.YtcjmcgolgbkknaaGreatDoorTAAB
import Derived.Lib.SmallJoins
set_option maxRecDepth 100000
set_option linter.unusedSectionVars false
namespace Go.Proofs.YtcjmcgolgbkknaaGreatDoor
section
open Go.ChangeShapes Go.WideShapes Go.ChangeAt Go.RowKit
open Go.Joins
variable [∀(a b c d:Int),Decidable (BG a b c d)] [∀(n f:Int),Decidable (A_ n f)]
theorem own:ownKnob Tryz.prog.godebug=none:=by kernel_rfl
theorem laidOut:laidOutB Tryz.prog=true:=by kernel_rfl
theorem Dj{H:Type}{enc:TypeId×Value→H}{W:World}{n:Nat}{c:Value}{y:DataW H×List MemPlace}(h:DataW.trod enc Tryz.prog W 0 (fun _=>true) true n 24 [c]=some y):
 ∃ao ca xs,c= .slice ao (xs:List Int).length ca∧xs.length≤maxLen∧(xs=[]∨∃b off,ao=some ⟨b,off,none⟩∧∀k,k<xs.length→W.cell? ⟨b,off+k,none⟩=some (.int .i64 (xs.getD k 0)))∧JK xs:=by
 rcases open_ints Tryz.underlying24 Tryz.underlying3 (by kernel_rfl) h with⟨hcs,_⟩|⟨x,l,c,zs,hcs,_,hl,hm,hz,_,hcell,hwz⟩
 ·simp at hcs;exact⟨none,0,[],hcs,by simp,.inl rfl,fun x hx=>by simp at hx⟩
 simp at hcs;have hz':zs.length=c:=by simpa using hz
 have e:(zs.take l).length=l:=by simp;omega
 refine⟨some x,c,zs.take l,by rw[hcs,e],by rw[e];omega,?_,fun x hx=>hwz x (List.mem_of_mem_take hx)⟩;by_cases h0:l=0
 ·left;simp[h0]
 right
 obtain⟨b,off,spot⟩:=x;have hc:=hcell 0 (by omega);have hspot:spot=none:=by simpa[Addr.add]using World.cell?_spot hc
 subst hspot;refine⟨b,off,rfl,fun k hk=>?_⟩;rw[e]at hk;have hk':=hcell k (by omega);rw[show((⟨b,off,none⟩:Addr).add k)=⟨b,off+k,none⟩ from by unfold Addr.add;split<;>simp_all]at hk';rw[hk'];simp[hk]
theorem fE:Tryz.prog.cellsOf 23=2:=by kernel_rfl
theorem bL{H:Type}{enc:TypeId×Value→H}{W:World}{base:Nat}{v:Value}{d:DataW H}{p:List MemPlace}(hv:Value.okWide Tryz.prog W .any base 23 v)
 (h:DataW.Trod enc Tryz.prog W 0 (fun _=>true) true 23 v d p):∃n f:Int,v=cv n f:=by
 obtain⟨c0,c1,y0,y1,m,rfl,_,_,hy0,hy1⟩:=open_agg2 Tryz.underlying23 (by kernel_rfl) fE hv h;obtain⟨a,e0,_,_⟩:=DataW.trod_int Tryz.underlying3 hy0;obtain⟨b,e1,_,_⟩:=DataW.trod_int Tryz.underlying3 hy1;simp at e0 e1;exact⟨a,b,by rw[e0,e1]⟩
theorem Am:Tryz.prog.cellsOf 26=3:=by kernel_rfl
def Lm(W:World)(ao:Option Addr)(xs:List Int):Prop:=xs=[]∨∃b off,ao=some ⟨b,off,none⟩∧∀k,k<xs.length→W.cell? ⟨b,off+k,none⟩=some (.int .i64 (xs.getD k 0))
theorem Lm.ri{W:World}{ao:Option Addr}{ca:Nat}{xs:List Int}(h:Lm W ao xs)(hl:xs.length≤4194304):RI W (.slice ao xs.length ca) xs:=⟨hl,ao,ca,rfl,h⟩
end
end Go.Proofs.YtcjmcgolgbkknaaGreatDoor
