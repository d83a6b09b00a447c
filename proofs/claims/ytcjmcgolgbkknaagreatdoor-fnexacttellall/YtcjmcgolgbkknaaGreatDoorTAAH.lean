/- Lemmas, as stated. -/
import Derived.Test.YtcjmcgolgbkknaaGreatDoorTAAG
set_option maxRecDepth 100000
set_option maxHeartbeats 16000000
set_option linter.unusedSectionVars false
namespace Go.Proofs.YtcjmcgolgbkknaaGreatDoor
section
open Go.ChangeShapes Go.WideShapes Go.ChangeAt Go.RowKit
open Go.Joins
variable [∀(a b c d:Int),Decidable (BG a b c d)] [∀(n f:Int),Decidable (A_ n f)]
section
variable {H:Type} {enc:TypeId×Value→H} {P:Program} {w:World} {base:Nat} {spare:Bool}
theorem KG{held:TypeId→Bool}{t:TypeId}{f0 f1 f2 f3 f4 f5 f6:Field}{fuel:Nat}{cs:List Value}{x:DataW H×List MemPlace}(ht:P.underlying t=some (.struct #[f0,f1,f2,f3,f4,f5,f6]))(h:DataW.trod enc P w base held spare fuel t cs=some x):
 ∃y0 y1 y2 y3 y4 y5 y6 n,DataW.trod enc P w base held spare n f0.type ((cs.drop f0.offset).take (P.cellsOf f0.type))=some y0∧DataW.trod enc P w base held spare n f1.type ((cs.drop f1.offset).take (P.cellsOf f1.type))=some y1∧DataW.trod enc P w base held spare n f2.type ((cs.drop f2.offset).take (P.cellsOf f2.type))=some y2∧DataW.trod enc P w base held spare n f3.type ((cs.drop f3.offset).take (P.cellsOf f3.type))=some y3∧DataW.trod enc P w base held spare n f4.type ((cs.drop f4.offset).take (P.cellsOf f4.type))=some y4∧DataW.trod enc P w base held spare n f5.type ((cs.drop f5.offset).take (P.cellsOf f5.type))=some y5∧DataW.trod enc P w base held spare n f6.type ((cs.drop f6.offset).take (P.cellsOf f6.type))=some y6:=by
 obtain⟨xs,n,_,rfl,hl,hlen,hf⟩:=DataW.trod_struct ht h
 match xs,hlen with
 | [y0,y1,y2,y3,y4,y5,y6],_=>exact⟨y0,y1,y2,y3,y4,y5,y6,n,by simpa using hf 0 f0 rfl,by simpa using hf 1 f1 rfl,by simpa using hf 2 f2 rfl,by simpa using hf 3 f3 rfl,by simpa using hf 4 f4 rfl,by simpa using hf 5 f5 rfl,by simpa using hf 6 f6 rfl⟩
end
theorem Zc{cs:Array Value}(h:cs.size=17):∃c0 c1 c2 c3 c4 c5 c6 c7 c8 c9 c10 c11 c12 c13 c14 c15 c16,cs= #[c0,c1,c2,c3,c4,c5,c6,c7,c8,c9,c10,c11,c12,c13,c14,c15,c16]:=by
 obtain⟨l⟩:=cs
 match l,h with
 | [c0,c1,c2,c3,c4,c5,c6,c7,c8,c9,c10,c11,c12,c13,c14,c15,c16],_=>exact⟨c0,c1,c2,c3,c4,c5,c6,c7,c8,c9,c10,c11,c12,c13,c14,c15,c16,rfl⟩
theorem V7:Tryz.prog.cellsOf 67=17:=by kernel_rfl
theorem AV:Tryz.prog.cellsOf 63=3:=by kernel_rfl
theorem Ah:Tryz.prog.cellsOf 65=4:=by kernel_rfl
def MB(t:MT):Prop:=t.bn.size≤maxLen∧t.bs.size≤maxLen∧t.bw.length≤maxLen∧t.ps.size≤maxLen∧t.pw.length≤maxLen∧t.qs.size≤maxLen∧t.qw.length≤maxLen
theorem iP{H:Type}{enc:TypeId×Value→H}{W:World}{base:Nat}{v:Value}{d:DataW H}{p:List MemPlace}(hv:Value.okWide Tryz.prog W .any base 67 v)
 (h:DataW.Trod enc Tryz.prog W 0 (fun _=>true) true 67 v d p):
 ∃(t:MT)(ao bo co:Option Addr)(ca cb cc:Nat),v=Dw t (.slice ao t.bw.length ca) (.slice bo t.pw.length cb) (.slice co t.qw.length cc)∧MB t∧(Lm W ao t.bw∧Lm W bo t.pw∧Lm W co t.qw)∧(JK t.bw∧JK t.pw∧JK t.qw)∧MI t:=by
 obtain⟨cs,rfl,hsz⟩:=okWide_struct Tryz.underlying67 hv;obtain⟨c0,c1,c2,c3,c4,c5,c6,c7,c8,c9,c10,c11,c12,c13,c14,c15,c16,rfl⟩:=Zc (hsz.trans V7);obtain⟨fuel,hf⟩:=h;obtain⟨y0,y1,y2,y3,y4,y5,y6,k,h0,h1,h2,h3,h4,h5,h6⟩:=KG Tryz.underlying67 hf;have g0:DataW.trod enc Tryz.prog W 0 (fun _=>true) true k 3 [c0]=some y0:=by simpa[Value.cells,AX,Aa,Am,AY,AV,Ah,Ab]using h0
 have g1:DataW.trod enc Tryz.prog W 0 (fun _=>true) true k 3 [c1]=some y1:=by simpa[Value.cells,AX,Aa,Am,AY,AV,Ah,Ab]using h1
 have g2:DataW.trod enc Tryz.prog W 0 (fun _=>true) true k 62 [c2,c3,c4,c5]=some y2:=by simpa[Value.cells,AX,Aa,Am,AY,AV,Ah,Ab]using h2
 have g3:DataW.trod enc Tryz.prog W 0 (fun _=>true) true k 63 [c6,c7,c8]=some y3:=by simpa[Value.cells,AX,Aa,Am,AY,AV,Ah,Ab]using h3
 have g4:DataW.trod enc Tryz.prog W 0 (fun _=>true) true k 26 [c9,c10,c11]=some y4:=by simpa[Value.cells,AX,Aa,Am,AY,AV,Ah,Ab]using h4
 have g5:DataW.trod enc Tryz.prog W 0 (fun _=>true) true k 3 [c12]=some y5:=by simpa[Value.cells,AX,Aa,Am,AY,AV,Ah,Ab]using h5
 have g6:DataW.trod enc Tryz.prog W 0 (fun _=>true) true k 65 [c13,c14,c15,c16]=some y6:=by simpa[Value.cells,AX,Aa,Am,AY,AV,Ah,Ab]using h6
 obtain⟨b0,b1,kb,_,_,hb0,hb1⟩:=trod_struct2 Tryz.underlying62 g2;have gb0:DataW.trod enc Tryz.prog W 0 (fun _=>true) true kb 9 [c2]=some b0:=by simpa[Value.cells,AX,Aa,Am,AY,AV,Ah,Ab]using hb0
 have gb1:DataW.trod enc Tryz.prog W 0 (fun _=>true) true kb 26 [c3,c4,c5]=some b1:=by simpa[Value.cells,AX,Aa,Am,AY,AV,Ah,Ab]using hb1
 obtain⟨q0,q1,q2,kq,_,_,hq0,hq1,hq2⟩:=Go.Deep.trod_struct3 Tryz.underlying26 gb1;have gq0:DataW.trod enc Tryz.prog W 0 (fun _=>true) true kq 3 [c3]=some q0:=by simpa[Value.cells,AX,Aa,Am,AY,AV,Ah,Ab]using hq0
 have gq1:DataW.trod enc Tryz.prog W 0 (fun _=>true) true kq 9 [c4]=some q1:=by simpa[Value.cells,AX,Aa,Am,AY,AV,Ah,Ab]using hq1
 have gq2:DataW.trod enc Tryz.prog W 0 (fun _=>true) true kq 24 [c5]=some q2:=by simpa[Value.cells,AX,Aa,Am,AY,AV,Ah,Ab]using hq2
 obtain⟨r0,r1,r2,kr,_,_,hr0,hr1,hr2⟩:=Go.Deep.trod_struct3 Tryz.underlying63 g3;have gr0:DataW.trod enc Tryz.prog W 0 (fun _=>true) true kr 3 [c6]=some r0:=by simpa[Value.cells,AX,Aa,Am,AY,AV,Ah,Ab]using hr0
 have gr1:DataW.trod enc Tryz.prog W 0 (fun _=>true) true kr 9 [c7]=some r1:=by simpa[Value.cells,AX,Aa,Am,AY,AV,Ah,Ab]using hr1
 have gr2:DataW.trod enc Tryz.prog W 0 (fun _=>true) true kr 24 [c8]=some r2:=by simpa[Value.cells,AX,Aa,Am,AY,AV,Ah,Ab]using hr2
 obtain⟨s0,s1,s2,ks,_,_,hs0,hs1,hs2⟩:=Go.Deep.trod_struct3 Tryz.underlying26 g4;have gs0:DataW.trod enc Tryz.prog W 0 (fun _=>true) true ks 3 [c9]=some s0:=by simpa[Value.cells,AX,Aa,Am,AY,AV,Ah,Ab]using hs0
 have gs1:DataW.trod enc Tryz.prog W 0 (fun _=>true) true ks 9 [c10]=some s1:=by simpa[Value.cells,AX,Aa,Am,AY,AV,Ah,Ab]using hs1
 have gs2:DataW.trod enc Tryz.prog W 0 (fun _=>true) true ks 24 [c11]=some s2:=by simpa[Value.cells,AX,Aa,Am,AY,AV,Ah,Ab]using hs2
 obtain⟨x0,x1,x2,x3,kx,_,_,hx0,hx1,hx2,hx3⟩:=trod_struct4 Tryz.underlying65 g6;have gx0:DataW.trod enc Tryz.prog W 0 (fun _=>true) true kx 3 [c13]=some x0:=by simpa[Value.cells,AX,Aa,Am,AY,AV,Ah,Ab]using hx0
 have gx1:DataW.trod enc Tryz.prog W 0 (fun _=>true) true kx 3 [c14]=some x1:=by simpa[Value.cells,AX,Aa,Am,AY,AV,Ah,Ab]using hx1
 have gx2:DataW.trod enc Tryz.prog W 0 (fun _=>true) true kx 3 [c15]=some x2:=by simpa[Value.cells,AX,Aa,Am,AY,AV,Ah,Ab]using hx2
 have gx3:DataW.trod enc Tryz.prog W 0 (fun _=>true) true kx 3 [c16]=some x3:=by simpa[Value.cells,AX,Aa,Am,AY,AV,Ah,Ab]using hx3
 obtain⟨vk,e0,_,_⟩:=DataW.trod_int Tryz.underlying3 g0;obtain⟨vv,e1,_,_⟩:=DataW.trod_int Tryz.underlying3 g1;obtain⟨bn,e2,_,l1⟩:=DataW.trod_string Tryz.underlying9 gb0;obtain⟨nq,e3,_,wq⟩:=DataW.trod_int Tryz.underlying3 gq0;obtain⟨sq,e4,_,zq⟩:=DataW.trod_string Tryz.underlying9 gq1;obtain⟨oQ,jq,qs,rfl,uq,aq,fq⟩:=Dj gq2;obtain⟨nr,e6,_,wr⟩:=DataW.trod_int Tryz.underlying3 gr0;obtain⟨sr,e7,_,zr⟩:=DataW.trod_string Tryz.underlying9 gr1;obtain⟨oR,jr,rs,rfl,ur,ar,fr⟩:=Dj gr2;obtain⟨ns,e9,_,ws⟩:=DataW.trod_int Tryz.underlying3 gs0;obtain⟨ss,e10,_,zs⟩:=DataW.trod_string Tryz.underlying9 gs1;obtain⟨oS,js,lS,rfl,us,aS,fs⟩:=Dj gs2;obtain⟨vh,e12,_,_⟩:=DataW.trod_int Tryz.underlying3 g5;obtain⟨t0,e13,_,_⟩:=DataW.trod_int Tryz.underlying3 gx0;obtain⟨t1,e14,_,_⟩:=DataW.trod_int Tryz.underlying3 gx1;obtain⟨t2,e15,_,_⟩:=DataW.trod_int Tryz.underlying3 gx2;obtain⟨t3,e16,_,_⟩:=DataW.trod_int Tryz.underlying3 gx3;simp at e0 e1 e2 e3 e4 e6 e7 e9 e10 e12 e13 e14 e15 e16;refine⟨⟨vk,vv,bn,nq,sq,qs,nr,sr,rs,ns,ss,lS,vh,t0,t1,t2,t3⟩,oQ,oR,oS,jq,jr,js,by rw[e0,e1,e2,e3,e4,e6,e7,e9,e10,e12,e13,e14,e15,e16],⟨l1,zq,uq,zr,ur,zs,us⟩,⟨aq,ar,aS⟩,⟨fq,fr,fs⟩,bounds_i64 wq,fun x hx=>bounds_i64 (fq x hx)⟩
end
section
open Go Go.RowKit
theorem Loc.row{w:World}{g:Nat}{cs cs':Array Value}(h:Loc w g cs):Loc (w.setRow g cs') g cs':=by obtain⟨t,h⟩:=h;exact⟨t,setRow_heap w g cs cs' t (0,0) h⟩
theorem Bu(w:World)(g:Nat)(cs:Array Value):Kp w (w.setRow g cs) (fun k=>k=g):=⟨rfl,rfl,rfl,by simp,fun k _ hk=>setRow_other w g k cs hk⟩
abbrev isRow:TypeDesc→Bool
 | .struct _| .array _ _=>true
 |_=>false
section
variable {P:Program} {ops:Array Oper} {rest:List Oper} {o:Oper} {a:Act} {Q:Exit→Act→World→Prop}
theorem Ap{w:World}{g:Nat}{cs:Array Value}(L:Loc w g cs)(ty:TypeId)(d:TypeDesc)(hgd:Region.wanted o (yielded ops a.tmps)=true)(x:Operand)(ho:o.op= .load ty x)(hx:a.eval x= .pointer (some ⟨g,0,none⟩))
 (hu:P.underlying ty=some d) (hd:isRow d=true) (hi:(P.info? ty).map (·.size)=some cs.size) (h:wpList P ops Q rest (a.put o.dst (.agg cs)) w):wpList P ops Q (o :: rest) a w:=by
 obtain⟨t,hg⟩:=L;exact wpList_step fun K hK=>by rw[if_pos hgd];exact wp_load_row ty x ho g hx t cs (0,0) d hg hu (by cases d<;>first|rfl|(simp[isRow]at hd)) hi (hK _ _ h)
theorem BH{w:World}{g:Nat}{cs:Array Value}(L:Loc w g cs)(ty:TypeId)(cs':Array Value)(hgd:o.guard=none)(x y:Operand)(ho:o.op= .store ty x y)(hx:a.eval x= .pointer (some ⟨g,0,none⟩))(hy:a.eval y= .agg cs')
 (hi:(P.info? ty).map (·.size)=some cs'.size) (hold:cs.size=cs'.size) (h1:cs'.all (·.oneCell')=true) (h:wpList P ops Q rest (a.put o.dst undef) (w.setRow g cs')):wpList P ops Q (o :: rest) a w:=by
 obtain⟨t,hg⟩:=L;exact wpList_store_row hgd ty x y ho g cs' hx hy t cs hg hi hold h1 h
theorem Ch{fn:Func}{p:Tmp}{ty:TypeId}(h:fn.results= #[.cell p ty]){tmps:Array Value}{w:World}{g:Nat}{cs:Array Value}(d:TypeDesc)(L:Loc w g cs)(hp:tmps.getD p undef= .pointer (some ⟨g,0,none⟩))
 (hu:P.underlying ty=some d) (hd:isRow d=true) (hi:(P.info? ty).map (·.size)=some cs.size):(results fn tmps).run P w= .ok (.agg cs) w:=by
 obtain⟨t,hg⟩:=L;exact results_cell_row h tmps w g t cs (0,0) d hp hg hu (by cases d<;>first|rfl|(simp[isRow]at hd)) hi
theorem VI{w:World}{g:Nat}{cs:Array Value}(L:Loc w g cs)(ty:TypeId)(d:TypeDesc)(hu:P.underlying ty=some d)(hd:isRow d=true)(hi:(P.info? ty).map (·.size)=some cs.size):
 (loadVar ty ⟨g,0,none⟩).run P w= .ok (.agg cs) w:=by
 obtain⟨t,hg⟩:=L;exact run_loadVar_row w g t ty cs (0,0) d hg hu (by cases d<;>first|rfl|(simp[isRow]at hd)) hi
theorem Az{S:World→Prop}{op:Oper}(hw:Region.wanted op (yielded ops a.tmps)=true)(ty:TypeId)(x:Operand)(ho:op.op= .load ty x){g:Nat}(hx:a.eval x= .pointer (some ⟨g,0,none⟩)){cs:Array Value}(d:TypeDesc)
 (hS:∀w,S w→Loc w g cs) (hu:P.underlying ty=some d) (hd:isRow d=true) (hi:(P.info? ty).map (·.size)=some cs.size):YieldsIf P ops S op (.agg cs) a:=
 .inl ⟨hw,fun w hw'=>by
  unfold execOp;simp only[ho,hx,Instr.loadAt,Instr.sureAddr,Sem.run_bind,Sem.run_pure,Result.andThen_ok,VI (hS w hw') ty d hu hd hi]⟩
end
theorem E_(w:World)(Z C:Array Value)(T:TypeId):Loc ((w.alloc (.cells Z T)).setRow w.heap.size C) w.heap.size C:=(AJ w Z T rfl).row
theorem DW(w:World)(Z C:Array Value)(T:TypeId):Below w.heap.size w ((w.alloc (.cells Z T)).setRow w.heap.size C):=Below.kp ((Below.refl _ _).alloc Ak _) (Bu _ _ _) (by simp) (fun k hk=>by omega)
theorem Eg(w:World)(Z C:Array Value)(T:TypeId):((w.alloc (.cells Z T)).setRow w.heap.size C).heap.size=w.heap.size+1:=by simp
end
section
open Go.RowKit
variable [∀(a b c d:Int),Decidable (BG a b c d)]
theorem Qa(t:MT)(a b c:Value)(xs ys zs:List Int)(w:World)(ha:RI w a xs)(hb:RI w b ys)(hc:RI w c zs):
 Calls Tryz.prog 22 #[Dw t a b c] w fun e w'=>∃u v x,e= .returned (Dw t u v x)∧OM w' w.heap.size u v x xs ys zs∧Below w.heap.size w w':=by
 have T1:=hide fun w h=>UE t.bn t.bv t.bs a xs w h;have T2:=hide fun w h=>Nv t.pv t.ps b ys w h;have T3:=hide fun w h=>Nu t.qv t.qs c zs w h;have T4:=hide fun w=>UA t.fr t.tu t.am t.no w;have HA:=hide ha;have HB:=hide hb;have HC:=hide hc;clear ha hb hc;obtain⟨w0,hw0,AO,P,R,O,DC⟩:=oJ w #[.int .i64 t.k,.int .i64 t.vw,.string t.bn,.int .i64 t.bv,.string t.bs,a,.int .i64 t.pv,.string t.ps,b,.int .i64 t.qv,.string t.qs,c,.int .i64 t.wh,.int .i64 t.fr,.int .i64 t.tu,.int .i64 t.am,.int .i64 t.no] 67 #[.int .i64 0,.int .i64 0,.string ⟨#[]⟩,.int .i64 0,.string ⟨#[]⟩,.slice none 0 0,.int .i64 0,.string ⟨#[]⟩,.slice none 0 0,.int .i64 0,.string ⟨#[]⟩,.slice none 0 0,.int .i64 0,.int .i64 0,.int .i64 0,.int .i64 0,.int .i64 0] 75 #[.int .i64 0,.int .i64 0,.string ⟨#[]⟩,.int .i64 0,.string ⟨#[]⟩,.slice none 0 0,.int .i64 0,.string ⟨#[]⟩,.slice none 0 0,.int .i64 0,.string ⟨#[]⟩,.slice none 0 0,.int .i64 0,.int .i64 0,.int .i64 0,.int .i64 0,.int .i64 0] 75;go_enter Tryz.func22,Tryz.ntmps22
 have fV:=P.cell 0 rfl;have xJ:=O.cell 0 rfl;have fO:=O.frozen;go_upto_region 3 with fail
 clear hw0 fV xJ fO;obtain⟨w1,hw1⟩:∃Ck,(w0.setCell ⟨w.heap.size+1+1,0,none⟩ (.int .i64 t.k))=Ck:=⟨_,rfl⟩
 have kN:Kp w0 w1 (fun k=>k=w.heap.size+1+1):=hw1▸AB _ _ _ _;replace O:Loc w1 (w.heap.size+1+1) #[.int .i64 t.k,.int .i64 0,.string ⟨#[]⟩,.int .i64 0,.string ⟨#[]⟩,.slice none 0 0,.int .i64 0,.string ⟨#[]⟩,.slice none 0 0,.int .i64 0,.string ⟨#[]⟩,.slice none 0 0,.int .i64 0,.int .i64 0,.int .i64 0,.int .i64 0,.int .i64 0]:=hw1▸(O.set 0 _ rfl);replace P:=P.kp kN (by omega);replace R:=R.kp kN (by omega);have AZ:=Below.kp AO kN AO.size (fun k hk=>by omega);have Cx:=kN.size;rw[hw1];clear hw1 kN AO;have cP1:=P.cell 1 rfl;have cO1:=O.cell 1 rfl;have fO:=O.frozen;go_upto_region 4 with fail
 clear cP1 cO1 fO;obtain⟨w2,hw2⟩:∃Ck,(w1.setCell ⟨w.heap.size+1+1,1,none⟩ (.int .i64 t.vw))=Ck:=⟨_,rfl⟩
 have kN:Kp w1 w2 (fun k=>k=w.heap.size+1+1):=hw2▸AB _ _ _ _;replace O:Loc w2 (w.heap.size+1+1) #[.int .i64 t.k,.int .i64 t.vw,.string ⟨#[]⟩,.int .i64 0,.string ⟨#[]⟩,.slice none 0 0,.int .i64 0,.string ⟨#[]⟩,.slice none 0 0,.int .i64 0,.string ⟨#[]⟩,.slice none 0 0,.int .i64 0,.int .i64 0,.int .i64 0,.int .i64 0,.int .i64 0]:=hw2▸(O.set 1 _ rfl);replace P:=P.kp kN (by omega);replace R:=R.kp kN (by omega);have Ao:=Below.kp AZ kN AZ.size (fun k hk=>by omega);have Ex:=kN.size;rw[hw2];clear hw2 kN AZ;obtain⟨cP2,cP3,cP4,cP5⟩:=WT P 2 3 4 5;go_wp2_with fail
 refine(T1.out _ (HA.out.below Ao)).mono ?_;rintro _ w3 ⟨u1,rfl,o1,bb⟩;clear cP2 cP3 cP4 cP5;have BK:=bu Ao bb;have IW:=bb.size;replace P:=P.up bb;replace R:=R.up bb;replace O:=O.up bb;clear Ao bb;have Y9:=World.ownsRow.lt o1;obtain⟨Pf,QJ,rfl⟩:=o1.form;obtain⟨cO2,cO3,cO4,cO5⟩:=WT O 2 3 4 5;have fO:=O.frozen;go_upto_region 5 with fail
 clear cO2 cO3 cO4 cO5 fO;obtain⟨w4,hw4⟩:∃Ck,((((w3.setCell ⟨w.heap.size+1+1,2,none⟩ (.string t.bn)).setCell ⟨w.heap.size+1+1,3,none⟩ (.int .i64 t.bv)).setCell ⟨w.heap.size+1+1,4,none⟩ (.string t.bs)).setCell ⟨w.heap.size+1+1,5,none⟩ (.slice Pf xs.length QJ))=Ck:=⟨_,rfl⟩
 have kN:Kp w3 w4 (fun k=>k=w.heap.size+1+1):=hw4▸(((AB _ _ _ _).trans (AB _ _ _ _)).trans (AB _ _ _ _)).trans (AB _ _ _ _);replace O:Loc w4 (w.heap.size+1+1) #[.int .i64 t.k,.int .i64 t.vw,.string t.bn,.int .i64 t.bv,.string t.bs,.slice Pf xs.length QJ,.int .i64 0,.string ⟨#[]⟩,.slice none 0 0,.int .i64 0,.string ⟨#[]⟩,.slice none 0 0,.int .i64 0,.int .i64 0,.int .i64 0,.int .i64 0,.int .i64 0]:=hw4▸((((O.set 2 _ rfl).set 3 _ rfl).set 4 _ rfl).set 5 _ rfl);replace P:=P.kp kN (by omega);replace R:=R.kp kN (by omega);replace o1:=o1.kp kN (fun j hj e=>by have:=Y9 j hj;omega);have Co:=Below.kp BK kN BK.size (fun k hk=>by omega);have OJ:=kN.size;rw[hw4];clear hw4 kN BK
 as_aux_lemma=>
 obtain⟨cP6,cP7,cP8⟩:=B_ P 6 7 8;go_wp2_with fail
 refine(T2.out _ (HB.out.below Co)).mono ?_;rintro _ w5 ⟨u2,rfl,o2,bb⟩;clear cP6 cP7 cP8;have FT:=bu Co bb;have Z8:=bb.size;replace P:=P.up bb;replace R:=R.up bb;replace O:=O.up bb;replace o1:=o1.below bb;clear Co bb;have tK:=World.ownsRow.lt o2;obtain⟨ji,mR,rfl⟩:=o2.form;obtain⟨cO6,cO7,cO8⟩:=B_ O 6 7 8;have fO:=O.frozen;go_upto_region 6 with fail
 clear cO6 cO7 cO8 fO;obtain⟨w6,ZT⟩:∃Ck,(((w5.setCell ⟨w.heap.size+1+1,6,none⟩ (.int .i64 t.pv)).setCell ⟨w.heap.size+1+1,7,none⟩ (.string t.ps)).setCell ⟨w.heap.size+1+1,8,none⟩ (.slice ji ys.length mR))=Ck:=⟨_,rfl⟩
 have kN:Kp w5 w6 (fun k=>k=w.heap.size+1+1):=ZT▸((AB _ _ _ _).trans (AB _ _ _ _)).trans (AB _ _ _ _);replace O:Loc w6 (w.heap.size+1+1) #[.int .i64 t.k,.int .i64 t.vw,.string t.bn,.int .i64 t.bv,.string t.bs,.slice Pf xs.length QJ,.int .i64 t.pv,.string t.ps,.slice ji ys.length mR,.int .i64 0,.string ⟨#[]⟩,.slice none 0 0,.int .i64 0,.int .i64 0,.int .i64 0,.int .i64 0,.int .i64 0]:=ZT▸(((O.set 6 _ rfl).set 7 _ rfl).set 8 _ rfl);replace P:=P.kp kN (by omega);replace R:=R.kp kN (by omega);replace o1:=o1.kp kN (fun j hj e=>by have:=Y9 j hj;omega);replace o2:=o2.kp kN (fun j hj e=>by have:=tK j hj;omega);have I8:=Below.kp FT kN FT.size (fun k hk=>by omega);have lW:=kN.size;rw[ZT];clear ZT kN FT;obtain⟨Ye,Lc,AA_⟩:=B_ P 9 10 11;go_wp2_with fail
 refine(T3.out _ (HC.out.below I8)).mono ?_;rintro _ w7 ⟨u3,rfl,o3,bb⟩;clear Ye Lc AA_;have Ll:=bu I8 bb;have vQ:=bb.size;replace P:=P.up bb;replace R:=R.up bb;replace O:=O.up bb;replace o1:=o1.below bb;replace o2:=o2.below bb;clear I8 bb;have x_:=World.ownsRow.lt o3;obtain⟨qA,pJ,rfl⟩:=o3.form;obtain⟨cO9,sJ,ABH⟩:=B_ O 9 10 11;have fO:=O.frozen;go_upto_region 7 with fail
 clear cO9 sJ ABH fO;obtain⟨w8,hw8⟩:∃Ck,(((w7.setCell ⟨w.heap.size+1+1,9,none⟩ (.int .i64 t.qv)).setCell ⟨w.heap.size+1+1,10,none⟩ (.string t.qs)).setCell ⟨w.heap.size+1+1,11,none⟩ (.slice qA zs.length pJ))=Ck:=⟨_,rfl⟩
 have kN:Kp w7 w8 (fun k=>k=w.heap.size+1+1):=hw8▸((AB _ _ _ _).trans (AB _ _ _ _)).trans (AB _ _ _ _);replace O:Loc w8 (w.heap.size+1+1) #[.int .i64 t.k,.int .i64 t.vw,.string t.bn,.int .i64 t.bv,.string t.bs,.slice Pf xs.length QJ,.int .i64 t.pv,.string t.ps,.slice ji ys.length mR,.int .i64 t.qv,.string t.qs,.slice qA zs.length pJ,.int .i64 0,.int .i64 0,.int .i64 0,.int .i64 0,.int .i64 0]:=hw8▸(((O.set 9 _ rfl).set 10 _ rfl).set 11 _ rfl);replace P:=P.kp kN (by omega);replace R:=R.kp kN (by omega);replace o1:=o1.kp kN (fun j hj e=>by have:=Y9 j hj;omega);replace o2:=o2.kp kN (fun j hj e=>by have:=tK j hj;omega);replace o3:=o3.kp kN (fun j hj e=>by have:=x_ j hj;omega);have Ra:=Below.kp Ll kN Ll.size (fun k hk=>by omega);have vP:=kN.size;rw[hw8];clear hw8 kN Ll;have AA9:=P.cell 12 rfl;have ABG:=O.cell 12 rfl;have fO:=O.frozen;go_upto_region 8 with fail
 clear AA9 ABG fO;obtain⟨w9,ZR⟩:∃Ck,(w8.setCell ⟨w.heap.size+1+1,12,none⟩ (.int .i64 t.wh))=Ck:=⟨_,rfl⟩
 have kN:Kp w8 w9 (fun k=>k=w.heap.size+1+1):=ZR▸AB _ _ _ _;replace O:Loc w9 (w.heap.size+1+1) #[.int .i64 t.k,.int .i64 t.vw,.string t.bn,.int .i64 t.bv,.string t.bs,.slice Pf xs.length QJ,.int .i64 t.pv,.string t.ps,.slice ji ys.length mR,.int .i64 t.qv,.string t.qs,.slice qA zs.length pJ,.int .i64 t.wh,.int .i64 0,.int .i64 0,.int .i64 0,.int .i64 0]:=ZR▸(O.set 12 _ rfl);replace P:=P.kp kN (by omega);replace R:=R.kp kN (by omega);replace o1:=o1.kp kN (fun j hj e=>by have:=Y9 j hj;omega);replace o2:=o2.kp kN (fun j hj e=>by have:=tK j hj;omega);replace o3:=o3.kp kN (fun j hj e=>by have:=x_ j hj;omega);have Zg:=Below.kp Ra kN Ra.size (fun k hk=>by omega);have sw9:=kN.size;rw[ZR];clear ZR kN Ra
 as_aux_lemma=>
 obtain⟨Sw,AA8,AA7,AA6⟩:=WT P 13 14 15 16;go_wp2_with fail
 refine(T4.out _).mono ?_;rintro _ Tx ⟨rfl,bb⟩;clear Sw AA8 AA7 AA6;have J6:=bu Zg bb;have qg:=bb.size;replace P:=P.up bb;replace R:=R.up bb;replace O:=O.up bb;replace o1:=o1.below bb;replace o2:=o2.below bb;replace o3:=o3.below bb;clear Zg bb;obtain⟨sI,ABF,ABE,ABD⟩:=WT O 13 14 15 16;have fO:=O.frozen;go_upto_region 9 with fail
 clear sI ABF ABE ABD fO;obtain⟨fT,Sc⟩:∃Ck,((((Tx.setCell ⟨w.heap.size+1+1,13,none⟩ (.int .i64 t.fr)).setCell ⟨w.heap.size+1+1,14,none⟩ (.int .i64 t.tu)).setCell ⟨w.heap.size+1+1,15,none⟩ (.int .i64 t.am)).setCell ⟨w.heap.size+1+1,16,none⟩ (.int .i64 t.no))=Ck:=⟨_,rfl⟩
 have kN:Kp Tx fT (fun k=>k=w.heap.size+1+1):=Sc▸(((AB _ _ _ _).trans (AB _ _ _ _)).trans (AB _ _ _ _)).trans (AB _ _ _ _);replace O:Loc fT (w.heap.size+1+1) #[.int .i64 t.k,.int .i64 t.vw,.string t.bn,.int .i64 t.bv,.string t.bs,.slice Pf xs.length QJ,.int .i64 t.pv,.string t.ps,.slice ji ys.length mR,.int .i64 t.qv,.string t.qs,.slice qA zs.length pJ,.int .i64 t.wh,.int .i64 t.fr,.int .i64 t.tu,.int .i64 t.am,.int .i64 t.no]:=Sc▸((((O.set 13 _ rfl).set 14 _ rfl).set 15 _ rfl).set 16 _ rfl);replace P:=P.kp kN (by omega);replace R:=R.kp kN (by omega);replace o1:=o1.kp kN (fun j hj e=>by have:=Y9 j hj;omega);replace o2:=o2.kp kN (fun j hj e=>by have:=tK j hj;omega);replace o3:=o3.kp kN (fun j hj e=>by have:=x_ j hj;omega);have QV:=Below.kp J6 kN J6.size (fun k hk=>by omega);have vS:=kN.size;rw[Sc];clear Sc kN J6
 as_aux_lemma=>
 go_wp2_with (first|(refine Ap O 75 _ rfl _ rfl rfl Tryz.underlying75 rfl (by kernel_rfl) ?_)|(refine BH R 75 #[.int .i64 t.k,.int .i64 t.vw,.string t.bn,.int .i64 t.bv,.string t.bs,.slice Pf xs.length QJ,.int .i64 t.pv,.string t.ps,.slice ji ys.length mR,.int .i64 t.qv,.string t.qs,.slice qA zs.length pJ,.int .i64 t.wh,.int .i64 t.fr,.int .i64 t.tu,.int .i64 t.am,.int .i64 t.no] rfl _ _ rfl rfl rfl (by kernel_rfl) rfl (by simp[Value.oneCell']) ?_))
 obtain⟨wE,Bf⟩:∃Ck,fT.setRow (w.heap.size+1) #[.int .i64 t.k,.int .i64 t.vw,.string t.bn,.int .i64 t.bv,.string t.bs,.slice Pf xs.length QJ,.int .i64 t.pv,.string t.ps,.slice ji ys.length mR,.int .i64 t.qv,.string t.qs,.slice qA zs.length pJ,.int .i64 t.wh,.int .i64 t.fr,.int .i64 t.tu,.int .i64 t.am,.int .i64 t.no]=Ck:=⟨_,rfl⟩
 have kN:Kp fT wE (fun k=>k=w.heap.size+1):=Bf▸Bu _ _ _;replace R:Loc wE (w.heap.size+1) #[.int .i64 t.k,.int .i64 t.vw,.string t.bn,.int .i64 t.bv,.string t.bs,.slice Pf xs.length QJ,.int .i64 t.pv,.string t.ps,.slice ji ys.length mR,.int .i64 t.qv,.string t.qs,.slice qA zs.length pJ,.int .i64 t.wh,.int .i64 t.fr,.int .i64 t.tu,.int .i64 t.am,.int .i64 t.no]:=Bf▸R.row;replace P:=P.kp kN (by omega);replace O:=O.kp kN (by omega);replace o1:=o1.kp kN (fun j hj e=>by have:=Y9 j hj;omega);replace o2:=o2.kp kN (fun j hj e=>by have:=tK j hj;omega);replace o3:=o3.kp kN (fun j hj e=>by have:=x_ j hj;omega);have Fh:=Below.kp QV kN QV.size (fun k hk=>by omega);have Pp:=kN.size;rw[Bf];clear Bf kN QV;refine bodyPost_ret (v:=Dw t (.slice Pf xs.length QJ) (.slice ji ys.length mR) (.slice qA zs.length pJ)) (Ch Tryz.results22 _ R rfl Tryz.underlying75 rfl (by kernel_rfl)) rfl ?_;exact⟨_,_,_,rfl,⟨w3.heap.size,w5.heap.size,o1.mono (by omega),fun j hj=>(Y9 j hj).2,o2.mono (by omega),fun j hj=>(tK j hj).2,o3.mono (by omega),by omega,by omega⟩,Fh⟩
end
section
open Go.RowKit
variable [∀(a b c d:Int),Decidable (BG a b c d)]
section
variable {w w':World} {lo lo':Nat} {a b c:Value} {xs ys zs:List Int}
theorem OM.lt(h:OM w lo a b c xs ys zs):(∀j,a.ownBlock=some j→lo≤j∧j<w.heap.size)∧(∀j,b.ownBlock=some j→lo≤j∧j<w.heap.size)∧(∀j,c.ownBlock=some j→lo≤j∧j<w.heap.size):=by
 obtain⟨p,q,oa,ta,ob,tb,oc,h1,h2⟩:=h;have ra:=World.ownsRow.lt oa;have rb:=World.ownsRow.lt ob;have rc:=World.ownsRow.lt oc;exact⟨fun j e=>⟨(ra j e).1,(ra j e).2⟩,fun j e=>⟨by have:=rb j e;omega,(rb j e).2⟩,fun j e=>⟨by have:=rc j e;omega,(rc j e).2⟩⟩
theorem OM.below(h:OM w lo a b c xs ys zs)(hb:Below w.heap.size w w'):OM w' lo a b c xs ys zs:=by
 obtain⟨p,q,oa,ta,ob,tb,oc,h1,h2⟩:=h;exact⟨p,q,oa.below hb,ta,ob.below hb,tb,oc.below hb,h1,h2⟩
theorem OM.mono(h:OM w lo a b c xs ys zs)(hl:lo'≤lo):OM w lo' a b c xs ys zs:=by
 obtain⟨p,q,oa,ta,ob,tb,oc,h1,h2⟩:=h;exact⟨p,q,oa.mono hl,ta,ob,tb,oc,Nat.le_trans hl h1,h2⟩
theorem OM.kp{X:Nat→Prop}(h:OM w lo a b c xs ys zs)(k:Kp w w' X)(hx:∀j,lo≤j→j<w.heap.size→(a.ownBlock=some j∨b.ownBlock=some j∨c.ownBlock=some j)→¬X j):OM w' lo a b c xs ys zs:=by
 obtain⟨t1,t2,t3⟩:=h.lt;obtain⟨p,q,oa,ta,ob,tb,oc,h1,h2⟩:=h;exact⟨p,q,oa.kp k (fun j e=>hx j (t1 j e).1 (t1 j e).2 (.inl e)),ta,ob.kp k (fun j e=>hx j (t2 j e).1 (t2 j e).2 (.inr (.inl e))),tb,oc.kp k (fun j e=>hx j (t3 j e).1 (t3 j e).2 (.inr (.inr e))),h1,h2⟩
theorem OM.Gh(h:OM w lo a b c xs ys zs)(hl:xs.length≤4194304∧ys.length≤4194304∧zs.length≤4194304):RI w a xs∧RI w b ys∧RI w c zs:=by
 obtain⟨p,q,oa,ta,ob,tb,oc,h1,h2⟩:=h;exact⟨oa.ri hl.1,ob.ri hl.2.1,oc.ri hl.2.2⟩
theorem OM.form(h:OM w lo a b c xs ys zs):∃ao ca bo cb co cc,a= .slice ao xs.length ca∧b= .slice bo ys.length cb∧c= .slice co zs.length cc:=by
 obtain⟨p,q,oa,ta,ob,tb,oc,h1,h2⟩:=h;obtain⟨ao,ca,e1⟩:=oa.form;obtain⟨bo,cb,e2⟩:=ob.form;obtain⟨co,cc,e3⟩:=oc.form;exact⟨ao,ca,bo,cb,co,cc,e1,e2,e3⟩
end
end
section
open Go.RowKit
variable [∀(a b c d:Int),Decidable (BG a b c d)] [∀(n f:Int),Decidable (A_ n f)]
theorem Z5(t:MT)(ao bo co:Option Addr)(nb ca np cb nq cc:Nat)(left:Int)(w:World)(h0:0≤left)(hl:left≤1048576)(h:left<(t.bn.size:Int)+t.bs.size+nb)(m1:t.bn.size≤maxLen)(m2:t.bs.size≤maxLen)(m3:nb≤maxLen):
 Calls Tryz.prog 20 #[Dw t (.slice ao nb ca) (.slice bo np cb) (.slice co nq cc),.int .i64 left] w fun e w'=>e= .returned (.int .i64 (-1))∧Below w.heap.size w w':=by
 unfold maxLen at m1 m2 m3;have Z1:=hide fun w=>XE t.bn t.bv t.bs ao nb ca left w h0 (by omega) (by omega) (by omega) (by omega) hl;clear h0 hl h m1 m2 m3;obtain⟨w0,hw0,AO,A,DC⟩:=bx1 w #[.int .i64 t.k,.int .i64 t.vw,.string t.bn,.int .i64 t.bv,.string t.bs,.slice ao nb ca,.int .i64 t.pv,.string t.ps,.slice bo np cb,.int .i64 t.qv,.string t.qs,.slice co nq cc,.int .i64 t.wh,.int .i64 t.fr,.int .i64 t.tu,.int .i64 t.am,.int .i64 t.no] 67;go_enter Tryz.func20,Tryz.ntmps20
 obtain⟨Da,Em,FL,GD⟩:=WT A 2 3 4 5;go_wp2_with fail
 clear hw0;refine(Z1.out _).mono ?_;rintro _ w1 ⟨rfl,bb⟩;clear Da Em FL GD;have AZ:=bu AO bb;have Cx:=bb.size;replace A:=A.up bb;clear AO bb;go_wp2;go_ret;exact⟨rfl,AZ⟩
theorem Zz(t:MT)(ao bo co:Option Addr)(nb ca np cb nq cc:Nat)(left:Int)(w:World)(h0:0≤left)(hl:left≤1048576)(g:(t.bn.size:Int)+t.bs.size+nb≤left)(h:left<(t.bn.size:Int)+t.bs.size+nb+t.ps.size+np)(m1:t.ps.size≤maxLen)(m2:np≤maxLen):
 Calls Tryz.prog 20 #[Dw t (.slice ao nb ca) (.slice bo np cb) (.slice co nq cc),.int .i64 left] w fun e w'=>e= .returned (.int .i64 (-1))∧Below w.heap.size w w':=by
 unfold maxLen at m1 m2;have Z1:=hide fun w=>Ik t.bn t.bv t.bs ao nb ca left w (by omega) (by omega);have h1:decide (left-(t.bn.size:Int)-(t.bs.size:Int)-(nb:Int)<0)=false:=by simp;omega
 have Z2:=hide fun w=>Qc t.pv t.ps bo np cb (left-t.bn.size-t.bs.size-nb) w (by omega) (by omega) (by omega) (by omega) (by omega);clear h0 hl h m1 m2 g;obtain⟨w0,hw0,AO,A,DC⟩:=bx1 w #[.int .i64 t.k,.int .i64 t.vw,.string t.bn,.int .i64 t.bv,.string t.bs,.slice ao nb ca,.int .i64 t.pv,.string t.ps,.slice bo np cb,.int .i64 t.qv,.string t.qs,.slice co nq cc,.int .i64 t.wh,.int .i64 t.fr,.int .i64 t.tu,.int .i64 t.am,.int .i64 t.no] 67;go_enter Tryz.func20,Tryz.ntmps20
 obtain⟨Da,Em,FL,GD⟩:=WT A 2 3 4 5;go_wp2_with fail
 clear hw0;refine(Z1.out _).mono ?_;rintro _ w1 ⟨rfl,bb⟩;clear Da Em FL GD;have AZ:=bu AO bb;have Cx:=bb.size;replace A:=A.up bb;clear AO bb;obtain⟨Gq,Ga,Gp⟩:=B_ A 6 7 8;go_wp2_with fail
 refine(Z2.out _).mono ?_;rintro _ w2 ⟨rfl,bb⟩;clear Gq Ga Gp;have Ao:=bu AZ bb;have Ex:=bb.size;replace A:=A.up bb;clear AZ bb;go_wp2;go_ret;exact⟨rfl,Ao⟩
theorem Zy(t:MT)(ao bo co:Option Addr)(nb ca np cb nq cc:Nat)(left:Int)(w:World)(h0:0≤left)(hl:left≤1048576)(g:(t.bn.size:Int)+t.bs.size+nb+t.ps.size+np≤left)(h:left<(t.bn.size:Int)+t.bs.size+nb+t.ps.size+np+t.qs.size+nq)(m1:t.qs.size≤maxLen)(m2:nq≤maxLen):
 Calls Tryz.prog 20 #[Dw t (.slice ao nb ca) (.slice bo np cb) (.slice co nq cc),.int .i64 left] w fun e w'=>e= .returned (.int .i64 (-1))∧Below w.heap.size w w':=by
 unfold maxLen at m1 m2;have Z1:=hide fun w=>Ik t.bn t.bv t.bs ao nb ca left w (by omega) (by omega);have h1:decide (left-(t.bn.size:Int)-(t.bs.size:Int)-(nb:Int)<0)=false:=by simp;omega
 have Z2:=hide fun w=>Hl t.pv t.ps bo np cb (left-t.bn.size-t.bs.size-nb) w (by omega) (by omega);have h2:decide (left-(t.bn.size:Int)-(t.bs.size:Int)-(nb:Int)-(t.ps.size:Int)-(np:Int)<0)=false:=by simp;omega
 have Z3:=hide fun w=>Rv t.qv t.qs co nq cc (left-t.bn.size-t.bs.size-nb-t.ps.size-np) w (by omega) (by omega) (by omega) (by omega) (by omega);clear h0 hl h m1 m2 g;obtain⟨w0,hw0,AO,A,DC⟩:=bx1 w #[.int .i64 t.k,.int .i64 t.vw,.string t.bn,.int .i64 t.bv,.string t.bs,.slice ao nb ca,.int .i64 t.pv,.string t.ps,.slice bo np cb,.int .i64 t.qv,.string t.qs,.slice co nq cc,.int .i64 t.wh,.int .i64 t.fr,.int .i64 t.tu,.int .i64 t.am,.int .i64 t.no] 67;go_enter Tryz.func20,Tryz.ntmps20
 obtain⟨Da,Em,FL,GD⟩:=WT A 2 3 4 5;go_wp2_with fail
 clear hw0;refine(Z1.out _).mono ?_;rintro _ w1 ⟨rfl,bb⟩;clear Da Em FL GD;have AZ:=bu AO bb;have Cx:=bb.size;replace A:=A.up bb;clear AO bb;obtain⟨Gq,Ga,Gp⟩:=B_ A 6 7 8;go_wp2_with fail
 refine(Z2.out _).mono ?_;rintro _ w2 ⟨rfl,bb⟩;clear Gq Ga Gp;have Ao:=bu AZ bb;have Ex:=bb.size;replace A:=A.up bb;clear AZ bb;obtain⟨Fp,CG,Cm⟩:=B_ A 9 10 11;go_wp2_with fail
 refine(Z3.out _).mono ?_;rintro _ w3 ⟨rfl,bb⟩;clear Fp CG Cm;have BK:=bu Ao bb;have IW:=bb.size;replace A:=A.up bb;clear Ao bb;go_wp2;go_ret;exact⟨rfl,BK⟩
theorem UT(t:MT)(ao bo co:Option Addr)(ca cb cc:Nat)(left:Int)(w:World)(h0:0≤left)(hl:left≤1048576)(hm:MB t)(h:left<(t.bn.size:Int)+t.bs.size+t.bw.length+t.ps.size+t.pw.length+t.qs.size+t.qw.length):
 Calls Tryz.prog 20 #[Dw t (.slice ao t.bw.length ca) (.slice bo t.pw.length cb) (.slice co t.qw.length cc),.int .i64 left] w fun e w'=>e= .returned (.int .i64 (-1))∧Below w.heap.size w w':=by
 obtain⟨m1,m2,m3,m4,m5,m6,m7⟩:=hm;by_cases h1:left<(t.bn.size:Int)+t.bs.size+t.bw.length
 ·exact Z5 t ao bo co _ ca _ cb _ cc left w h0 hl h1 m1 m2 m3
 by_cases h2:left<(t.bn.size:Int)+t.bs.size+t.bw.length+t.ps.size+t.pw.length
 ·exact Zz t ao bo co _ ca _ cb _ cc left w h0 hl (by omega) h2 m4 m5
 exact Zy t ao bo co _ ca _ cb _ cc left w h0 hl (by omega) h m6 m7
end
section
open Go Go.RowKit
theorem Ac{w w':World}{B b o:Nat}{cs:List Value}(h:w.rangeAt b o cs)(hb:Below B w w')(hB:b<B):w'.rangeAt b o cs:=fun j v hv=>(hb.cell (p:=⟨b,o+j,none⟩) hB).trans (h j v hv)
theorem Oc{w w':World}{X:Nat→Prop}{b o:Nat}{cs:List Value}(h:w.rangeAt b o cs)(k:Kp w w' X)(hb:¬X b):w'.rangeAt b o cs:=fun j v hv=>k.cell (h j v hv) hb
theorem Ca{w:World}{b o:Nat}{cs:List Value}(h:w.rangeAt b o cs)(hc:0<cs.length):b<w.heap.size:=AQ (h 0 _ (List.getElem?_eq_getElem hc))
theorem Al{w:World}{b o:Nat}{cs:List Value}(h:w.rangeAt b o cs)(j:Nat){v:Value}(hv:cs[j]? =some v):w.cell? ⟨b,o+j,none⟩=some v:=h j v hv

def RG(R:World→Nat→List Value→Prop)(m:Nat)(w:World)(v:Value)(n:Nat):Prop:=
 ∃ao cap,v= .slice ao n cap∧(n=0∨∃g off,ao=some ⟨g,off,none⟩∧∀k,k<n→∃cs:List Value,cs.length=m∧w.rangeAt g (off+k*m) cs∧R w k cs)
theorem RG.form{R:World→Nat→List Value→Prop}{m n:Nat}{w:World}{v:Value}(h:RG R m w v n):∃ao ca,v= .slice ao n ca:=by obtain⟨ao,ca,e,_⟩:=h;exact⟨ao,ca,e⟩
theorem RG.at{R:World→Nat→List Value→Prop}{m n n' ca:Nat}{w:World}{ao:Option Addr}(h:RG R m w (.slice ao n' ca) n)(k:Nat)(hk:k<n):∃g off,∃cs:List Value,ao=some ⟨g,off,none⟩∧cs.length=m∧w.rangeAt g (off+k*m) cs∧R w k cs:=by
 obtain⟨QR,V8,e,h⟩:=h;cases e
 rcases h with h|⟨g,off,rfl,h⟩
 ·omega
 obtain⟨cs,h⟩:=h k hk;exact⟨g,off,cs,rfl,h⟩
theorem RG.below{R:World→Nat→List Value→Prop}{m n B:Nat}{w w':World}{v:Value}(h:RG R m w v n)(hm:0<m)(hb:Below B w w')(hB:w.heap.size≤B:=by exact Nat.le_refl _)(hR:∀k cs,R w k cs→R w' k cs):RG R m w' v n:=by
 obtain⟨ao,cap,rfl,h⟩:=h;refine⟨ao,cap,rfl,?_⟩;rcases h with h|⟨g,off,rfl,h⟩
 ·exact .inl h
 refine .inr ⟨g,off,rfl,fun k hk=>?_⟩;obtain⟨cs,c0,c1,c2⟩:=h k hk;exact⟨cs,c0,Ac c1 hb (Nat.lt_of_lt_of_le (Ca c1 (by omega)) hB),hR k cs c2⟩

/-! ### lists of lists -/
theorem KN{m:Nat}:∀ {rows:List (List Value)},(∀c ∈ rows,c.length=m)→rows.flatten.length=rows.length*m
 | [],_=>by simp
 |c :: r,h=>by
  rw[List.flatten_cons,List.length_append,KN (fun x hx=>h x (List.mem_cons_of_mem _ hx)),h c (by simp),List.length_cons,Nat.add_mul];omega
theorem Gz{m:Nat}:∀ {rows:List (List Value)},(∀c ∈ rows,c.length=m)→∀(k j:Nat),j<m→rows.flatten[k*m+j]? =(rows[k]?).bind (·[j]?)
 | [],_,_,_,_=>by simp
 |c :: r,h,0,j,hj=>by
  rw[List.flatten_cons,Nat.zero_mul,Nat.zero_add,List.getElem?_append_left (by rw[h c (by simp)];exact hj)];simp
 |c :: r,h,k+1,j,hj=>by
  have hc:=h c (by simp);rw[List.flatten_cons,List.getElem?_append_right (by rw[hc,Nat.add_mul];omega),hc,show(k+1)*m+j-m=k*m+j by rw[Nat.add_mul];omega,Gz (fun x hx=>h x (List.mem_cons_of_mem _ hx)) k j hj];simp
def putAt(l:List Value)(o:Nat):List Value→List Value
 | []=>l
 |v :: r=>putAt (l.set o v) (o+1) r
theorem LD:∀(cs:List Value)(l:List Value)(o i:Nat),(putAt l o cs)[i]? =if o≤i∧i<o+cs.length∧i<l.length then cs[i-o]? else l[i]?
 | [],l,o,i=>by rw[putAt,if_neg (by simp;omega)]
 | v :: r,l,o,i=>by
  rw[putAt,LD r (l.set o v) (o+1) i];simp only[List.length_set,List.length_cons];by_cases h1:o=i
  ·subst h1;by_cases hl:o<l.length
   ·rw[if_neg (by omega),if_pos (by omega),List.getElem?_set_self hl,Nat.sub_self];rfl
   rw[if_neg (by omega),if_neg (by omega),List.getElem?_eq_none (by simp;omega),List.getElem?_eq_none (by omega)]
  rw[List.getElem?_set_ne h1];by_cases h2:o+1≤i∧i<o+1+r.length∧i<l.length
  ·rw[if_pos h2,if_pos (by omega),show i-o=(i-(o+1))+1 by omega];rfl
  rw[if_neg h2,if_neg (by omega)]
theorem Oe{m:Nat}{rows:List (List Value)}(h:∀c ∈ rows,c.length=m){k:Nat}(hk:k<rows.length){cs:List Value}(hc:cs.length=m)(hm:0<m):putAt rows.flatten (k*m) cs=(rows.set k cs).flatten:=by
 have h':∀c ∈ rows.set k cs,c.length=m:=fun c hx=>by
  rcases List.mem_or_eq_of_mem_set hx with e|e
  ·exact h c e
  rw[e,hc]
 apply List.ext_getElem?
 intro i;have hd:i/m*m+i%m=i:=by rw[Nat.mul_comm];exact Nat.div_add_mod i m
 have hj:=Nat.mod_lt i hm;have e1:=Gz h (i/m) (i%m) hj;have e2:=Gz h' (i/m) (i%m) hj;rw[hd]at e1 e2;rw[LD,e1,e2,KN h,hc]
 have hki:k*m≤i∧i<k*m+m↔i/m=k:=by
  constructor
  ·rintro⟨a,b⟩;exact Nat.div_eq_of_lt_le a (by rw[Nat.add_mul];omega)
  rintro rfl;omega
 by_cases hq:i/m=k
 ·have wX:=hki.2 hq;have hlt:k*m+m≤rows.length*m:=by rw[←Nat.succ_mul];exact Nat.mul_le_mul_right m hk
  rw[if_pos ⟨wX.1,wX.2,by omega⟩,hq,List.getElem?_set_self hk,show i-k*m=i%m by rw[←hq];omega];rfl
 rw[if_neg (fun e=>hq (hki.1 ⟨e.1,e.2.1⟩)),List.getElem?_set_ne (fun e=>hq e.symm)]
theorem OQ{base g n cap m:Nat}{T:TypeId}:∀(cs:List Value)(o:Nat){w:World}{xs:List Value},w.ownsRow base T m (.slice (some ⟨g,0,none⟩) n cap) n xs→
 (w.setCells g o cs).ownsRow base T m (.slice (some ⟨g,0,none⟩) n cap) n (putAt xs o cs)∧Kp w (w.setCells g o cs) (fun k=>k=g)
 | [],_,_,_,h=>⟨h,Kp.refl _ _⟩
 |v :: r,o,w,xs,h=>by
  obtain⟨a,b⟩:=OQ (base:=base) (m:=m) (T:=T) (n:=n) (cap:=cap) r (o+1) (h.stored o v).1;exact⟨a,(AB w g o v).trans b⟩

structure OG(T:TypeId)(m:Nat)(w:World)(base:Nat)(v:Value)(rows:List (List Value)):Prop where
 each:∀c ∈ rows,c.length=m
 row:w.ownsRow base T m v rows.length rows.flatten
section
variable {T:TypeId} {m:Nat} {w w':World} {base:Nat} {v:Value} {rows:List (List Value)}
theorem OG.lt(h:OG T m w base v rows):∀j,v.ownBlock=some j→base≤j∧j<w.heap.size:=World.ownsRow.lt h.row
theorem OG.below(h:OG T m w base v rows)(hb:Below w.heap.size w w'):OG T m w' base v rows:=
 ⟨h.each,World.ownsRow.kept (row:=none) h.row ⟨hb.os,hb.tape,hb.output,hb.size,fun k hk _=>hb.block k hk⟩ (by cases v.ownBlock<;>simp)⟩
theorem OG.kp{X:Nat→Prop}(h:OG T m w base v rows)(k:Kp w w' X)(hX:∀j,v.ownBlock=some j→¬X j):OG T m w' base v rows:=by
 have rl:=h.lt;refine⟨h.each,?_⟩;rcases h.row with⟨h1,⟨e,h0⟩|⟨g,cap,cur,e,hg,hrow,rest⟩⟩
 ·exact⟨h1,.inl ⟨e,h0⟩⟩
 have eo:v.ownBlock=some g:=by rw[e];rfl
 exact⟨h1,.inr ⟨g,cap,cur,e,hg,(k.block g (rl g eo).2 (hX g eo)).trans hrow,rest⟩⟩
theorem OG.mono{base':Nat}(h:OG T m w base v rows)(hb:base'≤base):OG T m w base' v rows:=by
 refine⟨h.each,h.row.1,?_⟩;rcases h.row.2 with h2|⟨g,cap,cur,e,hg,rest⟩
 ·exact .inl h2
 exact .inr ⟨g,cap,cur,e,Nat.le_trans hb hg,rest⟩
theorem OG.nil(w:World)(base:Nat):OG T m w base (.slice none 0 0) []:=⟨fun c hc=>by simp at hc,World.ownsRow_nil _ _ _ _⟩
theorem OG.form(h:OG T m w base v rows):∃ao ca,v= .slice ao rows.length ca:=by
 rcases h.row.2 with⟨rfl,h0⟩|⟨g,cap,cur,rfl,_⟩
 ·exact⟨none,0,by rw[h0]⟩
 exact⟨_,_,rfl⟩
theorem OG.at{g cap:Nat}(h:OG T m w base (.slice (some ⟨g,0,none⟩) rows.length cap) rows)(k:Nat)(hk:k<rows.length):w.rangeAt g (k*m) (rows.getD k [])∧w.there g (k*m) m:=by
 have hlen:(rows.getD k []).length=m:=h.each _ (by rw[List.getD_eq_getElem?_getD,List.getElem?_eq_getElem hk];exact List.getElem_mem hk);have hlt:k*m+m≤rows.length*m:=by rw[←Nat.succ_mul];exact Nat.mul_le_mul_right m hk
 have cell:∀j,j<m→w.cell? ⟨g,k*m+j,none⟩=(rows.getD k [])[j]?:=fun j hj=>by
  rw[h.row.cellAt (k*m+j) (by omega),Gz h.each k j hj];simp[List.getD_eq_getElem?_getD,List.getElem?_eq_getElem hk]
 refine⟨fun j u hu=>?_,fun j hj=>⟨?_,h.row.frozenAt _⟩⟩
 ·have hj:j<m:=by rw[←hlen];exact(List.getElem?_eq_some_iff.1 hu).1
  rw[cell j hj];exact hu
 rw[cell j hj,List.getElem?_eq_getElem (by rw[hlen];exact hj)];rfl
theorem OG.set{g cap:Nat}(h:OG T m w base (.slice (some ⟨g,0,none⟩) rows.length cap) rows)(hm:0<m)(k:Nat)(hk:k<rows.length)(cs:List Value)(hc:cs.length=m):
 OG T m (w.setCells g (k*m) cs) base (.slice (some ⟨g,0,none⟩) rows.length cap) (rows.set k cs)∧Kp w (w.setCells g (k*m) cs) (fun k=>k=g):=by
 obtain⟨a,b⟩:=OQ cs (k*m) h.row;rw[Oe h.each hk hc hm]at a;refine⟨⟨fun c hx=>?_,by rw[List.length_set];exact a⟩,b⟩;rcases List.mem_or_eq_of_mem_set hx with e|e
 ·exact h.each c e
 rw[e,hc]
theorem OG.rg{R:World→Nat→List Value→Prop}(h:OG T m w base v rows)(hR:∀k,k<rows.length→R w k (rows.getD k [])):RG R m w v rows.length:=by
 rcases h.row.2 with⟨rfl,h0⟩|⟨g,cap,cur,rfl,_⟩
 ·exact⟨none,0,by rw[h0],.inl h0⟩
 refine⟨_,cap,rfl,.inr ⟨g,0,rfl,fun k hk=>⟨rows.getD k [],h.each _ (by rw[List.getD_eq_getElem?_getD,List.getElem?_eq_getElem hk];exact List.getElem_mem hk),?_,hR k hk⟩⟩⟩;rw[Nat.zero_add];exact(h.at k hk).1
theorem dD(z:Array Value)(n:Nat)(hz:0<z.size):(madeCells z (n*z.size)).toList=(List.replicate n z.toList).flatten:=by
 have he:∀c ∈ List.replicate n z.toList,c.length=z.size:=fun c hc=>by rw[(List.mem_replicate.1 hc).2];simp
 apply List.ext_getElem?
 intro i;have hd:i/z.size*z.size+i%z.size=i:=by rw[Nat.mul_comm];exact Nat.div_add_mod i z.size
 have hj:=Nat.mod_lt i hz;have e1:=Gz he (i/z.size) (i%z.size) hj;rw[hd]at e1;rw[e1];by_cases hi:i<n*z.size
 ·have hq:i/z.size<n:=by rw[Nat.div_lt_iff_lt_mul hz];exact hi
  simp[madeCells,hi,hq,hj]
 have hq:¬i/z.size<n:=by rw[Nat.div_lt_iff_lt_mul hz];exact hi
 rw[List.getElem?_eq_none (by rw[Array.length_toList,size_madeCells];omega),List.getElem?_eq_none (by simp;omega)];rfl
theorem OG.made{z:Array Value}{n:Nat}(hz:0<z.size)(h:w.ownsRow base T z.size v n (madeCells z (n*z.size)).toList):OG T z.size w base v (List.replicate n z.toList):=
 ⟨fun c hc=>by rw[(List.mem_replicate.1 hc).2];simp,by rw[List.length_replicate,←dD z n hz];exact h⟩
end
end
section
open Go Go.RowKit
theorem Ad(g:Nat):∀(vs:List Value)(o:Nat)(w:World),Kp w (w.setCells g o vs) (fun k=>k=g)
 | [],_,_=>Kp.refl _ _
 |v :: r,o,w=>(AB w g o v).trans (Ad g r (o+1) _)
theorem Loc.setCells{g:Nat}:∀(vs:List Value)(o:Nat){w:World}{cs cs':Array Value},Loc w g cs→putAt cs.toList o vs=cs'.toList→Loc (w.setCells g o vs) g cs'
 | [],o,w,cs,cs',h,e=>by
  obtain rfl:cs=cs':=by cases cs;cases cs';simpa[putAt]using e
  exact h
 |v :: r,o,w,cs,cs',h,e=>Loc.setCells r (o+1) (h.set o v rfl) (by rw[putAt]at e;simpa using e)
theorem Loc.range{w:World}{g:Nat}{cs:Array Value}(h:Loc w g cs)(o m:Nat){sub:List Value}(e:(cs.toList.drop o).take m=sub):w.rangeAt g o sub:=fun j v hv=>by
 subst e;have hj:j<m:=by have:=(List.getElem?_eq_some_iff.1 hv).1;simp at this;omega
 refine h.cell (o+j) ?_;rw[List.getElem?_take,if_pos hj,List.getElem?_drop]at hv;simpa using hv
theorem Loc.there{w:World}{g:Nat}{cs:Array Value}(h:Loc w g cs)(o m:Nat)(hm:o+m≤cs.size):w.there g o m:=fun j hj=>
 ⟨by rw[h.cell (o+j) (Array.getElem?_eq_getElem (show o+j<cs.size by omega))];rfl,h.frozen _⟩
section
variable {P:Program} {ops:Array Oper} {rest:List Oper} {op:Oper} {a:Act} {Q:Exit→Act→World→Prop}
theorem A9{w:World}{b o:Nat}(cs:List Value)(hc:w.rangeAt b o cs)(ty:TypeId)(d:TypeDesc)(hgd:Region.wanted op (yielded ops a.tmps)=true)(x:Operand)(ho:op.op= .load ty x)(hx:a.eval x= .pointer (some ⟨b,o,none⟩))
 (hu:P.underlying ty=some d) (hd:d.isRow=true) (hi:(P.info? ty).map (·.size)=some cs.length) (h:wpList P ops Q rest (a.put op.dst (.agg cs.toArray)) w):wpList P ops Q (op :: rest) a w:=
 wpList_step fun K hK=>by rw[if_pos hgd];exact wp_load_mid ty x ho b o hx cs d hc hu hd hi (hK _ _ h)
theorem Fa{w:World}{b o:Nat}(cells:Array Value)(ht:w.there b o cells.size)(ty:TypeId)(hgd:Region.wanted op (yielded ops a.tmps)=true)(x y:Operand)(ho:op.op= .store ty x y)(hx:a.eval x= .pointer (some ⟨b,o,none⟩))(hy:a.eval y= .agg cells)
 (hi:(P.info? ty).map (·.size)=some cells.size) (h1:cells.all (·.oneCell')=true) (h:wpList P ops Q rest (a.put op.dst undef) (w.setCells b o cells.toList)):wpList P ops Q (op :: rest) a w:=
 wpList_step fun K hK=>by rw[if_pos hgd];exact wp_store_mid ty x y ho b o cells hx hy ht hi h1 (hK _ _ h)
theorem Bb{S:World→Prop}(hw:Region.wanted op (yielded ops a.tmps)=true)(ty:TypeId)(x:Operand)(ho:op.op= .load ty x){b o:Nat}(hx:a.eval x= .pointer (some ⟨b,o,none⟩))(cs:List Value)(d:TypeDesc)
 (hS:∀w,S w→w.rangeAt b o cs) (hu:P.underlying ty=some d) (hd:d.isRow=true) (hi:(P.info? ty).map (·.size)=some cs.length):YieldsIf P ops S op (.agg cs.toArray) a:=yieldsIf_load_mid hw ty x ho b o hx cs d hS hu hd hi
end
end
end Go.Proofs.YtcjmcgolgbkknaaGreatDoor
