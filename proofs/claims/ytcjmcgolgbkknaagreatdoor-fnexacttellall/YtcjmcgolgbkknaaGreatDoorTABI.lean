/- Lemmas, as stated. -/
import Derived.Test.YtcjmcgolgbkknaaGreatDoorTABF
set_option maxRecDepth 100000
set_option maxHeartbeats 16000000
set_option linter.unusedSectionVars false
set_option linter.unusedSimpArgs false
namespace Go.Proofs.YtcjmcgolgbkknaaGreatDoor
section
open Go Go.RowKit
variable [∀(a b c d:Int),Decidable (BG a b c d)] [∀(n f:Int),Decidable (A_ n f)]
theorem RG.rows{R:World→Nat→List Value→Prop}{m:Nat}{w:World}{g off:Nat}:∀n:Nat,(∀k,k<n→∃cs:List Value,cs.length=m∧w.rangeAt g (off+k*m) cs∧R w k cs)→
 ∃rows:List (List Value),rows.length=n∧(∀c ∈ rows,c.length=m)∧rows.flatten.length=n*m∧(∀k,k<n→R w k (rows.getD k []))∧∀j u,rows.flatten[j]? =some u→w.cell? ⟨g,off+j,none⟩=some u
 |0,_=>⟨[],rfl,fun c hc=>by simp at hc,by simp,fun k hk=>by omega,fun j u hj=>by simp at hj⟩
 | n+1,h=>by
  obtain⟨rows,h1,h2,h3,h4,h5⟩:=RG.rows n (fun k hk=>h k (by omega));obtain⟨cs,c1,c2,c3⟩:=h n (by omega);refine⟨rows++[cs],by simp[h1],?_,?_,?_,?_⟩
  ·intro c hc;rcases List.mem_append.1 hc with hc|hc
   ·exact h2 c hc
   rw[List.mem_singleton.1 hc];exact c1
  ·rw[List.flatten_append,List.length_append,h3];simp[c1,Nat.succ_mul]
  ·intro k hk;by_cases e:k<n
   ·rw[List.getD_eq_getElem?_getD,List.getElem?_append_left (by omega),←List.getD_eq_getElem?_getD];exact h4 k e
   obtain rfl:k=n:=by omega
   rw[List.getD_eq_getElem?_getD,List.getElem?_append_right (by omega),h1,Nat.sub_self];exact c3
  intro j u hj;rw[List.flatten_append]at hj;simp only[List.flatten_cons,List.flatten_nil,List.append_nil]at hj;by_cases e:j<n*m
  ·rw[List.getElem?_append_left (by rw[h3];exact e)]at hj;exact h5 j u hj
  rw[List.getElem?_append_right (by rw[h3];omega),h3]at hj;have:=Al c2 (j-n*m) hj
  rwa [show off+n*m+(j-n*m)=off+j by omega]at this
def Pk(W0 w:World)(v:Value)(ps:List Ba):Prop:=RG (fun _ k cs=>Pj ps W0 k cs) 18 w v ps.length
theorem Pk.below{W0 w w':World}{v:Value}{ps:List Ba}(h:Pk W0 w v ps)(b:Below w.heap.size w w'):Pk W0 w' v ps:=RG.below h (by decide) b Ak (fun _ _ h=>h)
theorem Ih.b{W0 w:World}{v:Value}{ps:List Ba}(h:Ih W0 v ps)(b:Below W0.heap.size W0 w):Pk W0 w v ps:=
 RG.below (w:=W0) (R:=fun _ k cs=>Pj ps W0 k cs) h (by decide) b Ak (fun _ _ h=>h)
def Dr(w:World)(ps:List Ba)(rows:List (List Value)):Prop:=rows.length=ps.length∧∀k,k<ps.length→Pj ps w k (rows.getD k [])
theorem Dr.below{w w':World}{B:Nat}{ps:List Ba}{rows:List (List Value)}(h:Dr w ps rows)(hb:Below B w w')(hB:w.heap.size≤B:=by exact Nat.le_refl _):Dr w' ps rows:=
 ⟨h.1,fun k hk=>by obtain⟨a,b,c,e,h1,h2,h3⟩:=h.2 k hk;exact⟨a,b,c,e,h1.below hb hB,h2.below hb hB,h3.below hb hB⟩⟩
theorem Dr.nil(w:World):Dr w [] []:=⟨rfl,fun k hk=>by simp at hk⟩
theorem Dr.append{w:World}{ps qs:List Ba}{r s:List (List Value)}(h:Dr w ps r)(k:Dr w qs s):Dr w (ps++qs) (r++s):=by
 refine⟨by simp[h.1,k.1],fun j hj=>?_⟩;rw[List.length_append]at hj;by_cases e:j<ps.length
 ·obtain⟨a,b,c,e1,h1,h2,h3⟩:=h.2 j e;have ep:(ps++qs).getD j AL=ps.getD j AL:=by rw[List.getD_eq_getElem?_getD,List.getElem?_append_left e,←List.getD_eq_getElem?_getD]
  rw[show(r++s).getD j []=r.getD j [] by rw[List.getD_eq_getElem?_getD,List.getElem?_append_left (by rw[h.1];exact e),←List.getD_eq_getElem?_getD]];unfold Pj;rw[ep];exact⟨a,b,c,e1,h1,h2,h3⟩
 obtain⟨a,b,c,e1,h1,h2,h3⟩:=k.2 (j-ps.length) (by omega);have ep:(ps++qs).getD j AL=qs.getD (j-ps.length) AL:=by rw[List.getD_eq_getElem?_getD,List.getElem?_append_right (by omega),←List.getD_eq_getElem?_getD]
 rw[show(r++s).getD j []=s.getD (j-ps.length) [] by rw[List.getD_eq_getElem?_getD,List.getElem?_append_right (by rw[h.1];omega),h.1,←List.getD_eq_getElem?_getD]];unfold Pj;rw[ep];exact⟨a,b,c,e1,h1,h2,h3⟩
theorem OG.ZF{w:World}{base:Nat}{v:Value}{ps:List Ba}{rows:List (List Value)}(h:OG 138 18 w base v rows)(hr:Dr w ps rows):Ih w v ps:=by
 have:=h.rg (R:=Pj ps) (fun k hk=>hr.2 k (by rw[←hr.1];exact hk));rw[hr.1]at this;exact this
theorem OG.wL{T:TypeId}{m:Nat}{w w':World}{base:Nat}{v v':Value}{rows r:List (List Value)}(h:OG T m w base v rows)(hr:∀c ∈ r,c.length=m)(ho:w'.ownsRow base T m v' (rows.length+r.length) (rows.flatten++r.flatten)):OG T m w' base v' (rows++r):=by
 refine⟨fun c hc=>?_,by rw[List.length_append,List.flatten_append];exact ho⟩;rcases List.mem_append.1 hc with h1|h1
 ·exact h.each c h1
 exact hr c h1
theorem OI.Xj{w:World}{v:Value}{xs:List Int}(h:RI w v xs):v.oneCell'=true:=by obtain⟨_,ao,ca,rfl,_⟩:=h;rfl
theorem Xi{w:World}{ps:List Ba}{rows:List (List Value)}(h:Dr w ps rows):∀u ∈ rows.flatten,u.oneCell'=true:=by
 intro u hu;obtain⟨c,hc,hu⟩:=List.mem_flatten.1 hu;obtain⟨k,hk,rfl⟩:=List.getElem_of_mem hc;obtain⟨a,b,d,e,h1,h2,h3⟩:=h.2 k (by rw[←h.1];exact hk);rw[show rows.getD k []=rows[k] by rw[List.getD_eq_getElem?_getD,List.getElem?_eq_getElem hk];rfl]at e;rw[e]at hu;simp only[FR,List.mem_cons,List.not_mem_nil,or_false]at hu;rcases hu with rfl|rfl|rfl|rfl|rfl|rfl|rfl|rfl|rfl|rfl|rfl|rfl|rfl|rfl|rfl|rfl|rfl|rfl<;>first|rfl|exact OI.Xj h1|exact OI.Xj h2|exact OI.Xj h3
theorem Ip(ty:TypeId)(base cap:Nat)(v:Value)(n:Nat)(xs:List Value)(w:World)(hown:w.ownsRow base 138 18 v n xs):
 (Builtin.append_ #[44,44] ty #[v,.slice none 0 cap]).run Tryz.prog w= .ok v w:=by
 obtain⟨i0,hi,hz0,hz1,hz2⟩:=info_parts Tryz.infoPo;rcases hown.2 with⟨rfl,rfl⟩|⟨g,cp,cur,rfl,_,_,hnc,_⟩
 ·simp[Builtin.append_,run_underlying Tryz.underlying44,sizeOf,typeInfo,hi,Builtin.lenOf,Builtin.firstCells]
 simp[Builtin.append_,run_underlying Tryz.underlying44,sizeOf,typeInfo,hi,Builtin.lenOf,Builtin.firstCells,hnc,storeCells]
theorem IA{ops:Array Oper}{rest:List Oper}{o:Oper}{a:Act}{Q:Exit→Act→World→Prop}{w:World}(hgd:o.guard=none)(s x:Operand)
 (ho:o.op= .call { callee:= .builtin .append,args:= #[s,x],argTypes:= #[44,44] }) (base:Nat) (v u:Value) (rows:List (List Value)) (ps qs:List Ba) (hs:a.eval s=v) (hx:a.eval x=u)
 (hog:OG 138 18 w base v rows) (W0:World) (hr:Dr W0 ps rows) (hp:Pk W0 w u qs) (hl:ps.length+qs.length≤4194304) (hbase:base≤w.heap.size)
 (h:∀v' w' r,OG 138 18 w' base v' r→Dr W0 (ps++qs) r→w.grownBy w' v.ownBlock→wpList Tryz.prog ops Q rest (a.put o.dst v') w'):
 wpList Tryz.prog ops Q (o :: rest) a w:=by
 obtain⟨i0,hi,hz0,hz1,hz2⟩:=info_parts Tryz.infoPo;have hrl:=hr.1;obtain⟨ao,cap,rfl,hp2⟩:=(show RG (fun _ k cs=>Pj qs W0 k cs) 18 w u qs.length from hp)
 clear hp;by_cases hq:qs.length=0
 ·obtain rfl:qs=[]:=List.length_eq_zero_iff.1 hq;rw[List.append_nil]at h
  match ao,hx with
  |none,hx=>
   refine wpList_plain hgd fun K hK=>?_;have hrun:=Ip o.type base cap v rows.length rows.flatten w hog.row;unfold Oper.wp;simp only[List.length_nil]at hx;simp[execOp,ho,resolve,invoke,builtin,hs,hx,hrun,Result.andThen];exact hK _ _ (h v w rows hog hr (D9 _ _))
  |some ad,hx=>
   refine wpList_append_own_at _ hgd s x 44 ho base 138 i0 (Ma 0 FZ (.slice none 0 0) (.slice none 0 0) (.slice none 0 0)) 18 224 Tryz.underlying44 hi hz0 hz1 hz2 rfl (by decide) v rows.length rows.flatten hs hog.row ad 0 cap [] hx rfl (fun j u hj=>by simp at hj) (fun u hu=>by simp at hu) (by unfold maxLen;omega) (by omega) hbase ?_;intro v' w' ho' hg' _ hb';exact h v' w' rows ⟨hog.each,by simpa using ho'⟩ hr hg'
 rcases hp2 with h0|⟨g,off,rfl,hp2⟩
 ·exact absurd h0 hq
 obtain⟨r,r1,r2,r3,r4,r5⟩:=RG.rows (R:=fun _ k cs=>Pj qs W0 k cs) (m:=18) qs.length hp2;have hr2:Dr W0 qs r:=⟨r1,r4⟩
 refine wpList_append_own_at _ hgd s x 44 ho base 138 i0 (Ma 0 FZ (.slice none 0 0) (.slice none 0 0) (.slice none 0 0)) 18 224 Tryz.underlying44 hi hz0 hz1 hz2 rfl (by decide) v rows.length rows.flatten hs hog.row ⟨g,off,none⟩ qs.length cap r.flatten hx r3 (fun j u hj=>by rw[Ph];exact r5 j u hj) (Xi hr2) (by unfold maxLen;omega) (by omega) hbase ?_;intro v' w' ho' hg' _ hb';exact h v' w' (rows++r) (hog.wL r2 (by rw[r1];exact ho')) (hr.append hr2) hg'
theorem YR(n:Nat)(w:World)(hn:0<n)(hl:n≤4194304):
 Calls Tryz.prog 163 #[.slice none 0 0,.int .i64 n] w fun e w'=>∃v,e= .returned v∧OG 138 18 w' w.heap.size v []∧Below w.heap.size w w':=by
 obtain⟨i0,hi,hz0,hz1,hz2⟩:=info_parts Tryz.infoPo;have hold:(Builtin.firstCells i0.size 0 (.slice none 0 0)).run Tryz.prog w.drew= .ok ([]:List Value).toArray w.drew:=run_firstCells_none w.drew i0.size 0 0 0
 have hrz:∀ty,(Builtin.append_ #[44,3] ty #[.slice none 0 0,.int .i64 (n:Int)]).run Tryz.prog w =
  .ok (.slice (some ⟨w.heap.size,0,none⟩) (0+n) (grownCap w (0+n) 0 138)) (w.drew.alloc (.cells (([]:List Value).toArray++Builtin.zeroCells (Ma 0 FZ (.slice none 0 0) (.slice none 0 0) (.slice none 0 0)).cells n++Builtin.zeroCells (Ma 0 FZ (.slice none 0 0) (.slice none 0 0) (.slice none 0 0)).cells (grownCap w (0+n) 0 138-(0+n))) 138)):=fun ty=>
  Lib.run_append_grow_zeros w 44 3 ty 138 i0 (Ma 0 FZ (.slice none 0 0) (.slice none 0 0) (.slice none 0 0)) .i64 .i64 Tryz.underlying44 Tryz.underlying3 hi hz0 none 0 0 [] hold n hn (by rw[hz1];decide) (by omega) (by omega)
   (by rw[hz2];omega) (growslice_fits (by omega) (by rw[hz2];omega))
 have hG:0+n≤grownCap w (0+n) 0 138:=grownCap_ge w _ _ _;have hG63:grownCap w (0+n) 0 138≤maxLen:=grownCap_le_maxLen w (0+n) 0 _ (by unfold maxLen;omega);generalize grownCap w (0+n) 0 138=G at *
 have hcs:(([]:List Value).toArray++Builtin.zeroCells (Ma 0 FZ (.slice none 0 0) (.slice none 0 0) (.slice none 0 0)).cells n++Builtin.zeroCells (Ma 0 FZ (.slice none 0 0) (.slice none 0 0) (.slice none 0 0)).cells (G-(0+n))).size=G*18:=by
  have e4:(Ma 0 FZ (.slice none 0 0) (.slice none 0 0) (.slice none 0 0)).cells.size=18:=rfl;simp[Builtin.zeroCells,e4];omega
 generalize ([]:List Value).toArray++Builtin.zeroCells (Ma 0 FZ (.slice none 0 0) (.slice none 0 0) (.slice none 0 0)).cells n++Builtin.zeroCells (Ma 0 FZ (.slice none 0 0) (.slice none 0 0) (.slice none 0 0)).cells (G-(0+n))=cs at *;have HO:Hid (OG 138 18 (w.drew.alloc (.cells cs 138)) w.heap.size (.slice (some ⟨w.heap.size,0,none⟩) 0 G) []):=hide ⟨fun c hc=>by simp at hc,World.ownsRow_made w.drew cs G Ak hG63 hcs⟩;rw[Nat.zero_add]at hrz hG;have h2:¬((n:Int)<0):=by omega
 have ACz:G≤9223372036854775807:=by unfold maxLen at hG63;omega
 clear hold hcs hG63;go_enter Tryz.func163,Tryz.ntmps163
 go_wp2_with (at_builtin;refine Lib.wpList_append_run _ rfl _ _ _ _ rfl _ _ rfl rfl _ _ (hrz _) ?_)
 go_ret;exact⟨_,rfl,HO.out,(Below.drew (Below.refl _ _)).alloc Ak _⟩
theorem jZ(g:Nat)(v1 v2:Value)(ps qs:List Ba)(w:World)(h0:w.cell? ⟨g,0,none⟩=some v1)(h1:w.cell? ⟨g,1,none⟩=some v2)
 (W0:World) (p1:Pk W0 w v1 ps) (p2:Pk W0 w v2 qs) (hq:0<qs.length) (hl:ps.length+qs.length≤4194304):
 Calls Tryz.prog 123 #[.slice (some ⟨g,0,none⟩) 2 2] w fun e w'=>∃v rows,e= .returned v∧OG 138 18 w' w.heap.size v rows∧Dr W0 (ps++qs) rows∧Below w.heap.size w w':=by
 have P1:=hide p1;have P2:=hide p2;have GR:=hide fun w=>YR (ps.length+qs.length) w (by omega) hl;have lg:g<w.heap.size:=AQ h0;obtain⟨a1,k1,rfl⟩:=RG.form p1;obtain⟨a2,k2,rfl⟩:=RG.form p2;have e1:IntKind.i64.wrap ((ps.length:Int)+(qs.length:Int))=((ps.length+qs.length:Nat):Int):=by rw[IntKind.wrap_i64];omega
 have HL:=hide hl;obtain⟨n,hn⟩:∃n,ps.length+qs.length=n:=⟨_,rfl⟩
 rw[hn]at GR e1;have n1:¬((n:Int)<0):=by omega
 clear p1 p2;go_enter Tryz.func123,Tryz.ntmps123
 go_wp2;refine wp_loop_rounds 3 ?_;rw[rounds_succ];go_wp2;rw[rounds_succ];go_wp2;rw[rounds_succ];go_wp2_with fail
 refine(GR.out _).mono ?_;rintro _ w0 ⟨v0,rfl,o0,b0⟩;have HO0:=hide o0;have HB0:=hide b0;have c0:=b0.cell (p:=⟨g,0,none⟩) lg;rw[h0]at c0;have c1:=b0.cell (p:=⟨g,1,none⟩) lg;rw[h1]at c1;clear o0 b0;go_wp2;refine wp_loop_rounds 3 ?_;rw[rounds_succ];go_wp2_with (first|(at_builtin;refine IA rfl _ _ rfl w.heap.size v0 (.slice a1 ps.length k1) [] [] ps rfl rfl HO0.out W0 (Dr.nil _) (P1.out.below HB0.out) (by have:=HL.out;simp;omega) HB0.out.size ?_;intro v1 w1 r1 ho1 hr1 hg1;have HB1:=hide (HB0.out.grown hg1 HB0.out.size (fun j hj=>(HO0.out.lt j hj).1));have xX:=hide ho1;have HR1:=hide hr1;have c0:=HB1.out.cell (p:=⟨g,0,none⟩) lg;rw[h0]at c0;have c1:=HB1.out.cell (p:=⟨g,1,none⟩) lg;rw[h1]at c1;clear ho1 hg1 hr1))
 rw[rounds_succ];go_wp2_with (first|(at_builtin;refine IA rfl _ _ rfl w.heap.size v1 (.slice a2 qs.length k2) r1 ([]++ps) qs rfl rfl xX.out W0 HR1.out (P2.out.below HB1.out) (by have:=HL.out;simp;omega) HB1.out.size ?_;intro v2 w2 r2 ho2 hr2 hg2;have HB2:=hide (HB1.out.grown hg2 HB1.out.size (fun j hj=>(xX.out.lt j hj).1));have xW:=hide ho2;have HR2:=hide hr2;have c0:=HB2.out.cell (p:=⟨g,0,none⟩) lg;rw[h0]at c0;have c1:=HB2.out.cell (p:=⟨g,1,none⟩) lg;rw[h1]at c1;clear ho2 hg2 hr2))
 rw[rounds_succ];go_wp2;go_ret;exact⟨_,_,rfl,xW.out,by simpa using HR2.out,HB2.out⟩
end
section
open Go Go.RowKit
variable [∀(a b c d:Int),Decidable (BG a b c d)] [∀(n f:Int),Decidable (A_ n f)] [∀(a b c d:Nat),Decidable (DZ a b c d)] [∀(x:T4),Decidable (Du x)] [∀(last:Int)(s:St),Decidable (Aq last s)] [∀(n:Int)(s:List Int),Decidable (Dv n s)] [∀(x y:T4),Decidable (Gs x y)] [∀(ts:List T4),Decidable (Asc ts)] [∀(ts:List T4),Decidable (DU ts)] [∀(ts:List T4),Decidable (JM ts)]
def Aw(t:Bt)(qs:List Ba):Bt:={ t with held:=t.held++qs }
def DX(n f:Int)(t:Bt):Bool:=decide (t.held.length≤30)&&Ez n f t.id t.held
theorem Uo(n f:Int)(t:Bt)(qs:List Ba)(ao bo co od oe:Option Addr)(ca cb cc cd ce:Nat)(aq:Option Addr)(kq:Nat)(w:World)(hq:0<qs.length)(hl:t.held.length+qs.length≤1048577)(hh:∀j,j<(Aw t qs).held.length→MH ((Aw t qs).held.getD j AL).2∧MI ((Aw t qs).held.getD j AL).2)(ES:IntKind.i64.wrap (n-1)=n-1)(hE:Env w)(W0:World)(hb0:Below W0.heap.size W0 w)(h:En W0 t (.slice ao t.qw.length ca) (.slice bo t.pool.length cb) (.slice co t.tab.length cc) (.slice od t.AU.length cd) (.slice oe t.held.length ce))(hv:Pk W0 w (.slice aq qs.length kq) qs):
 Calls Tryz.prog 71 #[Dz t (.slice ao t.qw.length ca) (.slice bo t.pool.length cb) (.slice co t.tab.length cc) (.slice od t.AU.length cd) (.slice oe t.held.length ce),cv n f,.slice aq qs.length kq] w fun r w'=>∃(QB:Option Addr)(Su:Nat),r= .returned (.tuple #[Dz (Aw t qs) (.slice ao t.qw.length ca) (.slice bo t.pool.length cb) (.slice co t.tab.length cc) (.slice od t.AU.length cd) (.slice QB (Aw t qs).held.length Su),.bool (DX n f (Aw t qs))])∧∃rows:List (List Value),OG 138 18 w' w.heap.size (.slice QB (Aw t qs).held.length Su) rows∧Dr W0 (Aw t qs).held rows∧Below w.heap.size w w':=by
 have CC:=hide fun g w h0 h1 p1 p2=>jZ g (.slice oe t.held.length ce) (.slice aq qs.length kq) t.held qs w h0 h1 W0 p1 p2 hq (by omega);have HO:=hide fun(od' QB:Option Addr)(Su:Nat) w he h=>Iw n f (Aw t qs) ao bo co od QB ca cb cc cd Su w (by show(t.held++qs).length≤_;rw[List.length_append];exact hl) hh ES he h;have HB:=hide hb0;have HR:=hide h;have HV:=hide hv;have HE:=hide hE;clear h hv hE hb0 hh hq hl ES;unfold DX at *;generalize (decide ((Aw t qs).held.length≤30)&&Ez n f (Aw t qs).id (Aw t qs).held)=b0 at *;obtain⟨w0,hw0,AO,A,LC,O,DC⟩:=oJ w #[.int .i64 t.id,.int .i64 t.vw,.int .i64 t.ak,.int .i64 t.vo,.int .i64 t.lo,.int .i64 t.n,.string t.s,.slice ao t.qw.length ca,.string t.d,.slice bo t.pool.length cb,.slice co t.tab.length cc,.slice od t.AU.length cd,.int .i64 t.su,.slice oe t.held.length ce] 46 #[.int .i64 n,.int .i64 f] 48 #[.int .i64 0,.int .i64 0,.int .i64 0,.int .i64 0,.int .i64 0,.int .i64 0,.string ⟨#[]⟩,.slice none 0 0,.string ⟨#[]⟩,.slice none 0 0,.slice none 0 0,.slice none 0 0,.int .i64 0,.slice none 0 0] 46;go_enter Tryz.func71,Tryz.ntmps71
 have BV:=A.cell 13 rfl;obtain⟨wb,hwb⟩:∃y,w0.alloc (.cells #[.slice oe t.held.length ce,.slice aq qs.length kq] 44)=y:=⟨_,rfl⟩
 have bb:Below w0.heap.size w0 wb:=hwb▸Aj _ _;have LB:Loc wb w0.heap.size #[.slice oe t.held.length ce,.slice aq qs.length kq]:=hwb▸AJ w0 _ _ rfl;go_wp2_with fail
 clear hw0 BV;have zT:=bu AO bb;have swb:=bb.size;replace A:=A.up bb;replace LC:=LC.up bb;replace O:=O.up bb;clear AO bb hwb;refine(CC.out _ _ (LB.cell 0 rfl) (LB.cell 1 rfl) (HR.out.h.b (HB.out.trans (zT.mono HB.out.size))) (HV.out.below zT)).mono ?_;rintro _ w1 ⟨v,rows,rfl,oG,hR,bb⟩;clear LB;have AZ:=bu zT bb;have Cx:=bb.size;replace A:=A.up bb;replace LC:=LC.up bb;replace O:=O.up bb;clear zT bb;have uV:=OG.lt oG;have xV:=hide hR;clear hR;obtain⟨aG,kG,rfl⟩:=oG.form;have hlen:rows.length=(Aw t qs).held.length:=xV.out.1;rw[hlen]at uV oG⊢;have BV:=A.cell 13 rfl;have fA:=A.frozen;go_upto_region 2 with fail
 clear BV fA;obtain⟨w2,hw2⟩:∃Ck,(w1.setCell ⟨w.heap.size,13,none⟩ (.slice aG (Aw t qs).held.length kG))=Ck:=⟨_,rfl⟩
 have kN:Kp w1 w2 (fun k=>k=w.heap.size):=hw2▸AB _ _ _ _;replace A:Loc w2 (w.heap.size) #[.int .i64 t.id,.int .i64 t.vw,.int .i64 t.ak,.int .i64 t.vo,.int .i64 t.lo,.int .i64 t.n,.string t.s,.slice ao t.qw.length ca,.string t.d,.slice bo t.pool.length cb,.slice co t.tab.length cc,.slice od t.AU.length cd,.int .i64 t.su,.slice aG (Aw t qs).held.length kG]:=hw2▸(A.set 13 _ rfl);replace LC:=LC.kp kN (by omega);replace O:=O.kp kN (by omega);replace oG:=oG.kp kN (fun j hj e=>by have:=uV j hj;omega);have Ao:=Below.kp AZ kN AZ.size (fun k hk=>by omega);have Ex:=kN.size;rw[hw2];clear hw2 kN AZ;have K:Hid (∀w',Kp w2 w' (fun k=>k=w.heap.size+1+1)→(fun w'=>Kp w2 w' (fun k=>k=w.heap.size+1+1)∧Loc w' (w.heap.size) #[.int .i64 t.id,.int .i64 t.vw,.int .i64 t.ak,.int .i64 t.vo,.int .i64 t.lo,.int .i64 t.n,.string t.s,.slice ao t.qw.length ca,.string t.d,.slice bo t.pool.length cb,.slice co t.tab.length cc,.slice od t.AU.length cd,.int .i64 t.su,.slice aG (Aw t qs).held.length kG]∧(w'.cell? ⟨w.heap.size+1,0,none⟩=some (.int .i64 n)∧w'.cell? ⟨w.heap.size+1,1,none⟩=some (.int .i64 f))) w'):=hide fun w' hk'=>⟨hk',A.kp hk' (by omega),⟨(LC.kp hk' (by omega)).cell 0 rfl,(LC.kp hk' (by omega)).cell 1 rfl⟩⟩
 refine uN K (fun wd2 bA bb hHeld=>?_);have WM:=bu Ao bb;have AAD:=bb.size;replace A:=A.up bb;replace LC:=LC.up bb;replace O:=O.up bb;replace oG:=oG.below bb;clear Ao bb;refine take_at (i:=0) (d:=14) (v:= .agg #[.int .i64 t.id,.int .i64 t.vw,.int .i64 t.ak,.int .i64 t.vo,.int .i64 t.lo,.int .i64 t.n,.string t.s,.slice ao t.qw.length ca,.string t.d,.slice bo t.pool.length cb,.slice co t.tab.length cc,.slice od t.AU.length cd,.int .i64 t.su,.slice aG (Aw t qs).held.length kG]) rfl rfl (by kernel_rfl) (by kernel_rfl) (by kernel_rfl) (fun _ _ _ h=>h) ?_ (by assumption) ?_
 ·exact Az rfl 46 _ rfl rfl _ (fun w h=>h.2.1) Tryz.underlying46 rfl (by kernel_rfl)
 simp only[pU];refine take_at (i:=1) (d:=15) (v:= .agg #[.int .i64 t.id,.int .i64 t.vw,.int .i64 t.ak,.int .i64 t.vo,.int .i64 t.lo,.int .i64 t.n,.string t.s,.slice ao t.qw.length ca,.string t.d,.slice bo t.pool.length cb,.slice co t.tab.length cc,.slice od t.AU.length cd,.int .i64 t.su,.slice aG (Aw t qs).held.length kG]) rfl rfl (by kernel_rfl) (by kernel_rfl) (by kernel_rfl) (fun _ _ _ h=>h) ?_ (by assumption) ?_
 ·exact Az rfl 46 _ rfl rfl _ (fun w h=>h.2.1) Tryz.underlying46 rfl (by kernel_rfl)
 simp only[pU];refine tx 2 16 ?_;refine rd 3 rfl (fun KK AA=>?_);go_simp;refine(HO.out none aG kG _ (HE.out.below WM) (OG.ZF oG (Dr.below xV.out (HB.out.trans (WM.mono HB.out.size)) Ak))).mono ?_;rintro e Y3 ⟨rfl,bb⟩;have je:Kp w2 Y3 (fun k=>k=w.heap.size+1+1):=bA.trans (Below.BJ bb _);clear hHeld;refine AA.out _ _ (K.out _ je) (fun hHeld=>?_);clear AA KK bA;have Yw:=bu WM bb;have AAB:=bb.size;replace A:=A.up bb;replace LC:=LC.up bb;replace O:=O.up bb;replace oG:=oG.below bb;clear WM bb;refine rd 4 rfl (fun KK AA=>?_);rw[if_pos (by rfl)];refine wp_store_mid 46 (.tmp 6) (.tmp 14) rfl (w.heap.size+1+1) 0 #[.int .i64 t.id,.int .i64 t.vw,.int .i64 t.ak,.int .i64 t.vo,.int .i64 t.lo,.int .i64 t.n,.string t.s,.slice ao t.qw.length ca,.string t.d,.slice bo t.pool.length cb,.slice co t.tab.length cc,.slice od t.AU.length cd,.int .i64 t.su,.slice aG (Aw t qs).held.length kG] rfl rfl (O.there 0 14 (by simp)) (by kernel_rfl) (by simp[Value.oneCell']) ?_;obtain⟨Y2,hq⟩:∃y,Y3.setCells (w.heap.size+1+1) 0 [.int .i64 t.id,.int .i64 t.vw,.int .i64 t.ak,.int .i64 t.vo,.int .i64 t.lo,.int .i64 t.n,.string t.s,.slice ao t.qw.length ca,.string t.d,.slice bo t.pool.length cb,.slice co t.tab.length cc,.slice od t.AU.length cd,.int .i64 t.su,.slice aG (Aw t qs).held.length kG]=y:=⟨_,rfl⟩
 have kN:Kp Y3 Y2 (fun k=>k=w.heap.size+1+1):=hq▸Ad _ _ _ _;have pz:Kp w2 Y2 (fun k=>k=w.heap.size+1+1):=je.trans (kN.mono (fun k e=>e));replace O:Loc Y2 (w.heap.size+1+1) #[.int .i64 t.id,.int .i64 t.vw,.int .i64 t.ak,.int .i64 t.vo,.int .i64 t.lo,.int .i64 t.n,.string t.s,.slice ao t.qw.length ca,.string t.d,.slice bo t.pool.length cb,.slice co t.tab.length cc,.slice od t.AU.length cd,.int .i64 t.su,.slice aG (Aw t qs).held.length kG]:=hq▸O.setCells _ _ rfl;rw[show Y3.setCells (w.heap.size+1+1) 0 (Array.toList #[.int .i64 t.id,.int .i64 t.vw,.int .i64 t.ak,.int .i64 t.vo,.int .i64 t.lo,.int .i64 t.n,.string t.s,.slice ao t.qw.length ca,.string t.d,.slice bo t.pool.length cb,.slice co t.tab.length cc,.slice od t.AU.length cd,.int .i64 t.su,.slice aG (Aw t qs).held.length kG])=Y2 from hq];clear hHeld;refine AA.out _ _ (K.out _ pz) (fun hHeld=>?_);clear AA KK je;replace A:=A.kp kN (by omega);replace LC:=LC.kp kN (by omega);replace oG:=oG.kp kN (fun j hj e=>by have:=uV j hj;omega);have tH:=Below.kp Yw kN Yw.size (fun k hk=>by omega);have AAA:=kN.size;clear hq kN Yw;refine tx 5 7 ?_;clear hHeld;refine Bw ?_;clear K pz;go_wp2;refine bodyPost_ret (v:= .tuple #[Dz (Aw t qs) (.slice ao t.qw.length ca) (.slice bo t.pool.length cb) (.slice co t.tab.length cc) (.slice od t.AU.length cd) (.slice aG (Aw t qs).held.length kG),.bool b0]) (Cg Tryz.results71 _ O rfl Tryz.underlying46 rfl (by kernel_rfl)) rfl ?_;exact⟨_,_,rfl,_,oG.mono (by omega),xV.out,tH⟩
def Cc(id:Int)(m:MT):Nat→List Ba
 |0=>[]
 |k+1=>if(k:Int)=id then Cc id m k else Cc id m k++[((k:Int),m)]
theorem KT(id:Int)(m:MT):∀k,(Cc id m k).length≤k
 |0=>Nat.le_refl _
 |k+1=>by
  have:=KT id m k;unfold Cc
  split
  ·omega
  rw[List.length_append];simp;omega
theorem Uz(id:Int)(m:MT):∀k,k≤(Cc id m k).length+1∧((k:Int)≤id→k≤(Cc id m k).length)
 |0=>⟨Nat.zero_le _,fun _=>Nat.zero_le _⟩
 |k+1=>by
  obtain⟨h1,h2⟩:=Uz id m k;unfold Cc
  split
  ·rename_i e;exact⟨by have:=h2 (by omega);omega,fun h=>by omega⟩
  rename_i e;rw[List.length_append];exact⟨by simp;omega,fun h=>by have:=h2 (by omega);simp;omega⟩
theorem Ht{id:Int}{m:MT}:∀ {k:Nat}{p:Ba},p ∈ Cc id m k→p.2=m∧0≤p.1∧p.1<k∧p.1≠id
 |0,p,h=>by simp[Cc]at h
 |k+1,p,h=>by
  unfold Cc at h
  split at h
  ·obtain⟨a,b,c,d⟩:=Ht h;exact⟨a,b,by omega,d⟩
  rename_i e;rcases List.mem_append.1 h with h|h
  ·obtain⟨a,b,c,d⟩:=Ht h;exact⟨a,b,by omega,d⟩
  rw[List.mem_singleton]at h;subst h;exact⟨rfl,by simp,by show(k:Int)<((k+1:Nat):Int);omega,e⟩
theorem Kk{P:Ba→Prop}{ps qs:List Ba}(h:∀j,j<ps.length→P (ps.getD j AL))(hq:∀p ∈ qs,P p)(j:Nat)(hj:j<(ps++qs).length):P ((ps++qs).getD j AL):=by
 rw[List.length_append]at hj;by_cases e:j<ps.length
 ·rw[show(ps++qs).getD j AL=ps.getD j AL by rw[List.getD_eq_getElem?_getD,List.getElem?_append_left e,←List.getD_eq_getElem?_getD]];exact h j e
 rw[show(ps++qs).getD j AL=qs.getD (j-ps.length) AL by rw[List.getD_eq_getElem?_getD,List.getElem?_append_right (by omega),←List.getD_eq_getElem?_getD]];rw[List.getD_eq_getElem?_getD,List.getElem?_eq_getElem (by omega)];exact hq _ (List.getElem_mem _)
theorem OG.vV{W0 w:World}{base:Nat}{v:Value}{ps:List Ba}{rows:List (List Value)}(h:OG 138 18 w base v rows)(hr:Dr W0 ps rows):Pk W0 w v ps:=by
 have:=h.rg (R:=fun _ k cs=>Pj ps W0 k cs) (fun k hk=>hr.2 k (by rw[←hr.1];exact hk));rw[hr.1]at this;exact this
theorem Rt(n f:Int)(N:Nat)(hn:n=(N:Int))(hN:N≤1000)(t:Bt)(m:MT)(ao bo co od oe am bm cm:Option Addr)(ca cb cc cd ce km lm nm:Nat)(W0 w:World)(Qx:RI W0 (.slice am m.bw.length km) m.bw)(hmb:RI W0 (.slice bm m.pw.length lm) m.pw)(hmc:RI W0 (.slice cm m.qw.length nm) m.qw):
 Calls Tryz.prog 72 #[Dz t (.slice ao t.qw.length ca) (.slice bo t.pool.length cb) (.slice co t.tab.length cc) (.slice od t.AU.length cd) (.slice oe t.held.length ce),cv n f,Dw m (.slice am m.bw.length km) (.slice bm m.pw.length lm) (.slice cm m.qw.length nm)] w fun r w'=>∃a k,r= .returned (.slice a (Cc t.id m N).length k)∧Pk W0 w' (.slice a (Cc t.id m N).length k) (Cc t.id m N)∧Below w.heap.size w w':=by
 subst hn;have HX:=hide Qx;have HY:=hide hmb;have HZ:=hide hmc;have HN:=hide hN;clear Qx hmb hmc hN;obtain⟨w0,hw0,AO,A,LC,MM,DC⟩:=oJ w #[.int .i64 t.id,.int .i64 t.vw,.int .i64 t.ak,.int .i64 t.vo,.int .i64 t.lo,.int .i64 t.n,.string t.s,.slice ao t.qw.length ca,.string t.d,.slice bo t.pool.length cb,.slice co t.tab.length cc,.slice od t.AU.length cd,.int .i64 t.su,.slice oe t.held.length ce] 46 #[.int .i64 (N:Int),.int .i64 f] 48 #[.int .i64 m.k,.int .i64 m.vw,.string m.bn,.int .i64 m.bv,.string m.bs,.slice am m.bw.length km,.int .i64 m.pv,.string m.ps,.slice bm m.pw.length lm,.int .i64 m.qv,.string m.qs,.slice cm m.qw.length nm,.int .i64 m.wh,.int .i64 m.fr,.int .i64 m.tu,.int .i64 m.am,.int .i64 m.no] 75;go_enter Tryz.func72,Tryz.ntmps72
 have Ae:=LC.cell 0 rfl;go_wp2
 go_loopw [7,11] (fun a i wr=>∃(k:Nat)(R:List (List Value))(va:Option Addr)(vc:Nat),k≤N∧i= .int .i64 k∧a= .slice va R.length vc∧OG 138 18 wr w0.heap.size (.slice va R.length vc) R∧Dr W0 (Cc t.id m k) R∧Below w0.heap.size w0 wr) (fun _ i _=>N-(intOf i).toNat)
 clear hw0 Ae
 case atStart=>exact⟨0,[],none,0,Nat.zero_le _,rfl,rfl,OG.nil _ _,Dr.nil _,Below.refl _ _⟩
 case round=>
  obtain⟨k,R,va,vc,hk,rfl,rfl,o,hR,b⟩:=hrel;have HK:=hide hk;have L2:=LC.up b;have A2:=A.up b;have M2:=MM.up b;clear LC A MM;have cL0:=L2.cell 0 rfl;have Bi:=A2.cell 0 rfl;by_cases hlt:k<N
  ·have hlt2:(k:Int)<(N:Int):=by omega
   have e7:IntKind.i64.wrap ((k:Int)+1)=(k:Int)+1:=by have:=HN.out;rw[IntKind.wrap_i64];omega
   by_cases hid:(k:Int)=t.id
   ·have HR:=hide hR;have HO:=hide o;clear hR o;have HI:=hide hid;have rZ:decide ((k:Int)=t.id)=true:=by simp[hid]
    have rY:((k:Int) != t.id)=false:=by simp[hid]
    clear hid;go_wp2
    go_roundw
    case rel=>exact⟨k+1,R,va,vc,by omega,by rw[show((k+1:Nat):Int)=(k:Int)+1 by omega],rfl,HO.out,by unfold Cc;rw[if_pos HI.out];exact HR.out,b⟩
    case measure=>simp only[intOf];omega
   have rZ:decide ((k:Int)=t.id)=false:=by simp[hid]
   have rY:((k:Int) != t.id)=true:=by simp[hid]
   have HI:=hide hid;have HR:=hide hR;have HO:=hide o;have HB:=hide b;clear hR o;obtain⟨wb,hwb⟩:∃y,wr.alloc (.cells #[.int .i64 (k:Int),.int .i64 m.k,.int .i64 m.vw,.string m.bn,.int .i64 m.bv,.string m.bs,.slice am m.bw.length km,.int .i64 m.pv,.string m.ps,.slice bm m.pw.length lm,.int .i64 m.qv,.string m.qs,.slice cm m.qw.length nm,.int .i64 m.wh,.int .i64 m.fr,.int .i64 m.tu,.int .i64 m.am,.int .i64 m.no] 138)=y:=⟨_,rfl⟩
   have bb:Below wr.heap.size wr wb:=hwb▸Aj _ _;have LB:Loc wb wr.heap.size #[.int .i64 (k:Int),.int .i64 m.k,.int .i64 m.vw,.string m.bn,.int .i64 m.bv,.string m.bs,.slice am m.bw.length km,.int .i64 m.pv,.string m.ps,.slice bm m.pw.length lm,.int .i64 m.qv,.string m.qs,.slice cm m.qw.length nm,.int .i64 m.wh,.int .i64 m.fr,.int .i64 m.tu,.int .i64 m.am,.int .i64 m.no]:=hwb▸AJ wr _ _ rfl;have RV:Hid (Pk W0 wb (.slice (some ⟨wr.heap.size,0,none⟩) [((k:Int),m)].length 1) [((k:Int),m)]):=hide ⟨_,_,rfl,.inr ⟨_,0,rfl,fun j hj=>by obtain rfl:j=0:=Nat.lt_one_iff.1 hj;exact⟨_,rfl,LB.range 0 18 rfl,_,_,_,rfl,HX.out,HY.out,HZ.out⟩⟩⟩;have BB:=hide bb;have hl:=KT t.id m k;have HL:=hide hl;clear LB bb b hk hlt hid hl
   go_wp2_with (first
    |(refine Ap M2 75 _ rfl _ rfl rfl Tryz.underlying75 rfl (by kernel_rfl) ?_)
    | (at_builtin;refine IA rfl _ _ rfl w0.heap.size (.slice va R.length vc) (.slice (some ⟨wr.heap.size,0,none⟩) [((k:Int),m)].length 1) R (Cc t.id m k) [((k:Int),m)] rfl rfl (HO.out.below BB.out) W0 HR.out RV.out (by have:=HL.out;have:=HN.out;have:=HK.out;simp;omega) (HB.out.trans (BB.out.mono HB.out.size)).size ?_;intro v1 w1 r1 ho1 hr1 hg1
       have xX:=hide ho1;have HR1:=hide hr1;have l3:=OG.lt HO.out;have B1:=hide ((HB.out.trans (BB.out.mono HB.out.size)).grown hg1 (HB.out.trans (BB.out.mono HB.out.size)).size (fun j e=>(l3 j e).1));clear ho1 hr1 hg1 l3 hwb))
   obtain⟨v4,c4,rfl⟩:=xX.out.form
   go_roundw
   case rel=>exact⟨k+1,r1,v4,c4,by omega,by rw[show((k+1:Nat):Int)=(k:Int)+1 by omega],rfl,xX.out,by unfold Cc;rw[if_neg HI.out];exact HR1.out,B1.out⟩
   case measure=>simp only[intOf];omega
  obtain rfl:k=N:=by omega
  have hlt2:¬((k:Int)<(k:Int)):=by omega
  have HR:=hide hR;have HO:=hide o;have HB:=hide b;clear hR o;go_wp2;go_ret;have e:=HR.out.1;exact⟨va,vc,by rw[e];rfl,by have h:=OG.vV HO.out HR.out;rw[e]at h;exact h,AO.trans (HB.out.mono AO.size)⟩
theorem T_(n f:Int)(t t2:Bt)(b:Bool)(g0 g1 g2:Nat)(ao bo co od oe:Option Addr)(ca cb cc cd ce:Nat)(w:World)(hm:I7 t)(hs:tq t)(hz:RZ t)(hm2:Dt n f t=true→I7 t2)(hz2:Dt n f t=true→RZ t2)(hE:Env w)(h:En w t (.slice ao t.qw.length ca) (.slice bo t.pool.length cb) (.slice co t.tab.length cc) (.slice od t.AU.length cd) (.slice oe t.held.length ce))
 (step:Dt n f t=true→∀w',Below w.heap.size w w'→Calls Tryz.prog 70 #[.pointer (some ⟨g0,0,none⟩),.pointer (some ⟨g1,0,none⟩),.pointer (some ⟨g2,0,none⟩)] w' fun r w''=>∃(a2:Option Addr)(k2:Nat)(b2:Option Addr)(l2:Nat)(c2:Option Addr)(n2:Nat)(d2:Option Addr)(p2:Nat)(e2:Option Addr)(q2:Nat),r= .returned (.tuple #[Dz t2 (.slice a2 t2.qw.length k2) (.slice b2 t2.pool.length l2) (.slice c2 t2.tab.length n2) (.slice d2 t2.AU.length p2) (.slice e2 t2.held.length q2),.bool b])∧En w'' t2 (.slice a2 t2.qw.length k2) (.slice b2 t2.pool.length l2) (.slice c2 t2.tab.length n2) (.slice d2 t2.AU.length p2) (.slice e2 t2.held.length q2)∧Below w'.heap.size w' w''):
 Calls Tryz.prog 59 #[Dz t (.slice ao t.qw.length ca) (.slice bo t.pool.length cb) (.slice co t.tab.length cc) (.slice od t.AU.length cd) (.slice oe t.held.length ce),cv n f,.func (.func 70) #[] #[.pointer (some ⟨g0,0,none⟩),.pointer (some ⟨g1,0,none⟩),.pointer (some ⟨g2,0,none⟩)]] w fun r w'=>∃a b_ c d e,r= .returned (.tuple #[Dz (if(Dt n f t&&b)=true then t2 else t) a b_ c d e,.bool (Dt n f t&&b)])∧Dl w' w.heap.size w'.heap.size (if(Dt n f t&&b)=true then t2 else t) a b_ c d e∧Below w.heap.size w w':=by
 have RO:=hide fun w he h=>dh n f t ao bo co od oe ca cb cc cd ce w hm hs he h;have TL:=hide fun w h=>Qh t ao bo co od oe ca cb cc cd ce w hm hz h;have T2:=hide fun(hb:Dt n f t=true) a2 k2 b2 l2 c2 n2 d2 p2 e2 q2 w h=>Qh t2 a2 b2 c2 d2 e2 k2 l2 n2 p2 q2 w (hm2 hb) (hz2 hb) h;have ST:=hide step;have HR:=hide h;have HE:=hide hE;clear h hE hs hm hz hm2 hz2 step;generalize Dt n f t=b0 at *;obtain⟨w0,hw0,AO,A,LC,O,DC⟩:=oJ w #[.int .i64 t.id,.int .i64 t.vw,.int .i64 t.ak,.int .i64 t.vo,.int .i64 t.lo,.int .i64 t.n,.string t.s,.slice ao t.qw.length ca,.string t.d,.slice bo t.pool.length cb,.slice co t.tab.length cc,.slice od t.AU.length cd,.int .i64 t.su,.slice oe t.held.length ce] 46 #[.int .i64 n,.int .i64 f] 48 #[.int .i64 0,.int .i64 0,.int .i64 0,.int .i64 0,.int .i64 0,.int .i64 0,.string ⟨#[]⟩,.slice none 0 0,.string ⟨#[]⟩,.slice none 0 0,.slice none 0 0,.slice none 0 0,.int .i64 0,.slice none 0 0] 46;go_enter Tryz.func59,Tryz.ntmps59
 obtain⟨Ae,Ai⟩:=Cn LC 0 1;go_wp2_with (first|(refine Ap A 46 _ rfl _ rfl rfl Tryz.underlying46 rfl (by kernel_rfl) ?_))
 clear hw0;refine(RO.out _ (HE.out.below AO) (HR.out.below AO)).mono ?_;rintro _ w1 ⟨rfl,bb⟩;clear Ae Ai;have AZ:=bu AO bb;have Cx:=bb.size;replace A:=A.up bb;replace LC:=LC.up bb;replace O:=O.up bb;clear AO bb;cases b0
 ·go_wp2_with (first|(refine Ap A 46 _ rfl _ rfl rfl Tryz.underlying46 rfl (by kernel_rfl) ?_))
  refine(TL.out _ (HR.out.below AZ)).mono ?_;rintro _ w2 ⟨u1,u2,u3,u4,u5,rfl,oR,bb⟩;have Ao:=bu AZ bb;have Ex:=bb.size;replace A:=A.up bb;replace LC:=LC.up bb;replace O:=O.up bb;clear AZ bb;obtain⟨aR,kR,bR,lR,cR,nR,dR,pR,eR,qR,rfl,rfl,rfl,rfl,rfl⟩:=oR.form;go_wp2_with (first|(refine BH O 46 #[.int .i64 t.id,.int .i64 t.vw,.int .i64 t.ak,.int .i64 t.vo,.int .i64 t.lo,.int .i64 t.n,.string t.s,.slice aR t.qw.length kR,.string t.d,.slice bR t.pool.length lR,.slice cR t.tab.length nR,.slice dR t.AU.length pR,.int .i64 t.su,.slice eR t.held.length qR] rfl _ _ rfl rfl rfl (by kernel_rfl) rfl (by simp[Value.oneCell']) ?_))
  obtain⟨wE,Bf⟩:∃Ck,w2.setRow (w.heap.size+1+1) #[.int .i64 t.id,.int .i64 t.vw,.int .i64 t.ak,.int .i64 t.vo,.int .i64 t.lo,.int .i64 t.n,.string t.s,.slice aR t.qw.length kR,.string t.d,.slice bR t.pool.length lR,.slice cR t.tab.length nR,.slice dR t.AU.length pR,.int .i64 t.su,.slice eR t.held.length qR]=Ck:=⟨_,rfl⟩
  have kN:Kp w2 wE (fun k=>k=w.heap.size+1+1):=Bf▸Bu _ _ _;replace O:Loc wE (w.heap.size+1+1) #[.int .i64 t.id,.int .i64 t.vw,.int .i64 t.ak,.int .i64 t.vo,.int .i64 t.lo,.int .i64 t.n,.string t.s,.slice aR t.qw.length kR,.string t.d,.slice bR t.pool.length lR,.slice cR t.tab.length nR,.slice dR t.AU.length pR,.int .i64 t.su,.slice eR t.held.length qR]:=Bf▸O.row;replace A:=A.kp kN (by omega);replace LC:=LC.kp kN (by omega);replace oR:=oR.kp kN (fun j h1 h2 e=>by omega);have Fh:=Below.kp Ao kN Ao.size (fun k hk=>by omega);have Pp:=kN.size;rw[Bf];clear Bf kN Ao;refine bodyPost_ret (v:= .tuple #[Dz t (.slice aR t.qw.length kR) (.slice bR t.pool.length lR) (.slice cR t.tab.length nR) (.slice dR t.AU.length pR) (.slice eR t.held.length qR),.bool false]) (Cg Tryz.results59 _ O rfl Tryz.underlying46 rfl (by kernel_rfl)) rfl ?_;exact⟨_,_,_,_,_,rfl,oR.mono (by omega) (by omega) Ak,Fh⟩
 go_wp2_with fail
 refine(ST.out (by trivial) _ AZ).mono ?_;rintro _ w2 ⟨a2,k2,b2,l2,c2,n2,d2,p2,e2,q2,rfl,r2,bb⟩;have Ao:=bu AZ bb;have Ex:=bb.size;replace A:=A.up bb;replace LC:=LC.up bb;replace O:=O.up bb;clear AZ bb;go_upto_region 3 with(refine BH (AJ w2 #[.int .i64 0,.int .i64 0,.int .i64 0,.int .i64 0,.int .i64 0,.int .i64 0,.string ⟨#[]⟩,.slice none 0 0,.string ⟨#[]⟩,.slice none 0 0,.slice none 0 0,.slice none 0 0,.int .i64 0,.slice none 0 0] 46 rfl) 46 #[.int .i64 t2.id,.int .i64 t2.vw,.int .i64 t2.ak,.int .i64 t2.vo,.int .i64 t2.lo,.int .i64 t2.n,.string t2.s,.slice a2 t2.qw.length k2,.string t2.d,.slice b2 t2.pool.length l2,.slice c2 t2.tab.length n2,.slice d2 t2.AU.length p2,.int .i64 t2.su,.slice e2 t2.held.length q2] rfl _ _ rfl rfl rfl (by kernel_rfl) rfl (by simp[Value.oneCell']) ?_)
 obtain⟨w3,hw3⟩:∃y,(w2.alloc (.cells #[.int .i64 0,.int .i64 0,.int .i64 0,.int .i64 0,.int .i64 0,.int .i64 0,.string ⟨#[]⟩,.slice none 0 0,.string ⟨#[]⟩,.slice none 0 0,.slice none 0 0,.slice none 0 0,.int .i64 0,.slice none 0 0] 46)).setRow w2.heap.size #[.int .i64 t2.id,.int .i64 t2.vw,.int .i64 t2.ak,.int .i64 t2.vo,.int .i64 t2.lo,.int .i64 t2.n,.string t2.s,.slice a2 t2.qw.length k2,.string t2.d,.slice b2 t2.pool.length l2,.slice c2 t2.tab.length n2,.slice d2 t2.AU.length p2,.int .i64 t2.su,.slice e2 t2.held.length q2]=y:=⟨_,rfl⟩
 rw[hw3];have bb:Below w2.heap.size w2 w3:=hw3▸DW _ _ _ _;have S:Loc w3 w2.heap.size #[.int .i64 t2.id,.int .i64 t2.vw,.int .i64 t2.ak,.int .i64 t2.vo,.int .i64 t2.lo,.int .i64 t2.n,.string t2.s,.slice a2 t2.qw.length k2,.string t2.d,.slice b2 t2.pool.length l2,.slice c2 t2.tab.length n2,.slice d2 t2.AU.length p2,.int .i64 t2.su,.slice e2 t2.held.length q2]:=hw3▸E_ _ _ _ _;have zw3:w3.heap.size=w2.heap.size+1:=by rw[←hw3];exact Eg _ _ _ _
 clear hw3;have BK:=bu Ao bb;have IW:=bb.size;replace A:=A.up bb;replace LC:=LC.up bb;replace O:=O.up bb;clear Ao;replace r2:=r2.below bb;clear bb;cases b
 ·clear r2;go_wp2_with (first|(refine Ap A 46 _ rfl _ rfl rfl Tryz.underlying46 rfl (by kernel_rfl) ?_))
  refine(TL.out _ (HR.out.below BK)).mono ?_;rintro _ w4 ⟨u1,u2,u3,u4,u5,rfl,oR,bb⟩;have Co:=bu BK bb;have OJ:=bb.size;replace A:=A.up bb;replace LC:=LC.up bb;replace O:=O.up bb;replace S:=S.up bb;clear BK bb;obtain⟨aR,kR,bR,lR,cR,nR,dR,pR,eR,qR,rfl,rfl,rfl,rfl,rfl⟩:=oR.form;go_wp2_with (first|(refine BH O 46 #[.int .i64 t.id,.int .i64 t.vw,.int .i64 t.ak,.int .i64 t.vo,.int .i64 t.lo,.int .i64 t.n,.string t.s,.slice aR t.qw.length kR,.string t.d,.slice bR t.pool.length lR,.slice cR t.tab.length nR,.slice dR t.AU.length pR,.int .i64 t.su,.slice eR t.held.length qR] rfl _ _ rfl rfl rfl (by kernel_rfl) rfl (by simp[Value.oneCell']) ?_))
  obtain⟨wE,Bf⟩:∃Ck,w4.setRow (w.heap.size+1+1) #[.int .i64 t.id,.int .i64 t.vw,.int .i64 t.ak,.int .i64 t.vo,.int .i64 t.lo,.int .i64 t.n,.string t.s,.slice aR t.qw.length kR,.string t.d,.slice bR t.pool.length lR,.slice cR t.tab.length nR,.slice dR t.AU.length pR,.int .i64 t.su,.slice eR t.held.length qR]=Ck:=⟨_,rfl⟩
  have kN:Kp w4 wE (fun k=>k=w.heap.size+1+1):=Bf▸Bu _ _ _;replace O:Loc wE (w.heap.size+1+1) #[.int .i64 t.id,.int .i64 t.vw,.int .i64 t.ak,.int .i64 t.vo,.int .i64 t.lo,.int .i64 t.n,.string t.s,.slice aR t.qw.length kR,.string t.d,.slice bR t.pool.length lR,.slice cR t.tab.length nR,.slice dR t.AU.length pR,.int .i64 t.su,.slice eR t.held.length qR]:=Bf▸O.row;replace A:=A.kp kN (by omega);replace LC:=LC.kp kN (by omega);replace S:=S.kp kN (by omega);replace oR:=oR.kp kN (fun j h1 h2 e=>by omega);have Fh:=Below.kp Co kN Co.size (fun k hk=>by omega);have Pp:=kN.size;rw[Bf];clear Bf kN Co;refine bodyPost_ret (v:= .tuple #[Dz t (.slice aR t.qw.length kR) (.slice bR t.pool.length lR) (.slice cR t.tab.length nR) (.slice dR t.AU.length pR) (.slice eR t.held.length qR),.bool false]) (Cg Tryz.results59 _ O rfl Tryz.underlying46 rfl (by kernel_rfl)) rfl ?_;exact⟨_,_,_,_,_,rfl,oR.mono (by omega) (by omega) Ak,Fh⟩
 go_wp2_with (first|(refine Ap S 46 _ rfl _ rfl rfl Tryz.underlying46 rfl (by kernel_rfl) ?_))
 refine(T2.out (by trivial) _ _ _ _ _ _ _ _ _ _ _ r2).mono ?_;rintro _ w4 ⟨u1,u2,u3,u4,u5,rfl,oR,bb⟩;have Co:=bu BK bb;have OJ:=bb.size;replace A:=A.up bb;replace LC:=LC.up bb;replace O:=O.up bb;replace S:=S.up bb;clear BK;replace r2:=r2.below bb;clear bb r2;obtain⟨aR,kR,bR,lR,cR,nR,dR,pR,eR,qR,rfl,rfl,rfl,rfl,rfl⟩:=oR.form;go_wp2_with (first|(refine BH O 46 #[.int .i64 t2.id,.int .i64 t2.vw,.int .i64 t2.ak,.int .i64 t2.vo,.int .i64 t2.lo,.int .i64 t2.n,.string t2.s,.slice aR t2.qw.length kR,.string t2.d,.slice bR t2.pool.length lR,.slice cR t2.tab.length nR,.slice dR t2.AU.length pR,.int .i64 t2.su,.slice eR t2.held.length qR] rfl _ _ rfl rfl rfl (by kernel_rfl) rfl (by simp[Value.oneCell']) ?_))
 obtain⟨wE,Bf⟩:∃Ck,w4.setRow (w.heap.size+1+1) #[.int .i64 t2.id,.int .i64 t2.vw,.int .i64 t2.ak,.int .i64 t2.vo,.int .i64 t2.lo,.int .i64 t2.n,.string t2.s,.slice aR t2.qw.length kR,.string t2.d,.slice bR t2.pool.length lR,.slice cR t2.tab.length nR,.slice dR t2.AU.length pR,.int .i64 t2.su,.slice eR t2.held.length qR]=Ck:=⟨_,rfl⟩
 have kN:Kp w4 wE (fun k=>k=w.heap.size+1+1):=Bf▸Bu _ _ _;replace O:Loc wE (w.heap.size+1+1) #[.int .i64 t2.id,.int .i64 t2.vw,.int .i64 t2.ak,.int .i64 t2.vo,.int .i64 t2.lo,.int .i64 t2.n,.string t2.s,.slice aR t2.qw.length kR,.string t2.d,.slice bR t2.pool.length lR,.slice cR t2.tab.length nR,.slice dR t2.AU.length pR,.int .i64 t2.su,.slice eR t2.held.length qR]:=Bf▸O.row;replace A:=A.kp kN (by omega);replace LC:=LC.kp kN (by omega);replace S:=S.kp kN (by omega);replace oR:=oR.kp kN (fun j h1 h2 e=>by omega);have Fh:=Below.kp Co kN Co.size (fun k hk=>by omega);have Pp:=kN.size;rw[Bf];clear Bf kN Co;refine bodyPost_ret (v:= .tuple #[Dz t2 (.slice aR t2.qw.length kR) (.slice bR t2.pool.length lR) (.slice cR t2.tab.length nR) (.slice dR t2.AU.length pR) (.slice eR t2.held.length qR),.bool true]) (Cg Tryz.results59 _ O rfl Tryz.underlying46 rfl (by kernel_rfl)) rfl ?_;exact⟨_,_,_,_,_,rfl,oR.mono (by omega) (by omega) Ak,Fh⟩
end
end Go.Proofs.YtcjmcgolgbkknaaGreatDoor
