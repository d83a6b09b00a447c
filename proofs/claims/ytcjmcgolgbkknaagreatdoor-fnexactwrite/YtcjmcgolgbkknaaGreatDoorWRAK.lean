/- Lemmas; their conditions stand in each statement. -/
import Derived.Test.YtcjmcgolgbkknaaGreatDoorWRAJ
import Derived.Test.YtcjmcgolgbkknaaGreatDoorWRAF
import Derived.Lib.AppendZerosOnto
import Derived.Laws.EntriesVeiled
set_option maxRecDepth 100000
set_option maxHeartbeats 4000000
set_option linter.unusedSectionVars false
namespace Go.Proofs.YtcjmcgolgbkknaaGreatDoor
section
open Go.RowKit
def marks(k0 n:Nat):List Int:=(List.range n).map fun(i:Nat)=>((k0:Int)+(i:Int))%256
theorem Ed(k0 n:Nat):(marks k0 n).length=n:=by simp[marks]
theorem jH(k0 n i:Nat)(h:i<n):(marks k0 n).getD i 0=((k0:Int)+(i:Int))%256:=by simp[marks,h]
theorem ZY(k0 n:Nat):marks k0 (n+1)=marks k0 n++[((k0:Int)+(n:Int))%256]:=by simp[marks,List.range_succ]

def mixed(k0 k:Nat)(vs:List Value):List Value:=(marks k0 k).map (Value.int .u8)++vs.drop k
theorem ZX(k0:Nat)(vs:List Value):mixed k0 0 vs=vs:=by simp[mixed,marks]
theorem jG(k0:Nat)(vs:List Value):mixed k0 vs.length vs=(marks k0 vs.length).map (Value.int .u8):=by simp[mixed]
theorem jF(k0 k:Nat)(vs:List Value)(h:k<vs.length):(mixed k0 k vs)[k]? =some (vs[k]):=by
 simp[mixed,List.getElem?_append,Ed,h]
theorem jE(k0 k:Nat)(vs:List Value)(h:k<vs.length):(mixed k0 k vs).set k (.int .u8 (((k0:Int)+(k:Int))%256))=mixed k0 (k+1) vs:=by
 unfold mixed;rw[ZY,List.set_append_right _ _ (by simp[Ed]),List.length_map,Ed,Nat.sub_self,List.drop_eq_getElem_cons h,List.set_cons_zero];simp

theorem ni(base g n cap k0:Nat)(vs:List Value)(w:World)(hn:n≤140737488355328)(hk0:k0≤100000000)(h:w.ownsRow base 5 1 (.slice (some ⟨g,0,none⟩) n cap) n vs):
 Calls Tryz.prog 111 #[.slice (some ⟨g,0,none⟩) n cap,.int .i64 k0] w fun e w'=>e= .returned (.int .i64 (k0+n))∧
  w'.ownsRow base 5 1 (.slice (some ⟨g,0,none⟩) n cap) n ((marks k0 n).map (Value.int .u8))∧w.grownBy w' (some g):=by
 have hv0:vs.length=n:=by simpa using h.1
 have Hv:Hid (vs.length=n):=hv0;clear hv0;go_enter Tryz.func111,Tryz.ntmps111
 go_wp2
 go_loopw [1,5] (fun c i wr=>∃k:Nat,k≤n∧i= .int .i64 k∧c= .int .i64 (k0+k)∧wr.ownsRow base 5 1 (.slice (some ⟨g,0,none⟩) n cap) n (mixed k0 k vs)∧w.grownBy wr (some g)) (fun _ i _=>n-(intOf i).toNat)
 case atStart=>exact⟨0,Nat.zero_le _,rfl,by go_num,by rw[ZX];exact h,EW _ _⟩
 case round=>
  obtain⟨k,hk,rfl,rfl,ho,hg⟩:=hrel;by_cases hlt:k<n
  ·have yB:k<vs.length:=by rw[Hv.out];exact hlt
   obtain⟨u,hu⟩:∃u,wr.cell? ⟨g,k,none⟩=some u:=⟨_,(ho.cellAt k (by omega)).trans (jF k0 k vs yB)⟩
   have hfr:=ho.frozenAt k;have hs:=ho.stored k (.int .u8 (((k0:Int)+(k:Int))%256))
   have HS:Hid ((wr.setCell ⟨g,k,none⟩ (.int .u8 (((k0:Int)+(k:Int))%256))).ownsRow base 5 1 (.slice (some ⟨g,0,none⟩) n cap) n (mixed k0 (k+1) vs)):=by
    rw[←jE k0 k vs yB];exact hs.1
   have HG:Hid (w.grownBy (wr.setCell ⟨g,k,none⟩ (.int .u8 (((k0:Int)+(k:Int))%256))) (some g)):=Ef hg hs.2;clear hs ho hg;go_wp2
   go_roundw
   case rel=>exact⟨k+1,by omega,by go_num,by go_num,HS.out,HG.out⟩
   case measure=>simp[intOf];omega
  have hkn:k=n:=by omega
  have HO:Hid (wr.ownsRow base 5 1 (.slice (some ⟨g,0,none⟩) n cap) n ((marks k0 n).map (Value.int .u8))):=by
   have:=jG k0 vs;rw[Hv.out]at this;rw[←this,←hkn];rw[←hkn]at ho;exact ho
  clear ho;subst hkn;go_wp2;go_ret;exact⟨rfl,HO.out,hg⟩

theorem oh(v:Value)(n k0:Nat)(w:World)(hk0:k0≤100000000)(h:RB w v (marks k0 n)):
 Calls Tryz.prog 114 #[v,.int .i64 k0] w fun e w'=>e= .returned (.int .i64 (k0+n))∧w'=w:=by
 obtain⟨hl,ao,ca,rfl,_,ha⟩:=h;rw[Ed]at hl ha⊢;go_enter Tryz.func114,Tryz.ntmps114
 go_wp2
 go_loop [1,5] (fun c i=>∃k:Nat,k≤n∧i= .int .i64 k∧c= .int .i64 (k0+k)) (fun _ i=>n-(intOf i).toNat)
 case atStart=>exact⟨0,Nat.zero_le _,rfl,by go_num⟩
 case round=>
  obtain⟨k,hk,rfl,rfl⟩:=hrel;by_cases hlt:k<n
  ·rcases ha with ha|⟨b,off,rfl,ha⟩
   ·have:=congrArg List.length ha;rw[Ed]at this;simp at this;omega
   have ha':=ha k hlt;rw[jH k0 n k hlt]at ha';clear ha;go_wp2
   go_round
   case rel=>exact⟨k+1,by omega,by go_num,by go_num⟩
   case measure=>simp[intOf];omega
  have hkn:k=n:=by omega
  subst hkn;clear ha;go_wp2;go_ret;exact⟨rfl,rfl⟩

theorem jI(w:World)(k0:Nat):Calls Tryz.prog 111 #[.slice none 0 0,.int .i64 k0] w fun e w'=>e= .returned (.int .i64 k0)∧w'=w:=by
 go_enter Tryz.func111,Tryz.ntmps111
 go_wp2;refine wp_loop_rounds 1 ?_;rw[rounds_succ];go_wp2;go_ret;exact⟨rfl,rfl⟩

theorem nu(base k0:Nat)(v:Value)(xs:List Int)(w:World)(hl:xs.length≤140737488355328)(hk0:k0≤100000000)(h:OB w base v xs):
 Calls Tryz.prog 111 #[v,.int .i64 k0] w fun e w'=>e= .returned (.int .i64 (k0+xs.length))∧OB w' base v (marks k0 xs.length)∧w.grownBy w' v.ownBlock:=by
 have h':=h;rcases h.2 with⟨rfl,h0⟩|⟨g,cap,cur,rfl,_⟩
 ·refine(jI w k0).mono ?_;rintro e w' ⟨rfl,rfl⟩;have hx:xs=[]:=List.length_eq_zero_iff.1 h0;subst hx;exact⟨by simp,World.ownsRow_nil _ _ _ _,EW _ _⟩
 refine(ni base g xs.length cap k0 _ w hl hk0 h').mono ?_;rintro e w' ⟨rfl,ho,hg⟩;refine⟨rfl,?_,hg⟩;unfold OB;rw[Ed];exact ho
def half(xs:List Int)(k:Nat):List Value:=((xs.take k)++List.replicate (xs.length-k) 0).map (Value.int .u8)
theorem jk(xs:List Int):half xs 0=List.replicate xs.length (.int .u8 0):=by simp[half]
theorem oz(xs:List Int):half xs xs.length=xs.map (Value.int .u8):=by simp[half]
theorem ow(xs:List Int)(k:Nat)(h:k≤xs.length):(half xs k).length=xs.length:=by simp[half];omega
theorem ou(xs:List Int)(k:Nat)(h:k<xs.length):(half xs k).set k (.int .u8 (xs.getD k 0))=half xs (k+1):=by
 have e:xs.length-k=(xs.length-(k+1))+1:=by omega
 have hk:(xs.take k).length=k:=by simp;omega
 unfold half;rw[List.take_succ_eq_append_getElem h,e,List.replicate_succ,List.map_append,List.map_append,List.map_append,List.set_append_right _ _ (by simp;omega),List.length_map,hk,Nat.sub_self];simp[List.getElem?_eq_getElem h]

theorem YW(v:Value)(xs:List Int)(w:World)(h:RB w v xs):
 Calls Tryz.prog 94 #[v] w fun e w'=>∃u,e= .returned u∧OB w' w.heap.size u xs∧Below w.heap.size w w':=by
 obtain⟨i0,hi,hz0,hz1,hz2⟩:=info_parts Tryz.info5;obtain⟨hl,ao,ca,rfl,_,ha⟩:=h;obtain⟨n,hn⟩:∃n,xs.length=n:=⟨_,rfl⟩
 have Hn:Hid (xs.length=n):=hn;rw[hn]at hl⊢;rw[hn]at ha;clear hn;go_enter Tryz.func94,Tryz.ntmps94
 go_wp2_with (first|(at_make;refine wpList_make_full _ rfl _ _ 31 rfl w.heap.size 5 i0 (.int .u8 0) 1 Tryz.underlying31 hi hz0 hz1 .i64 .i64 n n n rfl rfl rfl rfl (by rw[hz2];omega) (by unfold maxLen;omega) Af ?_;intro w0 ho0 hg0))
 have hstart:w0.ownsRow w.heap.size 5 1 (.slice (some ⟨w.heap.size,0,none⟩) n n) n (half xs 0):=by
  have e:(madeCells (Value.int IntKind.u8 0).cells (n*1)).toList=half xs 0:=by
   rw[jk,Hn.out,Nat.mul_one];exact toList_madeCells_one _ _
  rw[←e];exact ho0
 have HB:Hid (Below w.heap.size w w0):=(Below.refl _ _).grown hg0 Af (by simp);clear ho0 hg0
 go_loopw [4] (fun i wr=>∃k:Nat,k≤n∧i= .int .i64 k∧wr.ownsRow w.heap.size 5 1 (.slice (some ⟨w.heap.size,0,none⟩) n n) n (half xs k)∧Below w.heap.size w wr) (fun i _=>n-(intOf i).toNat)
 case atStart=>exact⟨0,Nat.zero_le _,rfl,hstart,HB.out⟩
 case round=>
  clear hstart;obtain⟨k,hk,rfl,ho,hbel⟩:=hrel;by_cases hlt:k<n
  ·rcases ha with ha|⟨b,off,rfl,ha⟩
   ·subst ha;have:=Hn.out;simp at this;omega
   have hkx:k<xs.length:=by rw[Hn.out];exact hlt
   have hc0:=ha k hlt;have hc:wr.cell? ⟨b,off+k,none⟩=some (.int .u8 (xs.getD k 0)):=(hbel.cell (AU hc0)).trans hc0
   obtain⟨u,hu⟩:∃u,wr.cell? ⟨w.heap.size,k,none⟩=some u:=by
    have h1:=ho.cellAt k (by omega);have h2:k<(half xs k).length:=by rw[ow xs k (by omega)];exact hkx
    exact⟨_,h1.trans (List.getElem?_eq_getElem h2)⟩
   have hfr:=ho.frozenAt k
   have HS:Hid ((wr.setCell ⟨w.heap.size,k,none⟩ (.int .u8 (xs.getD k 0))).ownsRow w.heap.size 5 1 (.slice (some ⟨w.heap.size,0,none⟩) n n) n (half xs (k+1))):=by
    rw[←ou xs k hkx];exact(ho.stored k _).1
   have HG:Hid (Below w.heap.size w (wr.setCell ⟨w.heap.size,k,none⟩ (.int .u8 (xs.getD k 0)))):=hbel.setCell Af _;clear ha ho hbel hc0;generalize xs.getD k 0=d at *;go_wp2
   go_roundw
   case rel=>exact⟨k+1,by omega,by go_num,HS.out,HG.out⟩
   case measure=>simp[intOf];omega
  have hkn:k=n:=by omega
  have HO:Hid (OB wr w.heap.size (.slice (some ⟨w.heap.size,0,none⟩) n n) xs):=by
   have h1:=oz xs;rw[Hn.out]at h1;unfold OB Hid;rw[Hn.out,←h1,←hkn];rw[←hkn]at ho;exact ho
  clear ha ho;go_wp2;go_ret;exact⟨_,rfl,HO.out,hbel⟩
structure qg(w:World)(ao:Option Addr)(xs:List Int):Prop where
 len:xs.length≤1048576
 code:xs=[]∨∃b off,ao=some ⟨b,off,none⟩∧∀k,k<xs.length→w.cell? ⟨b,off+k,none⟩=some (.int .u8 (xs.getD k 0))
 fit:∀k,k<xs.length→0≤xs.getD k 0∧xs.getD k 0≤255
theorem qg.below{w w':World}{B:Nat}{ao:Option Addr}{xs:List Int}(h:qg w ao xs)(hb:Below B w w')(hB:w.heap.size≤B:=by exact Nat.le_refl _):qg w' ao xs:=by
 refine⟨h.len,?_,h.fit⟩;rcases h.code with h'|⟨b,off,ha,hx⟩
 ·exact .inl h'
 exact .inr ⟨b,off,ha,fun k hk=>(hb.cell (Nat.lt_of_lt_of_le (AU (hx k hk)) hB)).trans (hx k hk)⟩
def Kt(ys:List Int):Prop:=∀y ∈ ys,0≤y∧y≤255
theorem Kt.append{a b:List Int}(ha:Kt a)(hb:Kt b):Kt (a++b):=fun y hy=>by
 rcases List.mem_append.1 hy with h|h
 ·exact ha y h
 exact hb y h
theorem OB.grown{w w':World}{base g:Nat}{v:Value}{xs:List Int}(h:OB w base v xs)(hg:w.grownBy w' (some g))(hlt:g<base):OB w' base v xs:=
 World.ownsRow.kept h hg (by
  cases hv:v.ownBlock with
  |none=>exact .inl rfl
  |some k=>exact .inr fun e=>by have:=(World.ownsRow.lt h k hv).1;simp at e;omega)
theorem OB.kp{w w':World}{base:Nat}{X:Nat→Prop}{v:Value}{xs:List Int}(h:OB w base v xs)(k:Kp w w' X)(hv:∀k,v.ownBlock=some k→¬X k):OB w' base v xs:=by
 refine⟨h.1,?_⟩;rcases h.2 with hn|⟨g,cap,cur,rfl,hb,hgg,rest⟩
 ·exact .inl hn
 refine .inr ⟨g,cap,cur,rfl,hb,?_,rest⟩;rw[k.block g (Array.getElem?_eq_some_iff.1 hgg).1 (hv g rfl)];exact hgg

theorem OB.mono{w:World}{base base':Nat}{v:Value}{xs:List Int}(h:OB w base v xs)(hb:base'≤base):OB w base' v xs:=by
 refine⟨h.1,?_⟩;rcases h.2 with hn|⟨g,cap,cur,rfl,hg,rest⟩
 ·exact .inl hn
 exact .inr ⟨g,cap,cur,rfl,Nat.le_trans hb hg,rest⟩

theorem OB.form{w:World}{base:Nat}{v:Value}{xs:List Int}(h:OB w base v xs):∃ao ca,v= .slice ao xs.length ca:=by
 rcases h.2 with⟨rfl,h0⟩|⟨g,cap,cur,rfl,_⟩
 ·exact⟨none,0,by rw[h0]⟩
 exact⟨_,_,rfl⟩

theorem Ni(xs:List Int)(u:Value)(h:u ∈ xs.map (Value.int .u8)):u.oneCell'=true:=by
 obtain⟨x,_,rfl⟩:=List.mem_map.1 h;rfl

theorem JZ{w:World}{g off:Nat}{xs:List Int}(h:∀k,k<xs.length→w.cell? ⟨g,off+k,none⟩=some (.int .u8 (xs.getD k 0))):
 ∀j u,(xs.map (Value.int .u8))[j]? =some u→w.cell? ((⟨g,off,none⟩:Addr).add j)=some u:=by
 intro j u hj;rw[List.getElem?_map]at hj;obtain⟨x,hx,rfl⟩:=Option.map_eq_some_iff.1 hj;have hlt:=(List.getElem?_eq_some_iff.1 hx).1;have e:((⟨g,off,none⟩:Addr).add j)=⟨g,off+j,none⟩:=by unfold Addr.add;split<;>simp_all
 rw[e,h j hlt];simp[List.getD_eq_getElem?_getD,hx]

def PB(w:World)(v:Value)(xs:List Int):Prop:=
 ∃ao cap,v= .slice ao xs.length cap∧(xs=[]∨∃ad:Addr,ao=some ad∧∀j u,(xs.map (Value.int .u8))[j]? =some u→w.cell? (ad.add j)=some u)
theorem PB.below{w w':World}{v:Value}{xs:List Int}(h:PB w v xs)(hb:Below w.heap.size w w'):PB w' v xs:=by
 obtain⟨ao,cap,rfl,h⟩:=h;refine⟨ao,cap,rfl,?_⟩;rcases h with h|⟨ad,rfl,h⟩
 ·exact .inl h
 exact .inr ⟨ad,rfl,fun j u hj=>(hb.cell (AU (h j u hj))).trans (h j u hj)⟩
theorem RB.pb{w:World}{v:Value}{xs:List Int}(h:RB w v xs):PB w v xs:=by
 obtain⟨hl,ao,cap,rfl,_,h⟩:=h;refine⟨ao,cap,rfl,?_⟩;rcases h with h|⟨b,off,rfl,h⟩
 ·exact .inl h
 exact .inr ⟨_,rfl,JZ h⟩
theorem OB.pb{w:World}{base:Nat}{v:Value}{xs:List Int}(h:OB w base v xs)(hl:xs.length≤140737488355328):PB w v xs:=(h.rb hl).pb
theorem OB.lt{w:World}{base:Nat}{v:Value}{xs:List Int}(h:OB w base v xs):∀j,v.ownBlock=some j→base≤j∧j<w.heap.size:=World.ownsRow.lt h
theorem H9(ty:TypeId)(base cap:Nat)(v:Value)(n:Nat)(xs:List Value)(w:World)(hown:w.ownsRow base 5 1 v n xs):
 (Builtin.append_ #[31,31] ty #[v,.slice none 0 cap]).run Tryz.prog w= .ok v w:=by
 obtain⟨i0,hi,hz0,hz1,hz2⟩:=info_parts Tryz.info5;rcases hown.2 with⟨rfl,rfl⟩|⟨g,cp,cur,rfl,_,_,hnc,_⟩
 ·simp[Builtin.append_,run_underlying Tryz.underlying31,sizeOf,typeInfo,hi,Builtin.lenOf,Builtin.firstCells]
 simp[Builtin.append_,run_underlying Tryz.underlying31,sizeOf,typeInfo,hi,Builtin.lenOf,Builtin.firstCells,hnc,storeCells]
theorem Ap{ops:Array Oper}{rest:List Oper}{o:Oper}{a:Act}{Q:Exit→Act→World→Prop}{w:World}(hgd:o.guard=none)(s x:Operand)
 (ho:o.op= .call { callee:= .builtin .append,args:= #[s,x],argTypes:= #[31,31] }) (base:Nat) (v u:Value) (xs ys:List Int) (hs:a.eval s=v) (hx:a.eval x=u)
 (hown:OB w base v xs) (hp:PB w u ys) (hl:xs.length+ys.length≤16777216) (hbase:base≤w.heap.size)
 (h:∀v' w',OB w' base v' (xs++ys)→w.grownBy w' v.ownBlock→(v'.ownBlock=v.ownBlock∨v'.ownBlock=some w.heap.size)→wpList Tryz.prog ops Q rest (a.put o.dst v') w'):
 wpList Tryz.prog ops Q (o :: rest) a w:=by
 obtain⟨i0,hi,hz0,hz1,hz2⟩:=info_parts Tryz.info5;obtain⟨ao,cap,rfl,hp⟩:=hp
 match ao,hx with
 |none,hx=>
  have hy:ys=[]:=by rcases hp with h|⟨ad,e,_⟩;exact h;cases e
  subst hy;refine wpList_plain hgd fun K hK=>?_;have hrun:=H9 o.type base cap v xs.length (xs.map (Value.int .u8)) w hown;unfold Oper.wp;simp only[List.length_nil]at hx;simp[execOp,ho,resolve,invoke,builtin,hs,hx,hrun,Result.andThen];exact hK _ _ (h v w (by simpa using hown) (EW _ _) (.inl rfl))
 | some ad,hx=>
  have hn:∀j u,(ys.map (Value.int .u8))[j]? =some u→w.cell? (ad.add j)=some u:=by
   rcases hp with rfl|⟨ad',e,h⟩
   ·intro j u hj;simp at hj
   cases e;exact h
  refine wpList_append_own_at _ hgd s x 31 ho base 5 i0 (.int .u8 0) 1 1 Tryz.underlying31 hi hz0 hz1 hz2 rfl (by decide) v xs.length (xs.map (Value.int .u8)) hs hown ad ys.length cap (ys.map (Value.int .u8)) hx (by simp) hn (Ni ys) (by unfold maxLen;omega) (by omega) hbase ?_;intro v' w' ho' hg' _ hb';refine h v' w' ?_ hg' hb';unfold OB;rw[List.map_append,List.length_append];exact ho'
theorem Ki(n:Nat)(w:World)(hn:0<n)(hl:n≤4194304):
 Calls Tryz.prog 229 #[.slice none 0 0,.int .i64 n] w fun e w'=>∃v,e= .returned v∧OB w' w.heap.size v []∧Below w.heap.size w w':=by
 obtain⟨i0,hi,hz0,hz1,hz2⟩:=info_parts Tryz.info5;have hold:(Builtin.firstCells i0.size 0 (.slice none 0 0)).run Tryz.prog w.drew= .ok ([]:List Value).toArray w.drew:=run_firstCells_none w.drew i0.size 0 0 0
 have hrz:∀ty,(Builtin.append_ #[31,3] ty #[.slice none 0 0,.int .i64 (n:Int)]).run Tryz.prog w =
  .ok (.slice (some ⟨w.heap.size,0,none⟩) (0+n) (grownCap w (0+n) 0 5)) (w.drew.alloc (.cells (([]:List Value).toArray++Builtin.zeroCells (Value.int .u8 0).cells n++Builtin.zeroCells (Value.int .u8 0).cells (grownCap w (0+n) 0 5-(0+n))) 5)):=fun ty=>
  Lib.run_append_grow_zeros w 31 3 ty 5 i0 (Value.int .u8 0) .i64 .i64 Tryz.underlying31 Tryz.underlying3 hi hz0 none 0 0 [] hold n hn (by rw[hz1];decide) (by omega) (by omega)
   (by rw[hz2];omega) (growslice_fits (by omega) (by rw[hz2];omega))
 have hG:0+n≤grownCap w (0+n) 0 5:=grownCap_ge w _ _ _;have hG63:grownCap w (0+n) 0 5≤maxLen:=grownCap_le_maxLen w (0+n) 0 _ (by unfold maxLen;omega);generalize grownCap w (0+n) 0 5=G at *
 have hcs:(([]:List Value).toArray++Builtin.zeroCells (Value.int .u8 0).cells n++Builtin.zeroCells (Value.int .u8 0).cells (G-(0+n))).size=G*1:=by
  have e4:(Value.int .u8 0).cells.size=1:=rfl;simp[Builtin.zeroCells,e4];omega
 generalize ([]:List Value).toArray++Builtin.zeroCells (Value.int .u8 0).cells n++Builtin.zeroCells (Value.int .u8 0).cells (G-(0+n))=cs at *;have HO:Hid (OB (w.drew.alloc (.cells cs 5)) w.heap.size (.slice (some ⟨w.heap.size,0,none⟩) 0 G) []):=hide (World.ownsRow_made w.drew cs G Af hG63 hcs);rw[Nat.zero_add]at hrz hG;have h2:¬((n:Int)<0):=by omega
 have AF6:G≤9223372036854775807:=by unfold maxLen at hG63;omega
 clear hold hcs hG63;go_enter Tryz.func229,Tryz.ntmps229
 go_wp2_with (at_builtin;refine Lib.wpList_append_run _ rfl _ _ _ _ rfl _ _ rfl rfl _ _ (hrz _) ?_)
 go_ret;exact⟨_,rfl,HO.out,(Below.drew (Below.refl _ _)).alloc Af _⟩
theorem Df{ops:Array Oper}{o:Oper}{a:Act}{w:World}{K:Act→World→Prop}{Q:Exit→Act→World→Prop}{E:Prop}(hgd:o.guard=none)(s x:Operand)
 (ho:o.op= .call { callee:= .builtin .append,args:= #[s,x],argTypes:= #[31,31] }) (base:Nat) (v u:Value) (xs ys:List Int) (hs:a.eval s=v) (hx:a.eval x=u)
 (hown:OB w base v xs) (hp:PB w u ys) (hl:xs.length+ys.length≤16777216) (hbase:base≤w.heap.size)
 (h:∀v' w',OB w' base v' (xs++ys)→w.grownBy w' v.ownBlock→(v'.ownBlock=v.ownBlock∨v'.ownBlock=some w.heap.size)→K (a.put o.dst v') w'):
 if Region.wanted o (yielded ops a.tmps)=true then Oper.wp Tryz.prog o a w K Q else E:=by
 have hw:Region.wanted o (yielded ops a.tmps)=true:=by simp[Region.wanted,hgd]
 rw[if_pos hw];obtain⟨i0,hi,hz0,hz1,hz2⟩:=info_parts Tryz.info5;obtain⟨ao,cap,rfl,hp⟩:=hp
 match ao,hx with
 |none,hx=>
  have hy:ys=[]:=by rcases hp with h|⟨ad,e,_⟩;exact h;cases e
  subst hy;have hrun:=H9 o.type base cap v xs.length (xs.map (Value.int .u8)) w hown;unfold Oper.wp;simp only[List.length_nil]at hx;simp[execOp,ho,resolve,invoke,builtin,hs,hx,hrun,Result.andThen];exact h v w (by simpa using hown) (EW _ _) (.inl rfl)
 | some ad,hx=>
  have hn:∀j u,(ys.map (Value.int .u8))[j]? =some u→w.cell? (ad.add j)=some u:=by
   rcases hp with rfl|⟨ad',e,h⟩
   ·intro j u hj;simp at hj
   cases e;exact h
  obtain⟨v',w',hrun,r1,r2,_,r4⟩:=run_append_own_at (P:=Tryz.prog) w base 31 o.type 5 i0 (.int .u8 0) 1 1 Tryz.underlying31 hi hz0 hz1 hz2 rfl (by decide) v xs.length (xs.map (Value.int .u8)) hown ad ys.length cap (ys.map (Value.int .u8)) (by simp) hn (Ni ys) (by unfold maxLen;omega) (by omega) hbase;unfold Oper.wp;simp[execOp,ho,resolve,invoke,builtin,hs,hx,hrun,Result.andThen];refine h v' w' ?_ r2 r4;unfold OB;rw[List.map_append,List.length_append];exact r1
theorem Xt(g:Nat)(v1 v2 v3:Value)(xs ys zs:List Int)(w:World)(h0:w.cell? ⟨g,0,none⟩=some v1)(h1:w.cell? ⟨g,1,none⟩=some v2)(h2:w.cell? ⟨g,2,none⟩=some v3)
 (p1:PB w v1 xs) (p2:PB w v2 ys) (p3:PB w v3 zs) (hy:0<xs.length+ys.length+zs.length) (hl:xs.length+ys.length+zs.length≤4194304):
 Calls Tryz.prog 199 #[.slice (some ⟨g,0,none⟩) 3 3] w fun e w'=>∃v,e= .returned v∧OB w' w.heap.size v (xs++ys++zs)∧Below w.heap.size w w':=by
 have P1:=hide p1;have P2:=hide p2;have P3:=hide p3;have GR:=hide fun w=>Ki (xs.length+ys.length+zs.length) w (by omega) hl;have lg:g<w.heap.size:=AU h0;obtain⟨a1,k1,rfl,_⟩:=p1;obtain⟨a2,k2,rfl,_⟩:=p2;obtain⟨a3,k3,rfl,_⟩:=p3;have e1:IntKind.i64.wrap ((xs.length:Int)+(ys.length:Int))=(xs.length:Int)+(ys.length:Int):=by rw[IntKind.wrap_i64];omega
 have n1:¬((xs.length:Int)+(ys.length:Int)<0):=by omega
 have e2:IntKind.i64.wrap ((xs.length:Int)+(ys.length:Int)+(zs.length:Int))=((xs.length+ys.length+zs.length:Nat):Int):=by rw[IntKind.wrap_i64];omega
 obtain⟨n,hn⟩:∃n,xs.length+ys.length+zs.length=n:=⟨_,rfl⟩
 rw[hn]at GR e2;have n2:¬((n:Int)<0):=by omega
 go_enter Tryz.func199,Tryz.ntmps199
 go_wp2;refine wp_loop_rounds 4 ?_;rw[rounds_succ];go_wp2;rw[rounds_succ];go_wp2;rw[rounds_succ];go_wp2;rw[rounds_succ];go_wp2_with fail
 refine(GR.out _).mono ?_;rintro _ w0 ⟨v0,rfl,o0,b0⟩;have wQ:=hide o0;have HB0:=hide b0;have c0:=b0.cell (p:=⟨g,0,none⟩) lg;rw[h0]at c0;have c1:=b0.cell (p:=⟨g,1,none⟩) lg;rw[h1]at c1;have c2:=b0.cell (p:=⟨g,2,none⟩) lg;rw[h2]at c2;clear o0 b0;go_wp2;refine wp_loop_rounds 4 ?_;rw[rounds_succ];go_wp2_with (first|(at_builtin;refine Ap rfl _ _ rfl w.heap.size v0 (.slice a1 xs.length k1) ([]) xs rfl rfl wQ.out (P1.out.below HB0.out) (by simp;omega) HB0.out.size ?_;intro v1 w1 ho1 hg1 _;have wP:=hide ho1;have HB1:=hide (HB0.out.grown hg1 HB0.out.size (fun j hj=>(wQ.out.lt j hj).1));have c0:=HB1.out.cell (p:=⟨g,0,none⟩) lg;rw[h0]at c0;have c1:=HB1.out.cell (p:=⟨g,1,none⟩) lg;rw[h1]at c1;have c2:=HB1.out.cell (p:=⟨g,2,none⟩) lg;rw[h2]at c2;clear ho1 hg1))
 rw[rounds_succ];go_wp2_with (first|(at_builtin;refine Ap rfl _ _ rfl w.heap.size v1 (.slice a2 ys.length k2) ([]++xs) ys rfl rfl wP.out (P2.out.below HB1.out) (by simp;omega) HB1.out.size ?_;intro v2 w2 ho2 hg2 _;have qf:=hide ho2;have HB2:=hide (HB1.out.grown hg2 HB1.out.size (fun j hj=>(wP.out.lt j hj).1));have c0:=HB2.out.cell (p:=⟨g,0,none⟩) lg;rw[h0]at c0;have c1:=HB2.out.cell (p:=⟨g,1,none⟩) lg;rw[h1]at c1;have c2:=HB2.out.cell (p:=⟨g,2,none⟩) lg;rw[h2]at c2;clear ho2 hg2))
 rw[rounds_succ];go_wp2_with (first|(at_builtin;refine Ap rfl _ _ rfl w.heap.size v2 (.slice a3 zs.length k3) ([]++xs++ys) zs rfl rfl qf.out (P3.out.below HB2.out) (by simp;omega) HB2.out.size ?_;intro v3 w3 ho3 hg3 _;have HO3:=hide ho3;have HB3:=hide (HB2.out.grown hg3 HB2.out.size (fun j hj=>(qf.out.lt j hj).1));have c0:=HB3.out.cell (p:=⟨g,0,none⟩) lg;rw[h0]at c0;have c1:=HB3.out.cell (p:=⟨g,1,none⟩) lg;rw[h1]at c1;have c2:=HB3.out.cell (p:=⟨g,2,none⟩) lg;rw[h2]at c2;clear ho3 hg3))
 rw[rounds_succ];go_wp2;go_ret;exact⟨_,rfl,HO3.out,HB3.out⟩
theorem pW(g:Nat)(v1 v2 v3 v4:Value)(xs ys zs us:List Int)(w:World)(h0:w.cell? ⟨g,0,none⟩=some v1)(h1:w.cell? ⟨g,1,none⟩=some v2)(h2:w.cell? ⟨g,2,none⟩=some v3)(h3:w.cell? ⟨g,3,none⟩=some v4)
 (p1:PB w v1 xs) (p2:PB w v2 ys) (p3:PB w v3 zs) (p4:PB w v4 us) (hy:0<xs.length+ys.length+zs.length+us.length) (hl:xs.length+ys.length+zs.length+us.length≤4194304):
 Calls Tryz.prog 199 #[.slice (some ⟨g,0,none⟩) 4 4] w fun e w'=>∃v,e= .returned v∧OB w' w.heap.size v (xs++ys++zs++us)∧Below w.heap.size w w':=by
 have P1:=hide p1;have P2:=hide p2;have P3:=hide p3;have P4:=hide p4;have GR:=hide fun w=>Ki (xs.length+ys.length+zs.length+us.length) w (by omega) hl;have lg:g<w.heap.size:=AU h0;obtain⟨a1,k1,rfl,_⟩:=p1;obtain⟨a2,k2,rfl,_⟩:=p2;obtain⟨a3,k3,rfl,_⟩:=p3;obtain⟨a4,k4,rfl,_⟩:=p4;have e1:IntKind.i64.wrap ((xs.length:Int)+(ys.length:Int))=(xs.length:Int)+(ys.length:Int):=by rw[IntKind.wrap_i64];omega
 have n1:¬((xs.length:Int)+(ys.length:Int)<0):=by omega
 have e2:IntKind.i64.wrap ((xs.length:Int)+(ys.length:Int)+(zs.length:Int))=(xs.length:Int)+(ys.length:Int)+(zs.length:Int):=by rw[IntKind.wrap_i64];omega
 have n2:¬((xs.length:Int)+(ys.length:Int)+(zs.length:Int)<0):=by omega
 have e3:IntKind.i64.wrap ((xs.length:Int)+(ys.length:Int)+(zs.length:Int)+(us.length:Int))=((xs.length+ys.length+zs.length+us.length:Nat):Int):=by rw[IntKind.wrap_i64];omega
 obtain⟨n,hn⟩:∃n,xs.length+ys.length+zs.length+us.length=n:=⟨_,rfl⟩
 rw[hn]at GR e3;have n3:¬((n:Int)<0):=by omega
 go_enter Tryz.func199,Tryz.ntmps199
 go_wp2;refine wp_loop_rounds 5 ?_;rw[rounds_succ];go_wp2;rw[rounds_succ];go_wp2;rw[rounds_succ];go_wp2;rw[rounds_succ];go_wp2;rw[rounds_succ];go_wp2_with fail
 refine(GR.out _).mono ?_;rintro _ w0 ⟨v0,rfl,o0,b0⟩;have wQ:=hide o0;have HB0:=hide b0;have c0:=b0.cell (p:=⟨g,0,none⟩) lg;rw[h0]at c0;have c1:=b0.cell (p:=⟨g,1,none⟩) lg;rw[h1]at c1;have c2:=b0.cell (p:=⟨g,2,none⟩) lg;rw[h2]at c2;have c3:=b0.cell (p:=⟨g,3,none⟩) lg;rw[h3]at c3;clear o0 b0;go_wp2;refine wp_loop_rounds 5 ?_;rw[rounds_succ];go_wp2_with (first|(at_builtin;refine Ap rfl _ _ rfl w.heap.size v0 (.slice a1 xs.length k1) ([]) xs rfl rfl wQ.out (P1.out.below HB0.out) (by simp;omega) HB0.out.size ?_;intro v1 w1 ho1 hg1 _;have wP:=hide ho1;have HB1:=hide (HB0.out.grown hg1 HB0.out.size (fun j hj=>(wQ.out.lt j hj).1));have c0:=HB1.out.cell (p:=⟨g,0,none⟩) lg;rw[h0]at c0;have c1:=HB1.out.cell (p:=⟨g,1,none⟩) lg;rw[h1]at c1;have c2:=HB1.out.cell (p:=⟨g,2,none⟩) lg;rw[h2]at c2;have c3:=HB1.out.cell (p:=⟨g,3,none⟩) lg;rw[h3]at c3;clear ho1 hg1))
 rw[rounds_succ];go_wp2_with (first|(at_builtin;refine Ap rfl _ _ rfl w.heap.size v1 (.slice a2 ys.length k2) ([]++xs) ys rfl rfl wP.out (P2.out.below HB1.out) (by simp;omega) HB1.out.size ?_;intro v2 w2 ho2 hg2 _;have qf:=hide ho2;have HB2:=hide (HB1.out.grown hg2 HB1.out.size (fun j hj=>(wP.out.lt j hj).1));have c0:=HB2.out.cell (p:=⟨g,0,none⟩) lg;rw[h0]at c0;have c1:=HB2.out.cell (p:=⟨g,1,none⟩) lg;rw[h1]at c1;have c2:=HB2.out.cell (p:=⟨g,2,none⟩) lg;rw[h2]at c2;have c3:=HB2.out.cell (p:=⟨g,3,none⟩) lg;rw[h3]at c3;clear ho2 hg2))
 rw[rounds_succ];go_wp2_with (first|(at_builtin;refine Ap rfl _ _ rfl w.heap.size v2 (.slice a3 zs.length k3) ([]++xs++ys) zs rfl rfl qf.out (P3.out.below HB2.out) (by simp;omega) HB2.out.size ?_;intro v3 w3 ho3 hg3 _;have HO3:=hide ho3;have HB3:=hide (HB2.out.grown hg3 HB2.out.size (fun j hj=>(qf.out.lt j hj).1));have c0:=HB3.out.cell (p:=⟨g,0,none⟩) lg;rw[h0]at c0;have c1:=HB3.out.cell (p:=⟨g,1,none⟩) lg;rw[h1]at c1;have c2:=HB3.out.cell (p:=⟨g,2,none⟩) lg;rw[h2]at c2;have c3:=HB3.out.cell (p:=⟨g,3,none⟩) lg;rw[h3]at c3;clear ho3 hg3))
 rw[rounds_succ];go_wp2_with (first|(at_builtin;refine Ap rfl _ _ rfl w.heap.size v3 (.slice a4 us.length k4) ([]++xs++ys++zs) us rfl rfl HO3.out (P4.out.below HB3.out) (by simp;omega) HB3.out.size ?_;intro v4 w4 qz hg4 _;have HO4:=hide qz;have vC:=hide (HB3.out.grown hg4 HB3.out.size (fun j hj=>(HO3.out.lt j hj).1));have c0:=vC.out.cell (p:=⟨g,0,none⟩) lg;rw[h0]at c0;have c1:=vC.out.cell (p:=⟨g,1,none⟩) lg;rw[h1]at c1;have c2:=vC.out.cell (p:=⟨g,2,none⟩) lg;rw[h2]at c2;have c3:=vC.out.cell (p:=⟨g,3,none⟩) lg;rw[h3]at c3;clear qz hg4))
 rw[rounds_succ];go_wp2;go_ret;exact⟨_,rfl,HO4.out,vC.out⟩
abbrev dv(v:Value)(s:Int):Value:= .agg #[v,.int .i64 s]
theorem aD(a b:Value)(xs:List Int)(s:Int)(w:World)(ha:RB w a xs)(hb:RB w b xs):
 Calls Tryz.prog 45 #[dv a s,dv b s] w fun e w'=>e= .returned (.bool true)∧Below w.heap.size w w':=by
 have R1:=hide ha;have R2:=hide hb;have B:=hide (Bn w (.cells #[a,.int .i64 s] 43) (.cells #[b,.int .i64 s] 43));clear ha hb;go_enter Tryz.func45,Tryz.ntmps45
 go_wp2_with fail
 refine(yG a b xs _ (R1.out.below B.out Af) (R2.out.below B.out Af)).mono ?_;rintro e w1 ⟨rfl,n,rfl⟩;go_wp2;go_ret;exact⟨rfl,below_drewN B.out _⟩

theorem UZ(s:Int)(base:Nat)(v:Value)(xs:List Int)(k0:Nat)(w:World)(hl:xs.length≤4194304)(hk:k0≤100000000)(h:OB w base v xs):
 Calls Tryz.prog 49 #[dv v s,.int .i64 k0] w fun e w'=>e= .returned (.int .i64 (k0+xs.length))∧OB w' base v (marks k0 xs.length)∧Kp w w' (fun k=>v.ownBlock=some k):=by
 have B:=hide (Ac w (.cells #[v,.int .i64 s] 43));have H:=hide (h.below B.out);have MK:=hide fun w h=>nu base k0 v xs w (by omega) hk h;clear h;go_enter Tryz.func49,Tryz.ntmps49
 go_wp2_with fail
 refine(MK.out _ H.out).mono ?_;rintro e w1 ⟨rfl,o1,g1⟩;have K:=(Below.Bf B.out (fun k=>v.ownBlock=some k)).trans (Bo g1);go_wp2;go_ret;exact⟨rfl,o1,K⟩

theorem WA(ao:Option Addr)(m ca:Nat)(left:Int)(w:World)(h:(m:Int)≤left)(hl:left≤1048576):
 Calls Tryz.prog 78 #[.slice ao m ca,.int .i64 left] w fun e w'=>e= .returned (.int .i64 (left-m))∧w'=w:=by
 have h1:decide ((left:Int)-(m:Int)<0)=false:=by simp;omega
 go_enter Tryz.func78,Tryz.ntmps78
 go_wp2;go_ret;exact⟨rfl,rfl⟩
theorem Yk(ao:Option Addr)(m ca:Nat)(left:Int)(w:World)(h0:0≤left)(h:left<m)(hl:left≤1048576)(hm:m≤9223372036854775807):
 Calls Tryz.prog 78 #[.slice ao m ca,.int .i64 left] w fun e w'=>e= .returned (.int .i64 (-1))∧w'=w:=by
 have h1:decide ((left:Int)-(m:Int)<0)=true:=by simp;omega
 go_enter Tryz.func78,Tryz.ntmps78
 go_wp2;go_ret;exact⟨rfl,rfl⟩
theorem P6(ao:Option Addr)(m ca:Nat)(s:Int)(left:Int)(w:World)(h:(m:Int)≤left)(hl:left≤1048576):
 Calls Tryz.prog 28 #[dv (.slice ao m ca) s,.int .i64 left] w fun e w'=>e= .returned (.int .i64 (left-m))∧Below w.heap.size w w':=by
 have h1:decide ((left:Int)-(m:Int)<0)=false:=by simp;omega
 go_enter Tryz.func28,Tryz.ntmps28
 go_wp2_with (first|(go_at_call 78;refine(WA _ _ _ _ _ (by omega) (by omega)).mono ?_;rintro e w' ⟨rfl,rfl⟩))
 go_ret;exact⟨rfl,Ac _ _⟩
theorem gQ(ao:Option Addr)(m ca:Nat)(s:Int)(left:Int)(w:World)(h0:0≤left)(h:left<m)(hl:left≤1048576)(hm:m≤9223372036854775807):
 Calls Tryz.prog 28 #[dv (.slice ao m ca) s,.int .i64 left] w fun e w'=>e= .returned (.int .i64 (-1))∧Below w.heap.size w w':=by
 go_enter Tryz.func28,Tryz.ntmps28
 go_wp2_with (first|(go_at_call 78;refine(Yk _ _ _ _ _ (by omega) (by omega) (by omega) hm).mono ?_;rintro e w' ⟨rfl,rfl⟩))
 go_ret;exact⟨rfl,Ac _ _⟩

theorem YT(a:Value)(xs:List Int)(s:Int)(w:World)(ha:RB w a xs):
 Calls Tryz.prog 37 #[dv a s] w fun e w'=>∃u,e= .returned (dv u s)∧OB w' w.heap.size u xs∧Below w.heap.size w w':=by
 have R1:=hide ha;clear ha;go_enter Tryz.func37,Tryz.ntmps37
 go_wp2_with fail
 refine Calls.mono (YW a xs _ (R1.out.below ((((Below.refl w.heap.size w).alloc Af _).alloc (by simp) _).alloc (by simp;omega) _) Af)) ?_;rintro e w1 ⟨u,rfl,o1,b1⟩;have s1:=b1.size;have L1:Loc w1 (w.heap.size+1) #[.slice none 0 0,.int .i64 0]:=Loc.below (Loc.alloc (AB (w.alloc _) #[.slice none 0 0,.int .i64 0] _ (by simp)) _) b1 (by simp);have L2:Loc w1 (w.heap.size+1+1) #[.slice none 0 0,.int .i64 0]:=Loc.below (AB ((w.alloc _).alloc _) #[.slice none 0 0,.int .i64 0] _ (by simp)) b1 (by simp);have B1:Below w.heap.size w w1:=((((Below.refl w.heap.size w).alloc Af _).alloc (by simp) _).alloc (by simp;omega) _).trans (b1.mono (by simp;omega));have dw:=World.ownsRow.lt o1;simp at dw s1;have L0:Loc w1 w.heap.size #[a,.int .i64 s]:=Loc.below (Loc.alloc (Loc.alloc (AB w #[a,.int .i64 s] _ rfl) _) _) b1 (by simp;omega);have x1:=L0.cell 1 rfl;have y0:=L1.cell 0 rfl;have y1:=L1.cell 1 rfl;have fy0:=L1.frozen 0;have fy1:=L1.frozen 1;have z0:=L2.cell 0 rfl;have z1:=L2.cell 1 rfl;have fz0:=L2.frozen 0;have fz1:=L2.frozen 1;obtain⟨ua,uc,hu⟩:=o1.form;have O1:=hide o1;clear o1 b1;subst hu;go_wp2;refine bodyPost_ret (v:=dv (.slice ua xs.length uc) s) (by simp[results,Tryz.results37,go_sem,y0,y1]) rfl ?_
 have K:Kp w1 ((((w1.setCell ⟨w.heap.size+1+1,0,none⟩ (.slice ua xs.length uc)).setCell ⟨w.heap.size+1+1,1,none⟩ (.int .i64 s)).setCell ⟨w.heap.size+1,0,none⟩ (.slice ua xs.length uc)).setCell ⟨w.heap.size+1,1,none⟩ (.int .i64 s)) (fun k=>k=w.heap.size+1∨k=w.heap.size+1+1):=
  (((((AJ _ _ _ _).mono (fun k h=> .inr h))).trans ((AJ _ _ _ _).mono (fun k h=> .inr h))).trans ((AJ _ _ _ _).mono (fun k h=> .inl h))).trans ((AJ _ _ _ _).mono (fun k h=> .inl h))
 exact⟨_,rfl,(O1.out.kp K (fun k hk=>by have:=dw k hk;omega)).mono (by simp;omega),Below.kp B1 K B1.size (fun k hk=>by omega)⟩
end
section
open Go.RowKit
variable [∀(a b c d:Int),Decidable (BK a b c d)]
abbrev T4:=Int×Int×Int×Int
def Ep(x:T4):List Value:=[.int .i64 x.1,.int .i64 x.2.1,.int .i64 x.2.2.1,.int .i64 x.2.2.2]
def Au(xs:List T4):List Value:=xs.flatMap Ep
theorem Mh(x:T4):(Ep x).length=4:=rfl
theorem FR(xs:List T4):(Au xs).length=xs.length*4:=by
 induction xs with
 |nil=>rfl
 |cons x xs ih=>simp[Au,Ep]at *; omega
theorem D8(xs ys:List T4):Au (xs++ys)=Au xs++Au ys:=by simp[Au]
theorem Py(xs:List T4)(k j:Nat)(hk:k<xs.length)(hj:j<4):(Au xs)[k*4+j]? =(Ep (xs.getD k (0,0,0,0)))[j]?:=by
 induction xs generalizing k with
 |nil=>simp at hk
 | cons x xs ih=>
  have e:Au (x :: xs)=Ep x++Au xs:=by simp[Au]
  rw[e];cases k with
  |zero=>rw[Nat.zero_mul,Nat.zero_add,List.getElem?_append_left (by rw[Mh];exact hj)];rfl
  |succ k=>
   rw[List.getElem?_append_right (by rw[Mh];omega),Mh,show(k+1)*4+j-4=k*4+j from by omega,ih k (by simpa using hk)];rfl
def OT(w:World)(base:Nat)(v:Value)(xs:List T4):Prop:=w.ownsRow base 73 4 v xs.length (Au xs)
def RT(w:World)(v:Value)(xs:List T4):Prop:=
 xs.length≤35184372088832∧∃ao cap,v= .slice ao xs.length cap∧(xs=[]∨∃g,ao=some ⟨g,0,none⟩∧∀k,k<xs.length→w.cell? ⟨g,k*4,none⟩=some (.int .i64 (xs.getD k (0,0,0,0)).1)∧w.cell? ⟨g,k*4+1,none⟩=some (.int .i64 (xs.getD k (0,0,0,0)).2.1)∧w.cell? ⟨g,k*4+2,none⟩=some (.int .i64 (xs.getD k (0,0,0,0)).2.2.1)∧w.cell? ⟨g,k*4+3,none⟩=some (.int .i64 (xs.getD k (0,0,0,0)).2.2.2))
theorem OT.below{w w':World}{base:Nat}{v:Value}{xs:List T4}(h:OT w base v xs)(hb:Below w.heap.size w w'):OT w' base v xs:=
 World.ownsRow.kept (row:=none) h ⟨hb.os,hb.tape,hb.output,hb.size,fun k hk _=>hb.block k hk⟩ (by cases v.ownBlock<;>simp)
theorem OT.apart{w w':World}{base N:Nat}{v u:Value}{xs:List T4}(h:OT w base v xs)(hg:w.grownBy w' u.ownBlock)(hv:∀k,v.ownBlock=some k→k<N)(hu:∀k,u.ownBlock=some k→N≤k):OT w' base v xs:=by
 refine World.ownsRow.kept h hg ?_;cases hv':v.ownBlock with
 |none=>exact .inl rfl
 |some k=>exact .inr fun e=>by have:=hv k hv';have:=hu k e.symm;omega
theorem OT.rt{w:World}{base:Nat}{v:Value}{xs:List T4}(h:OT w base v xs)(hl:xs.length≤35184372088832):RT w v xs:=by
 refine⟨hl,?_⟩;rcases h.2 with⟨rfl,h0⟩|⟨g,cap,cur,rfl,_⟩
 ·exact⟨none,0,by rw[h0],.inl (List.length_eq_zero_iff.1 h0)⟩
 refine⟨_,cap,rfl,.inr ⟨g,rfl,fun k hk=>?_⟩⟩;have c0:=World.ownsRow.cellAt h (k*4+0) (by omega);have c1:=World.ownsRow.cellAt h (k*4+1) (by omega);have c2:=World.ownsRow.cellAt h (k*4+2) (by omega);have c3:=World.ownsRow.cellAt h (k*4+3) (by omega);rw[Py xs k _ hk (by omega)]at c0 c1 c2 c3;exact⟨c0,c1,c2,c3⟩
theorem RT.below{w w':World}{v:Value}{xs:List T4}(h:RT w v xs)(hb:Below w.heap.size w w'):RT w' v xs:=by
 obtain⟨hl,ao,cap,rfl,h⟩:=h;refine⟨hl,ao,cap,rfl,?_⟩;rcases h with h|⟨g,rfl,h⟩
 ·exact .inl h
 refine .inr ⟨g,rfl,fun k hk=>?_⟩;obtain⟨c0,c1,c2,c3⟩:=h k hk;have hg:g<w.heap.size:=AU c0;exact⟨(hb.cell (p:=⟨g,k*4,none⟩) hg).trans c0,(hb.cell (p:=⟨g,k*4+1,none⟩) hg).trans c1,(hb.cell (p:=⟨g,k*4+2,none⟩) hg).trans c2,(hb.cell (p:=⟨g,k*4+3,none⟩) hg).trans c3⟩

theorem jv(v u:Value)(xs:List T4)(w:World)(hv:RT w v xs)(hu:RT w u xs):
 Calls Tryz.prog 43 #[v,u] w fun e w'=>e= .returned (.bool true)∧Below w.heap.size w w':=by
 obtain⟨hl,ao,ca,rfl,ha⟩:=hv;obtain⟨_,bo,cb,rfl,hb⟩:=hu;have AF1:xs.length≤9223372036854775807:=by omega
 go_enter Tryz.func43,Tryz.ntmps43
 go_wp2
 go_loopw [5] (fun i wr=>∃k:Nat,k≤xs.length∧i= .int .i64 k∧Below w.heap.size w wr) (fun i _=>xs.length-(intOf i).toNat)
 case atStart=>exact⟨0,Nat.zero_le _,rfl,Below.refl _ _⟩
 case round=>
  obtain⟨k,hk,rfl,br⟩:=hrel;have wF:=br.size;by_cases hlt:k<xs.length
  ·rcases ha with ha|⟨g,rfl,ha⟩
   ·subst ha;simp at hlt
   rcases hb with hb|⟨g',rfl,hb⟩
   ·subst hb;simp at hlt
   obtain⟨a0,a1,a2,a3⟩:=ha k hlt;obtain⟨b0,b1,b2,b3⟩:=hb k hlt;have hg:g<w.heap.size:=AU a0;have hg':g'<w.heap.size:=AU b0;generalize xs.getD k (0,0,0,0)=x at *;obtain⟨xa,xb,xc,xd⟩:=x
   have K:Hid (∀w',Below wr.heap.size wr w'→Below wr.heap.size wr w'∧(w'.cell? ⟨g,k*4,none⟩=some (.int .i64 xa)∧w'.cell? ⟨g,k*4+1,none⟩=some (.int .i64 xb)∧w'.cell? ⟨g,k*4+2,none⟩=some (.int .i64 xc)∧w'.cell? ⟨g,k*4+3,none⟩=some (.int .i64 xd))∧(w'.cell? ⟨g',k*4,none⟩=some (.int .i64 xa)∧w'.cell? ⟨g',k*4+1,none⟩=some (.int .i64 xb)∧w'.cell? ⟨g',k*4+2,none⟩=some (.int .i64 xc)∧w'.cell? ⟨g',k*4+3,none⟩=some (.int .i64 xd))):=fun w' hb'=>by
    have hw:=br.trans (hb'.mono wF);exact⟨hb',⟨(hw.cell (p:=⟨g,k*4,none⟩) hg).trans a0,(hw.cell (p:=⟨g,k*4+1,none⟩) hg).trans a1,(hw.cell (p:=⟨g,k*4+2,none⟩) hg).trans a2,(hw.cell (p:=⟨g,k*4+3,none⟩) hg).trans a3⟩,⟨(hw.cell (p:=⟨g',k*4,none⟩) hg').trans b0,(hw.cell (p:=⟨g',k*4+1,none⟩) hg').trans b1,(hw.cell (p:=⟨g',k*4+2,none⟩) hg').trans b2,(hw.cell (p:=⟨g',k*4+3,none⟩) hg').trans b3⟩⟩
   have bA:Below wr.heap.size wr wr.drew:=Below.drew (Below.refl _ _);have Dt:=K.out _ bA;have EQ:=hide fun w=>TK xa xb xc xd w;clear ha hb a0 a1 a2 a3 b0 b1 b2 b3;go_wp2_with fail
   go_region_held3 (fun w'=>Below wr.heap.size wr w'∧(w'.cell? ⟨g,k*4,none⟩=some (.int .i64 xa)∧w'.cell? ⟨g,k*4+1,none⟩=some (.int .i64 xb)∧w'.cell? ⟨g,k*4+2,none⟩=some (.int .i64 xc)∧w'.cell? ⟨g,k*4+3,none⟩=some (.int .i64 xd))∧(w'.cell? ⟨g',k*4,none⟩=some (.int .i64 xa)∧w'.cell? ⟨g',k*4+1,none⟩=some (.int .i64 xb)∧w'.cell? ⟨g',k*4+2,none⟩=some (.int .i64 xc)∧w'.cell? ⟨g',k*4+3,none⟩=some (.int .i64 xd))) (exact Dt) (first
    | (go_at_call 75;have hgo:=bA;refine(EQ.out _).mono ?_;rintro e wa ⟨rfl,ba⟩
       have bB:Below wr.heap.size wr wa:=bA.trans ba;have Dt:=K.out _ bB;clear bA hgo))
   all_goals
    go_wp2
    go_roundw
    case rel=>exact⟨k+1,by omega,by go_num,br.trans (bB.mono wF)⟩
    case measure=>simp[intOf];omega
  have hkn:k=xs.length:=by omega
  subst hkn;go_wp2;go_ret;exact⟨rfl,br⟩
end
section

theorem Qy(l r:List UInt8)(acc:Nat):Lib.decFrom acc (l++r)=(Lib.decFrom acc l).bind fun a=>Lib.decFrom a r:=by
 induction l generalizing acc with
 |nil=>rfl
 |cons b l ih=>
  rw[List.cons_append,Lib.decFrom,Lib.decFrom];cases Lib.digitVal b with
  |none=>rfl
  |some d=>exact ih _
theorem Ng(k:Nat)(h:k<10):Lib.digitVal (UInt8.ofNat (48+k))=some k:=by
 have e:(UInt8.ofNat (48+k)).toNat=48+k:=by simp;omega
 rw[Lib.digitVal,if_pos (by omega),e];congr 1;omega
theorem Gj(n:Nat):Lib.decFrom 0 (Lib.decDigits n)=some n:=by
 induction n using Nat.strongRecOn with
 | ind n ih=>
  rw[Lib.decDigits];by_cases h:n<10
  ·rw[dif_pos h];simp only[Lib.decFrom,Ng n h];simp
  rw[dif_neg h,Qy,ih (n/10) (by omega)];simp only[Option.bind_some,Lib.decFrom,Ng (n%10) (by omega)]
  congr 1;omega
theorem Fe(n:Nat):Lib.decDigits n≠[]:=by
 intro h;have:=Lib.decDigits_length n;rw[h]at this;have:=Lib.nDigits_pos n;simp at *; omega
theorem X3(n:Nat):Lib.atoi (Lib.decDigits n)=some (n:Int):=by
 have hd:=Gj n;have hne:=Fe n;cases hl:Lib.decDigits n with
 |nil=>exact absurd hl hne
 | cons b r=>
  rw[hl]at hd;obtain⟨d,hb⟩:=Lib.digit_of_decFrom (b :: r) 0 n hd 0 b rfl;have hb':=Lib.digitVal_eq hb
  have h45:(b==45)=false:=by
   rw[beq_eq_false_iff_ne];intro e;subst e;simp at hb'
  have h43:(b==43)=false:=by
   rw[beq_eq_false_iff_ne];intro e;subst e;simp at hb'
  simp[Lib.atoi,h45,h43,Lib.decNat,hd]
theorem JQ(n:Nat)(h:n≤999999):Lib.nDigits n≤6:=by
 have step:∀m k,(m<10→1≤k)→(¬m<10→Lib.nDigits (m/10)+1≤k)→Lib.nDigits m≤k:=by
  intro m k h1 h2;by_cases hm:m<10
  ·rw[Lib.nDigits_small hm];exact h1 hm
  rw[Lib.nDigits_big hm];exact h2 hm
 refine step _ _ (fun _=>by omega) fun _=>Nat.succ_le_of_lt (Nat.lt_of_le_of_lt (step _ 5 (fun _=>by omega) fun _=>Nat.succ_le_of_lt (Nat.lt_of_le_of_lt (step _ 4 (fun _=>by omega) fun _=>Nat.succ_le_of_lt (Nat.lt_of_le_of_lt (step _ 3 (fun _=>by omega) fun _=>Nat.succ_le_of_lt (Nat.lt_of_le_of_lt (step _ 2 (fun _=>by omega) fun _=>Nat.succ_le_of_lt (Nat.lt_of_le_of_lt (step _ 1 (fun _=>by omega) fun _=>?_) (by omega))) (by omega))) (by omega))) (by omega))) (by omega));omega

def numOf(l:List UInt8):Option Nat:=
 match Lib.decFrom 0 l with
 |some n=>if n≤999999∧Lib.decDigits n=l then some n else none
 |none=>none
theorem DN{l:List UInt8}{n:Nat}(h:numOf l=some n):n≤999999∧Lib.decDigits n=l:=by
 unfold numOf at h;cases hd:Lib.decFrom 0 l with
 |none=>rw[hd]at h;cases h
 |some m=>
  rw[hd]at h;by_cases hc:m≤999999∧Lib.decDigits m=l
  ·simp only[if_pos hc,Option.some.injEq]at h;subst h;exact hc
  simp only[if_neg hc]at h;cases h
theorem IE{n:Nat}(h:n≤999999):numOf (Lib.decDigits n)=some n:=by
 unfold numOf;rw[Gj];simp[h]
theorem Sy{l:List UInt8}{n:Nat}(h:numOf l=some n):1≤l.length∧l.length≤6:=by
 obtain⟨h1,rfl⟩:=DN h;rw[Lib.decDigits_length];exact⟨Lib.nDigits_pos n,JQ n h1⟩
theorem Qd{l:List UInt8}(h:l.length<1∨6<l.length):numOf l=none:=by
 cases hn:numOf l with
 |none=>rfl
 |some n=>have:=Sy hn;omega
theorem Qe{l:List UInt8}(h:Lib.decFrom 0 l=none):numOf l=none:=by unfold numOf;rw[h]
theorem Nu{l:List UInt8}{k:Nat}{b:UInt8}(hk:l[k]? =some b)(hb:b.toNat<48∨57<b.toNat):numOf l=none:=by
 refine Qe ?_;cases hd:Lib.decFrom 0 l with
 |none=>rfl
 |some n=>
  obtain⟨d,h⟩:=Lib.digit_of_decFrom l 0 n hd k b hk;have:=Lib.digitVal_eq h;omega
theorem ik{l:List UInt8}{n:Nat}(hd:Lib.decFrom 0 l=some n)(hn:n≤999999)(h:Lib.decDigits n=l):numOf l=some n:=by unfold numOf;rw[hd];simp[hn,h]
theorem nW{l:List UInt8}{n:Nat}(hd:Lib.decFrom 0 l=some n)(h:Lib.decDigits n≠l):numOf l=none:=by unfold numOf;rw[hd];simp[h]
theorem IG(n:Nat):Lib.itoa (n:Int)=Lib.decDigits n:=by rw[Lib.itoa,if_neg (by omega),Int.toNat_natCast]
def He(r:Option Nat):Int:=match r with|some n=>(n:Int)|none=>0
end
end Go.Proofs.YtcjmcgolgbkknaaGreatDoor
