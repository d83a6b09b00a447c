/- Lemmas, as stated. -/
import Derived.Test.YtcjmcgolgbkknaaGreatDoorTAAJ
import Derived.Lib.AppendZerosOnto
import Derived.Laws.EntriesVeiled
set_option maxRecDepth 100000
set_option maxHeartbeats 1600000
set_option linter.unusedSectionVars false
namespace Go.Proofs.YtcjmcgolgbkknaaGreatDoor
section
open Go.RowKit
def marks(k0 n:Nat):List Int:=(List.range n).map fun(i:Nat)=>((k0:Int)+(i:Int))%256
theorem EG(k0 n:Nat):(marks k0 n).length=n:=by simp[marks]
theorem dB(k0 n i:Nat)(h:i<n):(marks k0 n).getD i 0=((k0:Int)+(i:Int))%256:=by simp[marks,h]
theorem Xr(k0 n:Nat):marks k0 (n+1)=marks k0 n++[((k0:Int)+(n:Int))%256]:=by simp[marks,List.range_succ]

def mixed(k0 k:Nat)(vs:List Value):List Value:=(marks k0 k).map (Value.int .u8)++vs.drop k
theorem Xq(k0:Nat)(vs:List Value):mixed k0 0 vs=vs:=by simp[mixed,marks]
theorem dA(k0:Nat)(vs:List Value):mixed k0 vs.length vs=(marks k0 vs.length).map (Value.int .u8):=by simp[mixed]
theorem cu(k0 k:Nat)(vs:List Value)(h:k<vs.length):(mixed k0 k vs)[k]? =some (vs[k]):=by
 simp[mixed,List.getElem?_append,EG,h]
theorem cZ(k0 k:Nat)(vs:List Value)(h:k<vs.length):(mixed k0 k vs).set k (.int .u8 (((k0:Int)+(k:Int))%256))=mixed k0 (k+1) vs:=by
 unfold mixed;rw[Xr,List.set_append_right _ _ (by simp[EG]),List.length_map,EG,Nat.sub_self,List.drop_eq_getElem_cons h,List.set_cons_zero];simp

theorem iV(base g n cap k0:Nat)(vs:List Value)(w:World)(hn:n≤140737488355328)(hk0:k0≤100000000)(h:w.ownsRow base 5 1 (.slice (some ⟨g,0,none⟩) n cap) n vs):
 Calls Tryz.prog 111 #[.slice (some ⟨g,0,none⟩) n cap,.int .i64 k0] w fun e w'=>e= .returned (.int .i64 (k0+n))∧
  w'.ownsRow base 5 1 (.slice (some ⟨g,0,none⟩) n cap) n ((marks k0 n).map (Value.int .u8))∧w.grownBy w' (some g):=by
 have hv0:vs.length=n:=by simpa using h.1
 have Hv:Hid (vs.length=n):=hv0;clear hv0;go_enter Tryz.func111,Tryz.ntmps111
 go_wp2
 go_loopw [1,5] (fun c i wr=>∃k:Nat,k≤n∧i= .int .i64 k∧c= .int .i64 (k0+k)∧wr.ownsRow base 5 1 (.slice (some ⟨g,0,none⟩) n cap) n (mixed k0 k vs)∧w.grownBy wr (some g)) (fun _ i _=>n-(intOf i).toNat)
 case atStart=>exact⟨0,Nat.zero_le _,rfl,by go_num,by rw[Xq];exact h,D9 _ _⟩
 case round=>
  obtain⟨k,hk,rfl,rfl,ho,hg⟩:=hrel;by_cases hlt:k<n
  ·have rW:k<vs.length:=by rw[Hv.out];exact hlt
   obtain⟨u,hu⟩:∃u,wr.cell? ⟨g,k,none⟩=some u:=⟨_,(ho.cellAt k (by omega)).trans (cu k0 k vs rW)⟩
   have hfr:=ho.frozenAt k;have hs:=ho.stored k (.int .u8 (((k0:Int)+(k:Int))%256))
   have HS:Hid ((wr.setCell ⟨g,k,none⟩ (.int .u8 (((k0:Int)+(k:Int))%256))).ownsRow base 5 1 (.slice (some ⟨g,0,none⟩) n cap) n (mixed k0 (k+1) vs)):=by
    rw[←cZ k0 k vs rW];exact hs.1
   have HG:Hid (w.grownBy (wr.setCell ⟨g,k,none⟩ (.int .u8 (((k0:Int)+(k:Int))%256))) (some g)):=EJ hg hs.2;clear hs ho hg;go_wp2
   go_roundw
   case rel=>exact⟨k+1,by omega,by go_num,by go_num,HS.out,HG.out⟩
   case measure=>simp[intOf];omega
  have hkn:k=n:=by omega
  have HO:Hid (wr.ownsRow base 5 1 (.slice (some ⟨g,0,none⟩) n cap) n ((marks k0 n).map (Value.int .u8))):=by
   have:=dA k0 vs;rw[Hv.out]at this;rw[←this,←hkn];rw[←hkn]at ho;exact ho
  clear ho;subst hkn;go_wp2;go_ret;exact⟨rfl,HO.out,hg⟩

theorem jG(v:Value)(n k0:Nat)(w:World)(hk0:k0≤100000000)(h:RB w v (marks k0 n)):
 Calls Tryz.prog 114 #[v,.int .i64 k0] w fun e w'=>e= .returned (.int .i64 (k0+n))∧w'=w:=by
 obtain⟨hl,ao,ca,rfl,_,ha⟩:=h;rw[EG]at hl ha⊢;go_enter Tryz.func114,Tryz.ntmps114
 go_wp2
 go_loop [1,5] (fun c i=>∃k:Nat,k≤n∧i= .int .i64 k∧c= .int .i64 (k0+k)) (fun _ i=>n-(intOf i).toNat)
 case atStart=>exact⟨0,Nat.zero_le _,rfl,by go_num⟩
 case round=>
  obtain⟨k,hk,rfl,rfl⟩:=hrel;by_cases hlt:k<n
  ·rcases ha with ha|⟨b,off,rfl,ha⟩
   ·have:=congrArg List.length ha;rw[EG]at this;simp at this;omega
   have ha':=ha k hlt;rw[dB k0 n k hlt]at ha';clear ha;go_wp2
   go_round
   case rel=>exact⟨k+1,by omega,by go_num,by go_num⟩
   case measure=>simp[intOf];omega
  have hkn:k=n:=by omega
  subst hkn;clear ha;go_wp2;go_ret;exact⟨rfl,rfl⟩

theorem dC(w:World)(k0:Nat):Calls Tryz.prog 111 #[.slice none 0 0,.int .i64 k0] w fun e w'=>e= .returned (.int .i64 k0)∧w'=w:=by
 go_enter Tryz.func111,Tryz.ntmps111
 go_wp2;refine wp_loop_rounds 1 ?_;rw[rounds_succ];go_wp2;go_ret;exact⟨rfl,rfl⟩

theorem iW(base k0:Nat)(v:Value)(xs:List Int)(w:World)(hl:xs.length≤140737488355328)(hk0:k0≤100000000)(h:OB w base v xs):
 Calls Tryz.prog 111 #[v,.int .i64 k0] w fun e w'=>e= .returned (.int .i64 (k0+xs.length))∧OB w' base v (marks k0 xs.length)∧w.grownBy w' v.ownBlock:=by
 have h':=h;rcases h.2 with⟨rfl,h0⟩|⟨g,cap,cur,rfl,_⟩
 ·refine(dC w k0).mono ?_;rintro e w' ⟨rfl,rfl⟩;have hx:xs=[]:=List.length_eq_zero_iff.1 h0;subst hx;exact⟨by simp,World.ownsRow_nil _ _ _ _,D9 _ _⟩
 refine(iV base g xs.length cap k0 _ w hl hk0 h').mono ?_;rintro e w' ⟨rfl,ho,hg⟩;refine⟨rfl,?_,hg⟩;unfold OB;rw[EG];exact ho
def half(xs:List Int)(k:Nat):List Value:=((xs.take k)++List.replicate (xs.length-k) 0).map (Value.int .u8)
theorem eB(xs:List Int):half xs 0=List.replicate xs.length (.int .u8 0):=by simp[half]
theorem jL(xs:List Int):half xs xs.length=xs.map (Value.int .u8):=by simp[half]
theorem jK(xs:List Int)(k:Nat)(h:k≤xs.length):(half xs k).length=xs.length:=by simp[half];omega
theorem jJ(xs:List Int)(k:Nat)(h:k<xs.length):(half xs k).set k (.int .u8 (xs.getD k 0))=half xs (k+1):=by
 have e:xs.length-k=(xs.length-(k+1))+1:=by omega
 have hk:(xs.take k).length=k:=by simp;omega
 unfold half;rw[List.take_succ_eq_append_getElem h,e,List.replicate_succ,List.map_append,List.map_append,List.map_append,List.set_append_right _ _ (by simp;omega),List.length_map,hk,Nat.sub_self];simp[List.getElem?_eq_getElem h]

theorem Wq(v:Value)(xs:List Int)(w:World)(h:RB w v xs):
 Calls Tryz.prog 94 #[v] w fun e w'=>∃u,e= .returned u∧OB w' w.heap.size u xs∧Below w.heap.size w w':=by
 obtain⟨i0,hi,hz0,hz1,hz2⟩:=info_parts Tryz.info5;obtain⟨hl,ao,ca,rfl,_,ha⟩:=h;obtain⟨n,hn⟩:∃n,xs.length=n:=⟨_,rfl⟩
 have Hn:Hid (xs.length=n):=hn;rw[hn]at hl⊢;rw[hn]at ha;clear hn;go_enter Tryz.func94,Tryz.ntmps94
 go_wp2_with (first|(at_make;refine wpList_make_full _ rfl _ _ 31 rfl w.heap.size 5 i0 (.int .u8 0) 1 Tryz.underlying31 hi hz0 hz1 .i64 .i64 n n n rfl rfl rfl rfl (by rw[hz2];omega) (by unfold maxLen;omega) Ak ?_;intro w0 ho0 hg0))
 have hstart:w0.ownsRow w.heap.size 5 1 (.slice (some ⟨w.heap.size,0,none⟩) n n) n (half xs 0):=by
  have e:(madeCells (Value.int IntKind.u8 0).cells (n*1)).toList=half xs 0:=by
   rw[eB,Hn.out,Nat.mul_one];exact toList_madeCells_one _ _
  rw[←e];exact ho0
 have HB:Hid (Below w.heap.size w w0):=(Below.refl _ _).grown hg0 Ak (by simp);clear ho0 hg0
 go_loopw [4] (fun i wr=>∃k:Nat,k≤n∧i= .int .i64 k∧wr.ownsRow w.heap.size 5 1 (.slice (some ⟨w.heap.size,0,none⟩) n n) n (half xs k)∧Below w.heap.size w wr) (fun i _=>n-(intOf i).toNat)
 case atStart=>exact⟨0,Nat.zero_le _,rfl,hstart,HB.out⟩
 case round=>
  clear hstart;obtain⟨k,hk,rfl,ho,hbel⟩:=hrel;by_cases hlt:k<n
  ·rcases ha with ha|⟨b,off,rfl,ha⟩
   ·subst ha;have:=Hn.out;simp at this;omega
   have hkx:k<xs.length:=by rw[Hn.out];exact hlt
   have hc0:=ha k hlt;have hc:wr.cell? ⟨b,off+k,none⟩=some (.int .u8 (xs.getD k 0)):=(hbel.cell (AQ hc0)).trans hc0
   obtain⟨u,hu⟩:∃u,wr.cell? ⟨w.heap.size,k,none⟩=some u:=by
    have h1:=ho.cellAt k (by omega);have h2:k<(half xs k).length:=by rw[jK xs k (by omega)];exact hkx
    exact⟨_,h1.trans (List.getElem?_eq_getElem h2)⟩
   have hfr:=ho.frozenAt k
   have HS:Hid ((wr.setCell ⟨w.heap.size,k,none⟩ (.int .u8 (xs.getD k 0))).ownsRow w.heap.size 5 1 (.slice (some ⟨w.heap.size,0,none⟩) n n) n (half xs (k+1))):=by
    rw[←jJ xs k hkx];exact(ho.stored k _).1
   have HG:Hid (Below w.heap.size w (wr.setCell ⟨w.heap.size,k,none⟩ (.int .u8 (xs.getD k 0)))):=hbel.setCell Ak _;clear ha ho hbel hc0;generalize xs.getD k 0=d at *;go_wp2
   go_roundw
   case rel=>exact⟨k+1,by omega,by go_num,HS.out,HG.out⟩
   case measure=>simp[intOf];omega
  have hkn:k=n:=by omega
  have HO:Hid (OB wr w.heap.size (.slice (some ⟨w.heap.size,0,none⟩) n n) xs):=by
   have h1:=jL xs;rw[Hn.out]at h1;unfold OB Hid;rw[Hn.out,←h1,←hkn];rw[←hkn]at ho;exact ho
  clear ha ho;go_wp2;go_ret;exact⟨_,rfl,HO.out,hbel⟩
structure j5(w:World)(ao:Option Addr)(xs:List Int):Prop where
 len:xs.length≤1048576
 code:xs=[]∨∃b off,ao=some ⟨b,off,none⟩∧∀k,k<xs.length→w.cell? ⟨b,off+k,none⟩=some (.int .u8 (xs.getD k 0))
 fit:∀k,k<xs.length→0≤xs.getD k 0∧xs.getD k 0≤255
theorem j5.below{w w':World}{B:Nat}{ao:Option Addr}{xs:List Int}(h:j5 w ao xs)(hb:Below B w w')(hB:w.heap.size≤B:=by exact Nat.le_refl _):j5 w' ao xs:=by
 refine⟨h.len,?_,h.fit⟩;rcases h.code with h'|⟨b,off,ha,hx⟩
 ·exact .inl h'
 exact .inr ⟨b,off,ha,fun k hk=>(hb.cell (Nat.lt_of_lt_of_le (AQ (hx k hk)) hB)).trans (hx k hk)⟩
def Jw(ys:List Int):Prop:=∀y ∈ ys,0≤y∧y≤255
theorem Jw.append{a b:List Int}(ha:Jw a)(hb:Jw b):Jw (a++b):=fun y hy=>by
 rcases List.mem_append.1 hy with h|h
 ·exact ha y h
 exact hb y h
theorem OB.grown{w w':World}{base g:Nat}{v:Value}{xs:List Int}(h:OB w base v xs)(hg:w.grownBy w' (some g))(hlt:g<base):OB w' base v xs:=
 World.ownsRow.kept h hg (by
  cases hv:v.ownBlock with
  |none=>exact .inl rfl
  |some k=>exact .inr fun e=>by have:=(World.ownsRow.lt h k hv).1;simp at e;omega)
theorem OB.kp{w w':World}{base:Nat}{X:Nat→Prop}{v:Value}{xs:List Int}(h:OB w base v xs)(k:Kp w w' X)(hv:∀k,v.ownBlock=some k→¬X k):OB w' base v xs:=by
 refine⟨h.1,?_⟩;rcases h.2 with hn|⟨g,cap,cur,rfl,hb,hgg,rest⟩
 ·exact .inl hn
 refine .inr ⟨g,cap,cur,rfl,hb,?_,rest⟩;rw[k.block g (Array.getElem?_eq_some_iff.1 hgg).1 (hv g rfl)];exact hgg

theorem OB.mono{w:World}{base base':Nat}{v:Value}{xs:List Int}(h:OB w base v xs)(hb:base'≤base):OB w base' v xs:=by
 refine⟨h.1,?_⟩;rcases h.2 with hn|⟨g,cap,cur,rfl,hg,rest⟩
 ·exact .inl hn
 exact .inr ⟨g,cap,cur,rfl,Nat.le_trans hb hg,rest⟩

theorem OB.form{w:World}{base:Nat}{v:Value}{xs:List Int}(h:OB w base v xs):∃ao ca,v= .slice ao xs.length ca:=by
 rcases h.2 with⟨rfl,h0⟩|⟨g,cap,cur,rfl,_⟩
 ·exact⟨none,0,by rw[h0]⟩
 exact⟨_,_,rfl⟩

theorem V9(xs:List Int)(u:Value)(h:u ∈ xs.map (Value.int .u8)):u.oneCell'=true:=by
 obtain⟨x,_,rfl⟩:=List.mem_map.1 h;rfl

theorem WC{w:World}{g off:Nat}{xs:List Int}(h:∀k,k<xs.length→w.cell? ⟨g,off+k,none⟩=some (.int .u8 (xs.getD k 0))):
 ∀j u,(xs.map (Value.int .u8))[j]? =some u→w.cell? ((⟨g,off,none⟩:Addr).add j)=some u:=by
 intro j u hj;rw[List.getElem?_map]at hj;obtain⟨x,hx,rfl⟩:=Option.map_eq_some_iff.1 hj;have hlt:=(List.getElem?_eq_some_iff.1 hx).1;have e:((⟨g,off,none⟩:Addr).add j)=⟨g,off+j,none⟩:=by unfold Addr.add;split<;>simp_all
 rw[e,h j hlt];simp[List.getD_eq_getElem?_getD,hx]

def PB(w:World)(v:Value)(xs:List Int):Prop:=
 ∃ao cap,v= .slice ao xs.length cap∧(xs=[]∨∃ad:Addr,ao=some ad∧∀j u,(xs.map (Value.int .u8))[j]? =some u→w.cell? (ad.add j)=some u)
theorem PB.below{w w':World}{v:Value}{xs:List Int}(h:PB w v xs)(hb:Below w.heap.size w w'):PB w' v xs:=by
 obtain⟨ao,cap,rfl,h⟩:=h;refine⟨ao,cap,rfl,?_⟩;rcases h with h|⟨ad,rfl,h⟩
 ·exact .inl h
 exact .inr ⟨ad,rfl,fun j u hj=>(hb.cell (AQ (h j u hj))).trans (h j u hj)⟩
theorem RB.pb{w:World}{v:Value}{xs:List Int}(h:RB w v xs):PB w v xs:=by
 obtain⟨hl,ao,cap,rfl,_,h⟩:=h;refine⟨ao,cap,rfl,?_⟩;rcases h with h|⟨b,off,rfl,h⟩
 ·exact .inl h
 exact .inr ⟨_,rfl,WC h⟩
theorem OB.pb{w:World}{base:Nat}{v:Value}{xs:List Int}(h:OB w base v xs)(hl:xs.length≤140737488355328):PB w v xs:=(h.rb hl).pb
theorem OB.lt{w:World}{base:Nat}{v:Value}{xs:List Int}(h:OB w base v xs):∀j,v.ownBlock=some j→base≤j∧j<w.heap.size:=World.ownsRow.lt h
theorem K9(ty:TypeId)(base cap:Nat)(v:Value)(n:Nat)(xs:List Value)(w:World)(hown:w.ownsRow base 5 1 v n xs):
 (Builtin.append_ #[31,31] ty #[v,.slice none 0 cap]).run Tryz.prog w= .ok v w:=by
 obtain⟨i0,hi,hz0,hz1,hz2⟩:=info_parts Tryz.info5;rcases hown.2 with⟨rfl,rfl⟩|⟨g,cp,cur,rfl,_,_,hnc,_⟩
 ·simp[Builtin.append_,run_underlying Tryz.underlying31,sizeOf,typeInfo,hi,Builtin.lenOf,Builtin.firstCells]
 simp[Builtin.append_,run_underlying Tryz.underlying31,sizeOf,typeInfo,hi,Builtin.lenOf,Builtin.firstCells,hnc,storeCells]
theorem GJ{ops:Array Oper}{o:Oper}{a:Act}{w:World}{K:Act→World→Prop}{Q:Exit→Act→World→Prop}{E:Prop}(hgd:o.guard=none)(s x:Operand)
 (ho:o.op= .call { callee:= .builtin .append,args:= #[s,x],argTypes:= #[31,31] }) (base:Nat) (v u:Value) (xs ys:List Int) (hs:a.eval s=v) (hx:a.eval x=u)
 (hown:OB w base v xs) (hp:PB w u ys) (hl:xs.length+ys.length≤16777216) (hbase:base≤w.heap.size)
 (h:∀v' w',OB w' base v' (xs++ys)→w.grownBy w' v.ownBlock→(v'.ownBlock=v.ownBlock∨v'.ownBlock=some w.heap.size)→K (a.put o.dst v') w'):
 if Region.wanted o (yielded ops a.tmps)=true then Oper.wp Tryz.prog o a w K Q else E:=by
 have hw:Region.wanted o (yielded ops a.tmps)=true:=by simp[Region.wanted,hgd]
 rw[if_pos hw];obtain⟨i0,hi,hz0,hz1,hz2⟩:=info_parts Tryz.info5;obtain⟨ao,cap,rfl,hp⟩:=hp
 match ao,hx with
 |none,hx=>
  have hy:ys=[]:=by rcases hp with h|⟨ad,e,_⟩;exact h;cases e
  subst hy;have hrun:=K9 o.type base cap v xs.length (xs.map (Value.int .u8)) w hown;unfold Oper.wp;simp only[List.length_nil]at hx;simp[execOp,ho,resolve,invoke,builtin,hs,hx,hrun,Result.andThen];exact h v w (by simpa using hown) (D9 _ _) (.inl rfl)
 | some ad,hx=>
  have hn:∀j u,(ys.map (Value.int .u8))[j]? =some u→w.cell? (ad.add j)=some u:=by
   rcases hp with rfl|⟨ad',e,h⟩
   ·intro j u hj;simp at hj
   cases e;exact h
  obtain⟨v',w',hrun,r1,r2,_,r4⟩:=run_append_own_at (P:=Tryz.prog) w base 31 o.type 5 i0 (.int .u8 0) 1 1 Tryz.underlying31 hi hz0 hz1 hz2 rfl (by decide) v xs.length (xs.map (Value.int .u8)) hown ad ys.length cap (ys.map (Value.int .u8)) (by simp) hn (V9 ys) (by unfold maxLen;omega) (by omega) hbase;unfold Oper.wp;simp[execOp,ho,resolve,invoke,builtin,hs,hx,hrun,Result.andThen];refine h v' w' ?_ r2 r4;unfold OB;rw[List.map_append,List.length_append];exact r1
abbrev dv(v:Value)(s:Int):Value:= .agg #[v,.int .i64 s]
theorem YX(a b:Value)(xs:List Int)(s:Int)(w:World)(ha:RB w a xs)(hb:RB w b xs):
 Calls Tryz.prog 45 #[dv a s,dv b s] w fun e w'=>e= .returned (.bool true)∧Below w.heap.size w w':=by
 have R1:=hide ha;have R2:=hide hb;have B:=hide (Bj w (.cells #[a,.int .i64 s] 43) (.cells #[b,.int .i64 s] 43));clear ha hb;go_enter Tryz.func45,Tryz.ntmps45
 go_wp2_with fail
 refine(r_ a b xs _ (R1.out.below B.out Ak) (R2.out.below B.out Ak)).mono ?_;rintro e w1 ⟨rfl,n,rfl⟩;go_wp2;go_ret;exact⟨rfl,below_drewN B.out _⟩

theorem SH(s:Int)(base:Nat)(v:Value)(xs:List Int)(k0:Nat)(w:World)(hl:xs.length≤4194304)(hk:k0≤100000000)(h:OB w base v xs):
 Calls Tryz.prog 49 #[dv v s,.int .i64 k0] w fun e w'=>e= .returned (.int .i64 (k0+xs.length))∧OB w' base v (marks k0 xs.length)∧Kp w w' (fun k=>v.ownBlock=some k):=by
 have B:=hide (Aj w (.cells #[v,.int .i64 s] 43));have H:=hide (h.below B.out);have MK:=hide fun w h=>iW base k0 v xs w (by omega) hk h;clear h;go_enter Tryz.func49,Tryz.ntmps49
 go_wp2_with fail
 refine(MK.out _ H.out).mono ?_;rintro e w1 ⟨rfl,o1,g1⟩;have K:=(Below.BJ B.out (fun k=>v.ownBlock=some k)).trans (CE g1);go_wp2;go_ret;exact⟨rfl,o1,K⟩

theorem UU(ao:Option Addr)(m ca:Nat)(left:Int)(w:World)(h:(m:Int)≤left)(hl:left≤1048576):
 Calls Tryz.prog 78 #[.slice ao m ca,.int .i64 left] w fun e w'=>e= .returned (.int .i64 (left-m))∧w'=w:=by
 have h1:decide ((left:Int)-(m:Int)<0)=false:=by simp;omega
 go_enter Tryz.func78,Tryz.ntmps78
 go_wp2;go_ret;exact⟨rfl,rfl⟩
theorem XD(ao:Option Addr)(m ca:Nat)(left:Int)(w:World)(h0:0≤left)(h:left<m)(hl:left≤1048576)(hm:m≤9223372036854775807):
 Calls Tryz.prog 78 #[.slice ao m ca,.int .i64 left] w fun e w'=>e= .returned (.int .i64 (-1))∧w'=w:=by
 have h1:decide ((left:Int)-(m:Int)<0)=true:=by simp;omega
 go_enter Tryz.func78,Tryz.ntmps78
 go_wp2;go_ret;exact⟨rfl,rfl⟩
theorem N_(ao:Option Addr)(m ca:Nat)(s:Int)(left:Int)(w:World)(h:(m:Int)≤left)(hl:left≤1048576):
 Calls Tryz.prog 28 #[dv (.slice ao m ca) s,.int .i64 left] w fun e w'=>e= .returned (.int .i64 (left-m))∧Below w.heap.size w w':=by
 have h1:decide ((left:Int)-(m:Int)<0)=false:=by simp;omega
 go_enter Tryz.func28,Tryz.ntmps28
 go_wp2_with (first|(go_at_call 78;refine(UU _ _ _ _ _ (by omega) (by omega)).mono ?_;rintro e w' ⟨rfl,rfl⟩))
 go_ret;exact⟨rfl,Aj _ _⟩
theorem Z6(ao:Option Addr)(m ca:Nat)(s:Int)(left:Int)(w:World)(h0:0≤left)(h:left<m)(hl:left≤1048576)(hm:m≤9223372036854775807):
 Calls Tryz.prog 28 #[dv (.slice ao m ca) s,.int .i64 left] w fun e w'=>e= .returned (.int .i64 (-1))∧Below w.heap.size w w':=by
 go_enter Tryz.func28,Tryz.ntmps28
 go_wp2_with (first|(go_at_call 78;refine(XD _ _ _ _ _ (by omega) (by omega) (by omega) hm).mono ?_;rintro e w' ⟨rfl,rfl⟩))
 go_ret;exact⟨rfl,Aj _ _⟩

theorem Wo(a:Value)(xs:List Int)(s:Int)(w:World)(ha:RB w a xs):
 Calls Tryz.prog 37 #[dv a s] w fun e w'=>∃u,e= .returned (dv u s)∧OB w' w.heap.size u xs∧Below w.heap.size w w':=by
 have R1:=hide ha;clear ha;go_enter Tryz.func37,Tryz.ntmps37
 go_wp2_with fail
 refine Calls.mono (Wq a xs _ (R1.out.below ((((Below.refl w.heap.size w).alloc Ak _).alloc (by simp) _).alloc (by simp;omega) _) Ak)) ?_;rintro e w1 ⟨u,rfl,o1,b1⟩;have s1:=b1.size;have L1:Loc w1 (w.heap.size+1) #[.slice none 0 0,.int .i64 0]:=Loc.below (Loc.alloc (AJ (w.alloc _) #[.slice none 0 0,.int .i64 0] _ (by simp)) _) b1 (by simp);have L2:Loc w1 (w.heap.size+1+1) #[.slice none 0 0,.int .i64 0]:=Loc.below (AJ ((w.alloc _).alloc _) #[.slice none 0 0,.int .i64 0] _ (by simp)) b1 (by simp);have B1:Below w.heap.size w w1:=((((Below.refl w.heap.size w).alloc Ak _).alloc (by simp) _).alloc (by simp;omega) _).trans (b1.mono (by simp;omega));have ZO:=World.ownsRow.lt o1;simp at ZO s1;have L0:Loc w1 w.heap.size #[a,.int .i64 s]:=Loc.below (Loc.alloc (Loc.alloc (AJ w #[a,.int .i64 s] _ rfl) _) _) b1 (by simp;omega);have x1:=L0.cell 1 rfl;have y0:=L1.cell 0 rfl;have y1:=L1.cell 1 rfl;have fy0:=L1.frozen 0;have fy1:=L1.frozen 1;have z0:=L2.cell 0 rfl;have z1:=L2.cell 1 rfl;have fz0:=L2.frozen 0;have fz1:=L2.frozen 1;obtain⟨ua,uc,hu⟩:=o1.form;have O1:=hide o1;clear o1 b1;subst hu;go_wp2;refine bodyPost_ret (v:=dv (.slice ua xs.length uc) s) (by simp[results,Tryz.results37,go_sem,y0,y1]) rfl ?_
 have K:Kp w1 ((((w1.setCell ⟨w.heap.size+1+1,0,none⟩ (.slice ua xs.length uc)).setCell ⟨w.heap.size+1+1,1,none⟩ (.int .i64 s)).setCell ⟨w.heap.size+1,0,none⟩ (.slice ua xs.length uc)).setCell ⟨w.heap.size+1,1,none⟩ (.int .i64 s)) (fun k=>k=w.heap.size+1∨k=w.heap.size+1+1):=
  (((((AB _ _ _ _).mono (fun k h=> .inr h))).trans ((AB _ _ _ _).mono (fun k h=> .inr h))).trans ((AB _ _ _ _).mono (fun k h=> .inl h))).trans ((AB _ _ _ _).mono (fun k h=> .inl h))
 exact⟨_,rfl,(O1.out.kp K (fun k hk=>by have:=ZO k hk;omega)).mono (by simp;omega),Below.kp B1 K B1.size (fun k hk=>by omega)⟩
end
section
open Go.RowKit
variable [∀(a b c d:Int),Decidable (BG a b c d)]
abbrev T4:=Int×Int×Int×Int
def EW(x:T4):List Value:=[.int .i64 x.1,.int .i64 x.2.1,.int .i64 x.2.2.1,.int .i64 x.2.2.2]
def Ay(xs:List T4):List Value:=xs.flatMap EW
theorem Kw(x:T4):(EW x).length=4:=rfl
theorem Ew(xs:List T4):(Ay xs).length=xs.length*4:=by
 induction xs with
 |nil=>rfl
 |cons x xs ih=>simp[Ay,EW]at *; omega
theorem Dy(xs ys:List T4):Ay (xs++ys)=Ay xs++Ay ys:=by simp[Ay]
theorem Nz(xs:List T4)(k j:Nat)(hk:k<xs.length)(hj:j<4):(Ay xs)[k*4+j]? =(EW (xs.getD k (0,0,0,0)))[j]?:=by
 induction xs generalizing k with
 |nil=>simp at hk
 | cons x xs ih=>
  have e:Ay (x :: xs)=EW x++Ay xs:=by simp[Ay]
  rw[e];cases k with
  |zero=>rw[Nat.zero_mul,Nat.zero_add,List.getElem?_append_left (by rw[Kw];exact hj)];rfl
  |succ k=>
   rw[List.getElem?_append_right (by rw[Kw];omega),Kw,show(k+1)*4+j-4=k*4+j from by omega,ih k (by simpa using hk)];rfl
def OT(w:World)(base:Nat)(v:Value)(xs:List T4):Prop:=w.ownsRow base 73 4 v xs.length (Ay xs)
def RT(w:World)(v:Value)(xs:List T4):Prop:=
 xs.length≤35184372088832∧∃ao cap,v= .slice ao xs.length cap∧(xs=[]∨∃g,ao=some ⟨g,0,none⟩∧∀k,k<xs.length→w.cell? ⟨g,k*4,none⟩=some (.int .i64 (xs.getD k (0,0,0,0)).1)∧w.cell? ⟨g,k*4+1,none⟩=some (.int .i64 (xs.getD k (0,0,0,0)).2.1)∧w.cell? ⟨g,k*4+2,none⟩=some (.int .i64 (xs.getD k (0,0,0,0)).2.2.1)∧w.cell? ⟨g,k*4+3,none⟩=some (.int .i64 (xs.getD k (0,0,0,0)).2.2.2))
theorem OT.below{w w':World}{base:Nat}{v:Value}{xs:List T4}(h:OT w base v xs)(hb:Below w.heap.size w w'):OT w' base v xs:=
 World.ownsRow.kept (row:=none) h ⟨hb.os,hb.tape,hb.output,hb.size,fun k hk _=>hb.block k hk⟩ (by cases v.ownBlock<;>simp)
theorem OT.apart{w w':World}{base N:Nat}{v u:Value}{xs:List T4}(h:OT w base v xs)(hg:w.grownBy w' u.ownBlock)(hv:∀k,v.ownBlock=some k→k<N)(hu:∀k,u.ownBlock=some k→N≤k):OT w' base v xs:=by
 refine World.ownsRow.kept h hg ?_;cases hv':v.ownBlock with
 |none=>exact .inl rfl
 |some k=>exact .inr fun e=>by have:=hv k hv';have:=hu k e.symm;omega
theorem OT.rt{w:World}{base:Nat}{v:Value}{xs:List T4}(h:OT w base v xs)(hl:xs.length≤35184372088832):RT w v xs:=by
 refine⟨hl,?_⟩;rcases h.2 with⟨rfl,h0⟩|⟨g,cap,cur,rfl,_⟩
 ·exact⟨none,0,by rw[h0],.inl (List.length_eq_zero_iff.1 h0)⟩
 refine⟨_,cap,rfl,.inr ⟨g,rfl,fun k hk=>?_⟩⟩;have c0:=World.ownsRow.cellAt h (k*4+0) (by omega);have c1:=World.ownsRow.cellAt h (k*4+1) (by omega);have c2:=World.ownsRow.cellAt h (k*4+2) (by omega);have c3:=World.ownsRow.cellAt h (k*4+3) (by omega);rw[Nz xs k _ hk (by omega)]at c0 c1 c2 c3;exact⟨c0,c1,c2,c3⟩
theorem RT.below{w w':World}{v:Value}{xs:List T4}(h:RT w v xs)(hb:Below w.heap.size w w'):RT w' v xs:=by
 obtain⟨hl,ao,cap,rfl,h⟩:=h;refine⟨hl,ao,cap,rfl,?_⟩;rcases h with h|⟨g,rfl,h⟩
 ·exact .inl h
 refine .inr ⟨g,rfl,fun k hk=>?_⟩;obtain⟨c0,c1,c2,c3⟩:=h k hk;have hg:g<w.heap.size:=AQ c0;exact⟨(hb.cell (p:=⟨g,k*4,none⟩) hg).trans c0,(hb.cell (p:=⟨g,k*4+1,none⟩) hg).trans c1,(hb.cell (p:=⟨g,k*4+2,none⟩) hg).trans c2,(hb.cell (p:=⟨g,k*4+3,none⟩) hg).trans c3⟩

theorem eF(v u:Value)(xs:List T4)(w:World)(hv:RT w v xs)(hu:RT w u xs):
 Calls Tryz.prog 43 #[v,u] w fun e w'=>e= .returned (.bool true)∧Below w.heap.size w w':=by
 obtain⟨hl,ao,ca,rfl,ha⟩:=hv;obtain⟨_,bo,cb,rfl,hb⟩:=hu;have ACu:xs.length≤9223372036854775807:=by omega
 go_enter Tryz.func43,Tryz.ntmps43
 go_wp2
 go_loopw [5] (fun i wr=>∃k:Nat,k≤xs.length∧i= .int .i64 k∧Below w.heap.size w wr) (fun i _=>xs.length-(intOf i).toNat)
 case atStart=>exact⟨0,Nat.zero_le _,rfl,Below.refl _ _⟩
 case round=>
  obtain⟨k,hk,rfl,br⟩:=hrel;have pQ:=br.size;by_cases hlt:k<xs.length
  ·rcases ha with ha|⟨g,rfl,ha⟩
   ·subst ha;simp at hlt
   rcases hb with hb|⟨g',rfl,hb⟩
   ·subst hb;simp at hlt
   obtain⟨a0,a1,a2,a3⟩:=ha k hlt;obtain⟨b0,b1,b2,b3⟩:=hb k hlt;have hg:g<w.heap.size:=AQ a0;have hg':g'<w.heap.size:=AQ b0;generalize xs.getD k (0,0,0,0)=x at *;obtain⟨xa,xb,xc,xd⟩:=x
   have K:Hid (∀w',Below wr.heap.size wr w'→Below wr.heap.size wr w'∧(w'.cell? ⟨g,k*4,none⟩=some (.int .i64 xa)∧w'.cell? ⟨g,k*4+1,none⟩=some (.int .i64 xb)∧w'.cell? ⟨g,k*4+2,none⟩=some (.int .i64 xc)∧w'.cell? ⟨g,k*4+3,none⟩=some (.int .i64 xd))∧(w'.cell? ⟨g',k*4,none⟩=some (.int .i64 xa)∧w'.cell? ⟨g',k*4+1,none⟩=some (.int .i64 xb)∧w'.cell? ⟨g',k*4+2,none⟩=some (.int .i64 xc)∧w'.cell? ⟨g',k*4+3,none⟩=some (.int .i64 xd))):=fun w' hb'=>by
    have hw:=br.trans (hb'.mono pQ);exact⟨hb',⟨(hw.cell (p:=⟨g,k*4,none⟩) hg).trans a0,(hw.cell (p:=⟨g,k*4+1,none⟩) hg).trans a1,(hw.cell (p:=⟨g,k*4+2,none⟩) hg).trans a2,(hw.cell (p:=⟨g,k*4+3,none⟩) hg).trans a3⟩,⟨(hw.cell (p:=⟨g',k*4,none⟩) hg').trans b0,(hw.cell (p:=⟨g',k*4+1,none⟩) hg').trans b1,(hw.cell (p:=⟨g',k*4+2,none⟩) hg').trans b2,(hw.cell (p:=⟨g',k*4+3,none⟩) hg').trans b3⟩⟩
   have bA:Below wr.heap.size wr wr.drew:=Below.drew (Below.refl _ _);have Dk:=K.out _ bA;have EQ:=hide fun w=>Q3 xa xb xc xd w;clear ha hb a0 a1 a2 a3 b0 b1 b2 b3;go_wp2_with fail
   go_region_held3 (fun w'=>Below wr.heap.size wr w'∧(w'.cell? ⟨g,k*4,none⟩=some (.int .i64 xa)∧w'.cell? ⟨g,k*4+1,none⟩=some (.int .i64 xb)∧w'.cell? ⟨g,k*4+2,none⟩=some (.int .i64 xc)∧w'.cell? ⟨g,k*4+3,none⟩=some (.int .i64 xd))∧(w'.cell? ⟨g',k*4,none⟩=some (.int .i64 xa)∧w'.cell? ⟨g',k*4+1,none⟩=some (.int .i64 xb)∧w'.cell? ⟨g',k*4+2,none⟩=some (.int .i64 xc)∧w'.cell? ⟨g',k*4+3,none⟩=some (.int .i64 xd))) (exact Dk) (first
    | (go_at_call 75;have hgo:=bA;refine(EQ.out _).mono ?_;rintro e wa ⟨rfl,ba⟩
       have bB:Below wr.heap.size wr wa:=bA.trans ba;have Dk:=K.out _ bB;clear bA hgo))
   all_goals
    go_wp2
    go_roundw
    case rel=>exact⟨k+1,by omega,by go_num,br.trans (bB.mono pQ)⟩
    case measure=>simp[intOf];omega
  have hkn:k=xs.length:=by omega
  subst hkn;go_wp2;go_ret;exact⟨rfl,br⟩
end
section

theorem PV(l r:List UInt8)(acc:Nat):Lib.decFrom acc (l++r)=(Lib.decFrom acc l).bind fun a=>Lib.decFrom a r:=by
 induction l generalizing acc with
 |nil=>rfl
 |cons b l ih=>
  rw[List.cons_append,Lib.decFrom,Lib.decFrom];cases Lib.digitVal b with
  |none=>rfl
  |some d=>exact ih _
theorem MF(k:Nat)(h:k<10):Lib.digitVal (UInt8.ofNat (48+k))=some k:=by
 have e:(UInt8.ofNat (48+k)).toNat=48+k:=by simp;omega
 rw[Lib.digitVal,if_pos (by omega),e];congr 1;omega
theorem Fy(n:Nat):Lib.decFrom 0 (Lib.decDigits n)=some n:=by
 induction n using Nat.strongRecOn with
 | ind n ih=>
  rw[Lib.decDigits];by_cases h:n<10
  ·rw[dif_pos h];simp only[Lib.decFrom,MF n h];simp
  rw[dif_neg h,PV,ih (n/10) (by omega)];simp only[Option.bind_some,Lib.decFrom,MF (n%10) (by omega)]
  congr 1;omega
theorem E5(n:Nat):Lib.decDigits n≠[]:=by
 intro h;have:=Lib.decDigits_length n;rw[h]at this;have:=Lib.nDigits_pos n;simp at *; omega
theorem WE(n:Nat):Lib.atoi (Lib.decDigits n)=some (n:Int):=by
 have hd:=Fy n;have hne:=E5 n;cases hl:Lib.decDigits n with
 |nil=>exact absurd hl hne
 | cons b r=>
  rw[hl]at hd;obtain⟨d,hb⟩:=Lib.digit_of_decFrom (b :: r) 0 n hd 0 b rfl;have hb':=Lib.digitVal_eq hb
  have h45:(b==45)=false:=by
   rw[beq_eq_false_iff_ne];intro e;subst e;simp at hb'
  have h43:(b==43)=false:=by
   rw[beq_eq_false_iff_ne];intro e;subst e;simp at hb'
  simp[Lib.atoi,h45,h43,Lib.decNat,hd]
theorem Lt(n:Nat)(h:n≤999999):Lib.nDigits n≤6:=by
 have step:∀m k,(m<10→1≤k)→(¬m<10→Lib.nDigits (m/10)+1≤k)→Lib.nDigits m≤k:=by
  intro m k h1 h2;by_cases hm:m<10
  ·rw[Lib.nDigits_small hm];exact h1 hm
  rw[Lib.nDigits_big hm];exact h2 hm
 refine step _ _ (fun _=>by omega) fun _=>Nat.succ_le_of_lt (Nat.lt_of_le_of_lt (step _ 5 (fun _=>by omega) fun _=>Nat.succ_le_of_lt (Nat.lt_of_le_of_lt (step _ 4 (fun _=>by omega) fun _=>Nat.succ_le_of_lt (Nat.lt_of_le_of_lt (step _ 3 (fun _=>by omega) fun _=>Nat.succ_le_of_lt (Nat.lt_of_le_of_lt (step _ 2 (fun _=>by omega) fun _=>Nat.succ_le_of_lt (Nat.lt_of_le_of_lt (step _ 1 (fun _=>by omega) fun _=>?_) (by omega))) (by omega))) (by omega))) (by omega))) (by omega));omega

def numOf(l:List UInt8):Option Nat:=
 match Lib.decFrom 0 l with
 |some n=>if n≤999999∧Lib.decDigits n=l then some n else none
 |none=>none
theorem Cy{l:List UInt8}{n:Nat}(h:numOf l=some n):n≤999999∧Lib.decDigits n=l:=by
 unfold numOf at h;cases hd:Lib.decFrom 0 l with
 |none=>rw[hd]at h;cases h
 |some m=>
  rw[hd]at h;by_cases hc:m≤999999∧Lib.decDigits m=l
  ·simp only[if_pos hc,Option.some.injEq]at h;subst h;exact hc
  simp only[if_neg hc]at h;cases h
theorem G6{n:Nat}(h:n≤999999):numOf (Lib.decDigits n)=some n:=by
 unfold numOf;rw[Fy];simp[h]
theorem Qr{l:List UInt8}{n:Nat}(h:numOf l=some n):1≤l.length∧l.length≤6:=by
 obtain⟨h1,rfl⟩:=Cy h;rw[Lib.decDigits_length];exact⟨Lib.nDigits_pos n,Lt n h1⟩
theorem Ou{l:List UInt8}(h:l.length<1∨6<l.length):numOf l=none:=by
 cases hn:numOf l with
 |none=>rfl
 |some n=>have:=Qr hn;omega
theorem Ov{l:List UInt8}(h:Lib.decFrom 0 l=none):numOf l=none:=by unfold numOf;rw[h]
theorem Mc{l:List UInt8}{k:Nat}{b:UInt8}(hk:l[k]? =some b)(hb:b.toNat<48∨57<b.toNat):numOf l=none:=by
 refine Ov ?_;cases hd:Lib.decFrom 0 l with
 |none=>rfl
 |some n=>
  obtain⟨d,h⟩:=Lib.digit_of_decFrom l 0 n hd k b hk;have:=Lib.digitVal_eq h;omega
theorem bO{l:List UInt8}{n:Nat}(hd:Lib.decFrom 0 l=some n)(hn:n≤999999)(h:Lib.decDigits n=l):numOf l=some n:=by unfold numOf;rw[hd];simp[hn,h]
theorem iR{l:List UInt8}{n:Nat}(hd:Lib.decFrom 0 l=some n)(h:Lib.decDigits n≠l):numOf l=none:=by unfold numOf;rw[hd];simp[h]
theorem G7(n:Nat):Lib.itoa (n:Int)=Lib.decDigits n:=by rw[Lib.itoa,if_neg (by omega),Int.toNat_natCast]
def Gj(r:Option Nat):Int:=match r with|some n=>(n:Int)|none=>0
def hd(m:UInt8)(l:List UInt8):List UInt8:=l.takeWhile (·!= m)
def tl(m:UInt8)(l:List UInt8):List UInt8:=(l.dropWhile (·!= m)).tail
theorem ZW{m:UInt8}{l:List UInt8}(h:m ∉ l):hd m l=l:=by
 unfold hd
 induction l with
 |nil=>rfl
 |cons b l ih=>
  simp at h;rw[List.takeWhile_cons_of_pos (by simp;exact fun e=>h.1 e.symm),ih h.2]
theorem lF{m:UInt8}{l:List UInt8}(h:m ∉ l):tl m l=[]:=by
 unfold tl
 induction l with
 |nil=>rfl
 |cons b l ih=>
  simp at h;rw[List.dropWhile_cons_of_pos (by simp;exact fun e=>h.1 e.symm)];exact ih h.2
theorem D5{m:UInt8}{x y:List UInt8}(h:m ∉ x):hd m (x++m :: y)=x:=by
 unfold hd
 induction x with
 |nil=>simp
 |cons b x ih=>
  simp at h;rw[List.cons_append,List.takeWhile_cons_of_pos (by simp;exact fun e=>h.1 e.symm),ih h.2]
theorem ET{m:UInt8}{x y:List UInt8}(h:m ∉ x):tl m (x++m :: y)=y:=by
 unfold tl
 induction x with
 |nil=>simp
 |cons b x ih=>
  simp at h;rw[List.cons_append,List.dropWhile_cons_of_pos (by simp;exact fun e=>h.1 e.symm)];exact ih h.2
theorem ZV{m:UInt8}{l:List UInt8}(h:tl m l≠[]):l=hd m l++m :: tl m l:=by
 unfold hd tl at *
 induction l with
 |nil=>simp at h
 |cons b l ih=>
  by_cases hb:b=m
  ·subst hb;simp
  rw[List.takeWhile_cons_of_pos (by simpa using hb),List.dropWhile_cons_of_pos (by simpa using hb),List.cons_append];rw[List.dropWhile_cons_of_pos (by simpa using hb)]at h;rw[←ih h]

def f0(l:List UInt8):List UInt8:=hd 62 l
def f1(l:List UInt8):List UInt8:=hd 58 (tl 62 l)
def f2(l:List UInt8):List UInt8:=hd 35 (tl 58 (tl 62 l))
def f3(l:List UInt8):List UInt8:=tl 35 (tl 58 (tl 62 l))

def DZ(a b c d:Nat):Prop:=a≤3∧b≤3∧c≤1000∧d≤99
def ku(a b c d:Nat):List UInt8:=Lib.decDigits a++62 :: (Lib.decDigits b++58 :: (Lib.decDigits c++35 :: Lib.decDigits d))
def Ti(l:List UInt8)(a b c d:Nat):Prop:=DZ a b c d∧ku a b c d=l

theorem eP{n:Nat}{x:UInt8}(h:x ∈ Lib.decDigits n):48≤x.toNat∧x.toNat≤57:=by
 obtain⟨k,hk,e⟩:=List.mem_iff_getElem.1 h;obtain⟨d,hd⟩:=Lib.digit_of_decFrom (Lib.decDigits n) 0 n (Fy n) k x (by rw[List.getElem?_eq_getElem hk,e]);have:=Lib.digitVal_eq hd;omega
theorem Hy(n:Nat)(m:UInt8)(h:m.toNat<48∨57<m.toNat):m ∉ Lib.decDigits n:=fun hm=>by
 have:=eP hm;omega

theorem fields_of{l:List UInt8}{a b c d:Nat}(h:Ti l a b c d):f0 l=Lib.decDigits a∧f1 l=Lib.decDigits b∧f2 l=Lib.decDigits c∧f3 l=Lib.decDigits d:=by
 obtain⟨_,rfl⟩:=h;have h0:(62:UInt8) ∉ Lib.decDigits a:=Hy a 62 (by decide);have h1:(58:UInt8) ∉ Lib.decDigits b:=Hy b 58 (by decide);have h2:(35:UInt8) ∉ Lib.decDigits c:=Hy c 35 (by decide);unfold f0 f1 f2 f3 ku;rw[D5 h0,ET h0,D5 h1,ET h1,D5 h2,ET h2];exact⟨rfl,rfl,rfl,rfl⟩
theorem R_{l:List UInt8}{a b c d:Nat}(h:Ti l a b c d):numOf (f0 l)=some a∧numOf (f1 l)=some b∧numOf (f2 l)=some c∧numOf (f3 l)=some d:=by
 obtain⟨e0,e1,e2,e3⟩:=fields_of h;obtain⟨⟨h0,h1,h2,h3⟩,_⟩:=h;rw[e0,e1,e2,e3];exact⟨G6 (by omega),G6 (by omega),G6 (by omega),G6 (by omega)⟩
theorem gM(m:UInt8):tl m []=[]:=rfl
theorem LW(m:UInt8):hd m []=[]:=rfl
theorem mZ{l:List UInt8}{a b c d:Nat}(h0:numOf (f0 l)=some a)(h1:numOf (f1 l)=some b)(h2:numOf (f2 l)=some c)(h3:numOf (f3 l)=some d)(hk:DZ a b c d):Ti l a b c d:=by
 refine⟨hk,?_⟩;obtain⟨_,e0⟩:=Cy h0;obtain⟨_,e1⟩:=Cy h1;obtain⟨_,e2⟩:=Cy h2;obtain⟨_,e3⟩:=Cy h3;have n1:=E5 b;have n2:=E5 c;have n3:=E5 d;unfold ku;rw[e0,e1,e2,e3];rw[e1]at n1;rw[e2]at n2;rw[e3]at n3;unfold f0 f1 f2 f3 at *;have t0:tl 62 l≠[]:=fun e=>n1 (by rw[e,LW]);have t1:tl 58 (tl 62 l)≠[]:=fun e=>n2 (by rw[e,LW]);rw[←ZV n3,←ZV t1,←ZV t0]
end
section
open Go
theorem jF{m:UInt8}{r:List UInt8}{j:Nat}(h:m ∉ r.take j)(hj:r[j]? =some m):hd m r=r.take j∧tl m r=r.drop (j+1):=by
 have hl:j<r.length:=(List.getElem?_eq_some_iff.1 hj).1;have hm:r[j]=m:=(List.getElem?_eq_some_iff.1 hj).2
 have e:r=r.take j++m :: r.drop (j+1):=by
  rw[←hm,List.getElem_cons_drop,List.take_append_drop]
 constructor
 ·conv=>lhs;rw[e]
  exact D5 h
 conv=>lhs;rw[e]
 exact ET h
def WQ(l:List UInt8):Nat→List UInt8
 |0=>l
 |1=>tl 62 l
 |2=>tl 58 (tl 62 l)
 |_=>tl 35 (tl 58 (tl 62 l))
def WS:Nat→UInt8
 |0=>62
 |1=>58
 |_=>35
def BU(l:List UInt8):ByteArray:=⟨l.toArray⟩
theorem ext_list(s:ByteArray)(n p:Nat):(s.extract n p).data.toList=(s.data.toList.drop n).take (p-n):=by
 rw[ByteArray.data_extract,Array.toList_extract]
theorem Kl(s:ByteArray)(n p:Nat):s.extract n p=BU ((s.data.toList.drop n).take (p-n)):=by
 apply ByteArray.ext
 apply Array.toList_inj.1
 rw[ext_list s n p];rfl
def sw(s:ByteArray)(pos k n:Nat):Prop:=n≤pos∧n≤s.size∧s.data.toList.drop n=WQ s.data.toList k∧(k<3→WS k ∉ (s.data.toList.drop n).take (pos-n))
theorem fF(s:ByteArray):sw s 0 0 0:=⟨by omega,by omega,rfl,by simp⟩
theorem Sv{s:ByteArray}{pos k n:Nat}(h:sw s pos k n)(hp:pos<s.size)(hk:k<3)(hb:s[pos]=WS k):
 s.extract n pos=BU (hd (WS k) (WQ s.data.toList k))∧sw s (pos+1) (k+1) (pos+1):=by
 obtain⟨h1,h2,h3,h4⟩:=h
 have hj:(s.data.toList.drop n)[pos-n]? =some (WS k):=by
  rw[List.getElem?_drop,show n+(pos-n)=pos from by omega,List.getElem?_eq_getElem (by simpa using hp),←hb];rfl
 obtain⟨e1,e2⟩:=jF (h4 hk) hj;refine⟨?_,by omega,by omega,?_,by simp⟩
 ·rw[Kl s n pos,←h3,e1]
 rw[List.drop_drop,show n+(pos-n+1)=pos+1 from by omega]at e2;rw[←e2,h3]
 match k,hk with
 |0,_=>rfl
 |1,_=>rfl
 |2,_=>rfl
theorem Hw{m:UInt8}{l:List UInt8}{n pos v:Nat}(hn:n≤pos)(h:m ∉ (l.drop n).take (pos-n))(hv:∀j,j<v→l[pos+j]?≠some m):m ∉ (l.drop n).take (pos+v-n):=by
 induction v with
 |zero=>exact h
 |succ v ih=>
  have h':=ih (fun j hj=>hv j (by omega));rw[show pos+(v+1)-n=(pos+v-n)+1 from by omega,List.take_add_one];intro hm;rw[List.mem_append]at hm;rcases hm with hm|hm
  ·exact h' hm
  rw[List.getElem?_drop,show n+(pos+v-n)=pos+v from by omega]at hm;have:=hv v (by omega);cases hq:l[pos+v]? with
  |none=>rw[hq]at hm;simp at hm
  |some x=>rw[hq]at hm;simp at hm;rw[hq,hm]at this;exact this rfl
theorem cO(k:Nat):(WS k).toNat<128:=by unfold WS;split<;>decide
theorem Vz(s:ByteArray)(pos j:Nat)(hj:1≤j)(h:j<(Utf8.decode s pos).2):128≤(s.get! (pos+j)).toNat:=by
 unfold Utf8.decode at h;simp only at h
 split at h
 ·simp at h;omega
 split at h
 ·rename_i hc;simp only[Bool.and_eq_true,beq_iff_eq,decide_eq_true_eq]at hc
  split at h
  ·simp at h;obtain rfl:j=1:=by omega
   omega
  simp at h;omega
 split at h
 ·rename_i hc;simp only[Bool.and_eq_true,beq_iff_eq,decide_eq_true_eq]at hc
  split at h
  ·simp at h;have:j=1∨j=2:=by omega
   rcases this with rfl|rfl<;>omega
  simp at h;omega
 split at h
 ·rename_i hc;simp only[Bool.and_eq_true,beq_iff_eq,decide_eq_true_eq]at hc
  split at h
  ·simp at h;have:j=1∨j=2∨j=3:=by omega
   rcases this with rfl|rfl|rfl<;>omega
  simp at h;omega
 simp at h;omega
theorem ry{s:ByteArray}{i:Nat}{x:UInt8}(h:s.data.toList[i]? =some x):s.get! i=x:=by
 rw[Array.getElem?_toList]at h;unfold ByteArray.get!;cases s
 simp only at *;obtain⟨hi,e⟩:=Array.getElem?_eq_some_iff.1 h;simp[hi,e]
theorem Kn{s:ByteArray}{pos k n:Nat}(h:sw s pos k n)(hp:pos<s.size)(hb:k<3→s[pos]≠WS k):
 sw s (pos+(Utf8.decode s pos).2) k n:=by
 obtain⟨h1,h2,h3,h4⟩:=h;refine⟨by omega,h2,h3,fun hk=>?_⟩;refine Hw h1 (h4 hk) fun j hj e=>?_;by_cases h0:j=0
 ·subst h0;rw[Nat.add_zero,List.getElem?_eq_getElem (by simpa using hp)]at e;exact hb hk (Option.some.inj e)
 have:=Vz s pos j (by omega) hj;rw[ry e]at this;have:=cO k;omega
theorem KM(s:ByteArray)(n:Nat):s.extract n s.size=BU (s.data.toList.drop n):=by
 rw[Kl s n s.size,List.take_of_length_le (by simp)]
theorem nz{s:ByteArray}{pos k n:Nat}(h:sw s pos k n)(hp:¬pos<s.size):s.extract n s.size=BU (WQ s.data.toList k)∧(k<3→hd (WS k) (WQ s.data.toList k)=WQ s.data.toList k∧tl (WS k) (WQ s.data.toList k)=[]):=by
 obtain⟨h1,h2,h3,h4⟩:=h;refine⟨by rw[KM s n,h3],fun hk=>?_⟩
 have hm:WS k ∉ WQ s.data.toList k:=by
  have:=h4 hk;rw[List.take_of_length_le (by simp;omega),h3]at this;exact this
 exact⟨ZW hm,lF hm⟩
end
section
open Go.RowKit
def cw(w:World)(s g0 g1 g2 g3:ByteArray)(pos:Nat):World:=
 (((w.alloc (.cells #[.string ⟨#[]⟩,.string ⟨#[]⟩,.string ⟨#[]⟩,.string ⟨#[]⟩] 346)).alloc (.cells #[.int .i32 62,.int .i32 58,.int .i32 35] 355)).alloc (.cells #[.string g0,.string g1,.string g2,.string g3] 346)).iter s pos
theorem PX(w:World)(s g0 g1 g2 g3:ByteArray)(pos:Nat):(cw w s g0 g1 g2 g3 pos).cell? ⟨w.heap.size+1,0,none⟩=some (.int .i32 62)∧(cw w s g0 g1 g2 g3 pos).cell? ⟨w.heap.size+1,1,none⟩=some (.int .i32 58)∧(cw w s g0 g1 g2 g3 pos).cell? ⟨w.heap.size+1,2,none⟩=some (.int .i32 35):=by
 unfold cw World.iter;simp[go_sem]
theorem PZ(w:World)(s g0 g1 g2 g3:ByteArray)(pos:Nat):(cw w s g0 g1 g2 g3 pos).cell? ⟨w.heap.size+1+1,0,none⟩=some (.string g0)∧(cw w s g0 g1 g2 g3 pos).cell? ⟨w.heap.size+1+1,1,none⟩=some (.string g1)∧(cw w s g0 g1 g2 g3 pos).cell? ⟨w.heap.size+1+1,2,none⟩=some (.string g2)∧(cw w s g0 g1 g2 g3 pos).cell? ⟨w.heap.size+1+1,3,none⟩=some (.string g3):=by
 unfold cw World.iter;simp[go_sem]
theorem nK(w:World)(s g0 g1 g2 g3:ByteArray)(pos j:Nat):(cw w s g0 g1 g2 g3 pos).frozen? ⟨w.heap.size+1+1,j,none⟩=false:=by
 unfold cw World.iter;simp[go_sem]
theorem nJ(w:World)(s g0 g1 g2 g3 x:ByteArray)(pos:Nat):(cw w s g0 g1 g2 g3 pos).setCell ⟨w.heap.size+1+1,0,none⟩ (.string x)=cw w s x g1 g2 g3 pos:=by
 unfold cw World.iter;simp[go_sem]
theorem nI(w:World)(s g0 g1 g2 g3 x:ByteArray)(pos:Nat):(cw w s g0 g1 g2 g3 pos).setCell ⟨w.heap.size+1+1,1,none⟩ (.string x)=cw w s g0 x g2 g3 pos:=by
 unfold cw World.iter;simp[go_sem]
theorem nE(w:World)(s g0 g1 g2 g3 x:ByteArray)(pos:Nat):(cw w s g0 g1 g2 g3 pos).setCell ⟨w.heap.size+1+1,2,none⟩ (.string x)=cw w s g0 g1 x g3 pos:=by
 unfold cw World.iter;simp[go_sem]
theorem Sm(w:World)(g0 g1 g2 g3:ByteArray):(((w.alloc (.cells #[.string ⟨#[]⟩,.string ⟨#[]⟩,.string ⟨#[]⟩,.string ⟨#[]⟩] 346)).alloc (.cells #[.int .i32 62,.int .i32 58,.int .i32 35] 355)).alloc (.cells #[.string g0,.string g1,.string g2,.string g3] 346)).heap.size=w.heap.size+1+1+1:=by simp
theorem H_(w:World)(s g0 g1 g2 g3:ByteArray)(pos:Nat)(h:pos<s.size)(ty:TypeId):(Instr.next (.pointer (some ⟨w.heap.size+1+1+1,0,none⟩)) true ty).run Tryz.prog (cw w s g0 g1 g2 g3 pos)= .ok (.tuple #[.bool true,.int .i64 pos,.int .i32 (Utf8.decode s pos).1]) (cw w s g0 g1 g2 g3 (pos+(Utf8.decode s pos).2)):=by
 have:=run_next_any (P:=Tryz.prog) (((w.alloc (.cells #[.string ⟨#[]⟩,.string ⟨#[]⟩,.string ⟨#[]⟩,.string ⟨#[]⟩] 346)).alloc (.cells #[.int .i32 62,.int .i32 58,.int .i32 35] 355)).alloc (.cells #[.string g0,.string g1,.string g2,.string g3] 346)) s pos ty h;rw[Sm]at this;exact this
theorem sF(w:World)(s g0 g1 g2 g3:ByteArray)(pos:Nat)(h:¬pos<s.size)(ty:TypeId):(Instr.next (.pointer (some ⟨w.heap.size+1+1+1,0,none⟩)) true ty).run Tryz.prog (cw w s g0 g1 g2 g3 pos)= .ok (.tuple #[.bool false]) (cw w s g0 g1 g2 g3 pos):=by
 have:=run_next_end (P:=Tryz.prog) (((w.alloc (.cells #[.string ⟨#[]⟩,.string ⟨#[]⟩,.string ⟨#[]⟩,.string ⟨#[]⟩] 346)).alloc (.cells #[.int .i32 62,.int .i32 58,.int .i32 35] 355)).alloc (.cells #[.string g0,.string g1,.string g2,.string g3] 346)) s pos ty h;rw[Sm]at this;exact this
theorem sD(w:World)(s g0 g1 g2 g3:ByteArray)(pos:Nat):(cw w s g0 g1 g2 g3 pos).iterPos (w.heap.size+1+1+1)=pos:=by
 rw[←Sm w g0 g1 g2 g3];exact World.iterPos_iter _ _ _
def gs(l:List UInt8):Nat→ByteArray×ByteArray×ByteArray×ByteArray
 |0=>(⟨#[]⟩,⟨#[]⟩,⟨#[]⟩,⟨#[]⟩)
 |1=>(BU (f0 l),⟨#[]⟩,⟨#[]⟩,⟨#[]⟩)
 |2=>(BU (f0 l),BU (f1 l),⟨#[]⟩,⟨#[]⟩)
 |_=>(BU (f0 l),BU (f1 l),BU (f2 l),⟨#[]⟩)
def ABh(s:ByteArray)(w:World)(a f:Value)(wr:World):Prop:=∃pos k n:Nat,k≤3∧n≤pos∧n≤s.size∧a= .int .i64 k∧f= .int .i64 n∧sw s pos k n∧wr=cw w s (gs s.data.toList k).1 (gs s.data.toList k).2.1 (gs s.data.toList k).2.2.1 (gs s.data.toList k).2.2.2 pos
end
end Go.Proofs.YtcjmcgolgbkknaaGreatDoor
