/- Lemmas, as stated. -/
import Derived.Test.YtcjmcgolgbkknaaGreatDoorTAAA
import Derived.Maps.AppendAt
set_option maxRecDepth 100000
set_option maxHeartbeats 1600000
namespace Go.Proofs.YtcjmcgolgbkknaaGreatDoor
section
open Go.RowKit
def A8(k0 n:Nat):List Int:=(List.range n).map fun(i:Nat)=>(k0:Int)+(i:Int)
theorem Bz(k0 n:Nat):(A8 k0 n).length=n:=by simp[A8]
theorem YH(k0 n i:Nat)(h:i<n):(A8 k0 n).getD i 0=(k0:Int)+(i:Int):=by simp[A8,h]
theorem Vk(k0 n:Nat):A8 k0 (n+1)=A8 k0 n++[(k0:Int)+(n:Int)]:=by simp[A8,List.range_succ]
def Fw(k0 k:Nat)(vs:List Value):List Value:=(A8 k0 k).map (Value.int .i64)++vs.drop k
theorem Vj(k0:Nat)(vs:List Value):Fw k0 0 vs=vs:=by simp[Fw,A8]
theorem YG(k0:Nat)(vs:List Value):Fw k0 vs.length vs=(A8 k0 vs.length).map (Value.int .i64):=by simp[Fw]
theorem YF(k0 k:Nat)(vs:List Value)(h:k<vs.length):(Fw k0 k vs)[k]? =some (vs[k]):=by
 simp[Fw,List.getElem?_append,Bz,h]
theorem YD(k0 k:Nat)(vs:List Value)(h:k<vs.length):(Fw k0 k vs).set k (.int .i64 ((k0:Int)+(k:Int)))=Fw k0 (k+1) vs:=by
 unfold Fw;rw[Vk,List.set_append_right _ _ (by simp[Bz]),List.length_map,Bz,Nat.sub_self,List.drop_eq_getElem_cons h,List.set_cons_zero];simp

theorem dm(base g n cap k0:Nat)(vs:List Value)(w:World)(hn:n≤4194304)(hk0:k0≤100000000)(h:w.ownsRow base 3 1 (.slice (some ⟨g,0,none⟩) n cap) n vs):
 Calls Tryz.prog 110 #[.slice (some ⟨g,0,none⟩) n cap,.int .i64 k0] w fun e w'=>e= .returned (.int .i64 (k0+n))∧
  w'.ownsRow base 3 1 (.slice (some ⟨g,0,none⟩) n cap) n ((A8 k0 n).map (Value.int .i64))∧w.grownBy w' (some g):=by
 have hv0:vs.length=n:=by simpa using h.1
 have Hv:Hid (vs.length=n):=hv0;clear hv0;go_enter Tryz.func110,Tryz.ntmps110
 go_wp2
 go_loopw [1,5] (fun c i wr=>∃k:Nat,k≤n∧i= .int .i64 k∧c= .int .i64 (k0+k)∧wr.ownsRow base 3 1 (.slice (some ⟨g,0,none⟩) n cap) n (Fw k0 k vs)∧w.grownBy wr (some g)) (fun _ i _=>n-(intOf i).toNat)
 case atStart=>exact⟨0,Nat.zero_le _,rfl,by go_num,by rw[Vj];exact h,D9 _ _⟩
 case round=>
  obtain⟨k,hk,rfl,rfl,ho,hg⟩:=hrel;by_cases hlt:k<n
  ·have rW:k<vs.length:=by rw[Hv.out];exact hlt
   obtain⟨u,hu⟩:∃u,wr.cell? ⟨g,k,none⟩=some u:=⟨_,(ho.cellAt k (by omega)).trans (YF k0 k vs rW)⟩
   have hfr:=ho.frozenAt k;have hs:=ho.stored k (.int .i64 ((k0:Int)+(k:Int)))
   have HS:Hid ((wr.setCell ⟨g,k,none⟩ (.int .i64 ((k0:Int)+(k:Int)))).ownsRow base 3 1 (.slice (some ⟨g,0,none⟩) n cap) n (Fw k0 (k+1) vs)):=by
    rw[←YD k0 k vs rW];exact hs.1
   have HG:Hid (w.grownBy (wr.setCell ⟨g,k,none⟩ (.int .i64 ((k0:Int)+(k:Int)))) (some g)):=EJ hg hs.2;clear hs ho hg;go_wp2
   go_roundw
   case rel=>exact⟨k+1,by omega,by go_num,by go_num,HS.out,HG.out⟩
   case measure=>simp[intOf];omega
  have hkn:k=n:=by omega
  have HO:Hid (wr.ownsRow base 3 1 (.slice (some ⟨g,0,none⟩) n cap) n ((A8 k0 n).map (Value.int .i64))):=by
   have:=YG k0 vs;rw[Hv.out]at this;rw[←this,←hkn];rw[←hkn]at ho;exact ho
  clear ho;subst hkn;go_wp2;go_ret;exact⟨rfl,HO.out,hg⟩

theorem G8(v:Value)(n k0:Nat)(w:World)(hk0:k0≤100000000)(h:RI w v (A8 k0 n)):
 Calls Tryz.prog 113 #[v,.int .i64 k0] w fun e w'=>e= .returned (.int .i64 (k0+n))∧w'=w:=by
 obtain⟨hl,ao,ca,rfl,ha⟩:=h;rw[Bz]at hl ha⊢;go_enter Tryz.func113,Tryz.ntmps113
 go_wp2
 go_loop [1,5] (fun c i=>∃k:Nat,k≤n∧i= .int .i64 k∧c= .int .i64 (k0+k)) (fun _ i=>n-(intOf i).toNat)
 case atStart=>exact⟨0,Nat.zero_le _,rfl,by go_num⟩
 case round=>
  obtain⟨k,hk,rfl,rfl⟩:=hrel;by_cases hlt:k<n
  ·rcases ha with ha|⟨b,off,rfl,ha⟩
   ·have:=congrArg List.length ha;rw[Bz]at this;simp at this;omega
   have ha':=ha k hlt;rw[YH k0 n k hlt]at ha';clear ha;go_wp2
   go_round
   case rel=>exact⟨k+1,by omega,by go_num,by go_num⟩
   case measure=>simp[intOf];omega
  have hkn:k=n:=by omega
  subst hkn;clear ha;go_wp2;go_ret;exact⟨rfl,rfl⟩

theorem YI(w:World)(k0:Nat):Calls Tryz.prog 110 #[.slice none 0 0,.int .i64 k0] w fun e w'=>e= .returned (.int .i64 k0)∧w'=w:=by
 go_enter Tryz.func110,Tryz.ntmps110
 go_wp2;refine wp_loop_rounds 1 ?_;rw[rounds_succ];go_wp2;go_ret;exact⟨rfl,rfl⟩

theorem Fj(base k0:Nat)(v:Value)(xs:List Int)(w:World)(hl:xs.length≤4194304)(hk0:k0≤100000000)(h:OI w base v xs):
 Calls Tryz.prog 110 #[v,.int .i64 k0] w fun e w'=>e= .returned (.int .i64 (k0+xs.length))∧OI w' base v (A8 k0 xs.length)∧w.grownBy w' v.ownBlock:=by
 have h':=h;rcases h.2 with⟨rfl,h0⟩|⟨g,cap,cur,rfl,_⟩
 ·refine(YI w k0).mono ?_;rintro e w' ⟨rfl,rfl⟩;have hx:xs=[]:=List.length_eq_zero_iff.1 h0;subst hx;exact⟨by simp,World.ownsRow_nil _ _ _ _,D9 _ _⟩
 refine(dm base g xs.length cap k0 _ w hl hk0 h').mono ?_;rintro e w' ⟨rfl,ho,hg⟩;refine⟨rfl,?_,hg⟩;unfold OI;rw[Bz];exact ho
theorem Fe(xs:List Int)(u:Value)(h:u ∈ xs.map (Value.int .i64)):u.oneCell'=true:=by
 obtain⟨x,_,rfl⟩:=List.mem_map.1 h;rfl

theorem GV{w:World}{g off:Nat}{xs:List Int}(h:∀k,k<xs.length→w.cell? ⟨g,off+k,none⟩=some (.int .i64 (xs.getD k 0))):
 ∀j u,(xs.map (Value.int .i64))[j]? =some u→w.cell? ((⟨g,off,none⟩:Addr).add j)=some u:=by
 intro j u hj;rw[List.getElem?_map]at hj;obtain⟨x,hx,rfl⟩:=Option.map_eq_some_iff.1 hj;have hlt:=(List.getElem?_eq_some_iff.1 hx).1;have e:((⟨g,off,none⟩:Addr).add j)=⟨g,off+j,none⟩:=by unfold Addr.add;split<;>simp_all
 rw[e,h j hlt];simp[List.getD_eq_getElem?_getD,hx]
def PI(w:World)(v:Value)(xs:List Int):Prop:=
 ∃ao cap,v= .slice ao xs.length cap∧(xs=[]∨∃ad:Addr,ao=some ad∧∀j u,(xs.map (Value.int .i64))[j]? =some u→w.cell? (ad.add j)=some u)
theorem PI.below{w w':World}{v:Value}{xs:List Int}(h:PI w v xs)(hb:Below w.heap.size w w'):PI w' v xs:=by
 obtain⟨ao,cap,rfl,h⟩:=h;refine⟨ao,cap,rfl,?_⟩;rcases h with h|⟨ad,rfl,h⟩
 ·exact .inl h
 exact .inr ⟨ad,rfl,fun j u hj=>(hb.cell (AQ (h j u hj))).trans (h j u hj)⟩
theorem RI.pi{w:World}{v:Value}{xs:List Int}(h:RI w v xs):PI w v xs:=by
 obtain⟨hl,ao,cap,rfl,h⟩:=h;refine⟨ao,cap,rfl,?_⟩;rcases h with h|⟨b,off,rfl,h⟩
 ·exact .inl h
 exact .inr ⟨_,rfl,GV h⟩
theorem RI.form{w:World}{v:Value}{xs:List Int}(h:RI w v xs):∃ao ca,v= .slice ao xs.length ca:=by obtain⟨_,ao,ca,e,_⟩:=h;exact⟨ao,ca,e⟩
theorem RI.at{w:World}{ao:Option Addr}{n ca:Nat}{xs:List Int}(h:RI w (.slice ao n ca) xs)(k:Nat)(hk:k<xs.length):∃b off,ao=some ⟨b,off,none⟩∧w.cell? ⟨b,off+k,none⟩=some (.int .i64 (xs.getD k 0)):=by
 obtain⟨_,QR,V8,e,h⟩:=h;cases e
 rcases h with rfl|⟨b,off,rfl,h⟩
 ·simp at hk
 exact⟨b,off,rfl,h k hk⟩
theorem PI.take{w:World}{ao:Option Addr}{n cap:Nat}{xs:List Int}(h:PI w (.slice ao n cap) xs)(k:Nat)(hk:k≤n)(cap':Nat):PI w (.slice ao k cap') (xs.take k):=by
 obtain⟨QR,cap2,e,h⟩:=h;cases e
 refine⟨ao,cap',by rw[List.length_take];congr 1;omega,?_⟩;rcases h with rfl|⟨ad,rfl,h⟩
 ·left;simp
 refine .inr ⟨ad,rfl,fun j u hj=>h j u ?_⟩;rw[List.map_take,List.getElem?_take]at hj
 split at hj
 ·exact hj
 cases hj
theorem PI.drop{w:World}{ao:Option Addr}{n cap:Nat}{xs:List Int}(h:PI w (.slice ao n cap) xs)(k:Nat)(cap':Nat){bo:Option Addr}(hb:k<n→bo=ao.map (·.add (k*1))):PI w (.slice bo (n-k) cap') (xs.drop k):=by
 obtain⟨QR,cap2,e,h⟩:=h;cases e
 refine⟨bo,cap',by rw[List.length_drop],?_⟩;by_cases hlt:k<xs.length
 ·rcases h with rfl|⟨ad,rfl,h⟩
  ·simp at hlt
  refine .inr ⟨ad.add (k*1),hb hlt,fun j u hj=>?_⟩;rw[List.map_drop,List.getElem?_drop]at hj;have:=h _ u hj;rw[←this]
  congr 1
  obtain⟨b,o,s⟩:=ad;unfold Addr.add
  split<;>split<;>simp_all<;>omega
 left;rw[List.drop_of_length_le (by omega)]
theorem YQ(w:World)(row:Option Nat):w.grownBy w row:=⟨rfl,rfl,rfl,Nat.le_refl _,fun _ _ _=>rfl⟩
theorem K_(ty:TypeId)(base cap:Nat)(v:Value)(n:Nat)(xs:List Value)(w:World)(hown:w.ownsRow base 3 1 v n xs):
 (Builtin.append_ #[24,24] ty #[v,.slice none 0 cap]).run Tryz.prog w= .ok v w:=by
 obtain⟨i0,hi,hz0,hz1,hz2⟩:=info_parts Tryz.info3;rcases hown.2 with⟨rfl,rfl⟩|⟨g,cp,cur,rfl,_,_,hnc,_⟩
 ·simp[Builtin.append_,run_underlying Tryz.underlying24,sizeOf,typeInfo,hi,Builtin.lenOf,Builtin.firstCells]
 simp[Builtin.append_,run_underlying Tryz.underlying24,sizeOf,typeInfo,hi,Builtin.lenOf,Builtin.firstCells,hnc,storeCells]
theorem MN{ops:Array Oper}{rest:List Oper}{o:Oper}{a:Act}{Q:Exit→Act→World→Prop}{w:World}(hgd:o.guard=none)(s x:Operand)
 (ho:o.op= .call { callee:= .builtin .append,args:= #[s,x],argTypes:= #[24,24] }) (base:Nat) (v u:Value) (xs ys:List Int) (hs:a.eval s=v) (hx:a.eval x=u)
 (hown:OI w base v xs) (hp:PI w u ys) (hl:xs.length+ys.length≤16777216) (hbase:base≤w.heap.size)
 (h:∀v' w',OI w' base v' (xs++ys)→w.grownBy w' v.ownBlock→(v'.ownBlock=v.ownBlock∨v'.ownBlock=some w.heap.size)→wpList Tryz.prog ops Q rest (a.put o.dst v') w'):
 wpList Tryz.prog ops Q (o :: rest) a w:=by
 obtain⟨i0,hi,hz0,hz1,hz2⟩:=info_parts Tryz.info3;obtain⟨ao,cap,rfl,hp⟩:=hp
 match ao,hx with
 |none,hx=>
  have hy:ys=[]:=by rcases hp with h|⟨ad,e,_⟩;exact h;cases e
  subst hy;refine wpList_plain hgd fun K hK=>?_;have hrun:=K_ o.type base cap v xs.length (xs.map (Value.int .i64)) w hown;unfold Oper.wp;simp only[List.length_nil]at hx;simp[execOp,ho,resolve,invoke,builtin,hs,hx,hrun,Result.andThen];exact hK _ _ (h v w (by simpa using hown) (YQ _ _) (.inl rfl))
 | some ad,hx=>
  have hn:∀j u,(ys.map (Value.int .i64))[j]? =some u→w.cell? (ad.add j)=some u:=by
   rcases hp with rfl|⟨ad',e,h⟩
   ·intro j u hj;simp at hj
   cases e;exact h
  refine wpList_append_own_at _ hgd s x 24 ho base 3 i0 (.int .i64 0) 1 8 Tryz.underlying24 hi hz0 hz1 hz2 rfl (by decide) v xs.length (xs.map (Value.int .i64)) hs hown ad ys.length cap (ys.map (Value.int .i64)) hx (by simp) hn (Fe ys) (by unfold maxLen;omega) (by omega) hbase ?_;intro v' w' ho' hg' _ hb';refine h v' w' ?_ hg' hb';unfold OI;rw[List.map_append,List.length_append];exact ho'
def Cap(v:Value):Prop:=∃ao n cap,v= .slice ao n cap∧n≤cap∧cap≤maxLen
theorem OI.cap{w:World}{base:Nat}{v:Value}{xs:List Int}(h:OI w base v xs):Cap v:=by
 rcases h.2 with⟨rfl,h0⟩|⟨g,cap,cur,rfl,_,_,h1,h2,h3⟩
 ·exact⟨_,_,_,rfl,by simp,by unfold maxLen;omega⟩
 exact⟨_,_,_,rfl,by first|exact h1|exact h2|exact h3|omega,by first|exact h2|exact h3|omega⟩
abbrev qv(n:Int)(s:ByteArray)(v:Value):Value:= .agg #[.int .i64 n,.string s,v]
theorem Aj(w:World)(o:Obj):Below w.heap.size w (w.alloc o):=(Below.refl _ _).alloc Ak _
theorem Bj(w:World)(o p:Obj):Below w.heap.size w ((w.alloc o).alloc p):=((Below.refl _ _).alloc Ak _).alloc (by simp) _

theorem PR(n:Int)(s:ByteArray)(a b:Value)(xs:List Int)(w:World)(ha:RI w a xs)(hb:RI w b xs):
 Calls Tryz.prog 62 #[qv n s a,qv n s b] w fun e w'=>e= .returned (.bool true)∧Below w.heap.size w w':=by
 have R1:=hide ha;have R2:=hide hb;have B:=hide (Bj w (.cells #[.int .i64 n,.string s,a] 38) (.cells #[.int .i64 n,.string s,b] 38));clear ha hb;go_enter Tryz.func62,Tryz.ntmps62
 go_wp2_with fail
 refine(PU a b xs _ (R1.out.below B.out Ak) (R2.out.below B.out Ak)).mono ?_;rintro e w1 ⟨rfl,n,rfl⟩;go_wp2;go_ret;exact⟨rfl,below_drewN' B.out _⟩

theorem Jj(n:Int)(s:ByteArray)(base:Nat)(v:Value)(xs:List Int)(k0:Nat)(w:World)(hl:xs.length≤4194304)(hk:k0≤100000000)(h:OI w base v xs):
 Calls Tryz.prog 63 #[qv n s v,.int .i64 k0] w fun e w'=>e= .returned (.int .i64 (k0+xs.length))∧OI w' base v (A8 k0 xs.length)∧Kp w w' (fun k=>v.ownBlock=some k):=by
 have B:=hide (Aj w (.cells #[.int .i64 n,.string s,v] 38));have H:=hide (h.below B.out);have hb:=World.ownsRow.lt h;have MK:=hide fun w h=>Fj base k0 v xs w hl hk h;clear h;go_enter Tryz.func63,Tryz.ntmps63
 go_wp2_with fail
 refine(MK.out _ H.out).mono ?_;rintro e w1 ⟨rfl,o1,g1⟩;have K:=(Below.BJ B.out (fun k=>v.ownBlock=some k)).trans (CE g1);go_wp2;go_ret;exact⟨rfl,o1,K⟩

theorem KJ(n:Int)(s:ByteArray)(ao:Option Addr)(m ca:Nat)(left:Int)(w:World)(h:(s.size:Int)+m≤left)(hl:left≤1048576):
 Calls Tryz.prog 56 #[qv n s (.slice ao m ca),.int .i64 left] w fun e w'=>e= .returned (.int .i64 (left-s.size-m))∧Below w.heap.size w w':=by
 have h1:decide ((left:Int)-(s.size:Int)<0)=false:=by simp;omega
 have h2:decide ((left:Int)-(s.size:Int)-(m:Int)<0)=false:=by simp;omega
 go_enter Tryz.func56,Tryz.ntmps56
 go_wp2_with (first|(go_at_call 115;refine(N9 _ _ _ _ _ (by omega) (by omega)).mono ?_;rintro e w' ⟨rfl,rfl⟩))
 go_ret;exact⟨rfl,Aj _ _⟩
theorem gU(n:Int)(s:ByteArray)(ao:Option Addr)(m ca:Nat)(left:Int)(w:World)(h0:0≤left)(h:left<s.size)(hs:s.size≤9223372036854775807)(hl:left≤1048576):
 Calls Tryz.prog 56 #[qv n s (.slice ao m ca),.int .i64 left] w fun e w'=>e= .returned (.int .i64 (-1))∧Below w.heap.size w w':=by
 have h1:decide ((left:Int)-(s.size:Int)<0)=true:=by simp;omega
 go_enter Tryz.func56,Tryz.ntmps56
 go_wp2;go_ret;exact⟨rfl,Aj _ _⟩
theorem gT(n:Int)(s:ByteArray)(ao:Option Addr)(m ca:Nat)(left:Int)(w:World)(h0:(s.size:Int)≤left)(h:left<s.size+m)(hm:m≤9223372036854775807)(hl:left≤1048576):
 Calls Tryz.prog 56 #[qv n s (.slice ao m ca),.int .i64 left] w fun e w'=>e= .returned (.int .i64 (-1))∧Below w.heap.size w w':=by
 have h1:decide ((left:Int)-(s.size:Int)<0)=false:=by simp;omega
 go_enter Tryz.func56,Tryz.ntmps56
 go_wp2_with fail
 refine(Qe _ _ _ _ _ (by omega) (by omega) (by omega) hm).mono ?_;rintro e w' ⟨rfl,rfl⟩;go_wp2;go_ret;exact⟨rfl,Aj _ _⟩
theorem Rv(n:Int)(s:ByteArray)(ao:Option Addr)(m ca:Nat)(left:Int)(w:World)(h0:0≤left)(h:left<s.size+m)(hs:s.size≤9223372036854775807)(hm:m≤9223372036854775807)(hl:left≤1048576):
 Calls Tryz.prog 56 #[qv n s (.slice ao m ca),.int .i64 left] w fun e w'=>e= .returned (.int .i64 (-1))∧Below w.heap.size w w':=by
 by_cases h1:left<(s.size:Int)
 ·exact gU n s ao m ca left w h0 h1 hs hl
 exact gT n s ao m ca left w (by omega) h hm hl

theorem Nu(n:Int)(s:ByteArray)(a:Value)(xs:List Int)(w:World)(ha:RI w a xs):
 Calls Tryz.prog 58 #[qv n s a] w fun e w'=>∃u,e= .returned (qv n s u)∧OI w' w.heap.size u xs∧Below w.heap.size w w':=by
 have R1:=hide ha;clear ha;go_enter Tryz.func58,Tryz.ntmps58
 go_wp2_with fail
 refine Calls.mono (Nw a xs _ (R1.out.below ((((Below.refl w.heap.size w).alloc Ak _).alloc (by simp) _).alloc (by simp;omega) _) Ak)) ?_;rintro e w1 ⟨u,rfl,o1,b1⟩;have s1:=b1.size;have L1:Loc w1 (w.heap.size+1) #[.int .i64 0,.string ⟨#[]⟩,.slice none 0 0]:=Loc.below (Loc.alloc (AJ (w.alloc _) #[.int .i64 0,.string ⟨#[]⟩,.slice none 0 0] _ (by simp)) _) b1 (by simp);have L2:Loc w1 (w.heap.size+1+1) #[.int .i64 n,.string s,.slice none 0 0]:=Loc.below (AJ ((w.alloc _).alloc _) #[.int .i64 n,.string s,.slice none 0 0] _ (by simp)) b1 (by simp);have B1:Below w.heap.size w w1:=((((Below.refl w.heap.size w).alloc Ak _).alloc (by simp) _).alloc (by simp;omega) _).trans (b1.mono (by simp;omega));have ZO:=World.ownsRow.lt o1;simp at ZO s1;have y0:=L1.cell 0 rfl;have y1:=L1.cell 1 rfl;have y2:=L1.cell 2 rfl;have fy0:=L1.frozen 0;have fy1:=L1.frozen 1;have fy2:=L1.frozen 2;have z0:=L2.cell 0 rfl;have z1:=L2.cell 1 rfl;have z2:=L2.cell 2 rfl;have fz2:=L2.frozen 2;obtain⟨ua,uc,hu⟩:=o1.form;have O1:=hide o1;clear o1 b1;subst hu;go_wp2;refine bodyPost_ret (v:=qv n s (.slice ua xs.length uc)) (by simp[results,Tryz.results58,go_sem,y0,y1,y2]) rfl ?_
 have K:Kp w1 ((((w1.setCell ⟨w.heap.size+1+1,2,none⟩ (.slice ua xs.length uc)).setCell ⟨w.heap.size+1,0,none⟩ (.int .i64 n)).setCell ⟨w.heap.size+1,1,none⟩ (.string s)).setCell ⟨w.heap.size+1,2,none⟩ (.slice ua xs.length uc)) (fun k=>k=w.heap.size+1∨k=w.heap.size+1+1):=
  (((((AB _ _ _ _).mono (fun k h=> .inr h))).trans ((AB _ _ _ _).mono (fun k h=> .inl h))).trans ((AB _ _ _ _).mono (fun k h=> .inl h))).trans ((AB _ _ _ _).mono (fun k h=> .inl h))
 exact⟨_,rfl,(O1.out.kp K (fun k hk=>by have:=ZO k hk;omega)).mono (by simp;omega),Below.kp B1 K B1.size (fun k hk=>by omega)⟩
end
section

def Dv(n:Int)(s:List Int):Prop:=(∀x ∈ s,0≤x∧x<n)∧s.Pairwise (· < ·)
def JK(xs:List Int):Prop:=∀x ∈ xs,(Lit.int .i64 x).wf=true
theorem JK.at{xs:List Int}(h:JK xs)(k:Nat)(hk:k<xs.length):(Lit.int .i64 (xs.getD k 0)).wf=true:=by
 rw[List.getD_eq_getElem?_getD,List.getElem?_eq_getElem hk];exact h _ (List.getElem_mem hk)
end
end Go.Proofs.YtcjmcgolgbkknaaGreatDoor
