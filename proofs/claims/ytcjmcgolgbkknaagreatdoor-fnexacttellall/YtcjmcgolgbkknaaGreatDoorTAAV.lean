/- Lemmas, as stated. -/
import Derived.Test.YtcjmcgolgbkknaaGreatDoorTAAU
set_option maxRecDepth 100000
set_option maxHeartbeats 8000000
set_option linter.unusedSectionVars false
namespace Go.Proofs.YtcjmcgolgbkknaaGreatDoor
section
open Go.RowKit Go.Shelf
variable [∀(a b c d:Int),Decidable (BG a b c d)] [∀(a b c d:Nat),Decidable (DZ a b c d)] [∀(last:Int)(s:St),Decidable (Aq last s)] [∀(x:T4),Decidable (Du x)]
attribute [local go_sem] Oper.semAt_some

section keeps
variable {W W':World} {row:Option Nat} {B:Nat}
theorem Oa{base e size n:Nat}{v:Value}{xs:List Value}(h:W.ownsRow base e size v n xs)(hg:W.grownBy W' row)(hr:∀r,row=some r→B≤r∧∃o:Obj,W.heap[r]? =some o∧o.isCells=false):W'.ownsRow base e size v n xs:=by
 refine h.kept hg ?_;rcases h.2 with⟨rfl,_⟩|⟨g,cap,cur,rfl,_,hgb,_⟩
 ·exact .inl rfl
 refine .inr fun e'=>?_;obtain⟨_,o,ho,hc⟩:=hr g (by simpa[Value.ownBlock]using e'.symm);rw[hgb]at ho;cases ho;cases hc
theorem G_{b:Nat}{t:TypeId}{v:Value}(h:Boxed W b t v)(hg:W.grownBy W' row)(hr:∀r,row=some r→B≤r∧∃o:Obj,W.heap[r]? =some o∧o.isCells=false):Boxed W' b t v:=by
 refine h.kept hg fun e=>?_;obtain⟨_,o,ho,hc⟩:=hr b e.symm;rw[show W.heap[b]? =_ from h]at ho;cases ho;cases hc
theorem U6{base:Nat}{v:Value}{ss:List St}{vs:List Value}(h:Ii W base v ss vs)(hg:W.grownBy W' row)(hr:∀r,row=some r→B≤r∧∃o:Obj,W.heap[r]? =some o∧o.isCells=false):Ii W' base v ss vs:=
 ⟨h.len,Oa h.row hg hr,fun k hk=>Oa (h.each k hk) hg hr,h.apart⟩
end keeps
structure Mem(w W:World)(ss:List St)(vs:List Value)(v:Value):Prop where
 r0:Boxed W w.heap.size 210 (.slice none 0 0)
 r1:Boxed W (w.heap.size+1) 4 (.bool false)
 st:Boxed W (w.heap.size+1+1) 210 v
 la:Boxed W (w.heap.size+1+1+1) 3 (.int .i64 (EI ss))
 own:Ii W (w.heap.size+5) v ss vs
 below:Below w.heap.size w W
 size:w.heap.size+5≤W.heap.size
theorem Mem.keep{w W W':World}{ss:List St}{vs:List Value}{v:Value}{row:Option Nat}{B:Nat}(h:Mem w W ss vs v)(hB:w.heap.size≤B)(hg:W.grownBy W' row)(hr:∀r,row=some r→B≤r∧∃o:Obj,W.heap[r]? =some o∧o.isCells=false):Mem w W' ss vs v:=
 ⟨G_ h.r0 hg hr,G_ h.r1 hg hr,G_ h.st hg hr,G_ h.la hg hr,U6 h.own hg hr,h.below.grown hg h.below.size (fun k e=>Nat.le_trans hB (hr k e).1),Nat.le_trans h.size hg.size⟩
theorem Qt{w W w1:World}{ss:List St}{vs:List Value}{v:Value}{tmp:Obj}(me:Mem w W ss vs v)(hg:(W.alloc tmp).grownBy w1 v.ownBlock):
 Boxed w1 w.heap.size 210 (.slice none 0 0)∧Boxed w1 (w.heap.size+1) 4 (.bool false)∧Boxed w1 (w.heap.size+1+1) 210 v∧Boxed w1 (w.heap.size+1+1+1) 3 (.int .i64 (EI ss))∧KeepsOthers W w1∧Below w.heap.size W w1∧W.heap.size≤w1.heap.size:=by
 have hne:∀b,b<w.heap.size+5→some b≠v.ownBlock:=fun b hb e=>by
  have:=(World.ownsRow.lt me.own.row b e.symm).1;omega
 have hz:=hg.size;simp only[World.size_alloc]at hz;refine⟨(me.r0.alloc tmp).kept hg (hne _ (by omega)),(me.r1.alloc tmp).kept hg (hne _ (by omega)),(me.st.alloc tmp).kept hg (hne _ (by omega)),(me.la.alloc tmp).kept hg (hne _ (by omega)),?_,?_,by omega⟩
 ·refine(KeepsOthers.alloc W tmp).trans (KeepsOthers.of_grownBy hg fun j o ej hj=>?_);rcases(me.own.row.alloc tmp).2 with⟨rfl,_⟩|⟨g,cap,cur,rfl,_,hgb,_⟩
  ·simp[Value.ownBlock]at ej
  obtain rfl:g=j:=by simpa[Value.ownBlock]using ej
  rw[hgb]at hj;cases hj;rfl
 have hsz:=me.below.size;refine((Below.refl w.heap.size W).alloc hsz tmp).grown hg (by simp;omega) fun j ej=>?_;have:=(World.ownsRow.lt me.own.row j ej).1;omega
theorem Rz{V:World}{B:Nat}{v:Value}{ss:List St}{vs:List Value}(h:Ii V B v ss vs)(b:Nat)(y:Value)(hb:b<B):Ii (V.setCell ⟨b,0,none⟩ y) B v ss vs:=by
 refine h.kept (Qy V ⟨b,0,none⟩ y) ?_ fun k hk=>?_
 ·cases hv:v.ownBlock with
  |none=>exact .inl rfl
  |some g=>
   refine .inr fun e=>?_;have:=(World.ownsRow.lt h.row g hv).1;have e2:g=b:=by simpa using e
   omega
 cases hv:(vs.getD k (.slice none 0 0)).ownBlock with
 |none=>exact .inl rfl
 |some g=>
  refine .inr fun e=>?_;have:=(World.ownsRow.lt (h.each k hk) g hv).1;have e2:g=b:=by simpa using e
  omega
theorem iT{w W w1:World}{ss:List St}{vs:List Value}{v v' u:Value}{x:St}{tmp:Obj}(me:Mem w W ss vs v)(hg:(W.alloc tmp).grownBy w1 v.ownBlock)(q8:Ii w1 (w.heap.size+5) v' (ss++[x]) (vs++[u])):
 Mem w ((w1.setCell ⟨w.heap.size+1+1,0,none⟩ v').setCell ⟨w.heap.size+1+1+1,0,none⟩ (.int .i64 x.1)) (ss++[x]) (vs++[u]) v'∧KeepsOthers W ((w1.setCell ⟨w.heap.size+1+1,0,none⟩ v').setCell ⟨w.heap.size+1+1+1,0,none⟩ (.int .i64 x.1))∧Below w.heap.size W ((w1.setCell ⟨w.heap.size+1+1,0,none⟩ v').setCell ⟨w.heap.size+1+1+1,0,none⟩ (.int .i64 x.1)):=by
 obtain⟨b0,b1,b2,b3,k1,bl,z⟩:=Qt me hg;have hset:∀(V:World)(b:Nat)(y:Value),b<w.heap.size+5→Ii V (w.heap.size+5) v' (ss++[x]) (vs++[u])→Ii (V.setCell ⟨b,0,none⟩ y) (w.heap.size+5) v' (ss++[x]) (vs++[u]):=fun V b y hb h=>Rz h b y hb;have bb:Below w.heap.size W ((w1.setCell ⟨w.heap.size+1+1,0,none⟩ v').setCell ⟨w.heap.size+1+1+1,0,none⟩ (.int .i64 x.1)):=(bl.setCell (p:=⟨w.heap.size+1+1,0,none⟩) (by show w.heap.size≤w.heap.size+1+1;omega) _).setCell (p:=⟨w.heap.size+1+1+1,0,none⟩) (by show w.heap.size≤w.heap.size+1+1+1;omega) _;refine⟨⟨(b0.other (by omega) _).other (by omega) _,(b1.other (by omega) _).other (by omega) _,(b2.set _).other (by omega) _,?_,hset _ _ _ (by omega) (hset _ _ _ (by omega) q8),me.below.trans bb,?_⟩,(k1.trans (KeepsOthers.setCell _ _ _)).trans (KeepsOthers.setCell _ _ _),bb⟩
 ·rw[O6];exact(b3.other (by omega) _).set _
 have:=bb.size;have:=me.size;omega
theorem lZ{w W w1:World}{ss:List St}{vs:List Value}{va ta:Option Addr}{vc tc N Q:Nat}{n:Int}{ts:List T4}{v':Value}(me:Mem w W ss vs (.slice va ss.length vc))(hN:∀j,j<ss.length→∀b,(vs.getD j (.slice none 0 0)).ownBlock=some b→b<N)(hbN:w.heap.size+5≤N)
 (ot:OT (W.alloc (.cells #[.int .i64 n,.slice ta ts.length tc] 248)) N (.slice ta ts.length tc) ts) (q0:W.cell? ⟨Q,0,none⟩=some (.int .i64 n)) (hvq:∀b,(Value.slice va ss.length vc).ownBlock=some b→b≠Q) (hQ:w.heap.size+5≤Q)
 (ho:w1.ownsRow (w.heap.size+5) 248 2 v' (ss.length+1) (FQ ((ss.map (·.1)).zip vs)++FW (n,.slice ta ts.length tc))) (hg:(W.alloc (.cells #[.int .i64 n,.slice ta ts.length tc] 248)).grownBy w1 (Value.slice va ss.length vc).ownBlock):
 ∃g' cap',v'= .slice (some ⟨g',0,none⟩) (ss.length+1) cap'∧w1.cell? ⟨w.heap.size+1+1,0,none⟩=some (.slice va ss.length vc)∧w1.frozen? ⟨w.heap.size+1+1,0,none⟩=false∧
  (w1.setCell ⟨w.heap.size+1+1,0,none⟩ v').cell? ⟨w.heap.size+1+1+1,0,none⟩=some (.int .i64 (EI ss))∧(w1.setCell ⟨w.heap.size+1+1,0,none⟩ v').frozen? ⟨w.heap.size+1+1+1,0,none⟩=false∧(w1.setCell ⟨w.heap.size+1+1,0,none⟩ v').cell? ⟨Q,0,none⟩=some (.int .i64 n)∧
  Hid (Mem w ((w1.setCell ⟨w.heap.size+1+1,0,none⟩ v').setCell ⟨w.heap.size+1+1+1,0,none⟩ (.int .i64 n)) (ss++[(n,ts)]) (vs++[.slice ta ts.length tc]) v'∧KeepsOthers W ((w1.setCell ⟨w.heap.size+1+1,0,none⟩ v').setCell ⟨w.heap.size+1+1+1,0,none⟩ (.int .i64 n))∧Below w.heap.size W ((w1.setCell ⟨w.heap.size+1+1,0,none⟩ v').setCell ⟨w.heap.size+1+1+1,0,none⟩ (.int .i64 n))):=by
 have bX:Below W.heap.size W (W.alloc (.cells #[.int .i64 n,.slice ta ts.length tc] 248)):=(Below.refl _ _).alloc Ak _;have q8:=U5 (me.own.below bX) ot hN hbN ho hg;obtain⟨g',cap',e⟩:=ownsRow_succ ho;obtain⟨_,_,b2,b3,_,_,_⟩:=Qt me hg;have b3':=b3.other (B':=w.heap.size+1+1) (by omega) v';have hq1:w1.heap[Q]? =W.heap[Q]?:=(hg.block Q (by have:=AQ q0;simp at *; omega) (fun e=>hvq Q e.symm rfl)).trans (Below.heap_alloc _ _ _ (AQ q0));have p0:w1.cell? ⟨Q,0,none⟩=some (.int .i64 n):=(World.cell?_of_block (w:=W) (w':=w1) hq1).trans q0;exact⟨g',cap',e,b2.cell,b2.frozen,b3'.cell,b3'.frozen,(World.cell?_setCell_other _ _ _ _ (fun e=>by have:=congrArg Addr.block e;simp only at this;omega)).trans p0,hide (iT (x:=(n,ts)) me hg q8)⟩
def jv(s:ByteArray)(k:Nat)(ss:List St):Prop:=ss.length=k∧s.data.toList=nm ss++FX s.data.toList k∧IV ss
def SI(s:ByteArray)(w:World)(k:Nat)(W:World):Prop:=∃ss vs v,jv s k ss∧Mem w W ss vs v
def SX(s:ByteArray)(w:World)(_:Nat)(W:World):Prop:=AP s=none∧Boxed W w.heap.size 210 (.slice none 0 0)∧Boxed W (w.heap.size+1) 4 (.bool false)∧Below w.heap.size w W
abbrev AAl(w:World):Value:= .func (.func 234) #[] #[.pointer (some ⟨w.heap.size+1+1+1+1,0,none⟩)]
def SA(s:ByteArray)(w:World)(k:Nat)(a':Act)(W:World):Prop:=∃(ss:List St)(vs:List Value)(v u:Value)(N Q:Nat),jv s k ss∧Mem w W ss vs v∧(∀j,j<ss.length→∀b,(vs.getD j (.slice none 0 0)).ownBlock=some b→b<N)∧w.heap.size+5≤N∧OT W N u (stepT (Cs (pc (FX s.data.toList k))))∧
 w.heap.size+5≤Q∧Two W Q (((Cs (pc (FX s.data.toList k))).map (·.1)).getD 0) u∧(∀b,v.ownBlock=some b→b≠Q)∧
 a'={ tmps:= #[.string s,undef,.pointer (some ⟨w.heap.size,0,none⟩),.pointer (some ⟨w.heap.size+1,0,none⟩),.pointer (some ⟨w.heap.size+1+1,0,none⟩),.pointer (some ⟨w.heap.size+1+1+1,0,none⟩),.pointer (some ⟨Q,0,none⟩),.bool (Cs (pc (FX s.data.toList k))).isSome,.string s,AAl w,Im (Cs (pc (FX s.data.toList k))) u,.bool (Cs (pc (FX s.data.toList k))).isSome,undef,undef,undef,undef,undef,undef,undef,undef,undef,undef,undef,undef,undef,undef,undef,undef,undef,undef,undef,undef,undef,undef,undef,undef,undef,undef,undef,undef],defers:=[] }

theorem LV(s:ByteArray)(w:World)(hs:s.size≤33554432)(hE:Env w):
 Calls Tryz.prog 176 #[.string s] w fun e w'=>∃v,e= .returned (.tuple #[v,.bool (AP s).isSome])∧Zf w' w.heap.size v ((AP s).getD [])∧Below w.heap.size w w':=by
 obtain⟨m,hm⟩:=rounds s.data.toList;have SO:=hide fun w=>UY s w;refine(callsIn_wide (n:=5)).1 ?_;refine callsIn_of_wp_marks Tryz.func176 rfl trivial ?_ rfl;simp only[Tryz.ntmps176,List.size_toArray,List.length_cons,List.length_nil,Nat.reduceAdd,Nat.reduceSub,Array.replicate_succ,Array.replicate_zero,List.push_toArray,List.append_toArray,List.nil_append,List.cons_append]
 gi_wp2_with fail
 refine⟨trivial,(callsIn_wide.2 (SO.out _)).mono ?_⟩;rintro _ w1 ⟨rfl,rfl⟩
 gi_wp2
 obtain⟨wl,hwl⟩:∃wl,((((w.alloc (.cells #[.slice none 0 0] 210)).alloc (.cells #[.bool false] 4)).alloc (.cells #[.slice none 0 0] 210)).alloc (.cells #[.int .i64 0] 3)).alloc (.cells #[.string s] 9)=wl:=⟨_,rfl⟩
 have zl:wl.heap.size=w.heap.size+5:=by rw[←hwl];simp
 have bl:Below w.heap.size w wl:=hwl▸(((((Below.refl _ _).alloc Ak _).alloc (by simp) _).alloc (by simp;omega) _).alloc (by simp;omega) _).alloc (by simp;omega) _
 have m0:Mem w wl [] [] (.slice none 0 0):=by
  refine⟨?_,?_,?_,?_,⟨rfl,World.ownsRow_nil _ _ _ _,fun k hk=>by simp at hk,fun i j _ hj=>by simp at hj⟩,bl,by omega⟩
  ·rw[←hwl];exact((((Boxed.new w _ _).alloc _).alloc _).alloc _).alloc _
  ·rw[←hwl];have:=(((Boxed.new (w.alloc (.cells #[.slice none 0 0] 210)) 4 (.bool false)).alloc (.cells #[.slice none 0 0] 210)).alloc (.cells #[.int .i64 0] 3)).alloc (.cells #[.string s] 9);simpa using this
  ·rw[←hwl];have:=((Boxed.new ((w.alloc (.cells #[.slice none 0 0] 210)).alloc (.cells #[.bool false] 4)) 210 (.slice none 0 0)).alloc (.cells #[.int .i64 0] 3)).alloc (.cells #[.string s] 9);simpa using this
  rw[←hwl];have:=(Boxed.new (((w.alloc (.cells #[.slice none 0 0] 210)).alloc (.cells #[.bool false] 4)).alloc (.cells #[.slice none 0 0] 210)) 3 (.int .i64 0)).alloc (.cells #[.string s] 9);simpa[EI]using this
 have cl:wl.cell? ⟨w.heap.size+4,0,none⟩=some (.string s):=by
  have:=(Boxed.new ((((w.alloc (.cells #[.slice none 0 0] 210)).alloc (.cells #[.bool false] 4)).alloc (.cells #[.slice none 0 0] 210)).alloc (.cells #[.int .i64 0] 3)) 9 (.string s)).cell;rw[hwl]at this;simpa using this
 have hzz:((((w.alloc (.cells #[.slice none 0 0] 210)).alloc (.cells #[.bool false] 4)).alloc (.cells #[.slice none 0 0] 210)).alloc (.cells #[.int .i64 0] 3)).heap.size=w.heap.size+4:=by simp
 have FE:=Xz s hs m (w.heap.size+4) 4 hm w wl hE bl cl;rw[hwl]
 try simp only[hzz]
 clear hwl hzz;refine aU rfl (by omega) (gf:=234) (lb:= #[.pointer (some ⟨w.heap.size+4,0,none⟩)]) rfl trivial (enters_of Tryz.func234 (by kernel_rfl) rfl) (hn₀:=by omega) (fun k vs U W h=>by obtain⟨v,rfl,_⟩:=h;rfl) FE
  (SI s w) (SX s w) ?hI ?hX ?h0 (SA s w) ?hAx ?hassign ?hbody ?hdone ?hstop
 case hI=>
  rintro k W W' row ⟨ss,vs,v,so,me⟩ hg hr;exact⟨ss,vs,v,so,me.keep (by omega) hg hr⟩
 case hX=>
  rintro k W W' row ⟨h1,h2,h3,h4⟩ hg hr;exact⟨h1,G_ h2 hg hr,G_ h3 hg hr,h4.grown hg h4.size (fun k e=>by have:=(hr k e).1;omega)⟩
 case h0=>exact⟨[],[],_,⟨rfl,rfl,by simp[IV]⟩,m0⟩
 case hAx=>
  rintro a' k W W' row ⟨ss,vs,v,u,N,Q,so,me,h1,h2,h3,h4,h5,h7,h8⟩ hg hr;exact⟨ss,vs,v,u,N,Q,so,me.keep (by omega) hg hr,h1,h2,Oa h3 hg hr,h4,⟨cell_kept h5.1 hg (fun r e=>(hr r e).2),cell_kept h5.2 hg (fun r e=>(hr r e).2)⟩,h7,h8⟩
 case hassign=>
  intro l k vs U W K hk hi bU hh hK;obtain⟨ss,ws,v,so,me⟩:=hi;obtain⟨u,rfl,ot⟩:=hh;have hN:∀j,j<ss.length→∀b,(ws.getD j (.slice none 0 0)).ownBlock=some b→b<U.heap.size:=fun j hj b hb=>(World.ownsRow.lt (me.own.each j hj) b hb).2;have hV:∀b,v.ownBlock=some b→b<U.heap.size:=fun b hb=>(World.ownsRow.lt me.own.row b hb).2;have hU:=me.size;have hUW:=bU.size;have meW:=me.keep (B:=w.heap.size) Ak (grown_of bU) (fun r e=>by cases e)
  obtain⟨ta,tl,tc,rfl⟩:∃ta tl tc,u= .slice ta tl tc:=by
   rcases ot.2 with⟨rfl,h0⟩|⟨g,cap,cur,rfl,_⟩
   ·exact⟨none,0,0,rfl⟩
   exact⟨_,_,_,rfl⟩
  have SAK:∀a',a'=_→SA s w k a' (W.alloc (.cells #[.int .i64 (((Cs (pc (FX s.data.toList k))).map (·.1)).getD 0),.slice ta tl tc] 248)):=fun a' ha=>⟨ss,ws,v,.slice ta tl tc,U.heap.size,W.heap.size,so,meW.keep (B:=w.heap.size) Ak (World.grownBy_alloc W _ none) (fun r e=>by cases e),hN,hU,World.ownsRow.alloc ot _,by omega,Y7 W _ _ _,fun b hb=>by have:=hV b hb;omega,ha⟩
  have bA:Below w.heap.size W (W.alloc (.cells #[.int .i64 (((Cs (pc (FX s.data.toList k))).map (·.1)).getD 0),.slice ta tl tc] 248)):=(Below.refl _ _).alloc (by omega) _;have kA:KeepsFrom wl.heap.size W (W.alloc (.cells #[.int .i64 (((Cs (pc (FX s.data.toList k))).map (·.1)).getD 0),.slice ta tl tc] 248)):=(KeepsOthers.alloc _ _).from _;clear hN hV meW me ot so FE hE
  gi_wp2
  exact hK _ _ kA bA (SAK _ rfl)
 case hbody=>
  rintro l k a' W hk ⟨ss,vs,v,u,N,Q,so,me,hN,hbN,ot,hQ,two,hvq,rfl⟩;have c0:=me.r0.cell;have f0:=me.r0.frozen;have c1:=me.r1.cell;have f1:=me.r1.frozen;have c2:=me.st.cell;have c3:=me.la.cell;have hl0:=VM so.2.2;have wV:=so.2.2.1
  have NO:Hid ((∀x,Cs (pc (FX s.data.toList k))=some x→Aq (EI ss) x→ss.length<30→False)→AP s=none):=hide fun h=>by
   refine iH so.2.1 (hm.2 k hk) so.2.2 ?_ h;cases k with
   |zero=>exact .inl (List.length_eq_zero_iff.1 so.1)
   |succ k=>exact .inr ((lh (FX s.data.toList k)).resolve_left (hm.2 (k+1) hk))
  have OUT:Hid (AP s=none→SX s w k ((W.setCell ⟨w.heap.size,0,none⟩ (.slice none 0 0)).setCell ⟨w.heap.size+1,0,none⟩ (.bool false))∧KeepsFrom wl.heap.size W ((W.setCell ⟨w.heap.size,0,none⟩ (.slice none 0 0)).setCell ⟨w.heap.size+1,0,none⟩ (.bool false))):=hide fun h=>⟨⟨h,(me.r0.set _).other (by omega) _,(me.r1.other (by omega) _).set _,(me.below.setCell (p:=⟨w.heap.size,0,none⟩) Ak _).setCell (p:=⟨w.heap.size+1,0,none⟩) (by show w.heap.size≤w.heap.size+1;omega) _⟩,((KeepsOthers.setCell _ _ _).trans (KeepsOthers.setCell _ _ _)).from _⟩
  obtain⟨va,vc,rfl⟩:=Zf.form ⟨vs,me.own⟩;obtain⟨q0,q1⟩:=two
  have ON:Hid (∀x,Cs (pc (FX s.data.toList k))=some x→Aq (EI ss) x→ss.length<30→jv s (k+1) (ss++[x])):=hide fun x hx hg zF=>by
   obtain⟨h1,h2⟩:=iG so.2.1 so.2.2 hx hg zF;exact⟨by simp[so.1],h1,h2⟩
  obtain⟨o,ho⟩:∃o,Cs (pc (FX s.data.toList k))=o:=⟨_,rfl⟩
  rw[ho]at NO ON ot q0⊢;have ME:=hide me;clear FE hm so me ho hE cl m0 bl;cases o with
  |none=>
   have OUT:=hide (OUT.out (NO.out fun x hx=>by cases hx));clear NO ON;simp only[Option.isSome_none,Option.map_none,Option.getD_none,Im]at *
   gi_wp2_with fail
   refine⟨trivial,?_⟩
   gi_wp2
   exact⟨OUT.out.2,OUT.out.1⟩
  | some x=>
   obtain⟨n,ts⟩:=x;simp only[Option.isSome_some,Option.map_some,Option.getD_some,Im,stepT]at *
   obtain⟨ta,tc,rfl⟩:∃ta tc,u= .slice ta ts.length tc:=by
    rcases ot.2 with⟨rfl,h0⟩|⟨g,cap,cur,rfl,_⟩
    ·exact⟨none,0,by rw[h0]⟩
    exact⟨_,_,rfl⟩
   have OT':=hide ot;clear ot;by_cases g0:ss.length=30
   ·have OUT:=hide (OUT.out (NO.out fun x _ _ h=>by omega));clear NO ON;have g0':decide ((ss.length:Int)=30)=true:=by simp;omega
    gi_wp2_with fail
    refine⟨trivial,?_⟩
    gi_wp2
    exact⟨OUT.out.2,OUT.out.1⟩
   have g0':decide ((ss.length:Int)=30)=false:=by simp;omega
   have g0b:(((ss.length:Nat):Int)==30)=false:=by rw[beq_eq_false_iff_ne];omega
   by_cases g3:2<ts.length
   ·have OUT:=hide (OUT.out (NO.out fun x hx h _=>by cases hx;have:=h.2.2;simp only at this;omega));clear NO ON;have g3':decide ((2:Int)<(ts.length:Int))=true:=by simp;omega
    gi_wp2_with fail
    refine⟨trivial,?_⟩
    gi_wp2
    exact⟨OUT.out.2,OUT.out.1⟩
   have g3':decide ((2:Int)<(ts.length:Int))=false:=by simp;omega
   by_cases g1:EI ss+1≤n∧n≤60
   ·have WI:=hide fun w=>Ci n (EI ss+1) 60 w g1.1 g1.2;have ON:=hide (ON.out (n,ts) rfl ⟨by show EI ss<n;omega,g1.2,by show ts.length≤2;omega⟩ (by omega));clear NO OUT;obtain⟨i0,hi,hz0,hz1,hz2⟩:=info_parts Tryz.infoSt;have me:=ME.out;have sz:=me.size;have bX:Below W.heap.size W (W.alloc (.cells #[.int .i64 n,.slice ta ts.length tc] 248)):=(Below.refl _ _).alloc Ak _;have R7:=me.own.below bX;have wC:=OT'.out.below bX;clear OT' me
    gi_wp2_with fail
    refine⟨trivial,(CallsIn.inRound l (callsIn_wide.2 (WI.out _))).mono ?_⟩;rintro _ w2 ⟨rfl,rfl⟩
    gi_wp2_with (gi_at_builtin;refine wpListIn_append_own _ rfl _ _ 210 rfl (w.heap.size+5) 248 i0 (.agg #[.int .i64 0,.slice none 0 0]) 2 32 Tryz.underlying210 hi hz0 hz1 hz2 rfl (by decide) _ _ _ rfl R7.row ⟨w2.heap.size,0,none⟩ 1 1 (FW (n,.slice ta ts.length tc)) rfl rfl (Tz w2 (n,.slice ta ts.length tc) 248) (QZ _ _ _ _) (by unfold maxLen;omega) (by omega) (by simp;omega) ?_;intro v' w1 hown' hgrow _;obtain⟨g',cap',rfl,d2,e2,d3,e3,p1,MM⟩:=lZ ME.out hN hbN wC q0 hvq hQ hown' hgrow;clear hgrow hown' R7 wC ME q0 q1 c0 c1 c2 c3 f0 f1 bX)
    exact⟨MM.out.2.1.from _,MM.out.2.2,⟨_,_,_,ON.out,MM.out.1⟩⟩
   have OUT:=hide (OUT.out (NO.out fun x hx h _=>by cases hx;have h1:=h.1;have h2:=h.2.1;simp only at h1 h2;omega));have WI:=hide fun w=>Dm n (EI ss+1) 60 w (by omega);clear NO ON
   gi_wp2_with fail
   refine⟨trivial,(CallsIn.inRound l (callsIn_wide.2 (WI.out _))).mono ?_⟩;rintro _ w2 ⟨rfl,rfl⟩
   gi_wp2
   exact⟨OUT.out.2,OUT.out.1⟩
 case hdone=>
  rintro D W hD ⟨ss,vs,v,so,me⟩ hK;have HA:=hide (ag (by have:=so.2.1;rwa [hm.1]at this) so.2.2);obtain⟨va,vc,rfl⟩:=Zf.form ⟨vs,me.own⟩;have c0:=me.r0.cell;have f0:=me.r0.frozen;have b1:=me.r1.other (B':=w.heap.size) (by omega) (.slice va ss.length vc);have c1:=b1.cell;have f1:=b1.frozen;have c2:=me.st.cell;have ME:=hide me;have B0:=(((me.r0.set (.slice va ss.length vc)).other (B':=w.heap.size+1) (by omega) (.bool true)).kept (grownBy_putObj' _ D (.deferred none)) (fun e=>by cases e;omega)).cell;have B1:=((b1.set (.bool true)).kept (grownBy_putObj' _ D (.deferred none)) (fun e=>by cases e;omega)).cell;have hK':=(KeepsOthers.setCell (W.setCell ⟨w.heap.size,0,none⟩ (.slice va ss.length vc)) ⟨w.heap.size+1,0,none⟩ (.bool true)).same D _ ((KeepsOthers.setCell W ⟨w.heap.size,0,none⟩ (.slice va ss.length vc)).same D _ hK rfl) rfl;clear FE hm so me hE cl m0 bl b1
  gi_wp2
  refine⟨by simp,.inl ⟨_,_,rfl,run_takeDeferred hK',?_⟩⟩;refine⟨.tuple #[.slice va ss.length vc,.bool true],by simp[results,Tryz.results176,go_sem,B0,B1],.slice va ss.length vc,by rw[HA.out];rfl,?_,?_⟩
  ·rw[HA.out];have h1:=Rz (Rz ME.out.own w.heap.size (.slice va ss.length vc) (by omega)) (w.heap.size+1) (.bool true) (by omega);have h2:=U6 (B:=0) h1 (grownBy_putObj' _ D (.deferred none)) (fun r e=>by cases e;exact⟨Nat.zero_le _,_,hK',rfl⟩);exact⟨vs,h2.len,JB h2.row (by omega),fun k hk=>JB (h2.each k hk) (by omega),h2.apart⟩
  exact((ME.out.below.setCell (p:=⟨w.heap.size,0,none⟩) Ak _).setCell (p:=⟨w.heap.size+1,0,none⟩) (by show w.heap.size≤w.heap.size+1;omega) _).trans (belowK_b (w:=w) Ak _ D _ _ (by omega) hK' rfl rfl)
 case hstop=>
  rintro D k W hD hk ⟨hn,b0,b1,fH⟩ hK;have B0:=(b0.kept (grownBy_putObj' _ D (.deferred none)) (fun e=>by cases e;omega)).cell;have B1:=(b1.kept (grownBy_putObj' _ D (.deferred none)) (fun e=>by cases e;omega)).cell;clear FE hm hE cl m0 bl
  gi_wp2
  refine⟨by simp,.inl ⟨_,_,rfl,run_takeDeferred hK,?_⟩⟩;refine⟨.tuple #[.slice none 0 0,.bool false],by simp[results,Tryz.results176,go_sem,B0,B1],.slice none 0 0,by rw[hn];rfl,by rw[hn];exact mE _ _,?_⟩;exact fH.trans (belowK_b (w:=w) Ak _ D _ _ (by omega) hK rfl rfl)
end
section
open Go.RowKit
variable [∀(a b c d:Int),Decidable (BG a b c d)] [∀(a b c d:Nat),Decidable (DZ a b c d)] [∀(last:Int)(s:St),Decidable (Aq last s)] [∀(x:T4),Decidable (Du x)]
theorem YA(s:ByteArray)(w:World)(hs:s.size≤33554432)(hE:Env w):
 Calls Tryz.prog 138 #[.string s] w fun e w'=>e= .returned (.bool (AP s).isSome)∧Below w.heap.size w w':=by
 have ST:=hide fun w hE=>LV s w hs hE;generalize AP s=A at *;go_enter Tryz.func138,Tryz.ntmps138
 go_wp2_with fail
 refine(ST.out _ hE).mono ?_;rintro e w1 ⟨v,rfl,_,b1⟩;go_wp2;go_ret;exact⟨rfl,b1⟩


theorem PG(s:ByteArray)(w:World)(hs:s.size≤33554432)(hE:Env w):
 Calls Tryz.prog 354 #[.string s] w fun e w'=>e= .returned (.int .i64 (Bg s))∧Below w.heap.size w w':=by
 have ST:=hide fun w hE=>LV s w hs hE;have hl:∀ss,AP s=some ss→ss.length≤30:=fun ss h=>((Cf _ _).1 h).2.1;unfold Bg;generalize AP s=A at *;go_enter Tryz.func354,Tryz.ntmps354
 go_wp2_with fail
 refine(ST.out _ hE).mono ?_;rintro e w1 ⟨v,rfl,o1,b1⟩;obtain⟨ao,ca,rfl⟩:=o1.form;clear o1 ST hE;cases A with
 |none=>
  go_wp2;go_ret;exact⟨rfl,b1⟩
 |some ss=>
  have hl:=hl ss rfl;go_wp2;go_ret;exact⟨rfl,b1⟩


theorem O9(s:ByteArray)(w:World)(hs:s.size≤33554432)(hE:Env w):
 Calls Tryz.prog 208 #[.string s] w fun e w'=>e= .returned (.int .i64 (Av s))∧Below w.heap.size w w':=by
 have ST:=hide fun w hE=>LV s w hs hE;have hl:∀ss,AP s=some ss→ss.length≤30∧∀x ∈ ss,Lj x:=fun ss h=>⟨((Cf _ _).1 h).2.1,((Cf _ _).1 h).2.2.1⟩
 unfold Av;generalize AP s=A at *;go_enter Tryz.func208,Tryz.ntmps208
 go_wp2_with fail
 refine(ST.out _ hE).mono ?_;rintro e w1 ⟨v,rfl,o1,b1⟩;cases A with
 |none=>
  obtain⟨ao,ca,rfl⟩:=o1.form;clear o1 ST hl;go_wp2;go_ret;exact⟨rfl,b1⟩
 | some ss=>
  obtain⟨hl,hok⟩:=hl ss rfl;obtain⟨ao,ca,hv,r⟩:=o1.WQ (fun x hx=>by have:=(hok x hx).2.1;omega);subst hv;clear o1 ST hok;simp only[Option.getD_some]at *;rcases r with rfl|⟨g,rfl,r⟩
  ·go_wp2;go_ret;exact⟨rfl,b1⟩
  by_cases h0:ss.length=0
  ·obtain rfl:=List.length_eq_zero_iff.1 h0;go_wp2;go_ret;exact⟨rfl,b1⟩
  obtain⟨n,hn⟩:∃n,ss.length=n+1:=⟨ss.length-1,by omega⟩
  obtain⟨u,c0,c1,_⟩:=r n (by omega)
  have hlast:=hide (show(ss.getLast?.map (·.1)).getD 0=(ss.getD n kI).1 by
   rw[List.getLast?_eq_getElem?,List.getD_eq_getElem?_getD,List.getElem?_eq_getElem (show ss.length-1<ss.length by omega),List.getElem?_eq_getElem (show n<ss.length by omega)];simp[hn])
  have hi:((n+1:Nat):Int)-1=n:=by omega
  generalize (ss.getD n kI).1=x at *;clear r h0;go_wp2;go_ret;exact⟨by rw[show((some ss).getD [])=ss from rfl,hlast.out];rfl,b1⟩


theorem mQ{s:ByteArray}{ss:List St}(h:AP s=some ss)(h1:1≤ss.length):∃k:Nat,k<s.size∧Lib.lastIndexByte s 47=k∧s.extract 0 k=FV s:=by
 have hat:∀j,j<s.size→s.data.toList[j]? =some s.data[j]!:=fun j hj=>by
  rw[getElem!_pos s.data j (by simpa using hj)];simp
 have hl:s.data.toList.length=s.size:=by simp
 rcases Lib.lastIndexByte_spec s 47 with⟨_,h2⟩|⟨i,hi,e,hx,hn⟩
 ·exfalso;obtain⟨h3,_⟩:=(Cf _ _).1 h;cases ss with
  |nil=>simp at h1
  | cons x ss=>
   have h0:s.data.toList[0]? =some 47:=by rw[h3];rfl
   have hz:0<s.size:=by
    have:=(List.getElem?_eq_some_iff.1 h0).1;omega
   have:=h2 0 hz;rw[hat 0 hz]at h0;rw[Option.some.inj h0]at this;exact this rfl
 refine⟨i,hi,e,?_⟩
 have hi':s.data.toList[i]? =some 47:=by
  rw[hat i hi];congr 1;exact UInt8.toNat_inj.1 (by show s.data[i]!.toNat=47;omega)
 have hd:(47:UInt8) ∉ s.data.toList.drop (i+1):=fun hm=>by
  obtain⟨j,hj,e2⟩:=List.getElem_of_mem hm;rw[List.length_drop]at hj;rw[List.getElem_drop]at e2;have hj2:i+1+j<s.size:=by omega
  have h4:=hat _ hj2;rw[List.getElem?_eq_getElem (by omega),e2]at h4;have:=hn (i+1+j) (by omega) hj2;rw[←Option.some.inj h4]at this;exact this rfl
 have:=gJ h (i+1) (by omega) hd (.inr hi');rw[←this,Kl];simp

theorem jA(s:ByteArray)(w:World)(hs:s.size≤33554432)(hE:Env w):
 Calls Tryz.prog 355 #[.string s] w fun e w'=>e= .returned (.string (FV s))∧Below w.heap.size w w':=by
 have HT:=hide fun w hE=>PG s w hs hE;have LM:=hide fun w=>dF 47 s w hs
 have hc:Bg s<1→FV s=⟨#[]⟩:=fun h=>by
  unfold Bg at h;unfold FV;cases e:AP s with
  |none=>rfl
  |some ss=>
   rw[e]at h;have:ss=[]:=List.length_eq_zero_iff.1 (by simp only at h;omega);subst this;rfl
 have hh:¬Bg s<1→∃k:Nat,k<s.size∧Lib.lastIndexByte s 47=k∧s.extract 0 k=FV s:=fun h=>by
  unfold Bg at h;cases e:AP s with
  |none=>rw[e]at h;simp at h
  |some ss=>rw[e]at h;exact mQ e (by simp only at h;omega)
 have e47:(((47:UInt8).toNat:Nat):Int)=47:=rfl;rw[e47]at LM;generalize Bg s=n at *;by_cases hn:n<1
 ·rw[hc hn];clear LM hc hh;have hn':decide (n<1)=true:=by simpa using hn
  go_enter Tryz.func355,Tryz.ntmps355
  go_wp2_with fail
  refine(HT.out _ hE).mono ?_;rintro _ w1 ⟨rfl,b1⟩;clear HT hE;go_wp2;go_ret;exact⟨rfl,b1⟩
 obtain⟨k,hk,e1,e2⟩:=hh hn;rw[e1]at LM;rw[←e2];have CL:=hide fun w=>EK (s.extract 0 k) w (by rw[ByteArray.size_extract];omega);clear hc hh e1 e2;have hn':decide (n<1)=false:=by simpa using hn
 go_enter Tryz.func355,Tryz.ntmps355
 go_wp2_with fail
 refine(HT.out _ hE).mono ?_;rintro _ w1 ⟨rfl,b1⟩;clear HT hE;go_wp2_with fail
 refine(LM.out _).mono ?_;rintro _ w2 ⟨rfl,rfl⟩;go_wp2_with fail
 refine(CL.out _).mono ?_;rintro _ w3 ⟨rfl,b3⟩;go_wp2;go_ret;exact⟨rfl,bu b1 b3⟩
end
section
open Go.RowKit
theorem O8(xs:List Int)(k:Nat)(h:k<xs.length):xs.take (k+1)=xs.take k++[xs.getD k 0]:=by
 rw[List.take_succ_eq_append_getElem h,List.getD_eq_getElem?_getD,List.getElem?_eq_getElem h];rfl
theorem Sg{xs:List Int}{k:Nat}(h:k<xs.length):xs.getD k 0 ∈ xs:=by
 rw[List.getD_eq_getElem?_getD,List.getElem?_eq_getElem h];exact List.getElem_mem h
end
section
open Go.RowKit
variable [∀(n:Int)(s:List Int),Decidable (Dv n s)]
theorem mG{n:Int}{xs:List Int}{k:Nat}(hk:k<xs.length)(h:Dv n (xs.take k))(h0:0≤xs.getD k 0)(h1:xs.getD k 0<n)(h2:0<k→xs.getD (k-1) 0<xs.getD k 0):Dv n (xs.take (k+1)):=by
 rw[O8 xs k hk];refine⟨fun x hx=>?_,List.pairwise_append.2 ⟨h.2,by simp,fun x hx y hy=>?_⟩⟩
 ·rcases List.mem_append.1 hx with hx|hx
  ·exact h.1 x hx
  simp at hx;subst hx;exact⟨h0,h1⟩
 simp at hy;subst hy;by_cases hk0:0<k
 ·have h3:=h2 hk0
  have e:xs.take k=xs.take (k-1)++[xs.getD (k-1) 0]:=by
   have:=O8 xs (k-1) (by omega)
   rwa [show k-1+1=k by omega]at this
  have hp:=h.2;rw[e]at hx hp;rcases List.mem_append.1 hx with hx|hx
  ·have:=(List.pairwise_append.1 hp).2.2 x hx (xs.getD (k-1) 0) (by simp);simp only[List.getD_eq_getElem?_getD]at *;omega
  simp at hx;simp only[List.getD_eq_getElem?_getD]at *;omega
 have:k=0:=by omega
 subst this;simp at hx
theorem rC{n:Int}{xs:List Int}{k:Nat}(hk:k<xs.length)(h:xs.getD k 0<0∨n≤xs.getD k 0∨(0<k∧xs.getD k 0≤xs.getD (k-1) 0)):¬Dv n xs:=fun ho=>by
 have hm:=ho.1 _ (Sg hk);rcases h with h|h|⟨h0,h⟩
 ·omega
 ·omega
 have:=List.pairwise_iff_getElem.1 ho.2 (k-1) k (by omega) hk (by omega);rw[List.getD_eq_getElem?_getD,List.getD_eq_getElem?_getD,List.getElem?_eq_getElem hk,List.getElem?_eq_getElem (show k-1<xs.length by omega)]at h;simp at h;omega

theorem EE(m:Int)(v:Value)(xs:List Int)(w:World)(h:RI w v xs):
 Calls Tryz.prog 165 #[.int .i64 m,v] w fun e w'=>e= .returned (.bool (decide (Dv m xs)))∧Below w.heap.size w w':=by
 have hl:=h.1;obtain⟨ao,ca,rfl⟩:=h.form;have H:=hide h;obtain⟨n,hn⟩:∃n,xs.length=n:=⟨_,rfl⟩
 have Hn:=hide hn;obtain⟨r,hr⟩:∃r,decide (Dv m xs)=r:=⟨_,rfl⟩
 have HR:=hide hr;rw[hn]at hl H⊢;rw[hr];clear h hn hr;go_enter Tryz.func165,Tryz.ntmps165
 go_wp2
 go_loopw [5] (fun j wr=>∃k:Nat,k≤n∧j= .int .i64 k∧Hid (Dv m (xs.take k))∧Below w.heap.size w wr) (fun j _=>n-(intOf j).toNat)
 case atStart=>exact⟨0,Nat.zero_le _,rfl,hide (by simp[Dv]),Below.refl _ _⟩
 case round=>
  obtain⟨k,hk,rfl,HK,br⟩:=hrel;have HR2:=hide (H.out.below br);by_cases hlt:k<n
  ·have hkx:k<xs.length:=by have:=Hn.out;omega
   obtain⟨b,off,rfl,c⟩:=HR2.out.at k hkx
   have HP:Hid (0<k→wr.cell? ⟨b,off+(k-1),none⟩=some (.int .i64 (xs.getD (k-1) 0))):=hide fun h0=>by
    obtain⟨b',off',e,c'⟩:=HR2.out.at (k-1) (by omega);cases e;exact c'
   have HG:=hide fun h0 h1 h2=>mG hkx HK.out h0 h1 h2;have HB:=hide fun h=>rC (n:=m) hkx h;generalize xs.getD k 0=d at *;by_cases g0:d<0
   ·have hrr:r=false:=by rw[←HR.out];exact decide_eq_false (HB.out (.inl g0))
    subst hrr;have g0':decide (d<0)=true:=by simpa using g0
    clear HG HB HP HK;go_wp2_with fail
    go_quiet (fail)
    go_wp2;go_ret;exact⟨rfl,by first|exact br|exact below_drewN' br _⟩
   have g0':decide (d<0)=false:=by simpa using g0
   by_cases g1:m≤d
   ·have hrr:r=false:=by rw[←HR.out];exact decide_eq_false (HB.out (.inr (.inl g1)))
    subst hrr;have g1':decide (m≤d)=true:=by simpa using g1
    clear HG HB HP HK;go_wp2_with fail
    go_quiet (fail)
    go_wp2;go_ret;exact⟨rfl,by first|exact br|exact below_drewN' br _⟩
   have g1':decide (m≤d)=false:=by simpa using g1
   by_cases hk0:0<k
   ·have c2:=HP.out hk0;obtain⟨j,rfl⟩:∃j,k=j+1:=⟨k-1,by omega⟩
    rw[show j+1-1=j by omega]at c2 HG HB;generalize xs.getD j 0=p at *;have ej:(((j+1:Nat):Int))-1=(j:Int):=by omega
    have hk0':decide ((0:Int)<((j+1:Nat):Int))=true:=by rw[decide_eq_true_iff];omega
    by_cases g2:d≤p
    ·have hrr:r=false:=by rw[←HR.out];exact decide_eq_false (HB.out (.inr (.inr ⟨by omega,g2⟩)))
     subst hrr;have g2':decide (d≤p)=true:=by simpa using g2
     clear HG HB HP HK;go_wp2_with fail
     go_quiet (fail)
     go_wp2;go_ret;exact⟨rfl,by first|exact br|exact below_drewN' br _⟩
    have g2':decide (d≤p)=false:=by simpa using g2
    have HK':=hide (HG.out (by omega) (by omega) (fun _=>by omega));clear HG HB HP HK;go_wp2_with fail
    go_quiet (fail)
    go_wp2
    go_roundw
    case rel=>exact⟨j+1+1,by omega,by go_num,HK',by first|exact br|exact below_drewN' br _⟩
    case measure=>simp[intOf];omega
   obtain rfl:k=0:=by omega
   rw[Nat.add_zero]at c;have HK':=hide (HG.out (by omega) (by omega) (fun h=>by omega));clear HG HB HP HK;go_wp2_with fail
   go_quiet (fail)
   go_wp2
   go_roundw
   case rel=>exact⟨1,by omega,by go_num,HK',by first|exact br|exact below_drewN' br _⟩
   case measure=>simp[intOf];omega
  have hkn:k=xs.length:=by have:=Hn.out;omega
  have hrr:r=true:=by
   rw[←HR.out];have:=HK.out;rw[List.take_of_length_le (by omega)]at this;exact decide_eq_true this
  subst hrr;have hd0:decide ((k:Int)<(n:Int))=false:=by simp;omega
  clear HK;go_wp2;go_ret;exact⟨rfl,by first|exact br|exact below_drewN' br _⟩
theorem dV(x:Int)(w:World):Calls Tryz.prog 237 #[.int .i64 x] w fun e w'=>e= .returned (.bool false)∧Below w.heap.size w w':=by
 go_enter Tryz.func237,Tryz.ntmps237
 go_wp2;go_ret;exact⟨rfl,Below.refl _ _⟩
def E8(x y:Int):Int:=if x<y then -1 else if y<x then 1 else 0
theorem nV(x y:Int):E8 x y<0↔x<y:=by
 unfold E8
 repeat' split
 all_goals omega
theorem V5(x y:Int)(w:World):Calls Tryz.prog 212 #[.int .i64 x,.int .i64 y] w fun e w'=>e= .returned (.int .i64 (E8 x y))∧Below w.heap.size w w':=by
 have NA:=hide fun x w=>dV x w;unfold E8;by_cases h1:x<y
 ·rw[if_pos h1];have d1:decide (x<y)=true:=by simpa using h1
  clear h1;go_enter Tryz.func212,Tryz.ntmps212
  go_wp2_with fail
  refine(NA.out _ _).mono ?_;rintro _ w1 ⟨rfl,b1⟩;go_wp2_with fail
  refine(NA.out _ _).mono ?_;rintro _ w2 ⟨rfl,b2⟩;go_wp2;go_ret;exact⟨rfl,bu b1 b2⟩
 rw[if_neg h1];have d1:decide (x<y)=false:=by simpa using h1
 clear h1;by_cases h2:y<x
 ·rw[if_pos h2];have d2:decide (y<x)=true:=by simpa using h2
  have d3:decide (x>y)=true:=by simpa using h2
  clear h2;go_enter Tryz.func212,Tryz.ntmps212
  go_wp2_with fail
  refine(NA.out _ _).mono ?_;rintro _ w1 ⟨rfl,b1⟩;go_wp2_with fail
  refine(NA.out _ _).mono ?_;rintro _ w2 ⟨rfl,b2⟩;go_wp2;go_ret;exact⟨rfl,bu b1 b2⟩
 rw[if_neg h2];have d2:decide (y<x)=false:=by simpa using h2
 have d3:decide (x>y)=false:=by simpa using h2
 clear h2;go_enter Tryz.func212,Tryz.ntmps212
 go_wp2_with fail
 refine(NA.out _ _).mono ?_;rintro _ w1 ⟨rfl,b1⟩;go_wp2_with fail
 refine(NA.out _ _).mono ?_;rintro _ w2 ⟨rfl,b2⟩;go_wp2;go_ret;exact⟨rfl,bu b1 b2⟩
def ABj(xs:List Int):Prop:=∀j,j+1<xs.length→xs.getD j 0<xs.getD (j+1) 0
theorem WJ(xs:List Int):ABj xs↔xs.Pairwise (· < ·):=by
 constructor
 ·intro h;refine List.pairwise_iff_getElem.2 fun i j hi hj hij=>?_
  have key:∀d,i+d+1<xs.length→xs.getD i 0<xs.getD (i+d+1) 0:=by
   intro d
   induction d with
   |zero=>exact fun hd=>h i hd
   |succ d ih=>exact fun hd=>Int.lt_trans (ih (by omega)) (h (i+d+1) hd)
  have:=key (j-i-1) (by omega);rw[show i+(j-i-1)+1=j from by omega]at this;simpa[List.getD_eq_getElem?_getD,List.getElem?_eq_getElem hi,List.getElem?_eq_getElem hj]using this
 intro h j hj;have:=List.pairwise_iff_getElem.1 h j (j+1) (by omega) hj (by omega);simpa[List.getD_eq_getElem?_getD,List.getElem?_eq_getElem hj,List.getElem?_eq_getElem (show j<xs.length by omega)]using this
theorem WG(v:Value)(xs:List Int)(w:World)(h:RI w v xs):
 Calls Tryz.prog 213 #[.agg #[v,.func (.func 212) #[] #[]]] w fun e w'=>e= .returned (.bool (decide (xs.Pairwise (· < ·))))∧Below w.heap.size w w':=by
 obtain⟨ao,ca,rfl⟩:=h.form;have hl:=h.1;have H:=hide h;obtain⟨n,hn⟩:∃n,xs.length=n:=⟨_,rfl⟩
 have Hn:=hide hn;rw[hn]at hl H⊢;clear h hn;obtain⟨w0,hw0⟩:∃w0,w.alloc (.cells #[.slice ao n ca,.func (.func 212) #[] #[]] 262)=w0:=⟨_,rfl⟩
 have B0:Below w.heap.size w w0:=hw0▸(Below.refl _ _).alloc Ak _;have L0:Loc w0 w.heap.size #[.slice ao n ca,.func (.func 212) #[] #[]]:=hw0▸AJ w _ _ rfl;go_enter Tryz.func213,Tryz.ntmps213
 go_wp2;clear hw0
 go_loopw [3] (fun i wr=>∃m:Nat,1≤m∧m≤n+1∧i= .int .i64 m∧Hid (∀j,j+1<m→j+1<n→xs.getD j 0<xs.getD (j+1) 0)∧Loc wr w.heap.size #[.slice ao n ca,.func (.func 212) #[] #[]]∧Below w.heap.size w wr) (fun i _=>n+1-(intOf i).toNat)
 case atStart=>exact⟨1,Nat.le_refl _,by omega,by go_num,hide (fun j hj=>absurd hj (by omega)),L0,B0⟩
 case round=>
  clear L0 B0;obtain⟨m,hm1,hm,rfl,HA,L,br⟩:=hrel;have q0:=L.cell 0 rfl;have q1:=L.cell 1 rfl;by_cases hlt:m<n
  ·obtain⟨k,hk⟩:∃k,m=k+1:=⟨m-1,by omega⟩
   have hk1:(m:Int)-1=(k:Int):=by omega
   have hwk:IntKind.i64.wrap (k:Int)=(k:Int):=by rw[IntKind.wrap_i64];omega
   have hkn:k<n:=by omega
   obtain⟨g,off,rfl,cx⟩:=(H.out.below br).at k (by rw[Hn.out];omega);obtain⟨g',off',e,cy⟩:=(H.out.below br).at m (by rw[Hn.out];omega);cases e
   have CT:=hide fun w=>V5 (xs.getD k 0) (xs.getD m 0) w
   have HS:Hid (xs.getD k 0<xs.getD m 0→∀j,j+1<m+1→j+1<n→xs.getD j 0<xs.getD (j+1) 0):=hide fun h j hj hj2=>by
    by_cases e:j=k
    ·rw[e,←hk];exact h
    exact HA.out j (by omega) hj2
   have HN:Hid (xs.getD m 0≤xs.getD k 0→¬xs.Pairwise (· < ·)):=hide fun h ha=>Int.not_lt.2 h (by have:=(WJ xs).2 ha k (by rw[Hn.out];omega);rwa [←hk]at this);clear HA;generalize xs.getD k 0=x at *;generalize xs.getD m 0=y at *;replace hk:=hide hk
   have K:Hid (∀w',Below wr.heap.size wr w'→(w'.cell? ⟨w.heap.size,0,none⟩=some (.slice (some ⟨g,off,none⟩) n ca)∧w'.cell? ⟨w.heap.size,1,none⟩=some (.func (.func 212) #[] #[]))∧w'.cell? ⟨g,off+k,none⟩=some (.int .i64 x)∧w'.cell? ⟨g,off+m,none⟩=some (.int .i64 y)):=hide fun w' hb=>by
    have l:=L.up hb;exact⟨⟨l.cell 0 rfl,l.cell 1 rfl⟩,(hb.cell (AQ cx)).trans cx,(hb.cell (AQ cy)).trans cy⟩
   have bA:Below wr.heap.size wr wr.drew:=Below.drew (Below.refl _ _);have Dk:=K.out _ bA;clear cx cy;go_wp2_with fail
   refine wp_region_noPanic ?_;refine wp_region_held_drew (S:=(fun w'=>(w'.cell? ⟨w.heap.size,0,none⟩=some (.slice (some ⟨g,off,none⟩) n ca)∧w'.cell? ⟨w.heap.size,1,none⟩=some (.func (.func 212) #[] #[]))∧w'.cell? ⟨g,off+k,none⟩=some (.int .i64 x)∧w'.cell? ⟨g,off+m,none⟩=some (.int .i64 y))) (by kernel_rfl) Dk (fun hHeld=>?_);refine tx 0 11 ?_;refine tx 1 12 ?_;refine tx 2 13 ?_;refine tx 3 14 ?_;refine tx 4 15 ?_;refine tx 5 16 ?_;refine tx 6 17 ?_;refine tx 7 18 ?_;refine tx 8 19 ?_;refine tx 9 20 ?_;refine tx 10 21 ?_;refine tx 11 22 ?_;refine tx 12 23 ?_;refine rd 13 rfl (fun KK AA=>?_);go_simp;refine(CT.out _).mono ?_;rintro _ wa ⟨rfl,ba⟩;have bB:Below wr.heap.size wr wa:=bA.trans ba;clear hHeld;refine AA.out _ _ (K.out _ bB) (fun hHeld=>?_);clear AA KK;refine tx 14 25 ?_;clear hHeld;refine Bw ?_;have LB:=L.up bB;have BB:=bu br bB;have hcm:=hide (nV x y);generalize E8 x y=q at *;by_cases hq:q<0
   ·have HS:=hide (HS.out (hcm.out.1 hq));have hq0:¬0≤q:=by omega
    clear hcm HN;go_wp2
    go_roundw
    case rel=>exact⟨m+1,by omega,by omega,by go_num,HS,LB,BB⟩
    case measure=>simp[intOf];omega
   have hno:decide (xs.Pairwise (· < ·))=false:=decide_eq_false (HN.out (Int.not_lt.1 fun h=>hq (hcm.out.2 h)));have hq0:0≤q:=by omega
   clear hcm HS HN;go_wp2;go_ret;exact⟨by first|rfl|(rw[hno];rfl),BB⟩
  have rV:decide (xs.Pairwise (· < ·))=true:=decide_eq_true ((WJ xs).1 fun j hj=>HA.out j (by have:=Hn.out;omega) (by have:=Hn.out;omega));clear HA;go_wp2;go_ret;exact⟨by first|rfl|(rw[rV];rfl),br⟩
theorem mH{n:Int}{xs:List Int}(h0:0<xs.length):Dv n xs↔xs.Pairwise (· < ·)∧0≤xs.getD 0 0∧xs.getD (xs.length-1) 0<n:=by
 have g:∀k(hk:k<xs.length),xs.getD k 0=xs[k]:=fun k hk=>by rw[List.getD_eq_getElem?_getD,List.getElem?_eq_getElem hk];rfl
 unfold Dv
 constructor
 ·rintro⟨h1,h2⟩;refine⟨h2,?_,?_⟩
  ·rw[g 0 h0];exact(h1 _ (List.getElem_mem h0)).1
  rw[g _ (by omega)];exact(h1 _ (List.getElem_mem (by omega))).2
 rintro⟨h2,h3,h4⟩;refine⟨fun x hx=>?_,h2⟩;obtain⟨j,hj,rfl⟩:=List.getElem_of_mem hx;rw[g 0 h0]at h3;rw[g _ (by omega)]at h4;have hp:=List.pairwise_iff_getElem.1 h2
 constructor
 ·by_cases e:j=0
  ·subst e;exact h3
  have:=hp 0 j h0 hj (by omega);omega
 by_cases e:j=xs.length-1
 ·have:xs[j]=xs[xs.length-1]:=by congr 1
  omega
 have:=hp j (xs.length-1) hj (by omega) (by omega);omega
theorem Qw(m:Int)(v:Value)(xs:List Int)(w:World)(h:RI w v xs):
 Calls Tryz.prog 181 #[.int .i64 m,v] w fun e w'=>e= .returned (.bool (decide (Dv m xs)))∧Below w.heap.size w w':=by
 obtain⟨ao,ca,rfl⟩:=h.form;have hl:=h.1;by_cases hz:xs.length=0
 ·obtain rfl:xs=[]:=List.length_eq_zero_iff.1 hz;have ed:decide (Dv m [])=true:=decide_eq_true ⟨by simp,List.Pairwise.nil⟩;rw[ed];clear ed h hl hz;go_enter Tryz.func181,Tryz.ntmps181
  go_wp2;go_ret;exact⟨rfl,Below.refl _ _⟩
 have AS:=hide fun w h=>WG (.slice ao xs.length ca) xs w h;obtain⟨w0,hw0⟩:∃w0,w.alloc (.cells #[.slice ao xs.length ca,.func (.func 212) #[] #[]] 262)=w0:=⟨_,rfl⟩
 have B0:Below w.heap.size w w0:=hw0▸(Below.refl _ _).alloc Ak _;have L0:Loc w0 w.heap.size #[.slice ao xs.length ca,.func (.func 212) #[] #[]]:=hw0▸AJ w _ _ rfl;have H:=hide (h.below B0);obtain⟨g,off,rfl,c0⟩:=H.out.at 0 (by omega);obtain⟨g',off',e,c1⟩:=H.out.at (xs.length-1) (by omega);cases e
 have HO:=hide (mH (n:=m) (xs:=xs) (by omega));generalize xs.getD 0 0=x at *;generalize xs.getD (xs.length-1) 0=y at *
 have FIN:Hid (decide (Dv m xs)=(decide (xs.Pairwise (· < ·))&&(decide (0≤x)&&decide (y<m)))):=hide (by
  have:=HO.out;by_cases hp:xs.Pairwise (· < ·)<;>by_cases hx:0≤x<;>by_cases hy:y<m<;>simp[hp,hx,hy,this])
 generalize decide (Dv m xs)=qq at *;clear HO;generalize decide (xs.Pairwise (· < ·))=q at *;obtain⟨n,hn⟩:∃n,xs.length=n+1:=⟨xs.length-1,by omega⟩
 rw[hn]at H AS L0 hw0 hl hz c1⊢;rw[Nat.add_sub_cancel]at c1;rw[Nat.add_zero]at c0;have hnz:decide (((n+1:Nat):Int)=0)=false:=by simp;omega
 have hs1:IntKind.i64.wrap (((n+1:Nat):Int)-1)=(n:Int):=by rw[IntKind.wrap_i64];omega
 have hnn:((n+1:Nat):Int)-1=(n:Int):=by omega
 have Hn:=hide hn;clear hn h;have q0:=L0.cell 0 rfl;have q1:=L0.cell 1 rfl;go_enter Tryz.func181,Tryz.ntmps181
 go_wp2_with fail
 clear hw0;refine(AS.out _ H.out).mono ?_;rintro _ w1 ⟨rfl,b1⟩;have cx:=b1.cell (p:=⟨g,off,none⟩) (AQ c0);have cy:=b1.cell (p:=⟨g,off+n,none⟩) (AQ c1);rw[c0]at cx;rw[c1]at cy;have BB:=bu B0 b1;clear H AS c0 c1 b1 q0 q1 L0 B0;cases q with
 |false=>
  go_wp2;go_ret;exact⟨by rw[FIN.out];rfl,BB⟩
 | true=>
  by_cases h0:0≤x
  ·have d0:decide (0≤x)=true:=by simpa using h0
   rw[d0]at FIN;clear h0;go_wp2;go_ret;exact⟨by rw[FIN.out];rfl,BB⟩
  have d0:decide (0≤x)=false:=by simpa using h0
  rw[d0]at FIN;clear h0;go_wp2;go_ret;exact⟨by rw[FIN.out];rfl,BB⟩
end
end Go.Proofs.YtcjmcgolgbkknaaGreatDoor
