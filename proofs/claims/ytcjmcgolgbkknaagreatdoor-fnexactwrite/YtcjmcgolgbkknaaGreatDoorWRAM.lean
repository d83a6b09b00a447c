/- Lemmas; their conditions stand in each statement. -/
import Derived.Test.YtcjmcgolgbkknaaGreatDoorWRAL
set_option maxRecDepth 100000
set_option maxHeartbeats 4000000
set_option linter.unusedSectionVars false
namespace Go.Proofs.YtcjmcgolgbkknaaGreatDoor
section
open Go.RowKit
theorem Xn(B:Nat)(s:ByteArray)(n:Nat)(x:Value)(w:World)(hE:Env w)(hr:Hid (numOf s.data.toList=some n))(h0:w.cell? ⟨B,0,none⟩=some (.string s))(h1:w.cell? ⟨B+1,0,none⟩=some x)(f1:w.frozen? ⟨B+1,0,none⟩=false):
 Calls Tryz.prog 275 #[.pointer (some ⟨B,0,none⟩),.pointer (some ⟨B+1,0,none⟩)] w fun e w'=>e= .returned (.tuple #[])∧∃w2,Below w.heap.size w w2∧w'=w2.setCell ⟨B+1,0,none⟩ (.int .i64 n):=by
 have HA:=hide (Ns s n w hE.pow hr);have hlt:B+1<w.heap.size:=AU h1;clear hE;go_enter Tryz.func275,Tryz.ntmps275
 go_wp2_with fail
 refine HA.out.mono ?_;rintro e w1 ⟨rfl,b1⟩;have c1:w1.cell? ⟨B+1,0,none⟩=some x:=(b1.cell hlt).trans h1;have g1:w1.frozen? ⟨B+1,0,none⟩=false:=(b1.frozen (p:=⟨B+1,0,none⟩) hlt).trans f1;go_wp2
 go_end0
 exact⟨rfl,_,b1,rfl⟩

theorem Xo(B:Nat)(s:ByteArray)(hs:s.size≤33554432)(u:TypeId)(pv:Value)(w:World)(hE:Env w)(he:w.cell? ⟨1,0,none⟩=some (.iface u pv))(hr:Hid (numOf s.data.toList=none))(h0:w.cell? ⟨B,0,none⟩=some (.string s)):
 Calls Tryz.prog 275 #[.pointer (some ⟨B,0,none⟩),.pointer (some ⟨B+1,0,none⟩)] w fun e w'=>e= .panicked [{ v:= .iface u pv,recovered:=false }]∧Below w.heap.size w w':=by
 have HA:=hide (Nt s hs u pv w hE he hr);clear hE he;go_enter Tryz.func275,Tryz.ntmps275
 go_wp2_with fail
 refine HA.out.mono ?_;rintro e w1 ⟨rfl,b1⟩;go_wp2;exact⟨rfl,rfl,b1⟩

theorem W9(w:World)(x:Value)(t:TypeId):(w.alloc (.cells #[x] t)).cell? ⟨w.heap.size,0,none⟩=some x:=by simp
theorem Wz(w:World)(x:Value)(t:TypeId):(w.alloc (.cells #[x] t)).frozen? ⟨w.heap.size,0,none⟩=false:=by simp[go_sem]
abbrev Cc(w:World)(s:ByteArray):World:=(w.alloc (.cells #[.string s] 9)).alloc (.cells #[.int .i64 0] 3)
theorem Lv(w:World)(s:ByteArray):Below w.heap.size w (Cc w s):=((Below.refl _ _).alloc Af _).alloc (by simp) _
theorem Gz(w:World)(s:ByteArray):(Cc w s).heap.size=w.heap.size+2:=by simp
theorem Sz(w:World)(s:ByteArray)(o:Obj):
 ((Cc w s).alloc o).cell? ⟨w.heap.size,0,none⟩=some (.string s)∧((Cc w s).alloc o).cell? ⟨w.heap.size+1,0,none⟩=some (.int .i64 0)∧((Cc w s).alloc o).frozen? ⟨w.heap.size+1,0,none⟩=false:=by
 simp[Cc,go_sem]

theorem ZC(s:ByteArray)(n:Nat)(w:World)(hE:Env w)(hr:Hid (numOf s.data.toList=some n)):
 Calls Tryz.prog 240 #[.func (.func 275) #[] #[.pointer (some ⟨w.heap.size,0,none⟩),.pointer (some ⟨w.heap.size+1,0,none⟩)]] (Cc w s) fun e w'=>
  e= .returned (.bool true)∧w'.cell? ⟨w.heap.size+1,0,none⟩=some (.int .i64 n)∧Below w.heap.size w w':=by
 obtain⟨c0,c1,f1⟩:=Sz w s (.cells #[.bool false] 4);have hbl:Below w.heap.size w ((Cc w s).alloc (.cells #[.bool false] 4)):=(Lv w s).alloc (by rw[Gz];omega) _;have hbs:=Gz w s;have hsz:((Cc w s).alloc (.cells #[.bool false] 4)).heap.size=w.heap.size+3:=by simp
 refine(WU 275 _ (Cc w s) (fun w1=>∃w2,Below ((Cc w s).alloc (.cells #[.bool false] 4)).heap.size ((Cc w s).alloc (.cells #[.bool false] 4)) w2∧w1=w2.setCell ⟨w.heap.size+1,0,none⟩ (.int .i64 n)) (fun _=>by simp[go_sem]) ?_).mono ?_
 ·refine(Xn w.heap.size s n _ _ (hE.below hbl) hr c0 c1 f1).mono ?_;rintro e w' ⟨rfl,w2,b2,rfl⟩;have hok:(⟨(Cc w s).heap.size,0,none⟩:Addr).block<((Cc w s).alloc (.cells #[.bool false] 4)).heap.size:=by rw[hsz];show(Cc w s).heap.size<_;rw[hbs];omega
  refine⟨rfl,⟨w2,b2,rfl⟩,?_,?_⟩
  ·rw[World.cell?_setCell_other _ _ _ _ (by simp)];exact(b2.cell hok).trans (W9 _ _ _)
  rw[World.frozen?_setCell];exact(b2.frozen hok).trans (Wz _ _ _)
 rintro e w' ⟨rfl,w1,⟨w2,b2,rfl⟩,rfl⟩;refine⟨rfl,?_,?_⟩
 ·rw[World.cell?_setCell_other _ _ _ _ (by simp)];exact World.cell?_setCell_same _ _ _ ((b2.cell (by rw[hsz];show w.heap.size+1<_;omega)).trans c1)
 exact((hbl.trans (b2.mono (by rw[hsz];omega))).setCell (by simp) _).setCell (by rw[hbs];simp) _

theorem ZF(s:ByteArray)(hs:s.size≤33554432)(w:World)(hE:Env w)(hr:Hid (numOf s.data.toList=none)):
 Calls Tryz.prog 240 #[.func (.func 275) #[] #[.pointer (some ⟨w.heap.size,0,none⟩),.pointer (some ⟨w.heap.size+1,0,none⟩)]] (Cc w s) fun e w'=>
  e= .returned (.bool false)∧w'.cell? ⟨w.heap.size+1,0,none⟩=some (.int .i64 0)∧Below w.heap.size w w':=by
 obtain⟨c0,c1,f1⟩:=Sz w s (.cells #[.bool false] 4);have hbl:Below w.heap.size w ((Cc w s).alloc (.cells #[.bool false] 4)):=(Lv w s).alloc (by rw[Gz];omega) _;have hbs:=Gz w s;have hsz:((Cc w s).alloc (.cells #[.bool false] 4)).heap.size=w.heap.size+3:=by simp
 obtain⟨u,pv,he⟩:=hE.no;refine(WV 275 _ (Cc w s) (fun w1=>Below ((Cc w s).alloc (.cells #[.bool false] 4)).heap.size ((Cc w s).alloc (.cells #[.bool false] 4)) w1) u pv (fun _=>by simp[go_sem]) ?_).mono ?_
 ·refine(Xo w.heap.size s hs u pv _ (hE.below hbl) ((hbl.cell (AU he)).trans he) hr c0).mono ?_;rintro e w' ⟨rfl,b2⟩;have hok:(⟨(Cc w s).heap.size,0,none⟩:Addr).block<((Cc w s).alloc (.cells #[.bool false] 4)).heap.size:=by rw[hsz];show(Cc w s).heap.size<_;rw[hbs];omega
  exact⟨rfl,b2,(b2.cell hok).trans (W9 _ _ _),(b2.frozen hok).trans (Wz _ _ _)⟩
 rintro e w' ⟨rfl,w1,b2,rfl⟩;refine⟨rfl,?_,?_⟩
 ·rw[World.cell?_setCell_other _ _ _ _ (by simp)];exact(b2.cell (by rw[hsz];show w.heap.size+1<_;omega)).trans c1
 exact(hbl.trans (b2.mono (by rw[hsz];omega))).setCell (by rw[hbs];simp) _

theorem Wv(s:ByteArray)(n:Nat)(w:World)(hE:Env w)(hr:Hid (numOf s.data.toList=some n)):
 Calls Tryz.prog 256 #[.string s] w fun e w'=>e= .returned (.tuple #[.int .i64 n,.bool true])∧Below w.heap.size w w':=by
 have hmf:∀(fn:Fn)(first cap:Array Value)(w:World),(Instr.makeFunc fn first cap).run Tryz.prog w= .ok (.func fn first cap) w:=fun _ _ _ _=>rfl;have HR:=hide (ZC s n w hE hr);clear hE;go_enter Tryz.func256,Tryz.ntmps256
 go_wp2_with fail
 refine HR.out.mono ?_;rintro e w' ⟨rfl,c1,kM⟩;go_wp2
 go_ret2
 exact⟨rfl,kM⟩

theorem Ww(s:ByteArray)(hs:s.size≤33554432)(w:World)(hE:Env w)(hr:Hid (numOf s.data.toList=none)):
 Calls Tryz.prog 256 #[.string s] w fun e w'=>e= .returned (.tuple #[.int .i64 0,.bool false])∧Below w.heap.size w w':=by
 have hmf:∀(fn:Fn)(first cap:Array Value)(w:World),(Instr.makeFunc fn first cap).run Tryz.prog w= .ok (.func fn first cap) w:=fun _ _ _ _=>rfl;have HR:=hide (ZF s hs w hE hr);clear hE;go_enter Tryz.func256,Tryz.ntmps256
 go_wp2_with fail
 refine HR.out.mono ?_;rintro e w' ⟨rfl,c1,kM⟩;go_wp2
 go_ret2
 exact⟨rfl,kM⟩

theorem Qc(s:ByteArray)(hs:s.size≤33554432)(w:World)(hE:Env w):
 Calls Tryz.prog 256 #[.string s] w fun e w'=>e= .returned (.tuple #[.int .i64 (He (numOf s.data.toList)),.bool (numOf s.data.toList).isSome])∧Below w.heap.size w w':=by
 cases hr:numOf s.data.toList with
 |none=>exact Ww s hs w hE hr
 |some n=>exact Wv s n w hE hr
end
section
open Go.RowKit
variable [∀(a b c d:Int),Decidable (BK a b c d)] [∀(a b c d:Nat),Decidable (Dc a b c d)]
def DV(l:List UInt8):Option (Nat×Nat×Nat×Nat):=
 match numOf (f0 l),numOf (f1 l),numOf (f2 l),numOf (f3 l)with
 |some a,some b,some c,some d=>if Dc a b c d then some (a,b,c,d)else none
 |_,_,_,_=>none
theorem Po{l:List UInt8}{a b c d:Nat}(h:VY l a b c d):DV l=some (a,b,c,d):=by
 obtain⟨h0,h1,h2,h3⟩:=UW h;unfold DV;rw[h0,h1,h2,h3];simp[h.1]
theorem Pp{l:List UInt8}{a b c d:Nat}(h:DV l=some (a,b,c,d)):VY l a b c d:=by
 unfold DV at h
 split at h
 ·rename_i a' b' c' d' e0 e1 e2 e3
  split at h
  ·rename_i hk;simp at h;obtain⟨rfl,rfl,rfl,rfl⟩:=h;exact tJ e0 e1 e2 e3 hk
  cases h
 cases h
def SL:Option (Nat×Nat×Nat×Nat)→Value
 |some (a,b,c,d)=> .tuple #[IV a b c d,.bool true]
 |none=> .tuple #[IV 0 0 0 0,.bool false]
theorem Jh{a b c d:Nat}:BK a b c d↔Dc a b c d:=by unfold BK Dc;omega

theorem BD(x:List UInt8):(Bj x).data.toList=x:=rfl
theorem DW(x:List UInt8):(Bj x).size=x.length:=by unfold Bj ByteArray.size;simp
theorem Ur(m:UInt8)(l:List UInt8):(hd m l).length≤l.length:=by unfold hd;exact(List.takeWhile_sublist _).length_le
theorem UG(m:UInt8)(l:List UInt8):(tl m l).length≤l.length:=by
 unfold tl;have:=(List.dropWhile_sublist (fun x=>x != m) (l:=l)).length_le;simp only[List.length_tail];omega
def yF(l:List UInt8):Nat→List UInt8
 |0=>f0 l
 |1=>f1 l
 |2=>f2 l
 |_=>f3 l
theorem Oj(l:List UInt8)(j:Nat):(yF l j).length≤l.length:=by
 have h1:=UG 62 l;have h2:=UG 58 (tl 62 l);have h3:=UG 35 (tl 58 (tl 62 l));unfold yF f0 f1 f2 f3
 split
 ·exact Ur _ _
 ·exact Nat.le_trans (Ur _ _) h1
 ·exact Nat.le_trans (Ur _ _) (by omega)
 omega
theorem Ic(x:List UInt8)(hx:x.length≤33554432)(w:World)(hE:Env w):
 Calls Tryz.prog 256 #[.string (Bj x)] w fun e w'=>e= .returned (.tuple #[.int .i64 (He (numOf x)),.bool (numOf x).isSome])∧Below w.heap.size w w':=by
 have:=Qc (Bj x) (by rw[DW];exact hx) w hE
 rwa [BD]at this

theorem ix4(a b c d:ByteArray)(w:World):(Instr.index 346 (.agg #[.string a,.string b,.string c,.string d]) (.int .i64 0)).run Tryz.prog w= .ok (.string a) w∧(Instr.index 346 (.agg #[.string a,.string b,.string c,.string d]) (.int .i64 1)).run Tryz.prog w= .ok (.string b) w∧(Instr.index 346 (.agg #[.string a,.string b,.string c,.string d]) (.int .i64 2)).run Tryz.prog w= .ok (.string c) w∧(Instr.index 346 (.agg #[.string a,.string b,.string c,.string d]) (.int .i64 3)).run Tryz.prog w= .ok (.string d) w:=by
 have h9:Tryz.t9.size=1:=by kernel_rfl
 refine⟨?_,?_,?_,?_⟩<;>simp[Instr.index,asIntOf,run_underlying Tryz.underlying346,part,sizeOf,Sem.run_bind,Result.andThen,h9,go_sem]
def nv(l:List UInt8)(k j:Nat):Int:=if j<k then He (numOf (yF l j))else 0
def ABG(l:List UInt8)(w:World)(i:Value)(wr:World):Prop:=∃k:Nat,k≤4∧i= .int .i64 k∧(∀j,j<k→(numOf (yF l j)).isSome=true)∧CQ wr (w.heap.size+1) (nv l k 0) (nv l k 1) (nv l k 2) (nv l k 3)∧(∀j,wr.frozen? ⟨w.heap.size+1,j,none⟩=false)∧CQ wr w.heap.size 0 0 0 0∧(∀j,wr.frozen? ⟨w.heap.size,j,none⟩=false)∧Below w.heap.size w wr∧w.heap.size+2≤wr.heap.size
theorem Ad{w w':World}{B g:Nat}(hb:Below B w w')(hg:g<B)(h:∀j,w.frozen? ⟨g,j,none⟩=false):∀j,w'.frozen? ⟨g,j,none⟩=false:=fun j=>(hb.frozen (p:=⟨g,j,none⟩) hg).trans (h j)
theorem Lu{l:List UInt8}{j:Nat}(hj:j<4)(h:(numOf (yF l j)).isSome=false):DV l=none:=by
 cases hq:DV l with
 |none=>rfl
 |some q=>
  obtain⟨a,b,c,d⟩:=q;obtain⟨h0,h1,h2,h3⟩:=UW (Pp hq);have:j=0∨j=1∨j=2∨j=3:=by omega
  rcases this with rfl|rfl|rfl|rfl<;>simp only[yF,h0,h1,h2,h3]at h<;>cases h

theorem oO(s:ByteArray)(w:World)(hs:s.size≤33554432)(hE:Env w):
 Calls Tryz.prog 278 #[.string s] w fun e w'=>e= .returned (SL (DV s.data.toList))∧Below w.heap.size w w':=by
 obtain⟨l,hl⟩:∃l,s.data.toList=l:=⟨_,rfl⟩
 have hll:l.length≤33554432:=by rw[←hl];simpa using hs
 have CU:=hide fun w=>uJ s w hs;rw[hl]at CU⊢;have HE:=hide hE;clear hE hl;go_enter Tryz.func278,Tryz.ntmps278
 go_wp2_with fail
 refine(CU.out _).mono ?_;rintro e w1 ⟨rfl,b1⟩;have q1:=b1.size;have hb0:Below w.heap.size w w1:=(((Below.refl _ _).alloc Af _).alloc (by simp) _).trans (b1.mono (by simp;omega))
 have hst:ABG l w (.int .i64 0) w1:=by
  refine⟨0,by omega,rfl,fun j hj=>by omega,?_,?_,?_,?_,hb0,by simp at q1;omega⟩
  ·refine CQ.below ?_ b1 (by simp);simp[CQ,nv,go_sem]
  ·exact Ad b1 (by simp) (fun j=>by simp[go_sem])
  ·refine CQ.below ?_ b1 (by simp;omega);simp[CQ,go_sem]
  exact Ad b1 (by simp;omega) (fun j=>by simp[go_sem])
 clear b1 q1 hb0;go_wp2
 go_loopw [12] (fun i wr=>ABG l w i wr) (fun i _=>4-(intOf i).toNat)
 case atStart=>exact hst
 case round=>
  clear hst;obtain⟨k,hk,rfl,hsome,C,F,C',F',hb,hsz⟩:=hrel;obtain⟨y0,y1,y2,y3⟩:=C';have hx0:=fun a b c d w=>(ix4 a b c d w).1;have hx1:=fun a b c d w=>(ix4 a b c d w).2.1;have hx2:=fun a b c d w=>(ix4 a b c d w).2.2.1;have hx3:=fun a b c d w=>(ix4 a b c d w).2.2.2;have hcase:k=0∨k=1∨k=2∨k=3∨k=4:=by omega
  rcases hcase with rfl|rfl|rfl|rfl|rfl
  ·have CN:=hide fun w hE=>Ic (f0 l) (Nat.le_trans (Oj l 0) hll) w hE;obtain⟨q,hq⟩:∃q,He (numOf (f0 l))=q:=⟨_,rfl⟩
   obtain⟨o,ho⟩:∃o,(numOf (f0 l)).isSome=o:=⟨_,rfl⟩
   rw[hq,ho]at CN;have HQ:=hide hq;have HO:=hide ho;clear hq ho;have HS:=hide hsome;have HC:=hide C;have HF:=hide F;clear hsome C F;go_wp2_with fail
   refine(CN.out _ (HE.out.below hb)).mono ?_;rintro e w2 ⟨rfl,b2⟩;have s2:=b2.size;have z0:=(b2.cell (p:=⟨w.heap.size,0,none⟩) (by show w.heap.size<_;omega)).trans y0;have z1:=(b2.cell (p:=⟨w.heap.size,1,none⟩) (by show w.heap.size<_;omega)).trans y1;have z2:=(b2.cell (p:=⟨w.heap.size,2,none⟩) (by show w.heap.size<_;omega)).trans y2;have z3:=(b2.cell (p:=⟨w.heap.size,3,none⟩) (by show w.heap.size<_;omega)).trans y3;have zf:=Ad b2 (by omega) F';have hb2:=hb.trans (b2.mono (by omega));have C2:=CQ.below HC.out b2 (by omega);have F2:=Ad b2 (by omega) HF.out;obtain⟨n0,n1,n2,n3⟩:=C2;cases o
   ·clear n0 n1 n2 n3 F2 HC HF HS y0 y1 y2 y3 F';go_wp2;refine bodyPost_ret (v:= .tuple #[IV 0 0 0 0,.bool false]) (by simp[results,Tryz.results278,go_sem,z0,z1,z2,z3]) rfl ?_;exact⟨by rw[Lu (l:=l) (j:=0) (by omega) HO.out];rfl,(((hb2.setCell Af _).setCell Af _).setCell Af _).setCell Af _⟩
   go_wp2
   go_roundw
   case rel=>
    refine⟨1,by omega,by go_num,fun j hj=>?_,?_,?_,?_,?_,hb2.setCell (by simp) _,by simp;omega⟩
    ·by_cases hj':j=0
     ·subst hj';exact HO.out
     exact HS.out j (by omega)
    ·exact⟨(World.cell?_setCell_same _ _ _ n0).trans (by rw[←HQ.out];rfl),(World.cell?_setCell_other _ _ _ _ (by simp)).trans n1,(World.cell?_setCell_other _ _ _ _ (by simp)).trans n2,(World.cell?_setCell_other _ _ _ _ (by simp)).trans n3⟩
    ·intro j;rw[World.frozen?_setCell];exact F2 j
    ·exact⟨(World.cell?_setCell_other _ _ _ _ (by simp)).trans z0,(World.cell?_setCell_other _ _ _ _ (by simp)).trans z1,(World.cell?_setCell_other _ _ _ _ (by simp)).trans z2,(World.cell?_setCell_other _ _ _ _ (by simp)).trans z3⟩
    intro j;rw[World.frozen?_setCell];exact zf j
   case measure=>simp[intOf]
  ·have CN:=hide fun w hE=>Ic (f1 l) (Nat.le_trans (Oj l 1) hll) w hE;obtain⟨q,hq⟩:∃q,He (numOf (f1 l))=q:=⟨_,rfl⟩
   obtain⟨o,ho⟩:∃o,(numOf (f1 l)).isSome=o:=⟨_,rfl⟩
   rw[hq,ho]at CN;have HQ:=hide hq;have HO:=hide ho;clear hq ho;have HS:=hide hsome;have HC:=hide C;have HF:=hide F;clear hsome C F;go_wp2_with fail
   refine(CN.out _ (HE.out.below hb)).mono ?_;rintro e w2 ⟨rfl,b2⟩;have s2:=b2.size;have z0:=(b2.cell (p:=⟨w.heap.size,0,none⟩) (by show w.heap.size<_;omega)).trans y0;have z1:=(b2.cell (p:=⟨w.heap.size,1,none⟩) (by show w.heap.size<_;omega)).trans y1;have z2:=(b2.cell (p:=⟨w.heap.size,2,none⟩) (by show w.heap.size<_;omega)).trans y2;have z3:=(b2.cell (p:=⟨w.heap.size,3,none⟩) (by show w.heap.size<_;omega)).trans y3;have zf:=Ad b2 (by omega) F';have hb2:=hb.trans (b2.mono (by omega));have C2:=CQ.below HC.out b2 (by omega);have F2:=Ad b2 (by omega) HF.out;obtain⟨n0,n1,n2,n3⟩:=C2;cases o
   ·clear n0 n1 n2 n3 F2 HC HF HS y0 y1 y2 y3 F';go_wp2;refine bodyPost_ret (v:= .tuple #[IV 0 0 0 0,.bool false]) (by simp[results,Tryz.results278,go_sem,z0,z1,z2,z3]) rfl ?_;exact⟨by rw[Lu (l:=l) (j:=1) (by omega) HO.out];rfl,(((hb2.setCell Af _).setCell Af _).setCell Af _).setCell Af _⟩
   go_wp2
   go_roundw
   case rel=>
    refine⟨2,by omega,by go_num,fun j hj=>?_,?_,?_,?_,?_,hb2.setCell (by simp) _,by simp;omega⟩
    ·by_cases hj':j=1
     ·subst hj';exact HO.out
     exact HS.out j (by omega)
    ·exact⟨(World.cell?_setCell_other _ _ _ _ (by simp)).trans n0,(World.cell?_setCell_same _ _ _ n1).trans (by rw[←HQ.out];rfl),(World.cell?_setCell_other _ _ _ _ (by simp)).trans n2,(World.cell?_setCell_other _ _ _ _ (by simp)).trans n3⟩
    ·intro j;rw[World.frozen?_setCell];exact F2 j
    ·exact⟨(World.cell?_setCell_other _ _ _ _ (by simp)).trans z0,(World.cell?_setCell_other _ _ _ _ (by simp)).trans z1,(World.cell?_setCell_other _ _ _ _ (by simp)).trans z2,(World.cell?_setCell_other _ _ _ _ (by simp)).trans z3⟩
    intro j;rw[World.frozen?_setCell];exact zf j
   case measure=>simp[intOf]
  ·have CN:=hide fun w hE=>Ic (f2 l) (Nat.le_trans (Oj l 2) hll) w hE;obtain⟨q,hq⟩:∃q,He (numOf (f2 l))=q:=⟨_,rfl⟩
   obtain⟨o,ho⟩:∃o,(numOf (f2 l)).isSome=o:=⟨_,rfl⟩
   rw[hq,ho]at CN;have HQ:=hide hq;have HO:=hide ho;clear hq ho;have HS:=hide hsome;have HC:=hide C;have HF:=hide F;clear hsome C F;go_wp2_with fail
   refine(CN.out _ (HE.out.below hb)).mono ?_;rintro e w2 ⟨rfl,b2⟩;have s2:=b2.size;have z0:=(b2.cell (p:=⟨w.heap.size,0,none⟩) (by show w.heap.size<_;omega)).trans y0;have z1:=(b2.cell (p:=⟨w.heap.size,1,none⟩) (by show w.heap.size<_;omega)).trans y1;have z2:=(b2.cell (p:=⟨w.heap.size,2,none⟩) (by show w.heap.size<_;omega)).trans y2;have z3:=(b2.cell (p:=⟨w.heap.size,3,none⟩) (by show w.heap.size<_;omega)).trans y3;have zf:=Ad b2 (by omega) F';have hb2:=hb.trans (b2.mono (by omega));have C2:=CQ.below HC.out b2 (by omega);have F2:=Ad b2 (by omega) HF.out;obtain⟨n0,n1,n2,n3⟩:=C2;cases o
   ·clear n0 n1 n2 n3 F2 HC HF HS y0 y1 y2 y3 F';go_wp2;refine bodyPost_ret (v:= .tuple #[IV 0 0 0 0,.bool false]) (by simp[results,Tryz.results278,go_sem,z0,z1,z2,z3]) rfl ?_;exact⟨by rw[Lu (l:=l) (j:=2) (by omega) HO.out];rfl,(((hb2.setCell Af _).setCell Af _).setCell Af _).setCell Af _⟩
   go_wp2
   go_roundw
   case rel=>
    refine⟨3,by omega,by go_num,fun j hj=>?_,?_,?_,?_,?_,hb2.setCell (by simp) _,by simp;omega⟩
    ·by_cases hj':j=2
     ·subst hj';exact HO.out
     exact HS.out j (by omega)
    ·exact⟨(World.cell?_setCell_other _ _ _ _ (by simp)).trans n0,(World.cell?_setCell_other _ _ _ _ (by simp)).trans n1,(World.cell?_setCell_same _ _ _ n2).trans (by rw[←HQ.out];rfl),(World.cell?_setCell_other _ _ _ _ (by simp)).trans n3⟩
    ·intro j;rw[World.frozen?_setCell];exact F2 j
    ·exact⟨(World.cell?_setCell_other _ _ _ _ (by simp)).trans z0,(World.cell?_setCell_other _ _ _ _ (by simp)).trans z1,(World.cell?_setCell_other _ _ _ _ (by simp)).trans z2,(World.cell?_setCell_other _ _ _ _ (by simp)).trans z3⟩
    intro j;rw[World.frozen?_setCell];exact zf j
   case measure=>simp[intOf]
  ·have CN:=hide fun w hE=>Ic (f3 l) (Nat.le_trans (Oj l 3) hll) w hE;obtain⟨q,hq⟩:∃q,He (numOf (f3 l))=q:=⟨_,rfl⟩
   obtain⟨o,ho⟩:∃o,(numOf (f3 l)).isSome=o:=⟨_,rfl⟩
   rw[hq,ho]at CN;have HQ:=hide hq;have HO:=hide ho;clear hq ho;have HS:=hide hsome;have HC:=hide C;have HF:=hide F;clear hsome C F;go_wp2_with fail
   refine(CN.out _ (HE.out.below hb)).mono ?_;rintro e w2 ⟨rfl,b2⟩;have s2:=b2.size;have z0:=(b2.cell (p:=⟨w.heap.size,0,none⟩) (by show w.heap.size<_;omega)).trans y0;have z1:=(b2.cell (p:=⟨w.heap.size,1,none⟩) (by show w.heap.size<_;omega)).trans y1;have z2:=(b2.cell (p:=⟨w.heap.size,2,none⟩) (by show w.heap.size<_;omega)).trans y2;have z3:=(b2.cell (p:=⟨w.heap.size,3,none⟩) (by show w.heap.size<_;omega)).trans y3;have zf:=Ad b2 (by omega) F';have hb2:=hb.trans (b2.mono (by omega));have C2:=CQ.below HC.out b2 (by omega);have F2:=Ad b2 (by omega) HF.out;obtain⟨n0,n1,n2,n3⟩:=C2;cases o
   ·clear n0 n1 n2 n3 F2 HC HF HS y0 y1 y2 y3 F';go_wp2;refine bodyPost_ret (v:= .tuple #[IV 0 0 0 0,.bool false]) (by simp[results,Tryz.results278,go_sem,z0,z1,z2,z3]) rfl ?_;exact⟨by rw[Lu (l:=l) (j:=3) (by omega) HO.out];rfl,(((hb2.setCell Af _).setCell Af _).setCell Af _).setCell Af _⟩
   go_wp2
   go_roundw
   case rel=>
    refine⟨4,by omega,by go_num,fun j hj=>?_,?_,?_,?_,?_,hb2.setCell (by simp) _,by simp;omega⟩
    ·by_cases hj':j=3
     ·subst hj';exact HO.out
     exact HS.out j (by omega)
    ·exact⟨(World.cell?_setCell_other _ _ _ _ (by simp)).trans n0,(World.cell?_setCell_other _ _ _ _ (by simp)).trans n1,(World.cell?_setCell_other _ _ _ _ (by simp)).trans n2,(World.cell?_setCell_same _ _ _ n3).trans (by rw[←HQ.out];rfl)⟩
    ·intro j;rw[World.frozen?_setCell];exact F2 j
    ·exact⟨(World.cell?_setCell_other _ _ _ _ (by simp)).trans z0,(World.cell?_setCell_other _ _ _ _ (by simp)).trans z1,(World.cell?_setCell_other _ _ _ _ (by simp)).trans z2,(World.cell?_setCell_other _ _ _ _ (by simp)).trans z3⟩
    intro j;rw[World.frozen?_setCell];exact zf j
   case measure=>simp[intOf]
  obtain⟨a,ea⟩:=Option.isSome_iff_exists.1 (hsome 0 (by omega));obtain⟨b,eb⟩:=Option.isSome_iff_exists.1 (hsome 1 (by omega));obtain⟨c,ec⟩:=Option.isSome_iff_exists.1 (hsome 2 (by omega));obtain⟨d,ed⟩:=Option.isSome_iff_exists.1 (hsome 3 (by omega));have v0:nv l 4 0=(a:Int):=by unfold nv;rw[if_pos (by omega),ea];rfl
  have v1:nv l 4 1=(b:Int):=by unfold nv;rw[if_pos (by omega),eb];rfl
  have v2:nv l 4 2=(c:Int):=by unfold nv;rw[if_pos (by omega),ec];rfl
  have v3:nv l 4 3=(d:Int):=by unfold nv;rw[if_pos (by omega),ed];rfl
  have HA:Hid (DV l=if Dc a b c d then some (a,b,c,d)else none):=by
   show DV l=_;unfold DV;simp only[yF]at ea eb ec ed;rw[ea,eb,ec,ed]
  rw[v0,v1,v2,v3]at C;obtain⟨n0,n1,n2,n3⟩:=C;have HF:=hide F;clear v0 v1 v2 v3 ea eb ec ed hsome F CU HE;by_cases hok:Dc a b c d
  ·have CK:=hide fun w=>MJ (a:Int) b c d w (Jh.2 hok);go_wp2_with fail
   refine(CK.out _).mono ?_;rintro e w2 ⟨rfl,b2⟩;have X:=(Gl wr a b c d 73).below b2 (by simp);obtain⟨x0,x1,x2,x3⟩:=X;have bw:Below wr.heap.size wr w2:=((Below.refl _ _).alloc Af _).trans (b2.mono (by simp));have bx:Below w.heap.size w w2:=hb.trans (bw.mono (by omega));obtain⟨z0,z1,z2,z3⟩:=CQ.below ⟨y0,y1,y2,y3⟩ bw (by omega);have zf:=Ad bw (by omega) F';clear y0 y1 y2 y3 F' n0 n1 n2 n3 b2 HF;go_wp2;refine bodyPost_ret (v:= .tuple #[IV a b c d,.bool true]) (by simp[results,Tryz.results278,go_sem,z0,z1,z2,z3]) rfl ?_;exact⟨by rw[HA.out,if_pos hok];rfl,(((bx.setCell Af _).setCell Af _).setCell Af _).setCell Af _⟩
  have CK:=hide fun w=>Nc (a:Int) b c d w (fun h=>hok (Jh.1 h));go_wp2_with fail
  refine(CK.out _).mono ?_;rintro e w2 ⟨rfl,b2⟩;have X:=(Gl wr a b c d 73).below b2 (by simp);obtain⟨x0,x1,x2,x3⟩:=X;have bw:Below wr.heap.size wr w2:=((Below.refl _ _).alloc Af _).trans (b2.mono (by simp));have bx:Below w.heap.size w w2:=hb.trans (bw.mono (by omega));obtain⟨z0,z1,z2,z3⟩:=CQ.below ⟨y0,y1,y2,y3⟩ bw (by omega);have zf:=Ad bw (by omega) F';clear y0 y1 y2 y3 F' n0 n1 n2 n3 b2 HF;go_wp2;refine bodyPost_ret (v:= .tuple #[IV 0 0 0 0,.bool false]) (by simp[results,Tryz.results278,go_sem,z0,z1,z2,z3]) rfl ?_;exact⟨by rw[HA.out,if_neg hok];rfl,(((bx.setCell Af _).setCell Af _).setCell Af _).setCell Af _⟩
end
section
open Go.RowKit
variable [∀(a b c d:Int),Decidable (BK a b c d)]
def dg(n:Int):ByteArray:=⟨(Lib.itoa n).toArray⟩
theorem G8(n:Int)(h0:0≤n)(h1:n≤999999):(⟨(Lib.itoa n).toArray⟩:ByteArray).size≤6:=by
 obtain⟨m,rfl⟩:=Int.eq_ofNat_of_zero_le h0;have:=JQ m (by omega);rw[IG];have e:(⟨(Lib.decDigits m).toArray⟩:ByteArray).size=(Lib.decDigits m).length:=by simp[ByteArray.size]
 rw[e,Lib.decDigits_length];exact this
def fT(a b c d:Int):ByteArray:=dg a++(⟨#[62]⟩:ByteArray)++dg b++(⟨#[58]⟩:ByteArray)++dg c++(⟨#[35]⟩:ByteArray)++dg d

theorem QC(a b c d:Int)(w:World)(h:BK a b c d):
 Calls Tryz.prog 252 #[IV a b c d] w fun e w'=>e= .returned (.string (fT a b c d))∧Below w.heap.size w w':=by
 have OK:=hide fun w=>Lf a b c d w h;obtain⟨⟨a1,a2⟩,⟨b1,b2⟩,⟨c1,c2⟩,⟨d1,d2⟩⟩:=h;have CA:=hide fun w=>C9 a w (by omega) (by omega);have CB:=hide fun w=>C9 b w (by omega) (by omega);have CC:=hide fun w=>C9 c w (by omega) (by omega);have CD:=hide fun w=>C9 d w (by omega) (by omega);have HX:Hid (fT a b c d=dg a++(⟨#[62]⟩:ByteArray)++dg b++(⟨#[58]⟩:ByteArray)++dg c++(⟨#[35]⟩:ByteArray)++dg d):=rfl;unfold dg at HX;have za:=G8 a (by omega) (by omega);have zb:=G8 b (by omega) (by omega);have zc:=G8 c (by omega) (by omega);have zd:=G8 d (by omega) (by omega);generalize (⟨(Lib.itoa a).toArray⟩:ByteArray)=sa at *;generalize (⟨(Lib.itoa b).toArray⟩:ByteArray)=sb at *;generalize (⟨(Lib.itoa c).toArray⟩:ByteArray)=sc at *;generalize (⟨(Lib.itoa d).toArray⟩:ByteArray)=sd at *;generalize fT a b c d=r at *;obtain⟨s1,e1⟩:∃x,x=sa++(⟨#[62]⟩:ByteArray):=⟨_,rfl⟩
 obtain⟨s2,e2⟩:∃x,x=s1++sb:=⟨_,rfl⟩
 obtain⟨s3,e3⟩:∃x,x=s2++(⟨#[58]⟩:ByteArray):=⟨_,rfl⟩
 obtain⟨s4,e4⟩:∃x,x=s3++sc:=⟨_,rfl⟩
 obtain⟨s5,e5⟩:∃x,x=s4++(⟨#[35]⟩:ByteArray):=⟨_,rfl⟩
 rw[←e1,←e2,←e3,←e4,←e5]at HX;have o:∀c:UInt8,(⟨#[c]⟩:ByteArray).size=1:=fun _=>rfl;have y1:s1.size≤7:=by rw[e1,ByteArray.size_append,o];omega
 have y2:s2.size≤13:=by rw[e2,ByteArray.size_append];omega
 have y3:s3.size≤14:=by rw[e3,ByteArray.size_append,o];omega
 have y4:s4.size≤20:=by rw[e4,ByteArray.size_append];omega
 have y5:s5.size≤21:=by rw[e5,ByteArray.size_append,o];omega
 have q1:∀w,(Op.stringOp .add sa (⟨#[62]⟩:ByteArray)).run Tryz.prog w= .ok (.string s1) w:=fun w=>by rw[e1];exact run_string_add_sum w _ _ (by rw[o];omega)
 have q2:∀w,(Op.stringOp .add s1 sb).run Tryz.prog w= .ok (.string s2) w:=fun w=>by rw[e2];exact run_string_add_sum w _ _ (by omega)
 have q3:∀w,(Op.stringOp .add s2 (⟨#[58]⟩:ByteArray)).run Tryz.prog w= .ok (.string s3) w:=fun w=>by rw[e3];exact run_string_add_sum w _ _ (by rw[o];omega)
 have q4:∀w,(Op.stringOp .add s3 sc).run Tryz.prog w= .ok (.string s4) w:=fun w=>by rw[e4];exact run_string_add_sum w _ _ (by omega)
 have q5:∀w,(Op.stringOp .add s4 (⟨#[35]⟩:ByteArray)).run Tryz.prog w= .ok (.string s5) w:=fun w=>by rw[e5];exact run_string_add_sum w _ _ (by rw[o];omega)
 have q6:∀w,(Op.stringOp .add s5 sd).run Tryz.prog w= .ok (.string r) w:=fun w=>by rw[HX.out];exact run_string_add_sum w _ _ (by omega)
 clear HX e1 e2 e3 e4 e5 y1 y2 y3 y4 y5 za zb zc zd o a1 a2 b1 b2 c1 c2 d1 d2;go_enter Tryz.func252,Tryz.ntmps252
 go_wp2_with fail
 refine(OK.out _).mono ?_;rintro e w1 ⟨rfl,q1⟩;have kM:Below w.heap.size w w1:=((Below.refl _ _).alloc Af _).trans (q1.mono (by simp));have hsz:w.heap.size+1≤w1.heap.size:=by have:=q1.size;simp at this;exact this
 have X1:=hide ((Gl w a b c d 73).below q1 (by simp))
 have K:Hid (∀w',Below w1.heap.size w1 w'→Below w1.heap.size w1 w'∧(w'.cell? ⟨w.heap.size,0,none⟩=some (.int .i64 a)∧w'.cell? ⟨w.heap.size,1,none⟩=some (.int .i64 b)∧w'.cell? ⟨w.heap.size,2,none⟩=some (.int .i64 c)∧w'.cell? ⟨w.heap.size,3,none⟩=some (.int .i64 d))):=
  fun w' hb=>⟨hb,X1.out.below hb (by omega)⟩
 have Dt:=K.out _ (Below.drew (Below.refl _ w1));have bA:Below w1.heap.size w1 w1.drew:=Below.drew (Below.refl _ _);clear q1;go_upto_region 3 with fail
 first|go_region_held3 (fun w'=>Below w1.heap.size w1 w'∧(w'.cell? ⟨w.heap.size,0,none⟩=some (.int .i64 a)∧w'.cell? ⟨w.heap.size,1,none⟩=some (.int .i64 b)∧w'.cell? ⟨w.heap.size,2,none⟩=some (.int .i64 c)∧w'.cell? ⟨w.heap.size,3,none⟩=some (.int .i64 d))) (exact Dt) (first
  | (go_at_call 230;have hgo:=bA;refine(CA.out _).mono ?_;rintro e wa ⟨rfl,ba⟩
     have bB:Below w1.heap.size w1 wa:=bA.trans ba;have Dt:=K.out _ bB;clear bA hgo)
  | (go_at_call 230;have hgo:=bB;refine(CB.out _).mono ?_;rintro e wb ⟨rfl,bb⟩
     have bC:Below w1.heap.size w1 wb:=bu bB bb;have Dt:=K.out _ bC;clear bB hgo)
  | (go_at_call 230;have hgo:=bC;refine(CC.out _).mono ?_;rintro e wc ⟨rfl,bc⟩
     have bD:Below w1.heap.size w1 wc:=bu bC bc;have Dt:=K.out _ bD;clear bC hgo)
  | (go_at_call 230;have hgo:=bD;refine(CD.out _).mono ?_;rintro e wd ⟨rfl,bd⟩
     have bE:Below w1.heap.size w1 wd:=bu bD bd;have Dt:=K.out _ bE;clear bD hgo))|fail
 all_goals
  go_wp2;go_ret;exact⟨rfl,kM.trans (bE.mono (by omega))⟩

theorem Rj(a b c d:Int)(w:World)(h:¬BK a b c d):
 Calls Tryz.prog 252 #[IV a b c d] w fun e w'=>e= .returned (.string ⟨#[]⟩)∧Below w.heap.size w w':=by
 go_enter Tryz.func252,Tryz.ntmps252
 go_wp2_with fail
 refine(NV a b c d _ h).mono ?_;rintro e w1 ⟨rfl,q1⟩;go_wp2;go_ret;exact⟨rfl,((Below.refl _ _).alloc Af _).trans (q1.mono (by simp))⟩

def txt(a b c d:Int):ByteArray:=if BK a b c d then fT a b c d else⟨#[]⟩
theorem Yx(a b c d:Int)(w:World):
 Calls Tryz.prog 252 #[IV a b c d] w fun e w'=>e= .returned (.string (txt a b c d))∧Below w.heap.size w w':=by
 unfold txt;by_cases h:BK a b c d
 ·rw[if_pos h];exact QC a b c d w h
 rw[if_neg h];exact Rj a b c d w h
end
section
open Go.RowKit
variable [∀(a b c d:Int),Decidable (BK a b c d)] [∀(a b c d:Nat),Decidable (Dc a b c d)]
theorem Xm(w:World)(n:Nat):Below w.heap.size w (w.drewN n):=⟨rfl,rfl,rfl,Nat.le_refl _,fun _ _=>rfl⟩
def Ce(m:UInt8)(l:List UInt8):List UInt8×List UInt8×Bool:=if m ∈ l then(hd m l,tl m l,true)else([],[],false)

theorem S_(m:UInt8)(b:Int)(hb:(m.toNat:Int)=b)(s:ByteArray)(w:World)(hs:s.size≤33554432):
 Calls Tryz.prog 202 #[.string s,.int .u8 b] w fun e w'=>e= .returned (.tuple #[.string (Bj (Ce m s.data.toList).1),.string (Bj (Ce m s.data.toList).2.1),.bool (Ce m s.data.toList).2.2])∧Below w.heap.size w w':=by
 go_enter Tryz.func202,Tryz.ntmps202
 go_wp2
 go_loop [7] (fun i=>∃k:Nat,k≤s.size∧i= .int .i64 k∧Hid (m ∉ s.data.toList.take k)) (fun i=>s.size-(intOf i).toNat)
 case atStart=>exact⟨0,by omega,rfl,hide (by simp)⟩
 case round=>
  obtain⟨k,hk,rfl,HN⟩:=hrel;by_cases hlt:k<s.size
  ·by_cases hbk:s[k]=m
   ·have hbk':((s[k].toNat:Int)==b)=true:=by rw[hbk,hb];simp
    have HA:Hid (Ce m s.data.toList=((s.extract 0 k).data.toList,(s.extract (k+1) s.size).data.toList,true)):=by
     have hj:s.data.toList[k]? =some m:=by rw[List.getElem?_eq_getElem (by simpa using hlt),←hbk];rfl
     obtain⟨e1,e2⟩:=oZ HN.out hj;have hm:m ∈ s.data.toList:=List.mem_of_getElem? hj;show Ce m s.data.toList=_;unfold Ce;rw[if_pos hm,e1,e2,ext_list,ext_list,List.take_of_length_le (l:=s.data.toList.drop (k+1)) (by simp)];simp
    have hk1:k+1≤s.size:=by omega
    clear hbk HN;go_wp2
    go_quiet (fail)
    go_wp2
    go_ret3
    exact⟨by rw[HA.out];rfl,Xm _ _⟩
   have hbk':((s[k].toNat:Int)==b)=false:=by
    rw[←hb];simp;intro e;exact hbk (UInt8.toNat_inj.1 (by omega))
   have HN':Hid (m ∉ s.data.toList.take (k+1)):=by
    show _ ∉ _;rw[gB s k hlt,List.mem_append];rintro(h|h)
    ·exact HN.out h
    simp at h;exact hbk h.symm
   clear hbk HN;go_wp2
   go_round
   case rel=>exact⟨k+1,by omega,by go_num,HN'⟩
   case measure=>simp[intOf];omega
  have hks:k=s.size:=by omega
  have HA:Hid (Ce m s.data.toList=([],[],false)):=by
   have:=HN.out;rw[hks,List.take_of_length_le (by rw[Qh];omega)]at this;show Ce m s.data.toList=_;unfold Ce;rw[if_neg this]
  clear HN hks;go_wp2
  go_ret3
  exact⟨by rw[HA.out];rfl,Below.refl _ _⟩

theorem MV(m:UInt8)(l:List UInt8):(Ce m l).1.length≤l.length∧(Ce m l).2.1.length≤l.length:=by
 unfold Ce
 split
 ·exact⟨Ur m l,UG m l⟩
 simp
theorem Uw(n:Nat):dg (n:Int)=Bj (Lib.decDigits n):=by unfold dg Bj;rw[IG]
theorem Jb(a b c d:Nat):fT a b c d=Bj (rV a b c d):=by
 unfold fT;rw[Uw,Uw,Uw,Uw]
 apply ByteArray.ext
 apply Array.toList_inj.1
 simp[Bj,rV]
theorem lq(a b c d:Nat):rV a b c d≠[]:=by unfold rV;simp
theorem Ld(s:ByteArray):Bj s.data.toList=s:=by
 apply ByteArray.ext;apply Array.toList_inj.1;rfl
theorem XK{s:ByteArray}{a b c d:Nat}(h:VY s.data.toList a b c d):txt (a:Int) b c d=s:=by
 unfold txt;rw[if_pos (Jh.2 h.1),Jb,h.2,Ld]
theorem lh{s:ByteArray}{a b c d:Nat}(h:txt (a:Int) b c d=s)(hs:s≠⟨#[]⟩):VY s.data.toList a b c d:=by
 unfold txt at h
 split at h
 ·rename_i hk;refine⟨Jh.1 hk,?_⟩;rw[Jb]at h;rw[←h];rfl
 exact absurd h.symm hs
theorem Mt{m:UInt8}{l:List UInt8}(h:tl m l≠[]):m ∈ l:=by rw[eF h];simp
theorem uH{l:List UInt8}{a b c d:Nat}(h:VY l a b c d):(Ce 62 l).1=f0 l∧(Ce 58 (Ce 62 l).2.1).1=f1 l∧(Ce 35 (Ce 58 (Ce 62 l).2.1).2.1).1=f2 l∧(Ce 35 (Ce 58 (Ce 62 l).2.1).2.1).2.1=f3 l:=by
 obtain⟨e0,e1,e2,e3⟩:=fields_of h;have n1:=Fe b;have n2:=Fe c;have n3:=Fe d;rw[←e1]at n1;rw[←e2]at n2;rw[←e3]at n3;unfold f0 f1 f2 f3 at *;have t0:tl 62 l≠[]:=fun e=>n1 (by rw[e,Mx]);have t1:tl 58 (tl 62 l)≠[]:=fun e=>n2 (by rw[e,Mx]);have c0:Ce 62 l=(hd 62 l,tl 62 l,true):=by unfold Ce;rw[if_pos (Mt t0)]
 have c1:Ce 58 (tl 62 l)=(hd 58 (tl 62 l),tl 58 (tl 62 l),true):=by unfold Ce;rw[if_pos (Mt t1)]
 have c2:Ce 35 (tl 58 (tl 62 l))=(hd 35 (tl 58 (tl 62 l)),tl 35 (tl 58 (tl 62 l)),true):=by unfold Ce;rw[if_pos (Mt n3)]
 refine⟨by rw[c0],by rw[c0];exact congrArg Prod.fst c1,?_,?_⟩
 ·rw[c0];show(Ce 35 (Ce 58 (tl 62 l)).2.1).1=_;rw[c1];exact congrArg Prod.fst c2
 rw[c0];show(Ce 35 (Ce 58 (tl 62 l)).2.1).2.1=_;rw[c1];exact congrArg (fun x=>x.2.1) c2
theorem Ua(m:UInt8)(b:Int)(hb:(m.toNat:Int)=b)(l:List UInt8)(w:World)(hs:l.length≤33554432):
 Calls Tryz.prog 202 #[.string (Bj l),.int .u8 b] w fun e w'=>e= .returned (.tuple #[.string (Bj (Ce m l).1),.string (Bj (Ce m l).2.1),.bool (Ce m l).2.2])∧Below w.heap.size w w':=by
 have:=S_ m b hb (Bj l) w (by rw[DW];exact hs)
 rwa [BD]at this
def nn(x:List UInt8):Nat:=(numOf x).getD 0
theorem sj(x:List UInt8):He (numOf x)=(nn x:Int):=by unfold nn He;cases numOf x<;>rfl
theorem GL(x:List UInt8)(w:World)(hx:x.length≤33554432):
 Calls Tryz.prog 203 #[.string (Bj x)] w fun e w'=>e= .returned (.tuple #[.int .i64 (nn x),.bool (numOf x).isSome])∧Below w.heap.size w w':=by
 have:=JM (Bj x) w (by rw[DW];unfold maxLen;omega)
 rwa [BD,sj]at this

theorem MX{w:World}{g g':Nat}{a b c d:Int}(h:CQ w g' a b c d)(hg:g'≠g)(j:Nat)(v:Value):CQ (w.setCell ⟨g,j,none⟩ v) g' a b c d:=
 ⟨(World.cell?_setCell_other _ _ _ _ (fun e=>hg (congrArg Addr.block e.symm))).trans h.1,(World.cell?_setCell_other _ _ _ _ (fun e=>hg (congrArg Addr.block e.symm))).trans h.2.1,(World.cell?_setCell_other _ _ _ _ (fun e=>hg (congrArg Addr.block e.symm))).trans h.2.2.1,(World.cell?_setCell_other _ _ _ _ (fun e=>hg (congrArg Addr.block e.symm))).trans h.2.2.2⟩
theorem ug{w:World}{g:Nat}{a b c d:Int}(h:CQ w g a b c d)(p:Int):CQ (w.setCell ⟨g,0,none⟩ (.int .i64 p)) g p b c d:=
 ⟨World.cell?_setCell_same _ _ _ h.1,(World.cell?_setCell_other _ _ _ _ (by simp)).trans h.2.1,(World.cell?_setCell_other _ _ _ _ (by simp)).trans h.2.2.1,(World.cell?_setCell_other _ _ _ _ (by simp)).trans h.2.2.2⟩
theorem uf{w:World}{g:Nat}{a b c d:Int}(h:CQ w g a b c d)(p:Int):CQ (w.setCell ⟨g,1,none⟩ (.int .i64 p)) g a p c d:=
 ⟨(World.cell?_setCell_other _ _ _ _ (by simp)).trans h.1,World.cell?_setCell_same _ _ _ h.2.1,(World.cell?_setCell_other _ _ _ _ (by simp)).trans h.2.2.1,(World.cell?_setCell_other _ _ _ _ (by simp)).trans h.2.2.2⟩
theorem uZ{w:World}{g:Nat}{a b c d:Int}(h:CQ w g a b c d)(p:Int):CQ (w.setCell ⟨g,2,none⟩ (.int .i64 p)) g a b p d:=
 ⟨(World.cell?_setCell_other _ _ _ _ (by simp)).trans h.1,(World.cell?_setCell_other _ _ _ _ (by simp)).trans h.2.1,World.cell?_setCell_same _ _ _ h.2.2.1,(World.cell?_setCell_other _ _ _ _ (by simp)).trans h.2.2.2⟩
theorem uW{w:World}{g:Nat}{a b c d:Int}(h:CQ w g a b c d)(p:Int):CQ (w.setCell ⟨g,3,none⟩ (.int .i64 p)) g a b c p:=
 ⟨(World.cell?_setCell_other _ _ _ _ (by simp)).trans h.1,(World.cell?_setCell_other _ _ _ _ (by simp)).trans h.2.1,(World.cell?_setCell_other _ _ _ _ (by simp)).trans h.2.2.1,World.cell?_setCell_same _ _ _ h.2.2.2⟩
theorem JU{w:World}{g g' j:Nat}{v:Value}(h:∀i,w.frozen? ⟨g',i,none⟩=false):∀i,(w.setCell ⟨g,j,none⟩ v).frozen? ⟨g',i,none⟩=false:=fun i=>by rw[World.frozen?_setCell];exact h i

theorem mZ(s:ByteArray)(w:World)(hs:s.size≤33554432):
 Calls Tryz.prog 231 #[.string s] w fun e w'=>e= .returned (SL (DV s.data.toList))∧Below w.heap.size w w':=by
 obtain⟨l,hl⟩:∃l,s.data.toList=l:=⟨_,rfl⟩
 have hll:l.length≤33554432:=by rw[←hl];simpa using hs
 have hsl:s=Bj l:=by rw[←hl,Ld]
 obtain⟨x0,e0⟩:∃x,x=(Ce 62 l).1:=⟨_,rfl⟩
 obtain⟨r0,g0⟩:∃x,x=(Ce 62 l).2.1:=⟨_,rfl⟩
 obtain⟨x1,e1⟩:∃x,x=(Ce 58 r0).1:=⟨_,rfl⟩
 obtain⟨r1,g1⟩:∃x,x=(Ce 58 r0).2.1:=⟨_,rfl⟩
 obtain⟨x2,e2⟩:∃x,x=(Ce 35 r1).1:=⟨_,rfl⟩
 obtain⟨x3,e3⟩:∃x,x=(Ce 35 r1).2.1:=⟨_,rfl⟩
 have l0:=MV 62 l;rw[←e0,←g0]at l0;have l1:=MV 58 r0;rw[←e1,←g1]at l1;have l2:=MV 35 r1;rw[←e2,←e3]at l2;have K0:=hide fun w=>Ua 62 62 rfl l w hll;have K1:=hide fun w=>Ua 58 58 rfl r0 w (by omega);have K2:=hide fun w=>Ua 35 35 rfl r1 w (by omega);rw[←e0,←g0,←hsl]at K0;rw[←e1,←g1]at K1;rw[←e2,←e3]at K2;have M0:=hide fun w=>GL x0 w (by omega);have M1:=hide fun w=>GL x1 w (by omega);have M2:=hide fun w=>GL x2 w (by omega);have M3:=hide fun w=>GL x3 w (by omega);have T:=hide fun w=>Yx (nn x0:Int) (nn x1) (nn x2) (nn x3) w
 have HY:Hid (∀a b c d,VY l a b c d→nn x0=a∧nn x1=b∧nn x2=c∧nn x3=d):=by
  intro a b c d h;obtain⟨c0,c1,c2,c3⟩:=uH h;obtain⟨n0,n1,n2,n3⟩:=UW h;rw[e3,e2,e1,e0,g1,g0,c0,c1,c2,c3];unfold nn;rw[n0,n1,n2,n3];exact⟨rfl,rfl,rfl,rfl⟩
 obtain⟨t,ht⟩:∃t,t=txt (nn x0:Int) (nn x1) (nn x2) (nn x3):=⟨_,rfl⟩
 have HA:Hid ((s≠⟨#[]⟩∧t=s∧DV l=some (nn x0,nn x1,nn x2,nn x3))∨(DV l=none∧(s=⟨#[]⟩∨(s≠⟨#[]⟩∧t≠s)))):=by
  show _∨_;cases hq:DV l with
  |some q=>
   obtain⟨a,b,c,d⟩:=q;have h:=Pp hq;obtain⟨rfl,rfl,rfl,rfl⟩:=HY.out a b c d h;rw[←hl]at h;refine .inl ⟨?_,by rw[ht];exact XK h,rfl⟩;intro e;have:=h.2;rw[e]at this;exact lq _ _ _ _ this
  |none=>
   refine .inr ⟨rfl,?_⟩;by_cases hz:s=⟨#[]⟩
   ·exact .inl hz
   refine .inr ⟨hz,fun e=>?_⟩;rw[ht]at e;have:=Po (lh e hz);rw[hl,hq]at this;cases this
 rw[←ht]at T;rw[hl];clear ht HY e0 e1 e2 e3 g0 g1 l0 l1 l2 hl hsl hll;obtain⟨p0,hp0⟩:∃p,p=nn x0:=⟨_,rfl⟩
 obtain⟨p1,hp1⟩:∃p,p=nn x1:=⟨_,rfl⟩
 obtain⟨p2,hp2⟩:∃p,p=nn x2:=⟨_,rfl⟩
 obtain⟨p3,hp3⟩:∃p,p=nn x3:=⟨_,rfl⟩
 rw[←hp0]at M0 T HA;rw[←hp1]at M1 T HA;rw[←hp2]at M2 T HA;rw[←hp3]at M3 T HA;clear hp0 hp1 hp2 hp3;go_enter Tryz.func231,Tryz.ntmps231
 go_wp2_with fail
 refine(K0.out _).mono ?_;rintro e w1 ⟨rfl,b1⟩;have z1:=(Gl w 0 0 0 0 73).below b1 (by simp);have f1:=Ad b1 (g:=w.heap.size) (by simp) (fun j=>by simp[go_sem]);have c1:Below w.heap.size w w1:=((Below.refl _ _).alloc Af _).trans (b1.mono (by simp));have s1:=b1.size;simp at s1;clear b1;go_wp2_with fail
 refine(K1.out _).mono ?_;rintro e w2 ⟨rfl,b2⟩;have z2:=z1.below b2 (by omega);have f2:=Ad b2 (g:=w.heap.size) (by omega) f1;have c2:=c1.trans (b2.mono (by omega));have s2:=b2.size;clear b2 z1 f1 c1;go_wp2_with fail
 refine(K2.out _).mono ?_;rintro e w3 ⟨rfl,b3⟩;have z3:=z2.below b3 (by omega);have f3:=Ad b3 (g:=w.heap.size) (by omega) f2;have c3:=c2.trans (b3.mono (by omega));have s3:=b3.size;clear b3 z2 f2 c2;have bn:Below w3.heap.size w3 (w3.alloc (.cells #[.int .i64 0,.int .i64 0,.int .i64 0,.int .i64 0] 73)):=(Below.refl _ _).alloc Af _;have X0:=Gl w3 0 0 0 0 73;have Y0:∀j,(w3.alloc (.cells #[.int .i64 0,.int .i64 0,.int .i64 0,.int .i64 0] 73)).frozen? ⟨w3.heap.size,j,none⟩=false:=fun j=>by simp[go_sem]
 have Z0:=z3.below bn (by omega);have F0:=Ad bn (g:=w.heap.size) (by omega) f3;have C0:=c3.trans (bn.mono (by omega));have S0:w3.heap.size+1≤(w3.alloc (.cells #[.int .i64 0,.int .i64 0,.int .i64 0,.int .i64 0] 73)).heap.size:=by simp
 clear bn z3 f3 c3;have P:=hide (And.intro X0 (And.intro Y0 (And.intro Z0 (And.intro F0 (And.intro C0 S0)))));clear X0 Y0 Z0 F0 C0 S0;go_wp2_with fail
 refine(M0.out _).mono ?_;rintro e w4 ⟨rfl,b⟩;obtain⟨X,Y,Z,F,C,S⟩:=P.out;clear P;have S':=b.size;have X':=X.below b (by omega);have Y':=Ad b (by omega) Y;have Z':=Z.below b (by omega);have F':=Ad b (g:=w.heap.size) (by omega) F;have C':=C.trans (b.mono (by omega));have P:=hide (And.intro (ug X' (p0:Int)) (And.intro (JU (g:=w3.heap.size) (j:=0) (v:=.int .i64 (p0:Int)) Y') (And.intro (MX (g:=w3.heap.size) Z' (by omega) 0 (.int .i64 (p0:Int))) (And.intro (JU (g:=w3.heap.size) (j:=0) (v:=.int .i64 (p0:Int)) F') (And.intro (C'.setCell (p:=⟨w3.heap.size,0,none⟩) (by show w.heap.size≤w3.heap.size;omega) (.int .i64 (p0:Int))) (show w3.heap.size+1≤(w4.setCell ⟨w3.heap.size,0,none⟩ (.int .i64 (p0:Int))).heap.size by simp;omega))))));obtain⟨y0,y1,y2,y3⟩:=X';have yf:=Y' 0;have S'':w3.heap.size+1≤w4.heap.size:=by omega
 clear X Y Z F C S b Y' Z' F' C' S';go_wp2_with fail
 refine(M1.out _).mono ?_;rintro e w5 ⟨rfl,b⟩;obtain⟨X,Y,Z,F,C,S⟩:=P.out;clear P;have S':=b.size;have X':=X.below b (by omega);have Y':=Ad b (by omega) Y;have Z':=Z.below b (by omega);have F':=Ad b (g:=w.heap.size) (by omega) F;have C':=C.trans (b.mono (by omega));have P:=hide (And.intro (uf X' (p1:Int)) (And.intro (JU (g:=w3.heap.size) (j:=1) (v:=.int .i64 (p1:Int)) Y') (And.intro (MX (g:=w3.heap.size) Z' (by omega) 1 (.int .i64 (p1:Int))) (And.intro (JU (g:=w3.heap.size) (j:=1) (v:=.int .i64 (p1:Int)) F') (And.intro (C'.setCell (p:=⟨w3.heap.size,1,none⟩) (by show w.heap.size≤w3.heap.size;omega) (.int .i64 (p1:Int))) (show w3.heap.size+1≤(w5.setCell ⟨w3.heap.size,1,none⟩ (.int .i64 (p1:Int))).heap.size by simp;omega))))));obtain⟨y0,y1,y2,y3⟩:=X';have yf:=Y' 1;have S'':w3.heap.size+1≤w5.heap.size:=by omega
 clear X Y Z F C S b Y' Z' F' C' S';go_wp2_with fail
 refine(M2.out _).mono ?_;rintro e w6 ⟨rfl,b⟩;obtain⟨X,Y,Z,F,C,S⟩:=P.out;clear P;have S':=b.size;have X':=X.below b (by omega);have Y':=Ad b (by omega) Y;have Z':=Z.below b (by omega);have F':=Ad b (g:=w.heap.size) (by omega) F;have C':=C.trans (b.mono (by omega));have P:=hide (And.intro (uZ X' (p2:Int)) (And.intro (JU (g:=w3.heap.size) (j:=2) (v:=.int .i64 (p2:Int)) Y') (And.intro (MX (g:=w3.heap.size) Z' (by omega) 2 (.int .i64 (p2:Int))) (And.intro (JU (g:=w3.heap.size) (j:=2) (v:=.int .i64 (p2:Int)) F') (And.intro (C'.setCell (p:=⟨w3.heap.size,2,none⟩) (by show w.heap.size≤w3.heap.size;omega) (.int .i64 (p2:Int))) (show w3.heap.size+1≤(w6.setCell ⟨w3.heap.size,2,none⟩ (.int .i64 (p2:Int))).heap.size by simp;omega))))));obtain⟨y0,y1,y2,y3⟩:=X';have yf:=Y' 2;have S'':w3.heap.size+1≤w6.heap.size:=by omega
 clear X Y Z F C S b Y' Z' F' C' S';go_wp2_with fail
 refine(M3.out _).mono ?_;rintro e w7 ⟨rfl,b⟩;obtain⟨X,Y,Z,F,C,S⟩:=P.out;clear P;have S':=b.size;have X':=X.below b (by omega);have Y':=Ad b (by omega) Y;have Z':=Z.below b (by omega);have F':=Ad b (g:=w.heap.size) (by omega) F;have C':=C.trans (b.mono (by omega));have P:=hide (And.intro (uW X' (p3:Int)) (And.intro (JU (g:=w3.heap.size) (j:=3) (v:=.int .i64 (p3:Int)) Y') (And.intro (MX (g:=w3.heap.size) Z' (by omega) 3 (.int .i64 (p3:Int))) (And.intro (JU (g:=w3.heap.size) (j:=3) (v:=.int .i64 (p3:Int)) F') (And.intro (C'.setCell (p:=⟨w3.heap.size,3,none⟩) (by show w.heap.size≤w3.heap.size;omega) (.int .i64 (p3:Int))) (show w3.heap.size+1≤(w7.setCell ⟨w3.heap.size,3,none⟩ (.int .i64 (p3:Int))).heap.size by simp;omega))))));obtain⟨y0,y1,y2,y3⟩:=X';have yf:=Y' 3;have S'':w3.heap.size+1≤w7.heap.size:=by omega
 clear X Y Z F C S b Y' Z' F' C' S';rcases HA.out with⟨hz,hts,tT⟩|⟨tT,hz|⟨hz,hts⟩⟩
 ·have hne:=D5 hz
  have hne2:(s.toList==[])=false:=by
   rw[beq_eq_false_iff_ne];intro e;apply hz;apply ByteArray.ext;apply Array.toList_inj.1;rw[ByteArray.toList_eq]at e;exact e
  obtain⟨n0,n1,n2,n3⟩:=P.out.1;rw[hts]at T;go_wp2_with fail
  refine(T.out _).mono ?_;rintro e w8 ⟨rfl,b8⟩;obtain⟨X,Y,Z,F,C,S⟩:=P.out;obtain⟨m0,m1,m2,m3⟩:=Z.below b8 (by omega);have mf:=Ad b8 (g:=w.heap.size) (by omega) F;obtain⟨k0,k1,k2,k3⟩:=X.below b8 (by omega);have C8:=C.trans (b8.mono (by omega));clear P X Y Z F C S b8 n0 n1 n2 n3;go_wp2;refine bodyPost_ret (v:= .tuple #[IV p0 p1 p2 p3,.bool true]) (by simp[results,Tryz.results231,go_sem,m0,m1,m2,m3]) rfl ?_;exact⟨by rw[tT];rfl,(((C8.setCell Af _).setCell Af _).setCell Af _).setCell Af _⟩
 ·subst hz;obtain⟨X,Y,Z,F,C,S⟩:=P.out;obtain⟨n0,n1,n2,n3⟩:=X;obtain⟨m0,m1,m2,m3⟩:=Z;clear P;go_wp2;refine bodyPost_ret (v:= .tuple #[IV 0 0 0 0,.bool false]) (by simp[results,Tryz.results231,go_sem,m0,m1,m2,m3]) rfl ?_;exact⟨by rw[tT];rfl,(((C.setCell Af _).setCell Af _).setCell Af _).setCell Af _⟩
 have hne:=D5 hz
 have hne2:(s.toList==[])=false:=by
  rw[beq_eq_false_iff_ne];intro e;apply hz;apply ByteArray.ext;apply Array.toList_inj.1;rw[ByteArray.toList_eq]at e;exact e
 have hnt:=D5 hts;obtain⟨n0,n1,n2,n3⟩:=P.out.1;go_wp2_with fail
 refine(T.out _).mono ?_;rintro e w8 ⟨rfl,b8⟩;obtain⟨X,Y,Z,F,C,S⟩:=P.out;obtain⟨m0,m1,m2,m3⟩:=Z.below b8 (by omega);have mf:=Ad b8 (g:=w.heap.size) (by omega) F;obtain⟨k0,k1,k2,k3⟩:=X.below b8 (by omega);have C8:=C.trans (b8.mono (by omega));clear P X Y Z F C S b8 n0 n1 n2 n3;go_wp2;refine bodyPost_ret (v:= .tuple #[IV 0 0 0 0,.bool false]) (by simp[results,Tryz.results231,go_sem,m0,m1,m2,m3]) rfl ?_;exact⟨by rw[tT];rfl,(((C8.setCell Af _).setCell Af _).setCell Af _).setCell Af _⟩
end
end Go.Proofs.YtcjmcgolgbkknaaGreatDoor
