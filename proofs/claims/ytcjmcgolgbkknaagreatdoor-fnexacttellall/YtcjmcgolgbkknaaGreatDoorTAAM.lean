/- Lemmas, as stated. -/
import Derived.Test.YtcjmcgolgbkknaaGreatDoorTAAL
set_option maxRecDepth 100000
set_option maxHeartbeats 4000000
set_option linter.unusedSectionVars false
namespace Go.Proofs.YtcjmcgolgbkknaaGreatDoor
section
open Go.RowKit
variable [∀(a b c d:Int),Decidable (BG a b c d)] [∀(a b c d:Nat),Decidable (DZ a b c d)]
def DD(l:List UInt8):Option (Nat×Nat×Nat×Nat):=
 match numOf (f0 l),numOf (f1 l),numOf (f2 l),numOf (f3 l)with
 |some a,some b,some c,some d=>if DZ a b c d then some (a,b,c,d)else none
 |_,_,_,_=>none
theorem Ns{l:List UInt8}{a b c d:Nat}(h:Ti l a b c d):DD l=some (a,b,c,d):=by
 obtain⟨h0,h1,h2,h3⟩:=R_ h;unfold DD;rw[h0,h1,h2,h3];simp[h.1]
theorem Nt{l:List UInt8}{a b c d:Nat}(h:DD l=some (a,b,c,d)):Ti l a b c d:=by
 unfold DD at h
 split at h
 ·rename_i a' b' c' d' e0 e1 e2 e3
  split at h
  ·rename_i hk;simp at h;obtain⟨rfl,rfl,rfl,rfl⟩:=h;exact mZ e0 e1 e2 e3 hk
  cases h
 cases h
def QY:Option (Nat×Nat×Nat×Nat)→Value
 |some (a,b,c,d)=> .tuple #[Hg a b c d,.bool true]
 |none=> .tuple #[Hg 0 0 0 0,.bool false]
theorem JD{a b c d:Nat}:BG a b c d↔DZ a b c d:=by unfold BG DZ;omega

theorem BA(x:List UInt8):(BU x).data.toList=x:=rfl
theorem Df(x:List UInt8):(BU x).size=x.length:=by unfold BU ByteArray.size;simp
theorem Sd(m:UInt8)(l:List UInt8):(hd m l).length≤l.length:=by unfold hd;exact(List.takeWhile_sublist _).length_le
theorem Ru(m:UInt8)(l:List UInt8):(tl m l).length≤l.length:=by
 unfold tl;have:=(List.dropWhile_sublist (fun x=>x != m) (l:=l)).length_le;simp only[List.length_tail];omega
def r9(l:List UInt8):Nat→List UInt8
 |0=>f0 l
 |1=>f1 l
 |2=>f2 l
 |_=>f3 l
theorem M9(l:List UInt8)(j:Nat):(r9 l j).length≤l.length:=by
 have h1:=Ru 62 l;have h2:=Ru 58 (tl 62 l);have h3:=Ru 35 (tl 58 (tl 62 l));unfold r9 f0 f1 f2 f3
 split
 ·exact Sd _ _
 ·exact Nat.le_trans (Sd _ _) h1
 ·exact Nat.le_trans (Sd _ _) (by omega)
 omega
theorem Hu(x:List UInt8)(hx:x.length≤33554432)(w:World)(hE:Env w):
 Calls Tryz.prog 256 #[.string (BU x)] w fun e w'=>e= .returned (.tuple #[.int .i64 (Gj (numOf x)),.bool (numOf x).isSome])∧Below w.heap.size w w':=by
 have:=Ot (BU x) (by rw[Df];exact hx) w hE
 rwa [BA]at this

theorem yu(a b c d:ByteArray)(w:World):(Instr.index 346 (.agg #[.string a,.string b,.string c,.string d]) (.int .i64 0)).run Tryz.prog w= .ok (.string a) w∧(Instr.index 346 (.agg #[.string a,.string b,.string c,.string d]) (.int .i64 1)).run Tryz.prog w= .ok (.string b) w∧(Instr.index 346 (.agg #[.string a,.string b,.string c,.string d]) (.int .i64 2)).run Tryz.prog w= .ok (.string c) w∧(Instr.index 346 (.agg #[.string a,.string b,.string c,.string d]) (.int .i64 3)).run Tryz.prog w= .ok (.string d) w:=by
 have h9:Tryz.t9.size=1:=by kernel_rfl
 refine⟨?_,?_,?_,?_⟩<;>simp[Instr.index,asIntOf,run_underlying Tryz.underlying346,part,sizeOf,Sem.run_bind,Result.andThen,h9,go_sem]
def nv(l:List UInt8)(k j:Nat):Int:=if j<k then Gj (numOf (r9 l j))else 0
def xN(l:List UInt8)(w:World)(i:Value)(wr:World):Prop:=∃k:Nat,k≤4∧i= .int .i64 k∧(∀j,j<k→(numOf (r9 l j)).isSome=true)∧Bv wr (w.heap.size+1) (nv l k 0) (nv l k 1) (nv l k 2) (nv l k 3)∧(∀j,wr.frozen? ⟨w.heap.size+1,j,none⟩=false)∧Bv wr w.heap.size 0 0 0 0∧(∀j,wr.frozen? ⟨w.heap.size,j,none⟩=false)∧Below w.heap.size w wr∧w.heap.size+2≤wr.heap.size
theorem Af{w w':World}{B g:Nat}(hb:Below B w w')(hg:g<B)(h:∀j,w.frozen? ⟨g,j,none⟩=false):∀j,w'.frozen? ⟨g,j,none⟩=false:=fun j=>(hb.frozen (p:=⟨g,j,none⟩) hg).trans (h j)
theorem KY{l:List UInt8}{j:Nat}(hj:j<4)(h:(numOf (r9 l j)).isSome=false):DD l=none:=by
 cases hq:DD l with
 |none=>rfl
 |some q=>
  obtain⟨a,b,c,d⟩:=q;obtain⟨h0,h1,h2,h3⟩:=R_ (Nt hq);have:j=0∨j=1∨j=2∨j=3:=by omega
  rcases this with rfl|rfl|rfl|rfl<;>simp only[r9,h0,h1,h2,h3]at h<;>cases h

theorem jB(s:ByteArray)(w:World)(hs:s.size≤33554432)(hE:Env w):
 Calls Tryz.prog 278 #[.string s] w fun e w'=>e= .returned (QY (DD s.data.toList))∧Below w.heap.size w w':=by
 obtain⟨l,hl⟩:∃l,s.data.toList=l:=⟨_,rfl⟩
 have hll:l.length≤33554432:=by rw[←hl];simpa using hs
 have CU:=hide fun w=>nO s w hs;rw[hl]at CU⊢;have HE:=hide hE;clear hE hl;go_enter Tryz.func278,Tryz.ntmps278
 go_wp2_with fail
 refine(CU.out _).mono ?_;rintro e w1 ⟨rfl,b1⟩;have q1:=b1.size;have hb0:Below w.heap.size w w1:=(((Below.refl _ _).alloc Ak _).alloc (by simp) _).trans (b1.mono (by simp;omega))
 have hst:xN l w (.int .i64 0) w1:=by
  refine⟨0,by omega,rfl,fun j hj=>by omega,?_,?_,?_,?_,hb0,by simp at q1;omega⟩
  ·refine Bv.below ?_ b1 (by simp);simp[Bv,nv,go_sem]
  ·exact Af b1 (by simp) (fun j=>by simp[go_sem])
  ·refine Bv.below ?_ b1 (by simp;omega);simp[Bv,go_sem]
  exact Af b1 (by simp;omega) (fun j=>by simp[go_sem])
 clear b1 q1 hb0;go_wp2
 go_loopw [12] (fun i wr=>xN l w i wr) (fun i _=>4-(intOf i).toNat)
 case atStart=>exact hst
 case round=>
  clear hst;obtain⟨k,hk,rfl,hsome,C,F,C',F',hb,hsz⟩:=hrel;obtain⟨y0,y1,y2,y3⟩:=C';have hx0:=fun a b c d w=>(yu a b c d w).1;have hx1:=fun a b c d w=>(yu a b c d w).2.1;have hx2:=fun a b c d w=>(yu a b c d w).2.2.1;have hx3:=fun a b c d w=>(yu a b c d w).2.2.2;have hcase:k=0∨k=1∨k=2∨k=3∨k=4:=by omega
  rcases hcase with rfl|rfl|rfl|rfl|rfl
  ·have CN:=hide fun w hE=>Hu (f0 l) (Nat.le_trans (M9 l 0) hll) w hE;obtain⟨q,hq⟩:∃q,Gj (numOf (f0 l))=q:=⟨_,rfl⟩
   obtain⟨o,ho⟩:∃o,(numOf (f0 l)).isSome=o:=⟨_,rfl⟩
   rw[hq,ho]at CN;have HQ:=hide hq;have HO:=hide ho;clear hq ho;have HS:=hide hsome;have HC:=hide C;have HF:=hide F;clear hsome C F;go_wp2_with fail
   refine(CN.out _ (HE.out.below hb)).mono ?_;rintro e w2 ⟨rfl,b2⟩;have s2:=b2.size;have z0:=(b2.cell (p:=⟨w.heap.size,0,none⟩) (by show w.heap.size<_;omega)).trans y0;have z1:=(b2.cell (p:=⟨w.heap.size,1,none⟩) (by show w.heap.size<_;omega)).trans y1;have z2:=(b2.cell (p:=⟨w.heap.size,2,none⟩) (by show w.heap.size<_;omega)).trans y2;have z3:=(b2.cell (p:=⟨w.heap.size,3,none⟩) (by show w.heap.size<_;omega)).trans y3;have zf:=Af b2 (by omega) F';have hb2:=hb.trans (b2.mono (by omega));have C2:=Bv.below HC.out b2 (by omega);have F2:=Af b2 (by omega) HF.out;obtain⟨n0,n1,n2,n3⟩:=C2;cases o
   ·clear n0 n1 n2 n3 F2 HC HF HS y0 y1 y2 y3 F';go_wp2;refine bodyPost_ret (v:= .tuple #[Hg 0 0 0 0,.bool false]) (by simp[results,Tryz.results278,go_sem,z0,z1,z2,z3]) rfl ?_;exact⟨by rw[KY (l:=l) (j:=0) (by omega) HO.out];rfl,(((hb2.setCell Ak _).setCell Ak _).setCell Ak _).setCell Ak _⟩
   go_wp2
   go_roundw
   case rel=>
    refine⟨1,by omega,by go_num,fun j hj=>?_,?_,?_,?_,?_,hb2.setCell (by simp) _,by simp;omega⟩
    ·by_cases hj':j=0
     ·subst hj';exact HO.out
     exact HS.out j (by omega)
    ·exact⟨(World.cell?_setCell_same _ _ _ n0).trans (by rw[←HQ.out];rfl),(World.cell?_setCell_other _ _ _ _ (by simp)).trans n1,(World.cell?_setCell_other _ _ _ _ (by simp)).trans n2,(World.cell?_setCell_other _ _ _ _ (by simp)).trans n3⟩
    ·intro j;rw[World.frozen?_setCell];exact F2 j
    ·exact⟨(World.cell?_setCell_other _ _ _ _ (by simp)).trans z0,(World.cell?_setCell_other _ _ _ _ (by simp)).trans z1,(World.cell?_setCell_other _ _ _ _ (by simp)).trans z2,(World.cell?_setCell_other _ _ _ _ (by simp)).trans z3⟩
    intro j;rw[World.frozen?_setCell];exact zf j
   case measure=>simp[intOf]
  ·have CN:=hide fun w hE=>Hu (f1 l) (Nat.le_trans (M9 l 1) hll) w hE;obtain⟨q,hq⟩:∃q,Gj (numOf (f1 l))=q:=⟨_,rfl⟩
   obtain⟨o,ho⟩:∃o,(numOf (f1 l)).isSome=o:=⟨_,rfl⟩
   rw[hq,ho]at CN;have HQ:=hide hq;have HO:=hide ho;clear hq ho;have HS:=hide hsome;have HC:=hide C;have HF:=hide F;clear hsome C F;go_wp2_with fail
   refine(CN.out _ (HE.out.below hb)).mono ?_;rintro e w2 ⟨rfl,b2⟩;have s2:=b2.size;have z0:=(b2.cell (p:=⟨w.heap.size,0,none⟩) (by show w.heap.size<_;omega)).trans y0;have z1:=(b2.cell (p:=⟨w.heap.size,1,none⟩) (by show w.heap.size<_;omega)).trans y1;have z2:=(b2.cell (p:=⟨w.heap.size,2,none⟩) (by show w.heap.size<_;omega)).trans y2;have z3:=(b2.cell (p:=⟨w.heap.size,3,none⟩) (by show w.heap.size<_;omega)).trans y3;have zf:=Af b2 (by omega) F';have hb2:=hb.trans (b2.mono (by omega));have C2:=Bv.below HC.out b2 (by omega);have F2:=Af b2 (by omega) HF.out;obtain⟨n0,n1,n2,n3⟩:=C2;cases o
   ·clear n0 n1 n2 n3 F2 HC HF HS y0 y1 y2 y3 F';go_wp2;refine bodyPost_ret (v:= .tuple #[Hg 0 0 0 0,.bool false]) (by simp[results,Tryz.results278,go_sem,z0,z1,z2,z3]) rfl ?_;exact⟨by rw[KY (l:=l) (j:=1) (by omega) HO.out];rfl,(((hb2.setCell Ak _).setCell Ak _).setCell Ak _).setCell Ak _⟩
   go_wp2
   go_roundw
   case rel=>
    refine⟨2,by omega,by go_num,fun j hj=>?_,?_,?_,?_,?_,hb2.setCell (by simp) _,by simp;omega⟩
    ·by_cases hj':j=1
     ·subst hj';exact HO.out
     exact HS.out j (by omega)
    ·exact⟨(World.cell?_setCell_other _ _ _ _ (by simp)).trans n0,(World.cell?_setCell_same _ _ _ n1).trans (by rw[←HQ.out];rfl),(World.cell?_setCell_other _ _ _ _ (by simp)).trans n2,(World.cell?_setCell_other _ _ _ _ (by simp)).trans n3⟩
    ·intro j;rw[World.frozen?_setCell];exact F2 j
    ·exact⟨(World.cell?_setCell_other _ _ _ _ (by simp)).trans z0,(World.cell?_setCell_other _ _ _ _ (by simp)).trans z1,(World.cell?_setCell_other _ _ _ _ (by simp)).trans z2,(World.cell?_setCell_other _ _ _ _ (by simp)).trans z3⟩
    intro j;rw[World.frozen?_setCell];exact zf j
   case measure=>simp[intOf]
  ·have CN:=hide fun w hE=>Hu (f2 l) (Nat.le_trans (M9 l 2) hll) w hE;obtain⟨q,hq⟩:∃q,Gj (numOf (f2 l))=q:=⟨_,rfl⟩
   obtain⟨o,ho⟩:∃o,(numOf (f2 l)).isSome=o:=⟨_,rfl⟩
   rw[hq,ho]at CN;have HQ:=hide hq;have HO:=hide ho;clear hq ho;have HS:=hide hsome;have HC:=hide C;have HF:=hide F;clear hsome C F;go_wp2_with fail
   refine(CN.out _ (HE.out.below hb)).mono ?_;rintro e w2 ⟨rfl,b2⟩;have s2:=b2.size;have z0:=(b2.cell (p:=⟨w.heap.size,0,none⟩) (by show w.heap.size<_;omega)).trans y0;have z1:=(b2.cell (p:=⟨w.heap.size,1,none⟩) (by show w.heap.size<_;omega)).trans y1;have z2:=(b2.cell (p:=⟨w.heap.size,2,none⟩) (by show w.heap.size<_;omega)).trans y2;have z3:=(b2.cell (p:=⟨w.heap.size,3,none⟩) (by show w.heap.size<_;omega)).trans y3;have zf:=Af b2 (by omega) F';have hb2:=hb.trans (b2.mono (by omega));have C2:=Bv.below HC.out b2 (by omega);have F2:=Af b2 (by omega) HF.out;obtain⟨n0,n1,n2,n3⟩:=C2;cases o
   ·clear n0 n1 n2 n3 F2 HC HF HS y0 y1 y2 y3 F';go_wp2;refine bodyPost_ret (v:= .tuple #[Hg 0 0 0 0,.bool false]) (by simp[results,Tryz.results278,go_sem,z0,z1,z2,z3]) rfl ?_;exact⟨by rw[KY (l:=l) (j:=2) (by omega) HO.out];rfl,(((hb2.setCell Ak _).setCell Ak _).setCell Ak _).setCell Ak _⟩
   go_wp2
   go_roundw
   case rel=>
    refine⟨3,by omega,by go_num,fun j hj=>?_,?_,?_,?_,?_,hb2.setCell (by simp) _,by simp;omega⟩
    ·by_cases hj':j=2
     ·subst hj';exact HO.out
     exact HS.out j (by omega)
    ·exact⟨(World.cell?_setCell_other _ _ _ _ (by simp)).trans n0,(World.cell?_setCell_other _ _ _ _ (by simp)).trans n1,(World.cell?_setCell_same _ _ _ n2).trans (by rw[←HQ.out];rfl),(World.cell?_setCell_other _ _ _ _ (by simp)).trans n3⟩
    ·intro j;rw[World.frozen?_setCell];exact F2 j
    ·exact⟨(World.cell?_setCell_other _ _ _ _ (by simp)).trans z0,(World.cell?_setCell_other _ _ _ _ (by simp)).trans z1,(World.cell?_setCell_other _ _ _ _ (by simp)).trans z2,(World.cell?_setCell_other _ _ _ _ (by simp)).trans z3⟩
    intro j;rw[World.frozen?_setCell];exact zf j
   case measure=>simp[intOf]
  ·have CN:=hide fun w hE=>Hu (f3 l) (Nat.le_trans (M9 l 3) hll) w hE;obtain⟨q,hq⟩:∃q,Gj (numOf (f3 l))=q:=⟨_,rfl⟩
   obtain⟨o,ho⟩:∃o,(numOf (f3 l)).isSome=o:=⟨_,rfl⟩
   rw[hq,ho]at CN;have HQ:=hide hq;have HO:=hide ho;clear hq ho;have HS:=hide hsome;have HC:=hide C;have HF:=hide F;clear hsome C F;go_wp2_with fail
   refine(CN.out _ (HE.out.below hb)).mono ?_;rintro e w2 ⟨rfl,b2⟩;have s2:=b2.size;have z0:=(b2.cell (p:=⟨w.heap.size,0,none⟩) (by show w.heap.size<_;omega)).trans y0;have z1:=(b2.cell (p:=⟨w.heap.size,1,none⟩) (by show w.heap.size<_;omega)).trans y1;have z2:=(b2.cell (p:=⟨w.heap.size,2,none⟩) (by show w.heap.size<_;omega)).trans y2;have z3:=(b2.cell (p:=⟨w.heap.size,3,none⟩) (by show w.heap.size<_;omega)).trans y3;have zf:=Af b2 (by omega) F';have hb2:=hb.trans (b2.mono (by omega));have C2:=Bv.below HC.out b2 (by omega);have F2:=Af b2 (by omega) HF.out;obtain⟨n0,n1,n2,n3⟩:=C2;cases o
   ·clear n0 n1 n2 n3 F2 HC HF HS y0 y1 y2 y3 F';go_wp2;refine bodyPost_ret (v:= .tuple #[Hg 0 0 0 0,.bool false]) (by simp[results,Tryz.results278,go_sem,z0,z1,z2,z3]) rfl ?_;exact⟨by rw[KY (l:=l) (j:=3) (by omega) HO.out];rfl,(((hb2.setCell Ak _).setCell Ak _).setCell Ak _).setCell Ak _⟩
   go_wp2
   go_roundw
   case rel=>
    refine⟨4,by omega,by go_num,fun j hj=>?_,?_,?_,?_,?_,hb2.setCell (by simp) _,by simp;omega⟩
    ·by_cases hj':j=3
     ·subst hj';exact HO.out
     exact HS.out j (by omega)
    ·exact⟨(World.cell?_setCell_other _ _ _ _ (by simp)).trans n0,(World.cell?_setCell_other _ _ _ _ (by simp)).trans n1,(World.cell?_setCell_other _ _ _ _ (by simp)).trans n2,(World.cell?_setCell_same _ _ _ n3).trans (by rw[←HQ.out];rfl)⟩
    ·intro j;rw[World.frozen?_setCell];exact F2 j
    ·exact⟨(World.cell?_setCell_other _ _ _ _ (by simp)).trans z0,(World.cell?_setCell_other _ _ _ _ (by simp)).trans z1,(World.cell?_setCell_other _ _ _ _ (by simp)).trans z2,(World.cell?_setCell_other _ _ _ _ (by simp)).trans z3⟩
    intro j;rw[World.frozen?_setCell];exact zf j
   case measure=>simp[intOf]
  obtain⟨a,ea⟩:=Option.isSome_iff_exists.1 (hsome 0 (by omega));obtain⟨b,eb⟩:=Option.isSome_iff_exists.1 (hsome 1 (by omega));obtain⟨c,ec⟩:=Option.isSome_iff_exists.1 (hsome 2 (by omega));obtain⟨d,ed⟩:=Option.isSome_iff_exists.1 (hsome 3 (by omega));have v0:nv l 4 0=(a:Int):=by unfold nv;rw[if_pos (by omega),ea];rfl
  have v1:nv l 4 1=(b:Int):=by unfold nv;rw[if_pos (by omega),eb];rfl
  have v2:nv l 4 2=(c:Int):=by unfold nv;rw[if_pos (by omega),ec];rfl
  have v3:nv l 4 3=(d:Int):=by unfold nv;rw[if_pos (by omega),ed];rfl
  have HA:Hid (DD l=if DZ a b c d then some (a,b,c,d)else none):=by
   show DD l=_;unfold DD;simp only[r9]at ea eb ec ed;rw[ea,eb,ec,ed]
  rw[v0,v1,v2,v3]at C;obtain⟨n0,n1,n2,n3⟩:=C;have HF:=hide F;clear v0 v1 v2 v3 ea eb ec ed hsome F CU HE;by_cases hok:DZ a b c d
  ·have CK:=hide fun w=>Kg (a:Int) b c d w (JD.2 hok);go_wp2_with fail
   refine(CK.out _).mono ?_;rintro e w2 ⟨rfl,b2⟩;have X:=(Fz wr a b c d 73).below b2 (by simp);obtain⟨x0,x1,x2,x3⟩:=X;have bw:Below wr.heap.size wr w2:=((Below.refl _ _).alloc Ak _).trans (b2.mono (by simp));have bx:Below w.heap.size w w2:=hb.trans (bw.mono (by omega));obtain⟨z0,z1,z2,z3⟩:=Bv.below ⟨y0,y1,y2,y3⟩ bw (by omega);have zf:=Af bw (by omega) F';clear y0 y1 y2 y3 F' n0 n1 n2 n3 b2 HF;go_wp2;refine bodyPost_ret (v:= .tuple #[Hg a b c d,.bool true]) (by simp[results,Tryz.results278,go_sem,z0,z1,z2,z3]) rfl ?_;exact⟨by rw[HA.out,if_pos hok];rfl,(((bx.setCell Ak _).setCell Ak _).setCell Ak _).setCell Ak _⟩
  have CK:=hide fun w=>L_ (a:Int) b c d w (fun h=>hok (JD.1 h));go_wp2_with fail
  refine(CK.out _).mono ?_;rintro e w2 ⟨rfl,b2⟩;have X:=(Fz wr a b c d 73).below b2 (by simp);obtain⟨x0,x1,x2,x3⟩:=X;have bw:Below wr.heap.size wr w2:=((Below.refl _ _).alloc Ak _).trans (b2.mono (by simp));have bx:Below w.heap.size w w2:=hb.trans (bw.mono (by omega));obtain⟨z0,z1,z2,z3⟩:=Bv.below ⟨y0,y1,y2,y3⟩ bw (by omega);have zf:=Af bw (by omega) F';clear y0 y1 y2 y3 F' n0 n1 n2 n3 b2 HF;go_wp2;refine bodyPost_ret (v:= .tuple #[Hg 0 0 0 0,.bool false]) (by simp[results,Tryz.results278,go_sem,z0,z1,z2,z3]) rfl ?_;exact⟨by rw[HA.out,if_neg hok];rfl,(((bx.setCell Ak _).setCell Ak _).setCell Ak _).setCell Ak _⟩
end
section
open Go.RowKit
variable [∀(a b c d:Int),Decidable (BG a b c d)]
def dg(n:Int):ByteArray:=⟨(Lib.itoa n).toArray⟩
theorem M_(n:Int)(h0:0≤n)(h1:n≤999999):(⟨(Lib.itoa n).toArray⟩:ByteArray).size≤6:=by
 obtain⟨m,rfl⟩:=Int.eq_ofNat_of_zero_le h0;have:=Lt m (by omega);rw[G7];have e:(⟨(Lib.decDigits m).toArray⟩:ByteArray).size=(Lib.decDigits m).length:=by simp[ByteArray.size]
 rw[e,Lib.decDigits_length];exact this
def fU(a b c d:Int):ByteArray:=dg a++(⟨#[62]⟩:ByteArray)++dg b++(⟨#[58]⟩:ByteArray)++dg c++(⟨#[35]⟩:ByteArray)++dg d

theorem OU(a b c d:Int)(w:World)(h:BG a b c d):
 Calls Tryz.prog 252 #[Hg a b c d] w fun e w'=>e= .returned (.string (fU a b c d))∧Below w.heap.size w w':=by
 have OK:=hide fun w=>KL a b c d w h;obtain⟨⟨a1,a2⟩,⟨b1,b2⟩,⟨c1,c2⟩,⟨d1,d2⟩⟩:=h;have CA:=hide fun w=>Ct a w (by omega) (by omega);have CB:=hide fun w=>Ct b w (by omega) (by omega);have CC:=hide fun w=>Ct c w (by omega) (by omega);have CD:=hide fun w=>Ct d w (by omega) (by omega);have HX:Hid (fU a b c d=dg a++(⟨#[62]⟩:ByteArray)++dg b++(⟨#[58]⟩:ByteArray)++dg c++(⟨#[35]⟩:ByteArray)++dg d):=rfl;unfold dg at HX;have za:=M_ a (by omega) (by omega);have zb:=M_ b (by omega) (by omega);have zc:=M_ c (by omega) (by omega);have zd:=M_ d (by omega) (by omega);generalize (⟨(Lib.itoa a).toArray⟩:ByteArray)=sa at *;generalize (⟨(Lib.itoa b).toArray⟩:ByteArray)=sb at *;generalize (⟨(Lib.itoa c).toArray⟩:ByteArray)=sc at *;generalize (⟨(Lib.itoa d).toArray⟩:ByteArray)=sd at *;generalize fU a b c d=r at *;obtain⟨s1,e1⟩:∃x,x=sa++(⟨#[62]⟩:ByteArray):=⟨_,rfl⟩
 obtain⟨s2,e2⟩:∃x,x=s1++sb:=⟨_,rfl⟩
 obtain⟨s3,e3⟩:∃x,x=s2++(⟨#[58]⟩:ByteArray):=⟨_,rfl⟩
 obtain⟨s4,e4⟩:∃x,x=s3++sc:=⟨_,rfl⟩
 obtain⟨s5,e5⟩:∃x,x=s4++(⟨#[35]⟩:ByteArray):=⟨_,rfl⟩
 rw[←e1,←e2,←e3,←e4,←e5]at HX;have o:∀c:UInt8,(⟨#[c]⟩:ByteArray).size=1:=fun _=>rfl;have y1:s1.size≤7:=by rw[e1,ByteArray.size_append,o];omega
 have y2:s2.size≤13:=by rw[e2,ByteArray.size_append];omega
 have y3:s3.size≤14:=by rw[e3,ByteArray.size_append,o];omega
 have y4:s4.size≤20:=by rw[e4,ByteArray.size_append];omega
 have y5:s5.size≤21:=by rw[e5,ByteArray.size_append,o];omega
 have q1:∀w,(Op.stringOp .add sa (⟨#[62]⟩:ByteArray)).run Tryz.prog w= .ok (.string s1) w:=fun w=>by rw[e1];exact run_string_add_sum w _ _ (by rw[o];omega)
 have q2:∀w,(Op.stringOp .add s1 sb).run Tryz.prog w= .ok (.string s2) w:=fun w=>by rw[e2];exact run_string_add_sum w _ _ (by omega)
 have q3:∀w,(Op.stringOp .add s2 (⟨#[58]⟩:ByteArray)).run Tryz.prog w= .ok (.string s3) w:=fun w=>by rw[e3];exact run_string_add_sum w _ _ (by rw[o];omega)
 have q4:∀w,(Op.stringOp .add s3 sc).run Tryz.prog w= .ok (.string s4) w:=fun w=>by rw[e4];exact run_string_add_sum w _ _ (by omega)
 have q5:∀w,(Op.stringOp .add s4 (⟨#[35]⟩:ByteArray)).run Tryz.prog w= .ok (.string s5) w:=fun w=>by rw[e5];exact run_string_add_sum w _ _ (by rw[o];omega)
 have q6:∀w,(Op.stringOp .add s5 sd).run Tryz.prog w= .ok (.string r) w:=fun w=>by rw[HX.out];exact run_string_add_sum w _ _ (by omega)
 clear HX e1 e2 e3 e4 e5 y1 y2 y3 y4 y5 za zb zc zd o a1 a2 b1 b2 c1 c2 d1 d2;go_enter Tryz.func252,Tryz.ntmps252
 go_wp2_with fail
 refine(OK.out _).mono ?_;rintro e w1 ⟨rfl,q1⟩;have fH:Below w.heap.size w w1:=((Below.refl _ _).alloc Ak _).trans (q1.mono (by simp));have hsz:w.heap.size+1≤w1.heap.size:=by have:=q1.size;simp at this;exact this
 have X1:=hide ((Fz w a b c d 73).below q1 (by simp))
 have K:Hid (∀w',Below w1.heap.size w1 w'→Below w1.heap.size w1 w'∧(w'.cell? ⟨w.heap.size,0,none⟩=some (.int .i64 a)∧w'.cell? ⟨w.heap.size,1,none⟩=some (.int .i64 b)∧w'.cell? ⟨w.heap.size,2,none⟩=some (.int .i64 c)∧w'.cell? ⟨w.heap.size,3,none⟩=some (.int .i64 d))):=
  fun w' hb=>⟨hb,X1.out.below hb (by omega)⟩
 have Dk:=K.out _ (Below.drew (Below.refl _ w1));have bA:Below w1.heap.size w1 w1.drew:=Below.drew (Below.refl _ _);clear q1;go_upto_region 3 with fail
 first|go_region_held3 (fun w'=>Below w1.heap.size w1 w'∧(w'.cell? ⟨w.heap.size,0,none⟩=some (.int .i64 a)∧w'.cell? ⟨w.heap.size,1,none⟩=some (.int .i64 b)∧w'.cell? ⟨w.heap.size,2,none⟩=some (.int .i64 c)∧w'.cell? ⟨w.heap.size,3,none⟩=some (.int .i64 d))) (exact Dk) (first
  | (go_at_call 230;have hgo:=bA;refine(CA.out _).mono ?_;rintro e wa ⟨rfl,ba⟩
     have bB:Below w1.heap.size w1 wa:=bA.trans ba;have Dk:=K.out _ bB;clear bA hgo)
  | (go_at_call 230;have hgo:=bB;refine(CB.out _).mono ?_;rintro e wb ⟨rfl,bb⟩
     have bC:Below w1.heap.size w1 wb:=bu bB bb;have Dk:=K.out _ bC;clear bB hgo)
  | (go_at_call 230;have hgo:=bC;refine(CC.out _).mono ?_;rintro e wc ⟨rfl,bc⟩
     have bD:Below w1.heap.size w1 wc:=bu bC bc;have Dk:=K.out _ bD;clear bC hgo)
  | (go_at_call 230;have hgo:=bD;refine(CD.out _).mono ?_;rintro e wd ⟨rfl,bd⟩
     have bE:Below w1.heap.size w1 wd:=bu bD bd;have Dk:=K.out _ bE;clear bD hgo))|fail
 all_goals
  go_wp2;go_ret;exact⟨rfl,fH.trans (bE.mono (by omega))⟩

theorem P7(a b c d:Int)(w:World)(h:¬BG a b c d):
 Calls Tryz.prog 252 #[Hg a b c d] w fun e w'=>e= .returned (.string ⟨#[]⟩)∧Below w.heap.size w w':=by
 go_enter Tryz.func252,Tryz.ntmps252
 go_wp2_with fail
 refine(Ls a b c d _ h).mono ?_;rintro e w1 ⟨rfl,q1⟩;go_wp2;go_ret;exact⟨rfl,((Below.refl _ _).alloc Ak _).trans (q1.mono (by simp))⟩

def txt(a b c d:Int):ByteArray:=if BG a b c d then fU a b c d else⟨#[]⟩
theorem XO(a b c d:Int)(w:World):
 Calls Tryz.prog 252 #[Hg a b c d] w fun e w'=>e= .returned (.string (txt a b c d))∧Below w.heap.size w w':=by
 unfold txt;by_cases h:BG a b c d
 ·rw[if_pos h];exact OU a b c d w h
 rw[if_neg h];exact P7 a b c d w h
end
section
open Go.RowKit
variable [∀(a b c d:Int),Decidable (BG a b c d)] [∀(a b c d:Nat),Decidable (DZ a b c d)]
theorem Vw(w:World)(n:Nat):Below w.heap.size w (w.drewN n):=⟨rfl,rfl,rfl,Nat.le_refl _,fun _ _=>rfl⟩
def CR(m:UInt8)(l:List UInt8):List UInt8×List UInt8×Bool:=if m ∈ l then(hd m l,tl m l,true)else([],[],false)

theorem Qu(m:UInt8)(b:Int)(hb:(m.toNat:Int)=b)(s:ByteArray)(w:World)(hs:s.size≤33554432):
 Calls Tryz.prog 202 #[.string s,.int .u8 b] w fun e w'=>e= .returned (.tuple #[.string (BU (CR m s.data.toList).1),.string (BU (CR m s.data.toList).2.1),.bool (CR m s.data.toList).2.2])∧Below w.heap.size w w':=by
 go_enter Tryz.func202,Tryz.ntmps202
 go_wp2
 go_loop [7] (fun i=>∃k:Nat,k≤s.size∧i= .int .i64 k∧Hid (m ∉ s.data.toList.take k)) (fun i=>s.size-(intOf i).toNat)
 case atStart=>exact⟨0,by omega,rfl,hide (by simp)⟩
 case round=>
  obtain⟨k,hk,rfl,HN⟩:=hrel;by_cases hlt:k<s.size
  ·by_cases hbk:s[k]=m
   ·have hbk':((s[k].toNat:Int)==b)=true:=by rw[hbk,hb];simp
    have HA:Hid (CR m s.data.toList=((s.extract 0 k).data.toList,(s.extract (k+1) s.size).data.toList,true)):=by
     have hj:s.data.toList[k]? =some m:=by rw[List.getElem?_eq_getElem (by simpa using hlt),←hbk];rfl
     obtain⟨e1,e2⟩:=jF HN.out hj;have hm:m ∈ s.data.toList:=List.mem_of_getElem? hj;show CR m s.data.toList=_;unfold CR;rw[if_pos hm,e1,e2,ext_list,ext_list,List.take_of_length_le (l:=s.data.toList.drop (k+1)) (by simp)];simp
    have hk1:k+1≤s.size:=by omega
    clear hbk HN;go_wp2
    go_quiet (fail)
    go_wp2
    go_ret3
    exact⟨by rw[HA.out];rfl,Vw _ _⟩
   have hbk':((s[k].toNat:Int)==b)=false:=by
    rw[←hb];simp;intro e;exact hbk (UInt8.toNat_inj.1 (by omega))
   have HN':Hid (m ∉ s.data.toList.take (k+1)):=by
    show _ ∉ _;rw[Zp s k hlt,List.mem_append];rintro(h|h)
    ·exact HN.out h
    simp at h;exact hbk h.symm
   clear hbk HN;go_wp2
   go_round
   case rel=>exact⟨k+1,by omega,by go_num,HN'⟩
   case measure=>simp[intOf];omega
  have hks:k=s.size:=by omega
  have HA:Hid (CR m s.data.toList=([],[],false)):=by
   have:=HN.out;rw[hks,List.take_of_length_le (by rw[Oz];omega)]at this;show CR m s.data.toList=_;unfold CR;rw[if_neg this]
  clear HN hks;go_wp2
  go_ret3
  exact⟨by rw[HA.out];rfl,Below.refl _ _⟩

theorem Km(m:UInt8)(l:List UInt8):(CR m l).1.length≤l.length∧(CR m l).2.1.length≤l.length:=by
 unfold CR
 split
 ·exact⟨Sd m l,Ru m l⟩
 simp
theorem Sk(n:Nat):dg (n:Int)=BU (Lib.decDigits n):=by unfold dg BU;rw[G7]
theorem I9(a b c d:Nat):fU a b c d=BU (ku a b c d):=by
 unfold fU;rw[Sk,Sk,Sk,Sk]
 apply ByteArray.ext
 apply Array.toList_inj.1
 simp[BU,ku]
theorem gL(a b c d:Nat):ku a b c d≠[]:=by unfold ku;simp
theorem KI(s:ByteArray):BU s.data.toList=s:=by
 apply ByteArray.ext;apply Array.toList_inj.1;rfl
theorem VV{s:ByteArray}{a b c d:Nat}(h:Ti s.data.toList a b c d):txt (a:Int) b c d=s:=by
 unfold txt;rw[if_pos (JD.2 h.1),I9,h.2,KI]
theorem gK{s:ByteArray}{a b c d:Nat}(h:txt (a:Int) b c d=s)(hs:s≠⟨#[]⟩):Ti s.data.toList a b c d:=by
 unfold txt at h
 split at h
 ·rename_i hk;refine⟨JD.1 hk,?_⟩;rw[I9]at h;rw[←h];rfl
 exact absurd h.symm hs
theorem LU{m:UInt8}{l:List UInt8}(h:tl m l≠[]):m ∈ l:=by rw[ZV h];simp
theorem nL{l:List UInt8}{a b c d:Nat}(h:Ti l a b c d):(CR 62 l).1=f0 l∧(CR 58 (CR 62 l).2.1).1=f1 l∧(CR 35 (CR 58 (CR 62 l).2.1).2.1).1=f2 l∧(CR 35 (CR 58 (CR 62 l).2.1).2.1).2.1=f3 l:=by
 obtain⟨e0,e1,e2,e3⟩:=fields_of h;have n1:=E5 b;have n2:=E5 c;have n3:=E5 d;rw[←e1]at n1;rw[←e2]at n2;rw[←e3]at n3;unfold f0 f1 f2 f3 at *;have t0:tl 62 l≠[]:=fun e=>n1 (by rw[e,LW]);have t1:tl 58 (tl 62 l)≠[]:=fun e=>n2 (by rw[e,LW]);have c0:CR 62 l=(hd 62 l,tl 62 l,true):=by unfold CR;rw[if_pos (LU t0)]
 have c1:CR 58 (tl 62 l)=(hd 58 (tl 62 l),tl 58 (tl 62 l),true):=by unfold CR;rw[if_pos (LU t1)]
 have c2:CR 35 (tl 58 (tl 62 l))=(hd 35 (tl 58 (tl 62 l)),tl 35 (tl 58 (tl 62 l)),true):=by unfold CR;rw[if_pos (LU n3)]
 refine⟨by rw[c0],by rw[c0];exact congrArg Prod.fst c1,?_,?_⟩
 ·rw[c0];show(CR 35 (CR 58 (tl 62 l)).2.1).1=_;rw[c1];exact congrArg Prod.fst c2
 rw[c0];show(CR 35 (CR 58 (tl 62 l)).2.1).2.1=_;rw[c1];exact congrArg (fun x=>x.2.1) c2
theorem SK(m:UInt8)(b:Int)(hb:(m.toNat:Int)=b)(l:List UInt8)(w:World)(hs:l.length≤33554432):
 Calls Tryz.prog 202 #[.string (BU l),.int .u8 b] w fun e w'=>e= .returned (.tuple #[.string (BU (CR m l).1),.string (BU (CR m l).2.1),.bool (CR m l).2.2])∧Below w.heap.size w w':=by
 have:=Qu m b hb (BU l) w (by rw[Df];exact hs)
 rwa [BA]at this
def nn(x:List UInt8):Nat:=(numOf x).getD 0
theorem mM(x:List UInt8):Gj (numOf x)=(nn x:Int):=by unfold nn Gj;cases numOf x<;>rfl
theorem Fb(x:List UInt8)(w:World)(hx:x.length≤33554432):
 Calls Tryz.prog 203 #[.string (BU x)] w fun e w'=>e= .returned (.tuple #[.int .i64 (nn x),.bool (numOf x).isSome])∧Below w.heap.size w w':=by
 have:=Io (BU x) w (by rw[Df];unfold maxLen;omega)
 rwa [BA,mM]at this

theorem Ko{w:World}{g g':Nat}{a b c d:Int}(h:Bv w g' a b c d)(hg:g'≠g)(j:Nat)(v:Value):Bv (w.setCell ⟨g,j,none⟩ v) g' a b c d:=
 ⟨(World.cell?_setCell_other _ _ _ _ (fun e=>hg (congrArg Addr.block e.symm))).trans h.1,(World.cell?_setCell_other _ _ _ _ (fun e=>hg (congrArg Addr.block e.symm))).trans h.2.1,(World.cell?_setCell_other _ _ _ _ (fun e=>hg (congrArg Addr.block e.symm))).trans h.2.2.1,(World.cell?_setCell_other _ _ _ _ (fun e=>hg (congrArg Addr.block e.symm))).trans h.2.2.2⟩
theorem oI{w:World}{g:Nat}{a b c d:Int}(h:Bv w g a b c d)(p:Int):Bv (w.setCell ⟨g,0,none⟩ (.int .i64 p)) g p b c d:=
 ⟨World.cell?_setCell_same _ _ _ h.1,(World.cell?_setCell_other _ _ _ _ (by simp)).trans h.2.1,(World.cell?_setCell_other _ _ _ _ (by simp)).trans h.2.2.1,(World.cell?_setCell_other _ _ _ _ (by simp)).trans h.2.2.2⟩
theorem oH{w:World}{g:Nat}{a b c d:Int}(h:Bv w g a b c d)(p:Int):Bv (w.setCell ⟨g,1,none⟩ (.int .i64 p)) g a p c d:=
 ⟨(World.cell?_setCell_other _ _ _ _ (by simp)).trans h.1,World.cell?_setCell_same _ _ _ h.2.1,(World.cell?_setCell_other _ _ _ _ (by simp)).trans h.2.2.1,(World.cell?_setCell_other _ _ _ _ (by simp)).trans h.2.2.2⟩
theorem oF{w:World}{g:Nat}{a b c d:Int}(h:Bv w g a b c d)(p:Int):Bv (w.setCell ⟨g,2,none⟩ (.int .i64 p)) g a b p d:=
 ⟨(World.cell?_setCell_other _ _ _ _ (by simp)).trans h.1,(World.cell?_setCell_other _ _ _ _ (by simp)).trans h.2.1,World.cell?_setCell_same _ _ _ h.2.2.1,(World.cell?_setCell_other _ _ _ _ (by simp)).trans h.2.2.2⟩
theorem n_{w:World}{g:Nat}{a b c d:Int}(h:Bv w g a b c d)(p:Int):Bv (w.setCell ⟨g,3,none⟩ (.int .i64 p)) g a b c p:=
 ⟨(World.cell?_setCell_other _ _ _ _ (by simp)).trans h.1,(World.cell?_setCell_other _ _ _ _ (by simp)).trans h.2.1,(World.cell?_setCell_other _ _ _ _ (by simp)).trans h.2.2.1,World.cell?_setCell_same _ _ _ h.2.2.2⟩
theorem Iz{w:World}{g g' j:Nat}{v:Value}(h:∀i,w.frozen? ⟨g',i,none⟩=false):∀i,(w.setCell ⟨g,j,none⟩ v).frozen? ⟨g',i,none⟩=false:=fun i=>by rw[World.frozen?_setCell];exact h i

theorem gq(s:ByteArray)(w:World)(hs:s.size≤33554432):
 Calls Tryz.prog 231 #[.string s] w fun e w'=>e= .returned (QY (DD s.data.toList))∧Below w.heap.size w w':=by
 obtain⟨l,hl⟩:∃l,s.data.toList=l:=⟨_,rfl⟩
 have hll:l.length≤33554432:=by rw[←hl];simpa using hs
 have hsl:s=BU l:=by rw[←hl,KI]
 obtain⟨x0,e0⟩:∃x,x=(CR 62 l).1:=⟨_,rfl⟩
 obtain⟨r0,g0⟩:∃x,x=(CR 62 l).2.1:=⟨_,rfl⟩
 obtain⟨x1,e1⟩:∃x,x=(CR 58 r0).1:=⟨_,rfl⟩
 obtain⟨r1,g1⟩:∃x,x=(CR 58 r0).2.1:=⟨_,rfl⟩
 obtain⟨x2,e2⟩:∃x,x=(CR 35 r1).1:=⟨_,rfl⟩
 obtain⟨x3,e3⟩:∃x,x=(CR 35 r1).2.1:=⟨_,rfl⟩
 have l0:=Km 62 l;rw[←e0,←g0]at l0;have l1:=Km 58 r0;rw[←e1,←g1]at l1;have l2:=Km 35 r1;rw[←e2,←e3]at l2;have K0:=hide fun w=>SK 62 62 rfl l w hll;have K1:=hide fun w=>SK 58 58 rfl r0 w (by omega);have K2:=hide fun w=>SK 35 35 rfl r1 w (by omega);rw[←e0,←g0,←hsl]at K0;rw[←e1,←g1]at K1;rw[←e2,←e3]at K2;have M0:=hide fun w=>Fb x0 w (by omega);have M1:=hide fun w=>Fb x1 w (by omega);have M2:=hide fun w=>Fb x2 w (by omega);have M3:=hide fun w=>Fb x3 w (by omega);have T:=hide fun w=>XO (nn x0:Int) (nn x1) (nn x2) (nn x3) w
 have HY:Hid (∀a b c d,Ti l a b c d→nn x0=a∧nn x1=b∧nn x2=c∧nn x3=d):=by
  intro a b c d h;obtain⟨c0,c1,c2,c3⟩:=nL h;obtain⟨n0,n1,n2,n3⟩:=R_ h;rw[e3,e2,e1,e0,g1,g0,c0,c1,c2,c3];unfold nn;rw[n0,n1,n2,n3];exact⟨rfl,rfl,rfl,rfl⟩
 obtain⟨t,ht⟩:∃t,t=txt (nn x0:Int) (nn x1) (nn x2) (nn x3):=⟨_,rfl⟩
 have HA:Hid ((s≠⟨#[]⟩∧t=s∧DD l=some (nn x0,nn x1,nn x2,nn x3))∨(DD l=none∧(s=⟨#[]⟩∨(s≠⟨#[]⟩∧t≠s)))):=by
  show _∨_;cases hq:DD l with
  |some q=>
   obtain⟨a,b,c,d⟩:=q;have h:=Nt hq;obtain⟨rfl,rfl,rfl,rfl⟩:=HY.out a b c d h;rw[←hl]at h;refine .inl ⟨?_,by rw[ht];exact VV h,rfl⟩;intro e;have:=h.2;rw[e]at this;exact gL _ _ _ _ this
  |none=>
   refine .inr ⟨rfl,?_⟩;by_cases hz:s=⟨#[]⟩
   ·exact .inl hz
   refine .inr ⟨hz,fun e=>?_⟩;rw[ht]at e;have:=Ns (gK e hz);rw[hl,hq]at this;cases this
 rw[←ht]at T;rw[hl];clear ht HY e0 e1 e2 e3 g0 g1 l0 l1 l2 hl hsl hll;obtain⟨p0,hp0⟩:∃p,p=nn x0:=⟨_,rfl⟩
 obtain⟨p1,hp1⟩:∃p,p=nn x1:=⟨_,rfl⟩
 obtain⟨p2,hp2⟩:∃p,p=nn x2:=⟨_,rfl⟩
 obtain⟨p3,hp3⟩:∃p,p=nn x3:=⟨_,rfl⟩
 rw[←hp0]at M0 T HA;rw[←hp1]at M1 T HA;rw[←hp2]at M2 T HA;rw[←hp3]at M3 T HA;clear hp0 hp1 hp2 hp3;go_enter Tryz.func231,Tryz.ntmps231
 go_wp2_with fail
 refine(K0.out _).mono ?_;rintro e w1 ⟨rfl,b1⟩;have z1:=(Fz w 0 0 0 0 73).below b1 (by simp);have f1:=Af b1 (g:=w.heap.size) (by simp) (fun j=>by simp[go_sem]);have c1:Below w.heap.size w w1:=((Below.refl _ _).alloc Ak _).trans (b1.mono (by simp));have s1:=b1.size;simp at s1;clear b1;go_wp2_with fail
 refine(K1.out _).mono ?_;rintro e w2 ⟨rfl,b2⟩;have z2:=z1.below b2 (by omega);have f2:=Af b2 (g:=w.heap.size) (by omega) f1;have c2:=c1.trans (b2.mono (by omega));have s2:=b2.size;clear b2 z1 f1 c1;go_wp2_with fail
 refine(K2.out _).mono ?_;rintro e w3 ⟨rfl,b3⟩;have z3:=z2.below b3 (by omega);have f3:=Af b3 (g:=w.heap.size) (by omega) f2;have c3:=c2.trans (b3.mono (by omega));have s3:=b3.size;clear b3 z2 f2 c2;have bn:Below w3.heap.size w3 (w3.alloc (.cells #[.int .i64 0,.int .i64 0,.int .i64 0,.int .i64 0] 73)):=(Below.refl _ _).alloc Ak _;have X0:=Fz w3 0 0 0 0 73;have Y0:∀j,(w3.alloc (.cells #[.int .i64 0,.int .i64 0,.int .i64 0,.int .i64 0] 73)).frozen? ⟨w3.heap.size,j,none⟩=false:=fun j=>by simp[go_sem]
 have Z0:=z3.below bn (by omega);have F0:=Af bn (g:=w.heap.size) (by omega) f3;have C0:=c3.trans (bn.mono (by omega));have S0:w3.heap.size+1≤(w3.alloc (.cells #[.int .i64 0,.int .i64 0,.int .i64 0,.int .i64 0] 73)).heap.size:=by simp
 clear bn z3 f3 c3;have P:=hide (And.intro X0 (And.intro Y0 (And.intro Z0 (And.intro F0 (And.intro C0 S0)))));clear X0 Y0 Z0 F0 C0 S0;go_wp2_with fail
 refine(M0.out _).mono ?_;rintro e w4 ⟨rfl,b⟩;obtain⟨X,Y,Z,F,C,S⟩:=P.out;clear P;have S':=b.size;have X':=X.below b (by omega);have Y':=Af b (by omega) Y;have Z':=Z.below b (by omega);have F':=Af b (g:=w.heap.size) (by omega) F;have C':=C.trans (b.mono (by omega));have P:=hide (And.intro (oI X' (p0:Int)) (And.intro (Iz (g:=w3.heap.size) (j:=0) (v:=.int .i64 (p0:Int)) Y') (And.intro (Ko (g:=w3.heap.size) Z' (by omega) 0 (.int .i64 (p0:Int))) (And.intro (Iz (g:=w3.heap.size) (j:=0) (v:=.int .i64 (p0:Int)) F') (And.intro (C'.setCell (p:=⟨w3.heap.size,0,none⟩) (by show w.heap.size≤w3.heap.size;omega) (.int .i64 (p0:Int))) (show w3.heap.size+1≤(w4.setCell ⟨w3.heap.size,0,none⟩ (.int .i64 (p0:Int))).heap.size by simp;omega))))));obtain⟨y0,y1,y2,y3⟩:=X';have yf:=Y' 0;have S'':w3.heap.size+1≤w4.heap.size:=by omega
 clear X Y Z F C S b Y' Z' F' C' S';go_wp2_with fail
 refine(M1.out _).mono ?_;rintro e w5 ⟨rfl,b⟩;obtain⟨X,Y,Z,F,C,S⟩:=P.out;clear P;have S':=b.size;have X':=X.below b (by omega);have Y':=Af b (by omega) Y;have Z':=Z.below b (by omega);have F':=Af b (g:=w.heap.size) (by omega) F;have C':=C.trans (b.mono (by omega));have P:=hide (And.intro (oH X' (p1:Int)) (And.intro (Iz (g:=w3.heap.size) (j:=1) (v:=.int .i64 (p1:Int)) Y') (And.intro (Ko (g:=w3.heap.size) Z' (by omega) 1 (.int .i64 (p1:Int))) (And.intro (Iz (g:=w3.heap.size) (j:=1) (v:=.int .i64 (p1:Int)) F') (And.intro (C'.setCell (p:=⟨w3.heap.size,1,none⟩) (by show w.heap.size≤w3.heap.size;omega) (.int .i64 (p1:Int))) (show w3.heap.size+1≤(w5.setCell ⟨w3.heap.size,1,none⟩ (.int .i64 (p1:Int))).heap.size by simp;omega))))));obtain⟨y0,y1,y2,y3⟩:=X';have yf:=Y' 1;have S'':w3.heap.size+1≤w5.heap.size:=by omega
 clear X Y Z F C S b Y' Z' F' C' S';go_wp2_with fail
 refine(M2.out _).mono ?_;rintro e w6 ⟨rfl,b⟩;obtain⟨X,Y,Z,F,C,S⟩:=P.out;clear P;have S':=b.size;have X':=X.below b (by omega);have Y':=Af b (by omega) Y;have Z':=Z.below b (by omega);have F':=Af b (g:=w.heap.size) (by omega) F;have C':=C.trans (b.mono (by omega));have P:=hide (And.intro (oF X' (p2:Int)) (And.intro (Iz (g:=w3.heap.size) (j:=2) (v:=.int .i64 (p2:Int)) Y') (And.intro (Ko (g:=w3.heap.size) Z' (by omega) 2 (.int .i64 (p2:Int))) (And.intro (Iz (g:=w3.heap.size) (j:=2) (v:=.int .i64 (p2:Int)) F') (And.intro (C'.setCell (p:=⟨w3.heap.size,2,none⟩) (by show w.heap.size≤w3.heap.size;omega) (.int .i64 (p2:Int))) (show w3.heap.size+1≤(w6.setCell ⟨w3.heap.size,2,none⟩ (.int .i64 (p2:Int))).heap.size by simp;omega))))));obtain⟨y0,y1,y2,y3⟩:=X';have yf:=Y' 2;have S'':w3.heap.size+1≤w6.heap.size:=by omega
 clear X Y Z F C S b Y' Z' F' C' S';go_wp2_with fail
 refine(M3.out _).mono ?_;rintro e w7 ⟨rfl,b⟩;obtain⟨X,Y,Z,F,C,S⟩:=P.out;clear P;have S':=b.size;have X':=X.below b (by omega);have Y':=Af b (by omega) Y;have Z':=Z.below b (by omega);have F':=Af b (g:=w.heap.size) (by omega) F;have C':=C.trans (b.mono (by omega));have P:=hide (And.intro (n_ X' (p3:Int)) (And.intro (Iz (g:=w3.heap.size) (j:=3) (v:=.int .i64 (p3:Int)) Y') (And.intro (Ko (g:=w3.heap.size) Z' (by omega) 3 (.int .i64 (p3:Int))) (And.intro (Iz (g:=w3.heap.size) (j:=3) (v:=.int .i64 (p3:Int)) F') (And.intro (C'.setCell (p:=⟨w3.heap.size,3,none⟩) (by show w.heap.size≤w3.heap.size;omega) (.int .i64 (p3:Int))) (show w3.heap.size+1≤(w7.setCell ⟨w3.heap.size,3,none⟩ (.int .i64 (p3:Int))).heap.size by simp;omega))))));obtain⟨y0,y1,y2,y3⟩:=X';have yf:=Y' 3;have S'':w3.heap.size+1≤w7.heap.size:=by omega
 clear X Y Z F C S b Y' Z' F' C' S';rcases HA.out with⟨hz,hts,m_⟩|⟨m_,hz|⟨hz,hts⟩⟩
 ·have hne:=EX hz
  have hne2:(s.toList==[])=false:=by
   rw[beq_eq_false_iff_ne];intro e;apply hz;apply ByteArray.ext;apply Array.toList_inj.1;rw[ByteArray.toList_eq]at e;exact e
  obtain⟨n0,n1,n2,n3⟩:=P.out.1;rw[hts]at T;go_wp2_with fail
  refine(T.out _).mono ?_;rintro e w8 ⟨rfl,b8⟩;obtain⟨X,Y,Z,F,C,S⟩:=P.out;obtain⟨m0,m1,m2,m3⟩:=Z.below b8 (by omega);have mf:=Af b8 (g:=w.heap.size) (by omega) F;obtain⟨k0,k1,k2,k3⟩:=X.below b8 (by omega);have C8:=C.trans (b8.mono (by omega));clear P X Y Z F C S b8 n0 n1 n2 n3;go_wp2;refine bodyPost_ret (v:= .tuple #[Hg p0 p1 p2 p3,.bool true]) (by simp[results,Tryz.results231,go_sem,m0,m1,m2,m3]) rfl ?_;exact⟨by rw[m_];rfl,(((C8.setCell Ak _).setCell Ak _).setCell Ak _).setCell Ak _⟩
 ·subst hz;obtain⟨X,Y,Z,F,C,S⟩:=P.out;obtain⟨n0,n1,n2,n3⟩:=X;obtain⟨m0,m1,m2,m3⟩:=Z;clear P;go_wp2;refine bodyPost_ret (v:= .tuple #[Hg 0 0 0 0,.bool false]) (by simp[results,Tryz.results231,go_sem,m0,m1,m2,m3]) rfl ?_;exact⟨by rw[m_];rfl,(((C.setCell Ak _).setCell Ak _).setCell Ak _).setCell Ak _⟩
 have hne:=EX hz
 have hne2:(s.toList==[])=false:=by
  rw[beq_eq_false_iff_ne];intro e;apply hz;apply ByteArray.ext;apply Array.toList_inj.1;rw[ByteArray.toList_eq]at e;exact e
 have hnt:=EX hts;obtain⟨n0,n1,n2,n3⟩:=P.out.1;go_wp2_with fail
 refine(T.out _).mono ?_;rintro e w8 ⟨rfl,b8⟩;obtain⟨X,Y,Z,F,C,S⟩:=P.out;obtain⟨m0,m1,m2,m3⟩:=Z.below b8 (by omega);have mf:=Af b8 (g:=w.heap.size) (by omega) F;obtain⟨k0,k1,k2,k3⟩:=X.below b8 (by omega);have C8:=C.trans (b8.mono (by omega));clear P X Y Z F C S b8 n0 n1 n2 n3;go_wp2;refine bodyPost_ret (v:= .tuple #[Hg 0 0 0 0,.bool false]) (by simp[results,Tryz.results231,go_sem,m0,m1,m2,m3]) rfl ?_;exact⟨by rw[m_];rfl,(((C8.setCell Ak _).setCell Ak _).setCell Ak _).setCell Ak _⟩
end
section
open Go.RowKit
variable [∀(a b c d:Int),Decidable (BG a b c d)] [∀(a b c d:Nat),Decidable (DZ a b c d)]
def Du(x:T4):Prop:=BG x.1 x.2.1 x.2.2.1 x.2.2.2
variable [∀(x:T4),Decidable (Du x)]
def WO(x:T4):ByteArray:=txt x.1 x.2.1 x.2.2.1 x.2.2.2
def QT(xs:List T4):Nat→List UInt8
 |0=>[]
 |k+1=>(if 0<k then QT xs k++[44]else QT xs k)++(WO (xs.getD k (0,0,0,0))).data.toList
def KF(xs:List T4):ByteArray:=if∀x ∈ xs,Du x then BU (QT xs xs.length)else⟨#[]⟩
theorem R9{a b c d:Int}(h:BG a b c d):∃a' b' c' d':Nat,a=a'∧b=b'∧c=c'∧d=d':=by
 obtain⟨⟨a1,_⟩,⟨b1,_⟩,⟨c1,_⟩,⟨d1,_⟩⟩:=h;exact⟨a.toNat,b.toNat,c.toNat,d.toNat,by omega,by omega,by omega,by omega⟩
theorem qP{x:T4}(h:Du x):WO x≠⟨#[]⟩:=by
 unfold WO txt;obtain⟨a,b,c,d⟩:=x;show(if BG a b c d then fU a b c d else(⟨#[]⟩:ByteArray))≠_;rw[if_pos (show BG a b c d from h)];obtain⟨a',b',c',d',rfl,rfl,rfl,rfl⟩:=R9 h;rw[I9];intro e;have:=congrArg (fun s:ByteArray=>s.data.toList) e;exact gL a' b' c' d' this
theorem tQ{s:ByteArray}(hz:s≠⟨#[]⟩):(s.toList==[])=false:=by
 rw[beq_eq_false_iff_ne];intro e;apply hz;apply ByteArray.ext;apply Array.toList_inj.1;rw[ByteArray.toList_eq]at e;exact e
end
section

def Gt(s:ByteArray)(b:Int):Nat→List ByteArray×Nat
 |0=>([],0)
 |k+1=>if((s.data.toList.getD k 0).toNat:Int)=b then((Gt s b k).1++[s.extract (Gt s b k).2 k],k+1)else Gt s b k
theorem Jh(s:ByteArray)(b:Int)(k:Nat):(Gt s b k).2≤k∧(Gt s b k).1.length≤k:=by
 induction k with
 |zero=>simp[Gt]
 |succ k ih=>
  rw[Gt];split
  ·simp;omega
  omega
def Ag(s:ByteArray)(b:Int):List ByteArray:=(Gt s b s.size).1++[s.extract (Gt s b s.size).2 s.size]
theorem Ho(s:ByteArray)(b:Int):(Ag s b).length≤s.size+1:=by
 have:=(Jh s b s.size).2;simp[Ag];omega
theorem KQ(s:ByteArray)(b:Int)(k:Nat)(h:k<s.size)(hb:(s[k].toNat:Int)=b):Gt s b (k+1)=((Gt s b k).1++[s.extract (Gt s b k).2 k],k+1):=by
 rw[Gt,if_pos];rw[←hb];have:s.data.toList.getD k 0=s[k]:=by rw[List.getD_eq_getElem?_getD,List.getElem?_eq_getElem (by simpa using h)];rfl
 rw[this]
theorem Iq(s:ByteArray)(b:Int)(k:Nat)(h:k<s.size)(hb:(s[k].toNat:Int)≠b):Gt s b (k+1)=Gt s b k:=by
 rw[Gt,if_neg];have:s.data.toList.getD k 0=s[k]:=by rw[List.getD_eq_getElem?_getD,List.getElem?_eq_getElem (by simpa using h)];rfl
 rw[this];exact hb
end
section
open Go.RowKit
theorem M6{B:Nat}{w wr w1:World}{v v':Value}{o:Obj}{xs:List ByteArray}{c:ByteArray}(hB:B≤wr.heap.size)(ho:OS wr B v xs)(hb:Below B w wr)
 (ho':w1.ownsRow B 9 1 v' (xs.length+1) (xs.map Value.string++[.string c])) (hg:(wr.alloc o).grownBy w1 v.ownBlock):
 OS w1 B v' (xs++[c])∧Below B w w1:=
 ⟨by unfold OS;simpa using ho',(hb.alloc hB o).grown hg (by simp;omega) (fun j hj=>(ho.lt j hj).1)⟩

theorem ext_size(s:ByteArray)(n k:Nat):(s.extract n k).size≤s.size:=by rw[ByteArray.size_extract];omega

theorem aB(s:ByteArray)(b:Int)(w:World)(hs:s.size≤33554432):
 Calls Tryz.prog 277 #[.string s,.int .u8 b] w fun e w'=>∃v,e= .returned v∧OS w' w.heap.size v (Ag s b)∧Below w.heap.size w w':=by
 obtain⟨i0,hi,hz0,hz1,hz2⟩:=info_parts Tryz.info9;go_enter Tryz.func277,Tryz.ntmps277
 go_wp2
 go_loopw [5,6,7] (fun v f i wr=>∃k n:Nat,k≤s.size∧n≤k∧i= .int .i64 k∧f= .int .i64 n∧Hid (n=(Gt s b k).2)∧OS wr w.heap.size v (Gt s b k).1∧Below w.heap.size w wr) (fun _ _ i _=>s.size-(intOf i).toNat)
 case atStart=>exact⟨0,0,by omega,by omega,rfl,rfl,rfl,World.ownsRow_nil _ _ _ _,Below.refl _ _⟩
 case round=>
  obtain⟨k,n,hk,hnk,rfl,rfl,HN,ho,hb⟩:=hrel;have hsz:=hb.size;have hpl:=(Jh s b k).2;by_cases hlt:k<s.size
  ·by_cases hbk:(s[k].toNat:Int)=b
   ·have hbk':((s[k].toNat:Int)==b)=true:=by simp[hbk]
    have HP:=hide (KQ s b k hlt hbk);clear hbk;go_wp2_with fail
    refine(EK _ _ (by have:=ext_size s n k;omega)).mono ?_;rintro e w1 ⟨rfl,b1⟩;have s1:=b1.size;have ho1:=ho.below b1;have hb1:=hb.trans (b1.mono hsz);clear ho hb
    go_wp2_with (first
     |(at_builtin;refine wpList_append_own _ rfl _ _ 249 rfl w.heap.size 9 i0 (.string ⟨#[]⟩) 1 16 Tryz.underlying249 hi hz0 hz1 hz2 rfl (by decide) _ _ _ rfl (World.ownsRow.alloc ho1 _) ⟨w1.heap.size,0,none⟩ 1 1 [.string (s.extract n k)] rfl rfl (one_cell _ _ _) (KX _) (by unfold maxLen;omega) (by omega) (by simp;omega) ?_;intro v' w2 ho' hg' _;have R:=M6 (by omega) ho1 hb1 ho' hg';clear ho1 ho' hg' hb1))
    go_roundw
    case rel=>exact⟨k+1,k+1,by omega,by omega,by go_num,by go_num,by rw[HP.out];rfl,by rw[HP.out,←HN.out];exact R.1,R.2⟩
    case measure=>simp[intOf];omega
   have hbk':((s[k].toNat:Int)==b)=false:=by simp[hbk]
   have HP:=hide (Iq s b k hlt hbk);clear hbk;have HO:=hide ho;clear ho;go_wp2
   go_roundw
   case rel=>exact⟨k+1,n,by omega,by omega,by go_num,rfl,by rw[HP.out];exact HN,by rw[HP.out];exact HO.out,hb⟩
   case measure=>simp[intOf];omega
  have hks:k=s.size:=by omega
  have HA:Hid (Ag s b=(Gt s b k).1++[s.extract n s.size]):=by unfold Ag;rw[HN.out,hks];rfl
  clear hks;go_wp2_with fail
  refine(EK _ _ (by have:=ext_size s n s.size;omega)).mono ?_;rintro e w1 ⟨rfl,b1⟩;have s1:=b1.size;have ho1:=ho.below b1;have hb1:=hb.trans (b1.mono hsz);clear ho hb
  go_wp2_with (first
   |(at_builtin;refine wpList_append_own _ rfl _ _ 249 rfl w.heap.size 9 i0 (.string ⟨#[]⟩) 1 16 Tryz.underlying249 hi hz0 hz1 hz2 rfl (by decide) _ _ _ rfl (World.ownsRow.alloc ho1 _) ⟨w1.heap.size,0,none⟩ 1 1 [.string (s.extract n s.size)] rfl rfl (one_cell _ _ _) (KX _) (by unfold maxLen;omega) (by omega) (by simp;omega) ?_;intro v' w2 ho' hg' _;have R:=M6 (by omega) ho1 hb1 ho' hg';clear ho1 ho' hg' hb1))
  go_ret;exact⟨_,rfl,by rw[HA.out];exact R.1,R.2⟩
end
end Go.Proofs.YtcjmcgolgbkknaaGreatDoor
