/- Lemmas; their conditions stand in each statement. -/
import Derived.Test.YtcjmcgolgbkknaaGreatDoorWRAC
import Derived.Shelf.Strings.Builder2
import Derived.Shelf.Small.Wraps
import Derived.Shelf.Strconv.Itoa3
import Derived.Shelf.Strconv.ErrVarAll
import Derived.Shelf.Strings.Shaped
import Derived.Shelf.Strings.LastIndex
import Derived.Shelf.Slices.SearchI
set_option maxRecDepth 100000
set_option maxHeartbeats 16000000
set_option linter.unusedSectionVars false
namespace Go.Proofs.YtcjmcgolgbkknaaGreatDoor
section
open Go.RowKit
abbrev bv(m:ByteArray)(n:Int)(s:ByteArray)(v:Value):Value:= .agg #[.string m,.int .i64 n,.string s,v]

theorem Xl(m:ByteArray)(n:Int)(s:ByteArray)(a b:Value)(xs:List Int)(w:World)(ha:RI w a xs)(hb:RI w b xs):
 Calls Tryz.prog 73 #[bv m n s a,bv m n s b] w fun e w'=>e= .returned (.bool true)∧Below w.heap.size w w':=by
 have R1:=hide ha;have R2:=hide hb;have B:=hide (Bn w (.cells #[.string m,.int .i64 n,.string s,a] 71) (.cells #[.string m,.int .i64 n,.string s,b] 71));clear ha hb;go_enter Tryz.func73,Tryz.ntmps73
 go_wp2_with fail
 refine(Qv n s a b xs _ (R1.out.below B.out Af) (R2.out.below B.out Af)).mono ?_;rintro e w1 ⟨rfl,b1⟩;go_wp2;go_ret;exact⟨rfl,B.out.trans (b1.mono B.out.size)⟩

theorem JJ(m:ByteArray)(n:Int)(s:ByteArray)(ao:Option Addr)(k ca:Nat)(left:Int)(w:World)(h:(m.size:Int)+s.size+k≤left)(hl:left≤1048576):
 Calls Tryz.prog 64 #[bv m n s (.slice ao k ca),.int .i64 left] w fun e w'=>e= .returned (.int .i64 (left-m.size-s.size-k))∧Below w.heap.size w w':=by
 have h1:decide ((left:Int)-(m.size:Int)<0)=false:=by simp;omega
 have h2:decide ((left:Int)-(m.size:Int)-(s.size:Int)-(k:Int)<0)=false:=by simp;omega
 have ZQ:=hide fun w=>Le n s ao k ca (left-m.size) w (by omega) (by omega);have B:=hide (Ac w (.cells #[.string m,.int .i64 n,.string s,.slice ao k ca] 62));go_enter Tryz.func64,Tryz.ntmps64
 go_wp2_with fail
 refine(ZQ.out _).mono ?_;rintro e w1 ⟨rfl,b1⟩;go_wp2;go_ret;exact⟨rfl,B.out.trans (b1.mono B.out.size)⟩
theorem WC(m:ByteArray)(n:Int)(s:ByteArray)(ao:Option Addr)(k ca:Nat)(left:Int)(w:World)(h0:0≤left)(h:left<m.size)(hs:m.size≤9223372036854775807)(hl:left≤1048576):
 Calls Tryz.prog 64 #[bv m n s (.slice ao k ca),.int .i64 left] w fun e w'=>e= .returned (.int .i64 (-1))∧Below w.heap.size w w':=by
 have h1:decide ((left:Int)-(m.size:Int)<0)=true:=by simp;omega
 go_enter Tryz.func64,Tryz.ntmps64
 go_wp2;go_ret;exact⟨rfl,Ac _ _⟩
theorem WB(m:ByteArray)(n:Int)(s:ByteArray)(ao:Option Addr)(k ca:Nat)(left:Int)(w:World)(h0:(m.size:Int)≤left)(h:left<m.size+s.size+k)(hs:s.size≤9223372036854775807)(hk:k≤9223372036854775807)(hl:left≤1048576):
 Calls Tryz.prog 64 #[bv m n s (.slice ao k ca),.int .i64 left] w fun e w'=>e= .returned (.int .i64 (-1))∧Below w.heap.size w w':=by
 have h1:decide ((left:Int)-(m.size:Int)<0)=false:=by simp;omega
 have ZQ:=hide fun w=>UH n s ao k ca (left-m.size) w (by omega) (by omega) hs hk (by omega);have B:=hide (Ac w (.cells #[.string m,.int .i64 n,.string s,.slice ao k ca] 62));go_enter Tryz.func64,Tryz.ntmps64
 go_wp2_with fail
 refine(ZQ.out _).mono ?_;rintro e w1 ⟨rfl,b1⟩;go_wp2;go_ret;exact⟨rfl,B.out.trans (b1.mono B.out.size)⟩
theorem Yl(m:ByteArray)(n:Int)(s:ByteArray)(ao:Option Addr)(k ca:Nat)(left:Int)(w:World)(h0:0≤left)(h:left<m.size+s.size+k)(hm:m.size≤9223372036854775807)(hs:s.size≤9223372036854775807)(hk:k≤9223372036854775807)(hl:left≤1048576):
 Calls Tryz.prog 64 #[bv m n s (.slice ao k ca),.int .i64 left] w fun e w'=>e= .returned (.int .i64 (-1))∧Below w.heap.size w w':=by
 by_cases h1:left<(m.size:Int)
 ·exact WC m n s ao k ca left w h0 h1 hm hl
 exact WB m n s ao k ca left w (by omega) h hs hk hl

theorem Kp.same(w:World)(X:Nat→Prop):Kp w w X:=Below.Bf (Below.refl w.heap.size w) X
theorem Kp.put{a b:World}{X:Nat→Prop}(h:Kp a b X){g:Nat}(hg:X g)(j:Nat)(v:Value):Kp a (b.setCell ⟨g,j,none⟩ v) X:=h.trans ((AJ _ _ _ _).mono fun _ e=>e▸hg)
abbrev zb:Array Value:= #[.string ⟨#[]⟩,.int .i64 0,.string ⟨#[]⟩,.slice none 0 0]
theorem kp4(w:World)(g:Nat)(a b c d:Value):Kp w ((((w.setCell ⟨g,0,none⟩ a).setCell ⟨g,1,none⟩ b).setCell ⟨g,2,none⟩ c).setCell ⟨g,3,none⟩ d) (fun k=>k=g):=
 (((AJ _ _ _ _).trans (AJ _ _ _ _)).trans (AJ _ _ _ _)).trans (AJ _ _ _ _)
theorem Vw(m:ByteArray)(n:Int)(s:ByteArray)(a:Value)(xs:List Int)(w:World)(ha:RI w a xs):
 Calls Tryz.prog 67 #[bv m n s a] w fun e w'=>∃u,e= .returned (bv m n s u)∧OI w' w.heap.size u xs∧Below w.heap.size w w':=by
 obtain⟨w0,hw0⟩:∃w0,((w.alloc (.cells #[.string m,.int .i64 n,.string s,a] 62)).alloc (.cells zb 71)).alloc (.cells #[.string m,.int .i64 0,.string ⟨#[]⟩,.slice none 0 0] 71)=w0:=⟨_,rfl⟩
 have B0:Below w.heap.size w w0:=hw0▸((Bn _ _ _).alloc (by simp;omega) _);have LZ:Loc w0 (w.heap.size+1) zb:=hw0▸(AB (w.alloc _) _ _ (by simp)).alloc _;have LO:Loc w0 (w.heap.size+1+1) #[.string m,.int .i64 0,.string ⟨#[]⟩,.slice none 0 0]:=hw0▸AB ((w.alloc _).alloc _) _ _ (by simp);have s0:w0.heap.size=w.heap.size+1+1+1:=by rw[←hw0];simp
 have LA:Loc w0 w.heap.size #[.string m,.int .i64 n,.string s,a]:=hw0▸((AB w _ _ rfl).alloc _).alloc _;have a0:=LA.cell 0 rfl;have a1:=LA.cell 1 rfl;have a2:=LA.cell 2 rfl;have a3:=LA.cell 3 rfl;have TQ:=hide (Ps n s a xs w0 (ha.below B0));have HZ:=hide LZ;have HO:=hide LO;clear ha LZ LO LA;go_enter Tryz.func67,Tryz.ntmps67
 go_wp2_with fail
 clear hw0;refine TQ.out.mono ?_;rintro e w1 ⟨u,rfl,o1,b1⟩;have B1:Below w.heap.size w w1:=bu B0 b1;have Z1:=HZ.out.below b1 HZ.out.lt;have O1:=HO.out.below b1 HO.out.lt;have y0:=Z1.cell 0 rfl;have y1:=Z1.cell 1 rfl;have y2:=Z1.cell 2 rfl;have y3:=Z1.cell 3 rfl;have fy:=Z1.frozen;have x0:=O1.cell 0 rfl;have x1:=O1.cell 1 rfl;have x2:=O1.cell 2 rfl;have x3:=O1.cell 3 rfl;have fx:=O1.frozen;have dw:=World.ownsRow.lt o1;obtain⟨ua,uc,rfl⟩:=o1.form;have H1:=hide o1;clear o1 b1 Z1 O1 HZ HO TQ a0 a1 a2 a3;go_wp2;refine bodyPost_ret (v:=bv m n s (.slice ua xs.length uc)) (by simp[results,Tryz.results67,go_sem,y0,y1,y2,y3]) rfl ?_;have K:Kp w1 _ (fun k=>k=w.heap.size+1∨k=w.heap.size+1+1):=(((((((Kp.same w1 _).put (g:=w.heap.size+1+1) (.inr rfl) 1 (.int .i64 n)).put (g:=w.heap.size+1+1) (.inr rfl) 2 (.string s)).put (g:=w.heap.size+1+1) (.inr rfl) 3 (.slice ua xs.length uc)).put (g:=w.heap.size+1) (.inl rfl) 0 (.string m)).put (g:=w.heap.size+1) (.inl rfl) 1 (.int .i64 n)).put (g:=w.heap.size+1) (.inl rfl) 2 (.string s)).put (g:=w.heap.size+1) (.inl rfl) 3 (.slice ua xs.length uc);exact⟨_,rfl,(H1.out.kp K (fun k hk=>by have:=dw k hk;omega)).mono (by omega),Below.kp B1 K B1.size (fun k hk=>by omega)⟩
end
section
open Go.ChangeShapes Go.WideShapes Go.ChangeAt Go.RowKit
open Go.Joins
variable [∀(a b c d:Int),Decidable (BK a b c d)] [∀(n f:Int),Decidable (A9 n f)]
theorem Ay:Tryz.prog.cellsOf 62=4:=by kernel_rfl
theorem Ai:Tryz.prog.cellsOf 9=1:=by kernel_rfl
theorem Ag:Tryz.prog.cellsOf 3=1:=by kernel_rfl
theorem A8:Tryz.prog.cellsOf 24=1:=by kernel_rfl
end
section
open Go Go.RowKit
section
variable {P:Program} {ops:Array Oper} {Q:Exit→Act→World→Prop} {md:Region.Mode} {S:World→Prop}
theorem take_at{i d:Nat}{oi:Oper}{v:Value}{fuel:Nat}{listed:Array Bool}{a:Act}{w:World}(hi:ops[i]? =some oi)(hd:oi.dst=some d)
 (hs:Region.noSelect ops=true) (hf:Region.free md ops listed i=true) (hr:(Region.ready md ops listed).contains i=true)
 (hQ:∀c a w,Q (.panic c) (a.put (some d) v) w→Q (.panic c) a w) (hy:YieldsIf P ops S oi v a) (hS:S w)
 (h:wpAnyH P md ops Q S fuel (listed.setIfInBounds i true) (a.put (some d) v) w):wpAnyH P md ops Q S (fuel+1) listed a w:=
 wpAnyH_take hi hs hf hr (by rw[hd];exact hQ) hy hS (by rw[hd];exact h)
theorem nC{i:Nat}{o:Oper}{fuel:Nat}{listed:Array Bool}{a:Act}{w:World}(ho:ops[i]? =some o)(hr:Region.ready md ops listed=[i])
 (h:∀K':Act→World→Prop,Shut (∀a w,S w→(S w→wpAnyH P md ops Q S fuel (listed.setIfInBounds i true) a w)→K' a w)→if Region.wanted o (yielded ops a.tmps)=true then Oper.wp P o a w K' Q else K' (a.put o.dst undef) w):
 wpAnyH P md ops Q S (fuel+1) listed a w:=
 wpAnyH_ready hr (by simp) (AllReadyH.cons ho h AllReadyH.nil)
end
section
variable {P:Program} {ops:Array Oper} {Q:Exit→Act→World→Prop} {md:Region.Mode} {S:World→Prop}
theorem tk(i d:Nat){oi:Oper}{v:Value}{fuel:Nat}{listed:Array Bool}{a:Act}{w:World}(hi:ops[i]? =some oi)(hd:oi.dst=some d:=by exact rfl)
 (hs:Region.noSelect ops=true:=by kernel_rfl) (hf:Region.free md ops listed i=true:=by kernel_rfl) (hr:(Region.ready md ops listed).contains i=true:=by kernel_rfl)
 (hy:YieldsIf P ops S oi v a)
 (hQ:∀c a w,Q (.panic c) (a.put (some d) v) w→Q (.panic c) a w:=by exact fun _ _ _ h=>h) (hS:S w:=by assumption)
 (h:wpAnyH P md ops Q S fuel (listed.setIfInBounds i true) (a.put (some d) v) w):wpAnyH P md ops Q S (fuel+1) listed a w:=
 take_at hi hd hs hf hr hQ hy hS h
theorem sk(i d:Nat){oi:Oper}{fuel:Nat}{listed:Array Bool}{a:Act}{w:World}(hi:ops[i]? =some oi)(hd:oi.dst=some d:=by exact rfl)
 (hs:Region.noSelect ops=true:=by kernel_rfl) (hf:Region.free md ops listed i=true:=by kernel_rfl) (hr:(Region.ready md ops listed).contains i=true:=by kernel_rfl)
 (hy:YieldsIf P ops S oi undef a:=by exact Or.inr ⟨by rfl,rfl⟩)
 (hQ:∀c a w,Q (.panic c) (a.put (some d) undef) w→Q (.panic c) a w:=by exact fun _ _ _ h=>h) (hS:S w:=by assumption)
 (h:wpAnyH P md ops Q S fuel (listed.setIfInBounds i true) (a.put (some d) undef) w):wpAnyH P md ops Q S (fuel+1) listed a w:=
 take_at hi hd hs hf hr hQ hy hS h
theorem tj(i d:Nat){oi:Oper}{v:Value}{fuel:Nat}{listed:Array Bool}{a:Act}{w:World}(hi:ops[i]? =some oi)
 (hy:∀w,S w→(execOp a.eval oi).run P w= .ok (.value v) w) (h:wpAnyH P md ops Q S fuel (listed.setIfInBounds i true) (a.put (some d) v) w) (hw:Region.wanted oi (yielded ops a.tmps)=true:=by rfl) (hd:oi.dst=some d:=by exact rfl)
 (hs:Region.noSelect ops=true:=by kernel_rfl) (hf:Region.free md ops listed i=true:=by kernel_rfl) (hr:(Region.ready md ops listed).contains i=true:=by kernel_rfl)
 (hQ:∀c a w,Q (.panic c) (a.put (some d) v) w→Q (.panic c) a w:=by exact fun _ _ _ h=>h) (hS:S w:=by assumption):wpAnyH P md ops Q S (fuel+1) listed a w:=
 take_at hi hd hs hf hr hQ (.inl ⟨hw,hy⟩) hS h
theorem rd(i:Nat){o:Oper}{fuel:Nat}{listed:Array Bool}{a:Act}{w:World}(ho:ops[i]? =some o)
 (h:∀K':Act→World→Prop,Shut (∀a w,S w→(S w→wpAnyH P md ops Q S fuel (listed.setIfInBounds i true) a w)→K' a w)→if Region.wanted o (yielded ops a.tmps)=true then Oper.wp P o a w K' Q else K' (a.put o.dst undef) w) (hr:Region.ready md ops listed=[i]:=by kernel_rfl):
 wpAnyH P md ops Q S (fuel+1) listed a w:=nC ho hr h
theorem wrd{id:Nat}{a:Act}{w:World}(K:Hid (∀w',Below w.heap.size w w'→S w'))(b:Below w.heap.size w w.drew)
 (h:S w.drew→wpAnyH P .any ops Q S ops.size (Array.replicate ops.size false) a w.drew) (hm:P.follows .mixedOrders=true:=by kernel_rfl):(Code.region id ops true).wp P Q a w:=
 wp_region_held_drew hm (K.out _ b) h
theorem qo{id:Nat}{a:Act}{w:World}(K:Hid (∀w',Below w.heap.size w w'→S w'))(b:Below w.heap.size w w.drew)
 (h:S w.drew→wpAnyH P .any ops (NoPanic Q) S ops.size (Array.replicate ops.size false) a w.drew) (hm:P.follows .mixedOrders=true:=by kernel_rfl):(Code.region id ops true).wp P Q a w:=
 wp_region_noPanic (wrd K b h hm)
theorem Bu{fuel:Nat}{listed:Array Bool}{a:Act}{w:World}(h:Q .normal a w)(hr:Region.ready md ops listed=[]:=by kernel_rfl):wpAnyH P md ops (NoPanic Q) S fuel listed a w:=
 wpAnyH_done hr (NoPanic.normal h) _
theorem tz(i d:Nat){oi:Oper}{v:Value}{fuel:Nat}{listed:Array Bool}{a:Act}{w:World}
 (h:wpAnyH P md ops Q S fuel (listed.setIfInBounds i true) (a.put (some d) v) w) (hi:ops[i]? =some oi:=by exact rfl) (hy:∀w,S w→(execOp a.eval oi).run P w= .ok (.value v) w:=by intro w h;go_simp;try rfl) (hw:Region.wanted oi (yielded ops a.tmps)=true:=by rfl) (hd:oi.dst=some d:=by exact rfl)
 (hs:Region.noSelect ops=true:=by kernel_rfl) (hf:Region.free md ops listed i=true:=by kernel_rfl) (hr:(Region.ready md ops listed).contains i=true:=by kernel_rfl)
 (hQ:∀c a w,Q (.panic c) (a.put (some d) v) w→Q (.panic c) a w:=by exact fun _ _ _ h=>h) (hS:S w:=by assumption):wpAnyH P md ops Q S (fuel+1) listed a w:=
 take_at hi hd hs hf hr hQ (.inl ⟨hw,hy⟩) hS h
end
theorem pU:(∀(a:Act)(d:Nat)(v:Value),a.put (some d) v={ a with tmps:=a.tmps.setIfInBounds d v })∧(∀(α:Type)(l:List α)(i:Nat)(x:α),l.toArray.setIfInBounds i x=(l.set i x).toArray)∧(∀(α:Type)(x y:α)(l:List α),(x :: l).set 0 y=y :: l)∧(∀(α:Type)(x y:α)(l:List α)(i:Nat),(x :: l).set (i+1) y=x :: l.set i y):=
 ⟨fun _ _ _=>rfl,fun _ _ _ _=>by simp,fun _ _ _ _=>rfl,fun _ _ _ _ _=>rfl⟩
section
variable {P:Program} {ops:Array Oper} {Q:Exit→Act→World→Prop} {md:Region.Mode} {S:World→Prop}
theorem tx(i d:Nat){oi:Oper}{v:Value}{fuel:Nat}{listed:Array Bool}{a A:Act}{w:World}
 (h:wpAnyH P md ops Q S fuel (listed.setIfInBounds i true) A w) (hi:ops[i]? =some oi:=by exact rfl) (hy:∀w,S w→(execOp a.eval oi).run P w= .ok (.value v) w:=by intro w h;go_simp;try rfl)
 (hA:A=a.put (some d) v:=by simp only[pU];exact rfl) (hw:Region.wanted oi (yielded ops a.tmps)=true:=by rfl) (hd:oi.dst=some d:=by exact rfl)
 (hs:Region.noSelect ops=true:=by kernel_rfl) (hf:Region.free md ops listed i=true:=by kernel_rfl) (hr:(Region.ready md ops listed).contains i=true:=by kernel_rfl)
 (hQ:∀c a w,Q (.panic c) (a.put (some d) v) w→Q (.panic c) a w:=by exact fun _ _ _ h=>h) (hS:S w:=by assumption):wpAnyH P md ops Q S (fuel+1) listed a w:=
 take_at hi hd hs hf hr hQ (.inl ⟨hw,hy⟩) hS (hA▸h)
end
section
variable {P:Program} {ops:Array Oper} {Q:Exit→Act→World→Prop} {S:World→Prop}
theorem Em{id:Nat}{a:Act}{w:World}(K:Hid (∀w',Below w.heap.size w w'→S w'))
 (h:Below w.heap.size w w.drew→S w.drew→wpAnyH P .any ops (NoPanic Q) S ops.size (Array.replicate ops.size false) a w.drew) (hm:P.follows .mixedOrders=true:=by kernel_rfl):(Code.region id ops true).wp P Q a w:=
 qo K (Below.drew (Below.refl _ _)) (h (Below.drew (Below.refl _ _))) hm
theorem zU{id:Nat}{a:Act}{w:World}{X:Nat→Prop}(K:Hid (∀w',Kp w w' X→S w'))
 (h:∀v,Kp w v X→Below w.heap.size w v→S v→wpAnyH P .any ops (NoPanic Q) S ops.size (Array.replicate ops.size false) a v) (hm:P.follows .mixedOrders=true:=by kernel_rfl):(Code.region id ops true).wp P Q a w:=
 wp_region_noPanic (wp_region_held_drew hm (K.out _ (Below.Bf (Below.drew (Below.refl _ _)) _)) (h _ (Below.Bf (Below.drew (Below.refl _ _)) _) (Below.drew (Below.refl _ _))))
end
section
variable {P:Program} {ops:Array Oper} {Q:Exit→Act→World→Prop} {md:Region.Mode} {S:World→Prop}
theorem sx(i d:Nat){oi:Oper}{fuel:Nat}{listed:Array Bool}{a A:Act}{w:World}(h:wpAnyH P md ops Q S fuel (listed.setIfInBounds i true) A w)(hi:ops[i]? =some oi:=by exact rfl)
 (hA:A=a.put (some d) undef:=by simp only[pU];exact rfl) (hd:oi.dst=some d:=by exact rfl)
 (hs:Region.noSelect ops=true:=by kernel_rfl) (hf:Region.free md ops listed i=true:=by kernel_rfl) (hr:(Region.ready md ops listed).contains i=true:=by kernel_rfl)
 (hy:YieldsIf P ops S oi undef a:=by exact Or.inr ⟨by rfl,rfl⟩)
 (hQ:∀c a w,Q (.panic c) (a.put (some d) undef) w→Q (.panic c) a w:=by exact fun _ _ _ h=>h) (hS:S w:=by assumption):wpAnyH P md ops Q S (fuel+1) listed a w:=
 take_at hi hd hs hf hr hQ hy hS (hA▸h)
end
end
section
open Go.RowKit
theorem Qw(n:Int)(s:ByteArray)(a b:Value)(xs:List Int)(w:World)(ha:RI w a xs)(hb:RI w b xs):
 Calls Tryz.prog 74 #[qv n s a,qv n s b] w fun e w'=>e= .returned (.bool true)∧Below w.heap.size w w':=by
 have R1:=hide ha;have R2:=hide hb;have B:=hide (Bn w (.cells #[.int .i64 n,.string s,a] 72) (.cells #[.int .i64 n,.string s,b] 72));clear ha hb;go_enter Tryz.func74,Tryz.ntmps74
 go_wp2_with fail
 refine(Qx a b xs _ (R1.out.below B.out Af) (R2.out.below B.out Af)).mono ?_;rintro e w1 ⟨rfl,n,rfl⟩;go_wp2;go_ret;exact⟨rfl,below_drewN' B.out _⟩

theorem IW(n:Int)(s:ByteArray)(ao:Option Addr)(m ca:Nat)(left:Int)(w:World)(h:(s.size:Int)+m≤left)(hl:left≤1048576):
 Calls Tryz.prog 65 #[qv n s (.slice ao m ca),.int .i64 left] w fun e w'=>e= .returned (.int .i64 (left-s.size-m))∧Below w.heap.size w w':=by
 have h1:decide ((left:Int)-(s.size:Int)<0)=false:=by simp;omega
 have h2:decide ((left:Int)-(s.size:Int)-(m:Int)<0)=false:=by simp;omega
 go_enter Tryz.func65,Tryz.ntmps65
 go_wp2_with (first|(go_at_call 115;refine(P5 _ _ _ _ _ (by omega) (by omega)).mono ?_;rintro e w' ⟨rfl,rfl⟩))
 go_ret;exact⟨rfl,Ac _ _⟩

theorem Yi(n:Int)(s:ByteArray)(ao:Option Addr)(m ca:Nat)(left:Int)(w:World)(h0:0≤left)(h:left<s.size)(hs:s.size≤9223372036854775807)(hl:left≤1048576):
 Calls Tryz.prog 65 #[qv n s (.slice ao m ca),.int .i64 left] w fun e w'=>e= .returned (.int .i64 (-1))∧Below w.heap.size w w':=by
 have h1:decide ((left:Int)-(s.size:Int)<0)=true:=by simp;omega
 go_enter Tryz.func65,Tryz.ntmps65
 go_wp2;go_ret;exact⟨rfl,Ac _ _⟩

theorem Yh(n:Int)(s:ByteArray)(ao:Option Addr)(m ca:Nat)(left:Int)(w:World)(h0:(s.size:Int)≤left)(h:left<s.size+m)(hm:m≤9223372036854775807)(hl:left≤1048576):
 Calls Tryz.prog 65 #[qv n s (.slice ao m ca),.int .i64 left] w fun e w'=>e= .returned (.int .i64 (-1))∧Below w.heap.size w w':=by
 have h1:decide ((left:Int)-(s.size:Int)<0)=false:=by simp;omega
 go_enter Tryz.func65,Tryz.ntmps65
 go_wp2_with fail
 refine(Sc _ _ _ _ _ (by omega) (by omega) (by omega) hm).mono ?_;rintro e w' ⟨rfl,rfl⟩;go_wp2;go_ret;exact⟨rfl,Ac _ _⟩

theorem Sb(n:Int)(s:ByteArray)(ao:Option Addr)(m ca:Nat)(left:Int)(w:World)(h0:0≤left)(h:left<s.size+m)(hs:s.size≤9223372036854775807)(hm:m≤9223372036854775807)(hl:left≤1048576):
 Calls Tryz.prog 65 #[qv n s (.slice ao m ca),.int .i64 left] w fun e w'=>e= .returned (.int .i64 (-1))∧Below w.heap.size w w':=by
 by_cases h1:left<(s.size:Int)
 ·exact Yi n s ao m ca left w h0 h1 hs hl
 exact Yh n s ao m ca left w (by omega) h hm hl

theorem Pv(n:Int)(s:ByteArray)(a:Value)(xs:List Int)(w:World)(ha:RI w a xs):
 Calls Tryz.prog 68 #[qv n s a] w fun e w'=>∃u,e= .returned (qv n s u)∧OI w' w.heap.size u xs∧Below w.heap.size w w':=by
 have R1:=hide ha;clear ha;go_enter Tryz.func68,Tryz.ntmps68
 go_wp2_with fail
 refine Calls.mono (Pw a xs _ (R1.out.below ((((Below.refl w.heap.size w).alloc Af _).alloc (by simp) _).alloc (by simp;omega) _) Af)) ?_;rintro e w1 ⟨u,rfl,o1,b1⟩;have s1:=b1.size;have L1:Loc w1 (w.heap.size+1) #[.int .i64 0,.string ⟨#[]⟩,.slice none 0 0]:=Loc.below (Loc.alloc (AB (w.alloc _) #[.int .i64 0,.string ⟨#[]⟩,.slice none 0 0] _ (by simp)) _) b1 (by simp);have L2:Loc w1 (w.heap.size+1+1) #[.int .i64 n,.string s,.slice none 0 0]:=Loc.below (AB ((w.alloc _).alloc _) #[.int .i64 n,.string s,.slice none 0 0] _ (by simp)) b1 (by simp);have B1:Below w.heap.size w w1:=((((Below.refl w.heap.size w).alloc Af _).alloc (by simp) _).alloc (by simp;omega) _).trans (b1.mono (by simp;omega));have dw:=World.ownsRow.lt o1;simp at dw s1;have y0:=L1.cell 0 rfl;have y1:=L1.cell 1 rfl;have y2:=L1.cell 2 rfl;have fy0:=L1.frozen 0;have fy1:=L1.frozen 1;have fy2:=L1.frozen 2;have z0:=L2.cell 0 rfl;have z1:=L2.cell 1 rfl;have z2:=L2.cell 2 rfl;have fz2:=L2.frozen 2;obtain⟨ua,uc,hu⟩:=o1.form;have O1:=hide o1;clear o1 b1;subst hu;go_wp2;refine bodyPost_ret (v:=qv n s (.slice ua xs.length uc)) (by simp[results,Tryz.results68,go_sem,y0,y1,y2]) rfl ?_
 have K:Kp w1 ((((w1.setCell ⟨w.heap.size+1+1,2,none⟩ (.slice ua xs.length uc)).setCell ⟨w.heap.size+1,0,none⟩ (.int .i64 n)).setCell ⟨w.heap.size+1,1,none⟩ (.string s)).setCell ⟨w.heap.size+1,2,none⟩ (.slice ua xs.length uc)) (fun k=>k=w.heap.size+1∨k=w.heap.size+1+1):=
  (((((AJ _ _ _ _).mono (fun k h=> .inr h))).trans ((AJ _ _ _ _).mono (fun k h=> .inl h))).trans ((AJ _ _ _ _).mono (fun k h=> .inl h))).trans ((AJ _ _ _ _).mono (fun k h=> .inl h))
 exact⟨_,rfl,(O1.out.kp K (fun k hk=>by have:=dw k hk;omega)).mono (by simp;omega),Below.kp B1 K B1.size (fun k hk=>by omega)⟩

abbrev zpo:Obj:= .cells #[.int .i64 0,.string ⟨#[]⟩,.slice none 0 0] 72

theorem Na (n          :Int)(s:ByteArray)(v:Value)(xs:List Int)(w:World)(h:RI w v xs):
 Calls Tryz.prog 133 #[qv n s v] w fun e w'=>∃u,e= .returned (qv n s u)∧OI w' w.heap.size u xs∧Below w.heap.size w w':=by
 obtain⟨ao,ca,rfl⟩:=h.form;have hl:=h.1;obtain⟨w0,hw0⟩:∃w0,((w.alloc (.cells #[.int .i64 n,.string s,.slice ao xs.length ca] 72)).alloc zpo).alloc (.cells #[] 3)=w0:=⟨_,rfl⟩
 have B0:Below w.heap.size w w0:=hw0▸((Bn _ _ _).alloc (by simp;omega) _);have LA:Loc w0 w.heap.size #[.int .i64 n,.string s,.slice ao xs.length ca]:=hw0▸((AB w _ _ rfl).alloc _).alloc _;have LZ:Loc w0 (w.heap.size+1) #[.int .i64 0,.string ⟨#[]⟩,.slice none 0 0]:=hw0▸(AB (w.alloc _) _ _ (by simp)).alloc _;have s0:w0.heap.size=w.heap.size+1+1+1:=by rw[←hw0];simp
 have O0:OI w0 (w.heap.size+1+1) (.slice (some ⟨w.heap.size+1+1,0,none⟩) 0 0) []:=by
  have:=World.ownsRow_lit (base:=w.heap.size+1+1) (e:=3) (size:=1) ((w.alloc (.cells #[.int .i64 n,.string s,.slice ao xs.length ca] 72)).alloc zpo) #[] 0 (by simp) (by unfold maxLen;omega) (by simp);rw[hw0]at this;simpa[OI]using this
 have P0:=hide (h.pi.below B0);have x2:=LA.cell 2 rfl;have HL:=hide LA;have HZ:=hide LZ;clear h LA LZ;go_enter Tryz.func133,Tryz.ntmps133
 go_wp2_with (first | (at_builtin;clear hw0;refine Nk rfl _ _ rfl (w.heap.size+1+1) (.slice (some ⟨w.heap.size+1+1,0,none⟩) 0 0) (.slice ao xs.length ca) [] xs rfl rfl O0 P0.out (by simp;omega) (by omega) ?_;intro v' w2 ho2 hg2 _
                       have k2:=Bo hg2;have L2:=HL.out.kp k2 (by simp[Value.ownBlock];omega);have Z2:=HZ.out.kp k2 (by simp[Value.ownBlock]);have B2:=Below.kp B0 k2 B0.size (fun k hk=>by simp[Value.ownBlock]at hk;omega);have MC:=World.ownsRow.lt ho2;have p0:=L2.cell 0 rfl;have p1:=L2.cell 1 rfl;have p2:=L2.cell 2 rfl;have fp:=L2.frozen;have y0:=Z2.cell 0 rfl;have y1:=Z2.cell 1 rfl;have y2:=Z2.cell 2 rfl;have fy:=Z2.frozen;obtain⟨ua,uc,rfl⟩:=ho2.form;have O2:=hide ho2;clear ho2 hg2 k2 L2 Z2))
 refine bodyPost_ret (v:=qv n s (.slice ua ([]++xs).length uc)) (by simp[results,Tryz.results133,go_sem,y0,y1,y2]) rfl ?_
 have K5:Kp w2 ((((w2.setCell ⟨w.heap.size,2,none⟩ (.slice ua ([]++xs).length uc)).setCell ⟨w.heap.size+1,0,none⟩ (.int .i64 n)).setCell ⟨w.heap.size+1,1,none⟩ (.string s)).setCell ⟨w.heap.size+1,2,none⟩ (.slice ua ([]++xs).length uc)) (fun k=>k=w.heap.size∨k=w.heap.size+1):=
  (((((AJ _ _ _ _).mono (fun k h=> .inl h))).trans ((AJ _ _ _ _).mono (fun k h=> .inr h))).trans ((AJ _ _ _ _).mono (fun k h=> .inr h))).trans ((AJ _ _ _ _).mono (fun k h=> .inr h))
 exact⟨_,rfl,(O2.out.kp K5 (fun k hk=>by have:=MC k hk;omega)).mono (by omega),Below.kp B2 K5 B2.size (fun k hk=>by omega)⟩
end
section
open Go.RowKit
variable [∀(a b c d:Int),Decidable (BK a b c d)]
theorem Vt(a b c d:Int)(w:World):
 Calls Tryz.prog 69 #[IV a b c d] w fun e w'=>e= .returned (IV a b c d)∧Below w.heap.size w w':=by
 go_enter Tryz.func69,Tryz.ntmps69
 go_wp2;refine bodyPost_ret (v:=IV a b c d) (by simp[results,Tryz.results69,go_sem]) rfl ?_;exact⟨rfl,(((Below.refl _ _).alloc Af _).alloc (by simp) _).alloc (by simp;omega) _⟩

def CQ(w:World)(g:Nat)(a b c d:Int):Prop:=w.cell? ⟨g,0,none⟩=some (.int .i64 a)∧w.cell? ⟨g,1,none⟩=some (.int .i64 b)∧w.cell? ⟨g,2,none⟩=some (.int .i64 c)∧w.cell? ⟨g,3,none⟩=some (.int .i64 d)
theorem Gl(w:World)(a b c d:Int)(t:TypeId):CQ (w.alloc (.cells #[.int .i64 a,.int .i64 b,.int .i64 c,.int .i64 d] t)) w.heap.size a b c d:=by
 refine⟨?_,?_,?_,?_⟩<;>simp
theorem CQ.below{w w':World}{g B:Nat}{a b c d:Int}(h:CQ w g a b c d)(hb:Below B w w')(hg:g<B):CQ w' g a b c d:=
 ⟨(hb.cell (p:=⟨g,0,none⟩) hg).trans h.1,(hb.cell (p:=⟨g,1,none⟩) hg).trans h.2.1,(hb.cell (p:=⟨g,2,none⟩) hg).trans h.2.2.1,(hb.cell (p:=⟨g,3,none⟩) hg).trans h.2.2.2⟩
theorem TK(a b c d:Int)(w:World):
 Calls Tryz.prog 75 #[IV a b c d,IV a b c d] w fun e w'=>e= .returned (.bool true)∧Below w.heap.size w w':=by
 go_enter Tryz.func75,Tryz.ntmps75
 go_wp2;go_ret;exact⟨rfl,((Below.refl _ _).alloc Af _).alloc (by simp) _⟩
structure MT where
 k:Int
 vw:Int
 bn:ByteArray
 bv:Int
 bs:ByteArray
 bw:List Int
 pv:Int
 ps:ByteArray
 pw:List Int
 qv:Int
 qs:ByteArray
 qw:List Int
 wh:Int
 fr:Int
 tu:Int
 am:Int
 no:Int
abbrev F8(t:MT)(a b c:Value):Value:= .agg #[.int .i64 t.k,.int .i64 t.vw,.string t.bn,.int .i64 t.bv,.string t.bs,a,.int .i64 t.pv,.string t.ps,b,.int .i64 t.qv,.string t.qs,c,.int .i64 t.wh,.int .i64 t.fr,.int .i64 t.tu,.int .i64 t.am,.int .i64 t.no]
theorem ji(n:Int)(s:ByteArray)(v:Value)(m k0:Nat)(w:World)(hk:k0≤10000000)(hm:m≤10000000)(h:RI w v (BP k0 m)):
 Calls Tryz.prog 112 #[qv n s v,.int .i64 k0] w fun e w'=>e= .returned (.int .i64 (k0+m))∧Below w.heap.size w w':=by
 have R1:=hide h;have B:=hide (Ac w (.cells #[.int .i64 n,.string s,v] 38));have hd:decide ((k0:Int)+(m:Int)<0)=false:=by simp;omega
 clear h;go_enter Tryz.func112,Tryz.ntmps112
 go_wp2_with fail
 refine(IJ v m k0 _ (by omega) (R1.out.below B.out Af)).mono ?_;rintro e w1 ⟨rfl,rfl⟩;go_wp2;go_ret;exact⟨rfl,B.out⟩
theorem gL(t:MT)(ao bo co:Option Addr)(nb ca np cb nq cc:Nat)(left:Int)(w:World)(h:(t.bn.size:Int)+t.bs.size+nb+t.ps.size+np+t.qs.size+nq≤left)(hl:left≤1048576):
 Calls Tryz.prog 20 #[F8 t (.slice ao nb ca) (.slice bo np cb) (.slice co nq cc),.int .i64 left] w fun e w'=>e= .returned (.int .i64 (left-t.bn.size-t.bs.size-nb-t.ps.size-np-t.qs.size-nq))∧Below w.heap.size w w':=by
 have Z1:=hide fun w=>JJ t.bn t.bv t.bs ao nb ca left w (by omega) (by omega);have Z2:=hide fun w=>IW t.pv t.ps bo np cb (left-t.bn.size-t.bs.size-nb) w (by omega) (by omega);have Z3:=hide fun w=>Le t.qv t.qs co nq cc (left-t.bn.size-t.bs.size-nb-t.ps.size-np) w (by omega) (by omega);have h1:decide (left-(t.bn.size:Int)-(t.bs.size:Int)-(nb:Int)<0)=false:=by simp;omega
 have h2:decide (left-(t.bn.size:Int)-(t.bs.size:Int)-(nb:Int)-(t.ps.size:Int)-(np:Int)<0)=false:=by simp;omega
 have h3:decide (left-(t.bn.size:Int)-(t.bs.size:Int)-(nb:Int)-(t.ps.size:Int)-(np:Int)-(t.qs.size:Int)-(nq:Int)<0)=false:=by simp;omega
 obtain⟨w0,hw0,AO,A,Cm⟩:=bx1 w #[.int .i64 t.k,.int .i64 t.vw,.string t.bn,.int .i64 t.bv,.string t.bs,.slice ao nb ca,.int .i64 t.pv,.string t.ps,.slice bo np cb,.int .i64 t.qv,.string t.qs,.slice co nq cc,.int .i64 t.wh,.int .i64 t.fr,.int .i64 t.tu,.int .i64 t.am,.int .i64 t.no] 67;go_enter Tryz.func20,Tryz.ntmps20
 obtain⟨CJ,Dk,D7,GA,Gn,Io,I_,Iw,I9,Ht,Ct,Dj,D6,Ca⟩:=EX A 0 1 2 3 4 5 6 7 8 9 10 11 12 13;obtain⟨EF,EE,ED⟩:=CW A 14 15 16;go_wp2_with fail
 clear hw0;refine(Z1.out _).mono ?_;rintro _ w1 ⟨rfl,bb⟩;clear CJ Dk D7 GA Gn Io I_ Iw I9 Ht Ct Dj D6 Ca EF EE ED;have AL:=bu AO bb;have Cj:=bb.size;replace A:=A.up bb;clear AO bb;obtain⟨CJ,Dk,D7,GA,Gn,Io,I_,Iw,I9,Ht,Ct,Dj,D6,Ca⟩:=EX A 0 1 2 3 4 5 6 7 8 9 10 11 12 13;obtain⟨EF,EE,ED⟩:=CW A 14 15 16;go_wp2_with fail
 refine(Z2.out _).mono ?_;rintro _ w2 ⟨rfl,bb⟩;clear CJ Dk D7 GA Gn Io I_ Iw I9 Ht Ct Dj D6 Ca EF EE ED;have Ah:=bu AL bb;have Ej:=bb.size;replace A:=A.up bb;clear AL bb;obtain⟨CJ,Dk,D7,GA,Gn,Io,I_,Iw,I9,Ht,Ct,Dj,D6,Ca⟩:=EX A 0 1 2 3 4 5 6 7 8 9 10 11 12 13;obtain⟨EF,EE,ED⟩:=CW A 14 15 16;go_wp2_with fail
 refine(Z3.out _).mono ?_;rintro _ w3 ⟨rfl,bb⟩;clear CJ Dk D7 GA Gn Io I_ Iw I9 Ht Ct Dj D6 Ca EF EE ED;have BH:=bu Ah bb;have IL:=bb.size;replace A:=A.up bb;clear Ah bb;go_wp2;go_ret;exact⟨rfl,BH⟩
theorem jw(t:MT)(a b c a' b' c':Value)(xs ys zs:List Int)(w:World)(ha:RI w a xs)(hb:RI w b ys)(hc:RI w c zs)(ha':RI w a' xs)(hb':RI w b' ys)(hc':RI w c' zs):
 Calls Tryz.prog 24 #[F8 t a b c,F8 t a' b' c'] w fun e w'=>e= .returned (.bool true)∧Below w.heap.size w w':=by
 have E1:=hide fun w h h'=>Xl t.bn t.bv t.bs a a' xs w h h';have E2:=hide fun w h h'=>Qw t.pv t.ps b b' ys w h h';have E3:=hide fun w h h'=>Qv t.qv t.qs c c' zs w h h';have E4:=hide fun w=>TK t.fr t.tu t.am t.no w;have ha1:=hide ha;have ha2:=hide ha';have hb1:=hide hb;have hb2:=hide hb';have hc1:=hide hc;have hc2:=hide hc';clear ha hb hc ha' hb' hc';obtain⟨w0,hw0,AO,A,B,Cm⟩:=El w #[.int .i64 t.k,.int .i64 t.vw,.string t.bn,.int .i64 t.bv,.string t.bs,a,.int .i64 t.pv,.string t.ps,b,.int .i64 t.qv,.string t.qs,c,.int .i64 t.wh,.int .i64 t.fr,.int .i64 t.tu,.int .i64 t.am,.int .i64 t.no] 75 #[.int .i64 t.k,.int .i64 t.vw,.string t.bn,.int .i64 t.bv,.string t.bs,a',.int .i64 t.pv,.string t.ps,b',.int .i64 t.qv,.string t.qs,c',.int .i64 t.wh,.int .i64 t.fr,.int .i64 t.tu,.int .i64 t.am,.int .i64 t.no] 75;go_enter Tryz.func24,Tryz.ntmps24
 obtain⟨CJ,Dk,D7,GA,Gn,Io,I_,Iw,I9,Ht,Ct,Dj,D6,Ca⟩:=EX A 0 1 2 3 4 5 6 7 8 9 10 11 12 13;obtain⟨EF,EE,ED⟩:=CW A 14 15 16;obtain⟨cB0,cB1,cB2,cB3,Re,Rc,Rb,Ra,RV,Ol,GX,Gv,Gu,Gm⟩:=EX B 0 1 2 3 4 5 6 7 8 9 10 11 12 13;obtain⟨Ho,Hl,Hg⟩:=CW B 14 15 16;go_wp2_with fail
 clear hw0;refine(E1.out _ (ha1.out.below AO) (ha2.out.below AO)).mono ?_;rintro _ w1 ⟨rfl,bb⟩;clear CJ Dk D7 GA Gn Io I_ Iw I9 Ht Ct Dj D6 Ca EF EE ED cB0 cB1 cB2 cB3 Re Rc Rb Ra RV Ol GX Gv Gu Gm Ho Hl Hg;have AL:=bu AO bb;have Cj:=bb.size;replace A:=A.up bb;replace B:=B.up bb;clear AO bb;obtain⟨CJ,Dk,D7,GA,Gn,Io,I_,Iw,I9,Ht,Ct,Dj,D6,Ca⟩:=EX A 0 1 2 3 4 5 6 7 8 9 10 11 12 13;obtain⟨EF,EE,ED⟩:=CW A 14 15 16;obtain⟨cB0,cB1,cB2,cB3,Re,Rc,Rb,Ra,RV,Ol,GX,Gv,Gu,Gm⟩:=EX B 0 1 2 3 4 5 6 7 8 9 10 11 12 13;obtain⟨Ho,Hl,Hg⟩:=CW B 14 15 16;go_wp2_with fail
 refine(E2.out _ (hb1.out.below AL) (hb2.out.below AL)).mono ?_;rintro _ w2 ⟨rfl,bb⟩;clear CJ Dk D7 GA Gn Io I_ Iw I9 Ht Ct Dj D6 Ca EF EE ED cB0 cB1 cB2 cB3 Re Rc Rb Ra RV Ol GX Gv Gu Gm Ho Hl Hg;have Ah:=bu AL bb;have Ej:=bb.size;replace A:=A.up bb;replace B:=B.up bb;clear AL bb;obtain⟨CJ,Dk,D7,GA,Gn,Io,I_,Iw,I9,Ht,Ct,Dj,D6,Ca⟩:=EX A 0 1 2 3 4 5 6 7 8 9 10 11 12 13;obtain⟨EF,EE,ED⟩:=CW A 14 15 16;obtain⟨cB0,cB1,cB2,cB3,Re,Rc,Rb,Ra,RV,Ol,GX,Gv,Gu,Gm⟩:=EX B 0 1 2 3 4 5 6 7 8 9 10 11 12 13;obtain⟨Ho,Hl,Hg⟩:=CW B 14 15 16;go_wp2_with fail
 refine(E3.out _ (hc1.out.below Ah) (hc2.out.below Ah)).mono ?_;rintro _ w3 ⟨rfl,bb⟩;clear CJ Dk D7 GA Gn Io I_ Iw I9 Ht Ct Dj D6 Ca EF EE ED cB0 cB1 cB2 cB3 Re Rc Rb Ra RV Ol GX Gv Gu Gm Ho Hl Hg;have BH:=bu Ah bb;have IL:=bb.size;replace A:=A.up bb;replace B:=B.up bb;clear Ah bb;obtain⟨CJ,Dk,D7,GA,Gn,Io,I_,Iw,I9,Ht,Ct,Dj,D6,Ca⟩:=EX A 0 1 2 3 4 5 6 7 8 9 10 11 12 13;obtain⟨EF,EE,ED⟩:=CW A 14 15 16;obtain⟨cB0,cB1,cB2,cB3,Re,Rc,Rb,Ra,RV,Ol,GX,Gv,Gu,Gm⟩:=EX B 0 1 2 3 4 5 6 7 8 9 10 11 12 13;obtain⟨Ho,Hl,Hg⟩:=CW B 14 15 16;go_wp2_with fail
 refine(E4.out _).mono ?_;rintro _ w4 ⟨rfl,bb⟩;clear CJ Dk D7 GA Gn Io I_ Iw I9 Ht Ct Dj D6 Ca EF EE ED cB0 cB1 cB2 cB3 Re Rc Rb Ra RV Ol GX Gv Gu Gm Ho Hl Hg;have Cr:=bu BH bb;have Nq:=bb.size;replace A:=A.up bb;replace B:=B.up bb;clear BH bb;go_wp2;go_ret;exact⟨rfl,Cr⟩
def OM(w:World)(lo:Nat)(a b c:Value)(xs ys zs:List Int):Prop:=∃p q,OI w lo a xs∧(∀j,a.ownBlock=some j→j<p)∧OI w p b ys∧(∀j,b.ownBlock=some j→j<q)∧OI w q c zs∧lo≤p∧p≤q
end
end Go.Proofs.YtcjmcgolgbkknaaGreatDoor
namespace Go.Proofs
open Go.Shelf
def Tryz.lays169_ren:Go.Shelf.Ren:=⟨fun|169=>298|n=>n,fun|70=>348|9=>9|0=>0|72=>350|37=>31|127=>269|3=>3|5=>5|n=>n,fun|n=>n⟩
theorem Tryz.lays169:Go.Proofs.Lays.n169 Tryz.prog Tryz.lays169_ren:={
 mixed:=by kernel_rfl
 f169:=Tryz.func298.trans (congrArg some (by kernel_rfl))
 t0:=Tryz.underlying0
 a0:=Tryz.isAgg0
 z0:=Tryz.sizeOf0
 v0:=Tryz.zeroValue0
 t3:=Tryz.underlying3
 a3:=Tryz.isAgg3
 z3:=Tryz.sizeOf3
 v3:=Tryz.zeroValue3
 t9:=Tryz.underlying9
 a9:=Tryz.isAgg9
 z9:=Tryz.sizeOf9
 v9:=Tryz.zeroValue9
 t37:=Tryz.underlying31
 a37:=Tryz.isAgg31
 z37:=Tryz.sizeOf31
 v37:=Tryz.zeroValue31
 t70:=Tryz.underlying348
 a70:=Tryz.isAgg348
 z70:=Tryz.sizeOf348
 v70:=Tryz.zeroValue348
 t72:=Tryz.underlying350
 a72:=Tryz.isAgg350
 z72:=Tryz.sizeOf350
 v72:=Tryz.zeroValue350
 t127:=Tryz.underlying269
 a127:=Tryz.isAgg269
 z127:=Tryz.sizeOf269
 v127:=Tryz.zeroValue269 }
theorem Tryz.Builder_Extra_169:Builder.Extra Tryz.prog Tryz.lays169_ren:={
 sizeBuilder:=by kernel_rfl
 liesBuilder:=by kernel_rfl
 t5:=Tryz.underlying5
 a5:=Tryz.isAgg5
 z5:=Tryz.sizeOf5
 v5:=Tryz.zeroValue5
 infoByte:=by kernel_rfl
 cellsByte:=by kernel_rfl
 sizeByte:=by kernel_rfl
 neB5:=by decide }
open Go.RowKit in
theorem Tryz.Builder_String_any(B b:Nat)(l:List UInt8)(w:World)(h:Lib.IsBuilder 350 5 B b (Lib.byteCells l) w)(hBw:B≤w.heap.size):
 Calls Tryz.prog 298 #[.pointer (some ⟨b,0,none⟩)] w fun e w'=>e= .returned (.string ⟨l.toArray⟩)∧Below B w w':=Any.Builder_String_any Tryz.lays169 Tryz.Builder_Extra_169 B b l w h hBw
end Go.Proofs
namespace Go.Proofs.YtcjmcgolgbkknaaGreatDoor
section

def put:Nat→Nat→List Int
 |0,n=>[(n:Int)]
 |f+1,n=>if n≤127 then [(n:Int)]else((n:Int)%128+128) :: put f (n/128)
theorem iJ(f n:Nat)(h:n≤127):put f n=[(n:Int)]:=by cases f<;>simp[put,h]
theorem iK(f n:Nat)(h:127<n):put (f+1) n=((n:Int)%128+128) :: put f (n/128):=by simp[put];omega
theorem Ll      (f n:Nat):(put f n).length≤f+1∧0<(put f n).length:=by
 induction f generalizing n with
 |zero=>simp[put]
 | succ f ih => by_cases h:n≤127
                ·simp[put,h]
                simp[put,h];have:=(ih (n/128)).1;omega

def Av(n:Int):List Int:=if 0≤n∧n≤2147483647 then put 4 n.toNat else []
theorem KY(n:Nat)(h:n≤2147483647):Av n=put 4 n:=by unfold Av;rw[if_pos (by omega),Int.toNat_natCast]
theorem Sl(n:Int)(h:n<0∨2147483647<n):Av n=[]:=by unfold Av;rw[if_neg (by omega)]
theorem BC(n:Int):(Av n).length≤5:=by
 unfold Av;split
 ·exact(Ll 4 _).1
 simp

def At(n:Nat)(f m:Nat)(done:List Int):Prop:=done++put f m=put 4 n∧m<128 ^ (f+1)∧done.length+f=4
theorem X4(n:Nat)(h:n≤2147483647):At n 4 n []:=⟨by simp,by omega,rfl⟩
theorem fB{n f m:Nat}{done:List Int}(h:At n f m done)(hm:127<m):∃f',f=f'+1∧At n f' (m/128) (done++[(m:Int)%128+128]):=by
 obtain⟨h1,h2,h3⟩:=h;cases f with
 |zero=>simp at h2;omega
 |succ f=>
  refine⟨f,rfl,?_,?_,?_⟩
  ·rw[iK f m hm]at h1;simpa using h1
  ·rw[Nat.pow_succ]at h2;exact Nat.div_lt_of_lt_mul (by rw[Nat.mul_comm];exact h2)
  simp;omega
theorem at_end{n f m:Nat}{done:List Int}(h:At n f m done)(hm:m≤127):done++[(m:Int)]=put 4 n:=by
 have:=h.1;rwa [iJ f m hm]at this
end
section
open Go.RowKit
theorem Lr{B:Nat}{w wr w1:World}{v v':Value}{o:Obj}{xs:List Int}{c:Int}(hB:B≤wr.heap.size)(ho:wr.ownsRow B 5 1 v xs.length (xs.map (Value.int .u8)))(hb:Below B w wr)
 (ho':w1.ownsRow B 5 1 v' (xs.length+1) (xs.map (Value.int .u8)++[.int .u8 c])) (hg:(wr.alloc o).grownBy w1 v.ownBlock):
 w1.ownsRow B 5 1 v' (xs++[c]).length ((xs++[c]).map (Value.int .u8))∧Below B w w1:=
 ⟨by simpa using ho',(hb.alloc hB o).grown hg (by simp;omega) (fun j hj=>(ho.lt j hj).1)⟩

theorem NW(n:Nat)(w:World)(hn:n≤2147483647):
 Calls Tryz.prog 158 #[.int .i64 n] w fun e w'=>∃v,e= .returned v∧w'.ownsRow w.heap.size 5 1 v (put 4 n).length ((put 4 n).map (Value.int .u8))∧Below w.heap.size w w':=by
 obtain⟨i0,hi,hz0,hz1,hz2⟩:=info_parts Tryz.info5;go_enter Tryz.func158,Tryz.ntmps158
 go_wp2_with (first|(go_at_call 81;refine(Hf _ _ _ _ (by omega) (by omega)).mono ?_;rintro e w' ⟨rfl,rfl⟩))
 go_loopw [0,3] (fun x v wr=>∃(f m:Nat)(done:List Int),m≤2147483647∧x= .int .i64 m∧At n f m done∧wr.ownsRow w.heap.size 5 1 v done.length (done.map (Value.int .u8))∧Below w.heap.size w wr) (fun x _ _=>(intOf x).toNat)
 case atStart=>exact⟨4,n,[],hn,rfl,X4 n hn,World.ownsRow_lit w #[] 0 Af (by unfold maxLen;omega) rfl,(Below.refl _ _).alloc Af _⟩
 case round=>
  obtain⟨f,m,done,hm,rfl,hat,ho,hb⟩:=hrel;have hsz:=hb.size;have hdl:done.length≤4:=by have:=hat.2.2;omega
  by_cases hlt:127<m
  ·obtain⟨f',rfl,hat'⟩:=fB hat hlt;have HA:Hid (At n f' (m/128) (done++[(m:Int)%128+128])):=hat';clear hat hat'
   go_wp2_with (first
    |(at_builtin;refine wpList_append_own _ rfl _ _ 31 rfl w.heap.size 5 i0 (.int .u8 0) 1 1 Tryz.underlying31 hi hz0 hz1 hz2 rfl (by decide) _ _ _ rfl (ho.alloc _) ⟨wr.heap.size,0,none⟩ 1 1 [.int .u8 ((m:Int)%128+128)] rfl rfl (one_cell _ _ _) (Jg _ _) (by unfold maxLen;omega) (by omega) (by simp;omega) ?_;intro v' w1 ho' hg' _;have R:=Lr hsz ho hb ho' hg';clear ho ho' hg' hb))
   go_roundw
   case rel=>exact⟨f',m/128,_,by omega,by go_num,HA.out,R.1,R.2⟩
   case measure=>simp[intOf];omega
  have HE:Hid (done++[(m:Int)]=put 4 n):=at_end hat (by omega);clear hat
  go_wp2_with (first
   |(at_builtin;refine wpList_append_own _ rfl _ _ 31 rfl w.heap.size 5 i0 (.int .u8 0) 1 1 Tryz.underlying31 hi hz0 hz1 hz2 rfl (by decide) _ _ _ rfl (ho.alloc _) ⟨wr.heap.size,0,none⟩ 1 1 [.int .u8 (m:Int)] rfl rfl (one_cell _ _ _) (Jg _ _) (by unfold maxLen;omega) (by omega) (by simp;omega) ?_;intro v' w1 ho' hg' _;have R:=Lr hsz ho hb ho' hg';clear ho ho' hg' hb))
  go_ret;rw[HE.out]at R;exact⟨_,rfl,R.1,R.2⟩

theorem Y6(n:Int)(w:World)(hn:n<0∨2147483647<n):
 Calls Tryz.prog 158 #[.int .i64 n] w fun e w'=>∃v,e= .returned v∧w'.ownsRow w.heap.size 5 1 v 0 []∧Below w.heap.size w w':=by
 go_enter Tryz.func158,Tryz.ntmps158
 go_wp2_with (first|(go_at_call 81;refine(MG _ _ _ _ (by omega)).mono ?_;rintro e w' ⟨rfl,rfl⟩))
 go_ret;exact⟨_,rfl,World.ownsRow_lit w #[] 0 Af (by unfold maxLen;omega) rfl,(Below.refl _ _).alloc Af _⟩

theorem Zm(n:Int)(w:World)(hn:n<0∨2147483647<n):
 Calls Tryz.prog 200 #[.int .i64 n] w fun e w'=>∃v,e= .returned v∧w'.ownsRow w.heap.size 5 1 v 0 []∧Below w.heap.size w w':=by
 rcases hn with hn|hn
 ·go_enter Tryz.func200,Tryz.ntmps200
  go_wp2;go_ret;exact⟨_,rfl,World.ownsRow_nil _ _ _ _,Below.refl _ _⟩
 have hd:decide (n<0)=false:=by simp;omega
 go_enter Tryz.func200,Tryz.ntmps200
 go_wp2;go_ret;exact⟨_,rfl,World.ownsRow_nil _ _ _ _,Below.refl _ _⟩

theorem Nf(n:Nat)(w:World)(hn:n≤2147483647):
 Calls Tryz.prog 200 #[.int .i64 n] w fun e w'=>∃v,e= .returned v∧w'.ownsRow w.heap.size 5 1 v (put 4 n).length ((put 4 n).map (Value.int .u8))∧Below w.heap.size w w':=by
 obtain⟨i0,hi,hz0,hz1,hz2⟩:=info_parts Tryz.info5;have hd:decide ((n:Int)<0)=false:=by simp
 go_enter Tryz.func200,Tryz.ntmps200
 go_wp2_with (first|(at_make;refine wpList_make_own _ rfl _ _ 31 rfl w.heap.size 5 i0 (.int .u8 0) 1 Tryz.underlying31 hi hz0 hz1 .i64 .i64 5 5 rfl rfl rfl (by omega) (by unfold maxLen;omega) Af ?_;intro w0 ho0 hg0))
 go_loopw [0,3] (fun x v wr=>∃(f m:Nat)(done:List Int),m≤2147483647∧x= .int .i64 m∧At n f m done∧wr.ownsRow w.heap.size 5 1 v done.length (done.map (Value.int .u8))∧Below w.heap.size w wr) (fun x _ _=>(intOf x).toNat)
 case atStart=>exact⟨4,n,[],hn,rfl,X4 n hn,ho0,(Below.refl _ _).grown hg0 Af (by simp)⟩
 case round=>
  obtain⟨f,m,done,hm,rfl,hat,ho,hb⟩:=hrel;clear ho0 hg0 hd;have hsz:=hb.size;have hdl:done.length≤4:=by have:=hat.2.2;omega
  by_cases hlt:127<m
  ·obtain⟨f',rfl,hat'⟩:=fB hat hlt;have HA:Hid (At n f' (m/128) (done++[(m:Int)%128+128])):=hat';clear hat hat'
   go_wp2_with (first
    |(at_builtin;refine wpList_append_own _ rfl _ _ 31 rfl w.heap.size 5 i0 (.int .u8 0) 1 1 Tryz.underlying31 hi hz0 hz1 hz2 rfl (by decide) _ _ _ rfl (ho.alloc _) ⟨wr.heap.size,0,none⟩ 1 1 [.int .u8 ((m:Int)%128+128)] rfl rfl (one_cell _ _ _) (Jg _ _) (by unfold maxLen;omega) (by omega) (by simp;omega) ?_;intro v' w1 ho' hg' _;have R:=Lr hsz ho hb ho' hg';clear ho ho' hg' hb))
   go_roundw
   case rel=>exact⟨f',m/128,_,by omega,by go_num,HA.out,R.1,R.2⟩
   case measure=>simp[intOf];omega
  have HE:Hid (done++[(m:Int)]=put 4 n):=at_end hat (by omega);clear hat
  go_wp2_with (first
   |(at_builtin;refine wpList_append_own _ rfl _ _ 31 rfl w.heap.size 5 i0 (.int .u8 0) 1 1 Tryz.underlying31 hi hz0 hz1 hz2 rfl (by decide) _ _ _ rfl (ho.alloc _) ⟨wr.heap.size,0,none⟩ 1 1 [.int .u8 (m:Int)] rfl rfl (one_cell _ _ _) (Jg _ _) (by unfold maxLen;omega) (by omega) (by simp;omega) ?_;intro v' w1 ho' hg' _;have R:=Lr hsz ho hb ho' hg';clear ho ho' hg' hb))
  go_ret;rw[HE.out]at R;exact⟨_,rfl,R.1,R.2⟩

theorem Jd(n:Int)(w:World):
 Calls Tryz.prog 158 #[.int .i64 n] w fun e w'=>∃v,e= .returned v∧w'.ownsRow w.heap.size 5 1 v (Av n).length ((Av n).map (Value.int .u8))∧Below w.heap.size w w':=by
 by_cases h:0≤n∧n≤2147483647
 ·obtain⟨m,rfl⟩:=Int.eq_ofNat_of_zero_le h.1;rw[KY m (by omega)];exact NW m w (by omega)
 rw[Sl n (by omega)];exact Y6 n w (by omega)
theorem Jj(n:Int)(w:World):
 Calls Tryz.prog 200 #[.int .i64 n] w fun e w'=>∃v,e= .returned v∧w'.ownsRow w.heap.size 5 1 v (Av n).length ((Av n).map (Value.int .u8))∧Below w.heap.size w w':=by
 by_cases h:0≤n∧n≤2147483647
 ·obtain⟨m,rfl⟩:=Int.eq_ofNat_of_zero_le h.1;rw[KY m (by omega)];exact Nf m w (by omega)
 rw[Sl n (by omega)];exact Zm n w (by omega)
end
end Go.Proofs.YtcjmcgolgbkknaaGreatDoor
