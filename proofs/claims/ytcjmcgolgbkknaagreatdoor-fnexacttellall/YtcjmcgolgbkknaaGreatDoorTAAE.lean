/- Lemmas, as stated. -/
import Derived.Test.YtcjmcgolgbkknaaGreatDoorTAAC
import Derived.Shelf.Strings.Builder2
import Derived.Shelf.Small.Wraps
import Derived.Shelf.Strconv.Itoa3
import Derived.Shelf.Strconv.ErrVarAll
import Derived.Shelf.Strings.Shaped
import Derived.Shelf.Strings.LastIndex
import Derived.Shelf.Slices.SearchI
set_option maxRecDepth 100000
set_option maxHeartbeats 16000000
set_option linter.unusedSectionVars false
namespace Go.Proofs.YtcjmcgolgbkknaaGreatDoor
section
open Go.RowKit
abbrev bv(m:ByteArray)(n:Int)(s:ByteArray)(v:Value):Value:= .agg #[.string m,.int .i64 n,.string s,v]

theorem Vv(m:ByteArray)(n:Int)(s:ByteArray)(a b:Value)(xs:List Int)(w:World)(ha:RI w a xs)(hb:RI w b xs):
 Calls Tryz.prog 73 #[bv m n s a,bv m n s b] w fun e w'=>e= .returned (.bool true)∧Below w.heap.size w w':=by
 have R1:=hide ha;have R2:=hide hb;have B:=hide (Bj w (.cells #[.string m,.int .i64 n,.string s,a] 71) (.cells #[.string m,.int .i64 n,.string s,b] 71));clear ha hb;go_enter Tryz.func73,Tryz.ntmps73
 go_wp2_with fail
 refine(PR n s a b xs _ (R1.out.below B.out Ak) (R2.out.below B.out Ak)).mono ?_;rintro e w1 ⟨rfl,b1⟩;go_wp2;go_ret;exact⟨rfl,B.out.trans (b1.mono B.out.size)⟩

theorem QE(m:ByteArray)(n:Int)(s:ByteArray)(base:Nat)(v:Value)(xs:List Int)(k0:Nat)(w:World)(hl:xs.length≤4194304)(hk:k0≤100000000)(h:OI w base v xs):
 Calls Tryz.prog 76 #[bv m n s v,.int .i64 k0] w fun e w'=>e= .returned (.int .i64 (k0+xs.length))∧OI w' base v (A8 k0 xs.length)∧Kp w w' (fun k=>v.ownBlock=some k):=by
 have B:=hide (Aj w (.cells #[.string m,.int .i64 n,.string s,v] 71));have H:=hide (h.below B.out);have MK:=hide fun w h=>Jj n s base v xs k0 w hl hk h;clear h;go_enter Tryz.func76,Tryz.ntmps76
 go_wp2_with fail
 refine(MK.out _ H.out).mono ?_;rintro e w1 ⟨rfl,o1,k1⟩;have K:=(Below.BJ B.out (fun k=>v.ownBlock=some k)).trans k1;go_wp2;go_ret;exact⟨rfl,o1,K⟩

theorem Ik(m:ByteArray)(n:Int)(s:ByteArray)(ao:Option Addr)(k ca:Nat)(left:Int)(w:World)(h:(m.size:Int)+s.size+k≤left)(hl:left≤1048576):
 Calls Tryz.prog 64 #[bv m n s (.slice ao k ca),.int .i64 left] w fun e w'=>e= .returned (.int .i64 (left-m.size-s.size-k))∧Below w.heap.size w w':=by
 have h1:decide ((left:Int)-(m.size:Int)<0)=false:=by simp;omega
 have h2:decide ((left:Int)-(m.size:Int)-(s.size:Int)-(k:Int)<0)=false:=by simp;omega
 have ZQ:=hide fun w=>KJ n s ao k ca (left-m.size) w (by omega) (by omega);have B:=hide (Aj w (.cells #[.string m,.int .i64 n,.string s,.slice ao k ca] 62));go_enter Tryz.func64,Tryz.ntmps64
 go_wp2_with fail
 refine(ZQ.out _).mono ?_;rintro e w1 ⟨rfl,b1⟩;go_wp2;go_ret;exact⟨rfl,B.out.trans (b1.mono B.out.size)⟩
theorem UX(m:ByteArray)(n:Int)(s:ByteArray)(ao:Option Addr)(k ca:Nat)(left:Int)(w:World)(h0:0≤left)(h:left<m.size)(hs:m.size≤9223372036854775807)(hl:left≤1048576):
 Calls Tryz.prog 64 #[bv m n s (.slice ao k ca),.int .i64 left] w fun e w'=>e= .returned (.int .i64 (-1))∧Below w.heap.size w w':=by
 have h1:decide ((left:Int)-(m.size:Int)<0)=true:=by simp;omega
 go_enter Tryz.func64,Tryz.ntmps64
 go_wp2;go_ret;exact⟨rfl,Aj _ _⟩
theorem UW(m:ByteArray)(n:Int)(s:ByteArray)(ao:Option Addr)(k ca:Nat)(left:Int)(w:World)(h0:(m.size:Int)≤left)(h:left<m.size+s.size+k)(hs:s.size≤9223372036854775807)(hk:k≤9223372036854775807)(hl:left≤1048576):
 Calls Tryz.prog 64 #[bv m n s (.slice ao k ca),.int .i64 left] w fun e w'=>e= .returned (.int .i64 (-1))∧Below w.heap.size w w':=by
 have h1:decide ((left:Int)-(m.size:Int)<0)=false:=by simp;omega
 have ZQ:=hide fun w=>Rv n s ao k ca (left-m.size) w (by omega) (by omega) hs hk (by omega);have B:=hide (Aj w (.cells #[.string m,.int .i64 n,.string s,.slice ao k ca] 62));go_enter Tryz.func64,Tryz.ntmps64
 go_wp2_with fail
 refine(ZQ.out _).mono ?_;rintro e w1 ⟨rfl,b1⟩;go_wp2;go_ret;exact⟨rfl,B.out.trans (b1.mono B.out.size)⟩
theorem XE(m:ByteArray)(n:Int)(s:ByteArray)(ao:Option Addr)(k ca:Nat)(left:Int)(w:World)(h0:0≤left)(h:left<m.size+s.size+k)(hm:m.size≤9223372036854775807)(hs:s.size≤9223372036854775807)(hk:k≤9223372036854775807)(hl:left≤1048576):
 Calls Tryz.prog 64 #[bv m n s (.slice ao k ca),.int .i64 left] w fun e w'=>e= .returned (.int .i64 (-1))∧Below w.heap.size w w':=by
 by_cases h1:left<(m.size:Int)
 ·exact UX m n s ao k ca left w h0 h1 hm hl
 exact UW m n s ao k ca left w (by omega) h hs hk hl

theorem Kp.same(w:World)(X:Nat→Prop):Kp w w X:=Below.BJ (Below.refl w.heap.size w) X
theorem Kp.put{a b:World}{X:Nat→Prop}(h:Kp a b X){g:Nat}(hg:X g)(j:Nat)(v:Value):Kp a (b.setCell ⟨g,j,none⟩ v) X:=h.trans ((AB _ _ _ _).mono fun _ e=>e▸hg)
abbrev zb:Array Value:= #[.string ⟨#[]⟩,.int .i64 0,.string ⟨#[]⟩,.slice none 0 0]
theorem kp4(w:World)(g:Nat)(a b c d:Value):Kp w ((((w.setCell ⟨g,0,none⟩ a).setCell ⟨g,1,none⟩ b).setCell ⟨g,2,none⟩ c).setCell ⟨g,3,none⟩ d) (fun k=>k=g):=
 (((AB _ _ _ _).trans (AB _ _ _ _)).trans (AB _ _ _ _)).trans (AB _ _ _ _)
theorem UE(m:ByteArray)(n:Int)(s:ByteArray)(a:Value)(xs:List Int)(w:World)(ha:RI w a xs):
 Calls Tryz.prog 67 #[bv m n s a] w fun e w'=>∃u,e= .returned (bv m n s u)∧OI w' w.heap.size u xs∧Below w.heap.size w w':=by
 obtain⟨w0,hw0⟩:∃w0,((w.alloc (.cells #[.string m,.int .i64 n,.string s,a] 62)).alloc (.cells zb 71)).alloc (.cells #[.string m,.int .i64 0,.string ⟨#[]⟩,.slice none 0 0] 71)=w0:=⟨_,rfl⟩
 have B0:Below w.heap.size w w0:=hw0▸((Bj _ _ _).alloc (by simp;omega) _);have LZ:Loc w0 (w.heap.size+1) zb:=hw0▸(AJ (w.alloc _) _ _ (by simp)).alloc _;have LO:Loc w0 (w.heap.size+1+1) #[.string m,.int .i64 0,.string ⟨#[]⟩,.slice none 0 0]:=hw0▸AJ ((w.alloc _).alloc _) _ _ (by simp);have s0:w0.heap.size=w.heap.size+1+1+1:=by rw[←hw0];simp
 have LA:Loc w0 w.heap.size #[.string m,.int .i64 n,.string s,a]:=hw0▸((AJ w _ _ rfl).alloc _).alloc _;have a0:=LA.cell 0 rfl;have a1:=LA.cell 1 rfl;have a2:=LA.cell 2 rfl;have a3:=LA.cell 3 rfl;have TQ:=hide (Nu n s a xs w0 (ha.below B0));have HZ:=hide LZ;have HO:=hide LO;clear ha LZ LO LA;go_enter Tryz.func67,Tryz.ntmps67
 go_wp2_with fail
 clear hw0;refine TQ.out.mono ?_;rintro e w1 ⟨u,rfl,o1,b1⟩;have B1:Below w.heap.size w w1:=bu B0 b1;have Z1:=HZ.out.below b1 HZ.out.lt;have O1:=HO.out.below b1 HO.out.lt;have y0:=Z1.cell 0 rfl;have y1:=Z1.cell 1 rfl;have y2:=Z1.cell 2 rfl;have y3:=Z1.cell 3 rfl;have fy:=Z1.frozen;have x0:=O1.cell 0 rfl;have x1:=O1.cell 1 rfl;have x2:=O1.cell 2 rfl;have x3:=O1.cell 3 rfl;have fx:=O1.frozen;have ZO:=World.ownsRow.lt o1;obtain⟨ua,uc,rfl⟩:=o1.form;have H1:=hide o1;clear o1 b1 Z1 O1 HZ HO TQ a0 a1 a2 a3;go_wp2;refine bodyPost_ret (v:=bv m n s (.slice ua xs.length uc)) (by simp[results,Tryz.results67,go_sem,y0,y1,y2,y3]) rfl ?_;have K:Kp w1 _ (fun k=>k=w.heap.size+1∨k=w.heap.size+1+1):=(((((((Kp.same w1 _).put (g:=w.heap.size+1+1) (.inr rfl) 1 (.int .i64 n)).put (g:=w.heap.size+1+1) (.inr rfl) 2 (.string s)).put (g:=w.heap.size+1+1) (.inr rfl) 3 (.slice ua xs.length uc)).put (g:=w.heap.size+1) (.inl rfl) 0 (.string m)).put (g:=w.heap.size+1) (.inl rfl) 1 (.int .i64 n)).put (g:=w.heap.size+1) (.inl rfl) 2 (.string s)).put (g:=w.heap.size+1) (.inl rfl) 3 (.slice ua xs.length uc);exact⟨_,rfl,(H1.out.kp K (fun k hk=>by have:=ZO k hk;omega)).mono (by omega),Below.kp B1 K B1.size (fun k hk=>by omega)⟩
end
section
open Go.ChangeShapes Go.WideShapes Go.ChangeAt Go.RowKit
open Go.Joins
variable [∀(a b c d:Int),Decidable (BG a b c d)] [∀(n f:Int),Decidable (A_ n f)]
theorem AY:Tryz.prog.cellsOf 62=4:=by kernel_rfl
theorem Aa:Tryz.prog.cellsOf 9=1:=by kernel_rfl
theorem AX:Tryz.prog.cellsOf 3=1:=by kernel_rfl
theorem Ab:Tryz.prog.cellsOf 24=1:=by kernel_rfl
end
section
open Go Go.RowKit
section
variable {P:Program} {ops:Array Oper} {Q:Exit→Act→World→Prop} {md:Region.Mode} {S:World→Prop}
theorem take_at{i d:Nat}{oi:Oper}{v:Value}{fuel:Nat}{listed:Array Bool}{a:Act}{w:World}(hi:ops[i]? =some oi)(hd:oi.dst=some d)
 (hs:Region.noSelect ops=true) (hf:Region.free md ops listed i=true) (hr:(Region.ready md ops listed).contains i=true)
 (hQ:∀c a w,Q (.panic c) (a.put (some d) v) w→Q (.panic c) a w) (hy:YieldsIf P ops S oi v a) (hS:S w)
 (h:wpAnyH P md ops Q S fuel (listed.setIfInBounds i true) (a.put (some d) v) w):wpAnyH P md ops Q S (fuel+1) listed a w:=
 wpAnyH_take hi hs hf hr (by rw[hd];exact hQ) hy hS (by rw[hd];exact h)
theorem iC{i:Nat}{o:Oper}{fuel:Nat}{listed:Array Bool}{a:Act}{w:World}(ho:ops[i]? =some o)(hr:Region.ready md ops listed=[i])
 (h:∀K':Act→World→Prop,Shut (∀a w,S w→(S w→wpAnyH P md ops Q S fuel (listed.setIfInBounds i true) a w)→K' a w)→if Region.wanted o (yielded ops a.tmps)=true then Oper.wp P o a w K' Q else K' (a.put o.dst undef) w):
 wpAnyH P md ops Q S (fuel+1) listed a w:=
 wpAnyH_ready hr (by simp) (AllReadyH.cons ho h AllReadyH.nil)
end
section
variable {P:Program} {ops:Array Oper} {Q:Exit→Act→World→Prop} {md:Region.Mode} {S:World→Prop}
theorem tk(i d:Nat){oi:Oper}{v:Value}{fuel:Nat}{listed:Array Bool}{a:Act}{w:World}(hi:ops[i]? =some oi)(hd:oi.dst=some d:=by exact rfl)
 (hs:Region.noSelect ops=true:=by kernel_rfl) (hf:Region.free md ops listed i=true:=by kernel_rfl) (hr:(Region.ready md ops listed).contains i=true:=by kernel_rfl)
 (hy:YieldsIf P ops S oi v a)
 (hQ:∀c a w,Q (.panic c) (a.put (some d) v) w→Q (.panic c) a w:=by exact fun _ _ _ h=>h) (hS:S w:=by assumption)
 (h:wpAnyH P md ops Q S fuel (listed.setIfInBounds i true) (a.put (some d) v) w):wpAnyH P md ops Q S (fuel+1) listed a w:=
 take_at hi hd hs hf hr hQ hy hS h
theorem sk(i d:Nat){oi:Oper}{fuel:Nat}{listed:Array Bool}{a:Act}{w:World}(hi:ops[i]? =some oi)(hd:oi.dst=some d:=by exact rfl)
 (hs:Region.noSelect ops=true:=by kernel_rfl) (hf:Region.free md ops listed i=true:=by kernel_rfl) (hr:(Region.ready md ops listed).contains i=true:=by kernel_rfl)
 (hy:YieldsIf P ops S oi undef a:=by exact Or.inr ⟨by rfl,rfl⟩)
 (hQ:∀c a w,Q (.panic c) (a.put (some d) undef) w→Q (.panic c) a w:=by exact fun _ _ _ h=>h) (hS:S w:=by assumption)
 (h:wpAnyH P md ops Q S fuel (listed.setIfInBounds i true) (a.put (some d) undef) w):wpAnyH P md ops Q S (fuel+1) listed a w:=
 take_at hi hd hs hf hr hQ hy hS h
theorem tj(i d:Nat){oi:Oper}{v:Value}{fuel:Nat}{listed:Array Bool}{a:Act}{w:World}(hi:ops[i]? =some oi)
 (hy:∀w,S w→(execOp a.eval oi).run P w= .ok (.value v) w) (h:wpAnyH P md ops Q S fuel (listed.setIfInBounds i true) (a.put (some d) v) w) (hw:Region.wanted oi (yielded ops a.tmps)=true:=by rfl) (hd:oi.dst=some d:=by exact rfl)
 (hs:Region.noSelect ops=true:=by kernel_rfl) (hf:Region.free md ops listed i=true:=by kernel_rfl) (hr:(Region.ready md ops listed).contains i=true:=by kernel_rfl)
 (hQ:∀c a w,Q (.panic c) (a.put (some d) v) w→Q (.panic c) a w:=by exact fun _ _ _ h=>h) (hS:S w:=by assumption):wpAnyH P md ops Q S (fuel+1) listed a w:=
 take_at hi hd hs hf hr hQ (.inl ⟨hw,hy⟩) hS h
theorem rd(i:Nat){o:Oper}{fuel:Nat}{listed:Array Bool}{a:Act}{w:World}(ho:ops[i]? =some o)
 (h:∀K':Act→World→Prop,Shut (∀a w,S w→(S w→wpAnyH P md ops Q S fuel (listed.setIfInBounds i true) a w)→K' a w)→if Region.wanted o (yielded ops a.tmps)=true then Oper.wp P o a w K' Q else K' (a.put o.dst undef) w) (hr:Region.ready md ops listed=[i]:=by kernel_rfl):
 wpAnyH P md ops Q S (fuel+1) listed a w:=iC ho hr h
theorem wrd{id:Nat}{a:Act}{w:World}(K:Hid (∀w',Below w.heap.size w w'→S w'))(b:Below w.heap.size w w.drew)
 (h:S w.drew→wpAnyH P .any ops Q S ops.size (Array.replicate ops.size false) a w.drew) (hm:P.follows .mixedOrders=true:=by kernel_rfl):(Code.region id ops true).wp P Q a w:=
 wp_region_held_drew hm (K.out _ b) h
theorem kC{id:Nat}{a:Act}{w:World}(K:Hid (∀w',Below w.heap.size w w'→S w'))(b:Below w.heap.size w w.drew)
 (h:S w.drew→wpAnyH P .any ops (NoPanic Q) S ops.size (Array.replicate ops.size false) a w.drew) (hm:P.follows .mixedOrders=true:=by kernel_rfl):(Code.region id ops true).wp P Q a w:=
 wp_region_noPanic (wrd K b h hm)
theorem Bw{fuel:Nat}{listed:Array Bool}{a:Act}{w:World}(h:Q .normal a w)(hr:Region.ready md ops listed=[]:=by kernel_rfl):wpAnyH P md ops (NoPanic Q) S fuel listed a w:=
 wpAnyH_done hr (NoPanic.normal h) _
theorem tz(i d:Nat){oi:Oper}{v:Value}{fuel:Nat}{listed:Array Bool}{a:Act}{w:World}
 (h:wpAnyH P md ops Q S fuel (listed.setIfInBounds i true) (a.put (some d) v) w) (hi:ops[i]? =some oi:=by exact rfl) (hy:∀w,S w→(execOp a.eval oi).run P w= .ok (.value v) w:=by intro w h;go_simp;try rfl) (hw:Region.wanted oi (yielded ops a.tmps)=true:=by rfl) (hd:oi.dst=some d:=by exact rfl)
 (hs:Region.noSelect ops=true:=by kernel_rfl) (hf:Region.free md ops listed i=true:=by kernel_rfl) (hr:(Region.ready md ops listed).contains i=true:=by kernel_rfl)
 (hQ:∀c a w,Q (.panic c) (a.put (some d) v) w→Q (.panic c) a w:=by exact fun _ _ _ h=>h) (hS:S w:=by assumption):wpAnyH P md ops Q S (fuel+1) listed a w:=
 take_at hi hd hs hf hr hQ (.inl ⟨hw,hy⟩) hS h
end
theorem pU:(∀(a:Act)(d:Nat)(v:Value),a.put (some d) v={ a with tmps:=a.tmps.setIfInBounds d v })∧(∀(α:Type)(l:List α)(i:Nat)(x:α),l.toArray.setIfInBounds i x=(l.set i x).toArray)∧(∀(α:Type)(x y:α)(l:List α),(x :: l).set 0 y=y :: l)∧(∀(α:Type)(x y:α)(l:List α)(i:Nat),(x :: l).set (i+1) y=x :: l.set i y):=
 ⟨fun _ _ _=>rfl,fun _ _ _ _=>by simp,fun _ _ _ _=>rfl,fun _ _ _ _ _=>rfl⟩
section
variable {P:Program} {ops:Array Oper} {Q:Exit→Act→World→Prop} {md:Region.Mode} {S:World→Prop}
theorem tx(i d:Nat){oi:Oper}{v:Value}{fuel:Nat}{listed:Array Bool}{a A:Act}{w:World}
 (h:wpAnyH P md ops Q S fuel (listed.setIfInBounds i true) A w) (hi:ops[i]? =some oi:=by exact rfl) (hy:∀w,S w→(execOp a.eval oi).run P w= .ok (.value v) w:=by intro w h;go_simp;try rfl)
 (hA:A=a.put (some d) v:=by simp only[pU];exact rfl) (hw:Region.wanted oi (yielded ops a.tmps)=true:=by rfl) (hd:oi.dst=some d:=by exact rfl)
 (hs:Region.noSelect ops=true:=by kernel_rfl) (hf:Region.free md ops listed i=true:=by kernel_rfl) (hr:(Region.ready md ops listed).contains i=true:=by kernel_rfl)
 (hQ:∀c a w,Q (.panic c) (a.put (some d) v) w→Q (.panic c) a w:=by exact fun _ _ _ h=>h) (hS:S w:=by assumption):wpAnyH P md ops Q S (fuel+1) listed a w:=
 take_at hi hd hs hf hr hQ (.inl ⟨hw,hy⟩) hS (hA▸h)
end
section
variable {P:Program} {ops:Array Oper} {Q:Exit→Act→World→Prop} {S:World→Prop}
theorem FC{id:Nat}{a:Act}{w:World}(K:Hid (∀w',Below w.heap.size w w'→S w'))
 (h:Below w.heap.size w w.drew→S w.drew→wpAnyH P .any ops (NoPanic Q) S ops.size (Array.replicate ops.size false) a w.drew) (hm:P.follows .mixedOrders=true:=by kernel_rfl):(Code.region id ops true).wp P Q a w:=
 kC K (Below.drew (Below.refl _ _)) (h (Below.drew (Below.refl _ _))) hm
theorem uN{id:Nat}{a:Act}{w:World}{X:Nat→Prop}(K:Hid (∀w',Kp w w' X→S w'))
 (h:∀v,Kp w v X→Below w.heap.size w v→S v→wpAnyH P .any ops (NoPanic Q) S ops.size (Array.replicate ops.size false) a v) (hm:P.follows .mixedOrders=true:=by kernel_rfl):(Code.region id ops true).wp P Q a w:=
 wp_region_noPanic (wp_region_held_drew hm (K.out _ (Below.BJ (Below.drew (Below.refl _ _)) _)) (h _ (Below.BJ (Below.drew (Below.refl _ _)) _) (Below.drew (Below.refl _ _))))
end
section
variable {P:Program} {ops:Array Oper} {Q:Exit→Act→World→Prop} {md:Region.Mode} {S:World→Prop}
theorem sx(i d:Nat){oi:Oper}{fuel:Nat}{listed:Array Bool}{a A:Act}{w:World}(h:wpAnyH P md ops Q S fuel (listed.setIfInBounds i true) A w)(hi:ops[i]? =some oi:=by exact rfl)
 (hA:A=a.put (some d) undef:=by simp only[pU];exact rfl) (hd:oi.dst=some d:=by exact rfl)
 (hs:Region.noSelect ops=true:=by kernel_rfl) (hf:Region.free md ops listed i=true:=by kernel_rfl) (hr:(Region.ready md ops listed).contains i=true:=by kernel_rfl)
 (hy:YieldsIf P ops S oi undef a:=by exact Or.inr ⟨by rfl,rfl⟩)
 (hQ:∀c a w,Q (.panic c) (a.put (some d) undef) w→Q (.panic c) a w:=by exact fun _ _ _ h=>h) (hS:S w:=by assumption):wpAnyH P md ops Q S (fuel+1) listed a w:=
 take_at hi hd hs hf hr hQ hy hS (hA▸h)
end
end
section
open Go.RowKit
theorem PS(n:Int)(s:ByteArray)(a b:Value)(xs:List Int)(w:World)(ha:RI w a xs)(hb:RI w b xs):
 Calls Tryz.prog 74 #[qv n s a,qv n s b] w fun e w'=>e= .returned (.bool true)∧Below w.heap.size w w':=by
 have R1:=hide ha;have R2:=hide hb;have B:=hide (Bj w (.cells #[.int .i64 n,.string s,a] 72) (.cells #[.int .i64 n,.string s,b] 72));clear ha hb;go_enter Tryz.func74,Tryz.ntmps74
 go_wp2_with fail
 refine(PU a b xs _ (R1.out.below B.out Ak) (R2.out.below B.out Ak)).mono ?_;rintro e w1 ⟨rfl,n,rfl⟩;go_wp2;go_ret;exact⟨rfl,below_drewN' B.out _⟩

theorem SG(n:Int)(s:ByteArray)(base:Nat)(v:Value)(xs:List Int)(k0:Nat)(w:World)(hl:xs.length≤4194304)(hk:k0≤100000000)(h:OI w base v xs):
 Calls Tryz.prog 77 #[qv n s v,.int .i64 k0] w fun e w'=>e= .returned (.int .i64 (k0+xs.length))∧OI w' base v (A8 k0 xs.length)∧Kp w w' (fun k=>v.ownBlock=some k):=by
 have B:=hide (Aj w (.cells #[.int .i64 n,.string s,v] 72));have H:=hide (h.below B.out);have hb:=World.ownsRow.lt h;have MK:=hide fun w h=>Fj base k0 v xs w hl hk h;clear h;go_enter Tryz.func77,Tryz.ntmps77
 go_wp2_with fail
 refine(MK.out _ H.out).mono ?_;rintro e w1 ⟨rfl,o1,g1⟩;have K:=(Below.BJ B.out (fun k=>v.ownBlock=some k)).trans (CE g1);go_wp2;go_ret;exact⟨rfl,o1,K⟩

theorem Hl(n:Int)(s:ByteArray)(ao:Option Addr)(m ca:Nat)(left:Int)(w:World)(h:(s.size:Int)+m≤left)(hl:left≤1048576):
 Calls Tryz.prog 65 #[qv n s (.slice ao m ca),.int .i64 left] w fun e w'=>e= .returned (.int .i64 (left-s.size-m))∧Below w.heap.size w w':=by
 have h1:decide ((left:Int)-(s.size:Int)<0)=false:=by simp;omega
 have h2:decide ((left:Int)-(s.size:Int)-(m:Int)<0)=false:=by simp;omega
 go_enter Tryz.func65,Tryz.ntmps65
 go_wp2_with (first|(go_at_call 115;refine(N9 _ _ _ _ _ (by omega) (by omega)).mono ?_;rintro e w' ⟨rfl,rfl⟩))
 go_ret;exact⟨rfl,Aj _ _⟩

theorem XB(n:Int)(s:ByteArray)(ao:Option Addr)(m ca:Nat)(left:Int)(w:World)(h0:0≤left)(h:left<s.size)(hs:s.size≤9223372036854775807)(hl:left≤1048576):
 Calls Tryz.prog 65 #[qv n s (.slice ao m ca),.int .i64 left] w fun e w'=>e= .returned (.int .i64 (-1))∧Below w.heap.size w w':=by
 have h1:decide ((left:Int)-(s.size:Int)<0)=true:=by simp;omega
 go_enter Tryz.func65,Tryz.ntmps65
 go_wp2;go_ret;exact⟨rfl,Aj _ _⟩

theorem XA(n:Int)(s:ByteArray)(ao:Option Addr)(m ca:Nat)(left:Int)(w:World)(h0:(s.size:Int)≤left)(h:left<s.size+m)(hm:m≤9223372036854775807)(hl:left≤1048576):
 Calls Tryz.prog 65 #[qv n s (.slice ao m ca),.int .i64 left] w fun e w'=>e= .returned (.int .i64 (-1))∧Below w.heap.size w w':=by
 have h1:decide ((left:Int)-(s.size:Int)<0)=false:=by simp;omega
 go_enter Tryz.func65,Tryz.ntmps65
 go_wp2_with fail
 refine(Qe _ _ _ _ _ (by omega) (by omega) (by omega) hm).mono ?_;rintro e w' ⟨rfl,rfl⟩;go_wp2;go_ret;exact⟨rfl,Aj _ _⟩

theorem Qc(n:Int)(s:ByteArray)(ao:Option Addr)(m ca:Nat)(left:Int)(w:World)(h0:0≤left)(h:left<s.size+m)(hs:s.size≤9223372036854775807)(hm:m≤9223372036854775807)(hl:left≤1048576):
 Calls Tryz.prog 65 #[qv n s (.slice ao m ca),.int .i64 left] w fun e w'=>e= .returned (.int .i64 (-1))∧Below w.heap.size w w':=by
 by_cases h1:left<(s.size:Int)
 ·exact XB n s ao m ca left w h0 h1 hs hl
 exact XA n s ao m ca left w (by omega) h hm hl

theorem Nv(n:Int)(s:ByteArray)(a:Value)(xs:List Int)(w:World)(ha:RI w a xs):
 Calls Tryz.prog 68 #[qv n s a] w fun e w'=>∃u,e= .returned (qv n s u)∧OI w' w.heap.size u xs∧Below w.heap.size w w':=by
 have R1:=hide ha;clear ha;go_enter Tryz.func68,Tryz.ntmps68
 go_wp2_with fail
 refine Calls.mono (Nw a xs _ (R1.out.below ((((Below.refl w.heap.size w).alloc Ak _).alloc (by simp) _).alloc (by simp;omega) _) Ak)) ?_;rintro e w1 ⟨u,rfl,o1,b1⟩;have s1:=b1.size;have L1:Loc w1 (w.heap.size+1) #[.int .i64 0,.string ⟨#[]⟩,.slice none 0 0]:=Loc.below (Loc.alloc (AJ (w.alloc _) #[.int .i64 0,.string ⟨#[]⟩,.slice none 0 0] _ (by simp)) _) b1 (by simp);have L2:Loc w1 (w.heap.size+1+1) #[.int .i64 n,.string s,.slice none 0 0]:=Loc.below (AJ ((w.alloc _).alloc _) #[.int .i64 n,.string s,.slice none 0 0] _ (by simp)) b1 (by simp);have B1:Below w.heap.size w w1:=((((Below.refl w.heap.size w).alloc Ak _).alloc (by simp) _).alloc (by simp;omega) _).trans (b1.mono (by simp;omega));have ZO:=World.ownsRow.lt o1;simp at ZO s1;have y0:=L1.cell 0 rfl;have y1:=L1.cell 1 rfl;have y2:=L1.cell 2 rfl;have fy0:=L1.frozen 0;have fy1:=L1.frozen 1;have fy2:=L1.frozen 2;have z0:=L2.cell 0 rfl;have z1:=L2.cell 1 rfl;have z2:=L2.cell 2 rfl;have fz2:=L2.frozen 2;obtain⟨ua,uc,hu⟩:=o1.form;have O1:=hide o1;clear o1 b1;subst hu;go_wp2;refine bodyPost_ret (v:=qv n s (.slice ua xs.length uc)) (by simp[results,Tryz.results68,go_sem,y0,y1,y2]) rfl ?_
 have K:Kp w1 ((((w1.setCell ⟨w.heap.size+1+1,2,none⟩ (.slice ua xs.length uc)).setCell ⟨w.heap.size+1,0,none⟩ (.int .i64 n)).setCell ⟨w.heap.size+1,1,none⟩ (.string s)).setCell ⟨w.heap.size+1,2,none⟩ (.slice ua xs.length uc)) (fun k=>k=w.heap.size+1∨k=w.heap.size+1+1):=
  (((((AB _ _ _ _).mono (fun k h=> .inr h))).trans ((AB _ _ _ _).mono (fun k h=> .inl h))).trans ((AB _ _ _ _).mono (fun k h=> .inl h))).trans ((AB _ _ _ _).mono (fun k h=> .inl h))
 exact⟨_,rfl,(O1.out.kp K (fun k hk=>by have:=ZO k hk;omega)).mono (by simp;omega),Below.kp B1 K B1.size (fun k hk=>by omega)⟩

abbrev zV:Obj:= .cells #[.int .i64 0,.string ⟨#[]⟩,.slice none 0 0] 72

theorem L6 (n          :Int)(s:ByteArray)(v:Value)(xs:List Int)(w:World)(h:RI w v xs):
 Calls Tryz.prog 133 #[qv n s v] w fun e w'=>∃u,e= .returned (qv n s u)∧OI w' w.heap.size u xs∧Below w.heap.size w w':=by
 obtain⟨ao,ca,rfl⟩:=h.form;have hl:=h.1;obtain⟨w0,hw0⟩:∃w0,((w.alloc (.cells #[.int .i64 n,.string s,.slice ao xs.length ca] 72)).alloc zV).alloc (.cells #[] 3)=w0:=⟨_,rfl⟩
 have B0:Below w.heap.size w w0:=hw0▸((Bj _ _ _).alloc (by simp;omega) _);have LA:Loc w0 w.heap.size #[.int .i64 n,.string s,.slice ao xs.length ca]:=hw0▸((AJ w _ _ rfl).alloc _).alloc _;have LZ:Loc w0 (w.heap.size+1) #[.int .i64 0,.string ⟨#[]⟩,.slice none 0 0]:=hw0▸(AJ (w.alloc _) _ _ (by simp)).alloc _;have s0:w0.heap.size=w.heap.size+1+1+1:=by rw[←hw0];simp
 have O0:OI w0 (w.heap.size+1+1) (.slice (some ⟨w.heap.size+1+1,0,none⟩) 0 0) []:=by
  have:=World.ownsRow_lit (base:=w.heap.size+1+1) (e:=3) (size:=1) ((w.alloc (.cells #[.int .i64 n,.string s,.slice ao xs.length ca] 72)).alloc zV) #[] 0 (by simp) (by unfold maxLen;omega) (by simp);rw[hw0]at this;simpa[OI]using this
 have P0:=hide (h.pi.below B0);have x2:=LA.cell 2 rfl;have HL:=hide LA;have HZ:=hide LZ;clear h LA LZ;go_enter Tryz.func133,Tryz.ntmps133
 go_wp2_with (first | (at_builtin;clear hw0;refine MN rfl _ _ rfl (w.heap.size+1+1) (.slice (some ⟨w.heap.size+1+1,0,none⟩) 0 0) (.slice ao xs.length ca) [] xs rfl rfl O0 P0.out (by simp;omega) (by omega) ?_;intro v' w2 ho2 hg2 _
                       have k2:=CE hg2;have L2:=HL.out.kp k2 (by simp[Value.ownBlock];omega);have Z2:=HZ.out.kp k2 (by simp[Value.ownBlock]);have B2:=Below.kp B0 k2 B0.size (fun k hk=>by simp[Value.ownBlock]at hk;omega);have QG:=World.ownsRow.lt ho2;have p0:=L2.cell 0 rfl;have p1:=L2.cell 1 rfl;have p2:=L2.cell 2 rfl;have fp:=L2.frozen;have y0:=Z2.cell 0 rfl;have y1:=Z2.cell 1 rfl;have y2:=Z2.cell 2 rfl;have fy:=Z2.frozen;obtain⟨ua,uc,rfl⟩:=ho2.form;have O2:=hide ho2;clear ho2 hg2 k2 L2 Z2))
 refine bodyPost_ret (v:=qv n s (.slice ua ([]++xs).length uc)) (by simp[results,Tryz.results133,go_sem,y0,y1,y2]) rfl ?_
 have K5:Kp w2 ((((w2.setCell ⟨w.heap.size,2,none⟩ (.slice ua ([]++xs).length uc)).setCell ⟨w.heap.size+1,0,none⟩ (.int .i64 n)).setCell ⟨w.heap.size+1,1,none⟩ (.string s)).setCell ⟨w.heap.size+1,2,none⟩ (.slice ua ([]++xs).length uc)) (fun k=>k=w.heap.size∨k=w.heap.size+1):=
  (((((AB _ _ _ _).mono (fun k h=> .inl h))).trans ((AB _ _ _ _).mono (fun k h=> .inr h))).trans ((AB _ _ _ _).mono (fun k h=> .inr h))).trans ((AB _ _ _ _).mono (fun k h=> .inr h))
 exact⟨_,rfl,(O2.out.kp K5 (fun k hk=>by have:=QG k hk;omega)).mono (by omega),Below.kp B2 K5 B2.size (fun k hk=>by omega)⟩
end
section
open Go.RowKit
variable [∀(a b c d:Int),Decidable (BG a b c d)]
theorem UA(a b c d:Int)(w:World):
 Calls Tryz.prog 69 #[Hg a b c d] w fun e w'=>e= .returned (Hg a b c d)∧Below w.heap.size w w':=by
 go_enter Tryz.func69,Tryz.ntmps69
 go_wp2;refine bodyPost_ret (v:=Hg a b c d) (by simp[results,Tryz.results69,go_sem]) rfl ?_;exact⟨rfl,(((Below.refl _ _).alloc Ak _).alloc (by simp) _).alloc (by simp;omega) _⟩

def Bv(w:World)(g:Nat)(a b c d:Int):Prop:=w.cell? ⟨g,0,none⟩=some (.int .i64 a)∧w.cell? ⟨g,1,none⟩=some (.int .i64 b)∧w.cell? ⟨g,2,none⟩=some (.int .i64 c)∧w.cell? ⟨g,3,none⟩=some (.int .i64 d)
theorem Fz(w:World)(a b c d:Int)(t:TypeId):Bv (w.alloc (.cells #[.int .i64 a,.int .i64 b,.int .i64 c,.int .i64 d] t)) w.heap.size a b c d:=by
 refine⟨?_,?_,?_,?_⟩<;>simp
theorem Bv.below{w w':World}{g B:Nat}{a b c d:Int}(h:Bv w g a b c d)(hb:Below B w w')(hg:g<B):Bv w' g a b c d:=
 ⟨(hb.cell (p:=⟨g,0,none⟩) hg).trans h.1,(hb.cell (p:=⟨g,1,none⟩) hg).trans h.2.1,(hb.cell (p:=⟨g,2,none⟩) hg).trans h.2.2.1,(hb.cell (p:=⟨g,3,none⟩) hg).trans h.2.2.2⟩
theorem Q3(a b c d:Int)(w:World):
 Calls Tryz.prog 75 #[Hg a b c d,Hg a b c d] w fun e w'=>e= .returned (.bool true)∧Below w.heap.size w w':=by
 go_enter Tryz.func75,Tryz.ntmps75
 go_wp2;go_ret;exact⟨rfl,((Below.refl _ _).alloc Ak _).alloc (by simp) _⟩
structure MT where
 k:Int
 vw:Int
 bn:ByteArray
 bv:Int
 bs:ByteArray
 bw:List Int
 pv:Int
 ps:ByteArray
 pw:List Int
 qv:Int
 qs:ByteArray
 qw:List Int
 wh:Int
 fr:Int
 tu:Int
 am:Int
 no:Int
abbrev Dw(t:MT)(a b c:Value):Value:= .agg #[.int .i64 t.k,.int .i64 t.vw,.string t.bn,.int .i64 t.bv,.string t.bs,a,.int .i64 t.pv,.string t.ps,b,.int .i64 t.qv,.string t.qs,c,.int .i64 t.wh,.int .i64 t.fr,.int .i64 t.tu,.int .i64 t.am,.int .i64 t.no]
theorem d_(n:Int)(s:ByteArray)(v:Value)(m k0:Nat)(w:World)(hk:k0≤10000000)(hm:m≤10000000)(h:RI w v (A8 k0 m)):
 Calls Tryz.prog 112 #[qv n s v,.int .i64 k0] w fun e w'=>e= .returned (.int .i64 (k0+m))∧Below w.heap.size w w':=by
 have R1:=hide h;have B:=hide (Aj w (.cells #[.int .i64 n,.string s,v] 38));have hd:decide ((k0:Int)+(m:Int)<0)=false:=by simp;omega
 clear h;go_enter Tryz.func112,Tryz.ntmps112
 go_wp2_with fail
 refine(G8 v m k0 _ (by omega) (R1.out.below B.out Ak)).mono ?_;rintro e w1 ⟨rfl,rfl⟩;go_wp2;go_ret;exact⟨rfl,B.out⟩
theorem Qd(t:MT)(ao bo co:Option Addr)(nb ca np cb nq cc:Nat)(left:Int)(w:World)(h:(t.bn.size:Int)+t.bs.size+nb+t.ps.size+np+t.qs.size+nq≤left)(hl:left≤1048576):
 Calls Tryz.prog 20 #[Dw t (.slice ao nb ca) (.slice bo np cb) (.slice co nq cc),.int .i64 left] w fun e w'=>e= .returned (.int .i64 (left-t.bn.size-t.bs.size-nb-t.ps.size-np-t.qs.size-nq))∧Below w.heap.size w w':=by
 have Z1:=hide fun w=>Ik t.bn t.bv t.bs ao nb ca left w (by omega) (by omega);have Z2:=hide fun w=>Hl t.pv t.ps bo np cb (left-t.bn.size-t.bs.size-nb) w (by omega) (by omega);have Z3:=hide fun w=>KJ t.qv t.qs co nq cc (left-t.bn.size-t.bs.size-nb-t.ps.size-np) w (by omega) (by omega);have h1:decide (left-(t.bn.size:Int)-(t.bs.size:Int)-(nb:Int)<0)=false:=by simp;omega
 have h2:decide (left-(t.bn.size:Int)-(t.bs.size:Int)-(nb:Int)-(t.ps.size:Int)-(np:Int)<0)=false:=by simp;omega
 have h3:decide (left-(t.bn.size:Int)-(t.bs.size:Int)-(nb:Int)-(t.ps.size:Int)-(np:Int)-(t.qs.size:Int)-(nq:Int)<0)=false:=by simp;omega
 obtain⟨w0,hw0,AO,A,DC⟩:=bx1 w #[.int .i64 t.k,.int .i64 t.vw,.string t.bn,.int .i64 t.bv,.string t.bs,.slice ao nb ca,.int .i64 t.pv,.string t.ps,.slice bo np cb,.int .i64 t.qv,.string t.qs,.slice co nq cc,.int .i64 t.wh,.int .i64 t.fr,.int .i64 t.tu,.int .i64 t.am,.int .i64 t.no] 67;go_enter Tryz.func20,Tryz.ntmps20
 obtain⟨Bi,Db,Da,Em,FL,GD,Gq,Ga,Gp,Fp,CG,Cm,C9,BV⟩:=Dp A 0 1 2 3 4 5 6 7 8 9 10 11 12 13;obtain⟨DR,DN,DL⟩:=B_ A 14 15 16;go_wp2_with fail
 clear hw0;refine(Z1.out _).mono ?_;rintro _ w1 ⟨rfl,bb⟩;clear Bi Db Da Em FL GD Gq Ga Gp Fp CG Cm C9 BV DR DN DL;have AZ:=bu AO bb;have Cx:=bb.size;replace A:=A.up bb;clear AO bb;obtain⟨Bi,Db,Da,Em,FL,GD,Gq,Ga,Gp,Fp,CG,Cm,C9,BV⟩:=Dp A 0 1 2 3 4 5 6 7 8 9 10 11 12 13;obtain⟨DR,DN,DL⟩:=B_ A 14 15 16;go_wp2_with fail
 refine(Z2.out _).mono ?_;rintro _ w2 ⟨rfl,bb⟩;clear Bi Db Da Em FL GD Gq Ga Gp Fp CG Cm C9 BV DR DN DL;have Ao:=bu AZ bb;have Ex:=bb.size;replace A:=A.up bb;clear AZ bb;obtain⟨Bi,Db,Da,Em,FL,GD,Gq,Ga,Gp,Fp,CG,Cm,C9,BV⟩:=Dp A 0 1 2 3 4 5 6 7 8 9 10 11 12 13;obtain⟨DR,DN,DL⟩:=B_ A 14 15 16;go_wp2_with fail
 refine(Z3.out _).mono ?_;rintro _ w3 ⟨rfl,bb⟩;clear Bi Db Da Em FL GD Gq Ga Gp Fp CG Cm C9 BV DR DN DL;have BK:=bu Ao bb;have IW:=bb.size;replace A:=A.up bb;clear Ao bb;go_wp2;go_ret;exact⟨rfl,BK⟩
theorem Q5(t:MT)(a b c a' b' c':Value)(xs ys zs:List Int)(w:World)(ha:RI w a xs)(hb:RI w b ys)(hc:RI w c zs)(ha':RI w a' xs)(hb':RI w b' ys)(hc':RI w c' zs):
 Calls Tryz.prog 24 #[Dw t a b c,Dw t a' b' c'] w fun e w'=>e= .returned (.bool true)∧Below w.heap.size w w':=by
 have E1:=hide fun w h h'=>Vv t.bn t.bv t.bs a a' xs w h h';have E2:=hide fun w h h'=>PS t.pv t.ps b b' ys w h h';have E3:=hide fun w h h'=>PR t.qv t.qs c c' zs w h h';have E4:=hide fun w=>Q3 t.fr t.tu t.am t.no w;have ha1:=hide ha;have ha2:=hide ha';have hb1:=hide hb;have hb2:=hide hb';have hc1:=hide hc;have hc2:=hide hc';clear ha hb hc ha' hb' hc';obtain⟨w0,hw0,AO,A,B,DC⟩:=Gb w #[.int .i64 t.k,.int .i64 t.vw,.string t.bn,.int .i64 t.bv,.string t.bs,a,.int .i64 t.pv,.string t.ps,b,.int .i64 t.qv,.string t.qs,c,.int .i64 t.wh,.int .i64 t.fr,.int .i64 t.tu,.int .i64 t.am,.int .i64 t.no] 75 #[.int .i64 t.k,.int .i64 t.vw,.string t.bn,.int .i64 t.bv,.string t.bs,a',.int .i64 t.pv,.string t.ps,b',.int .i64 t.qv,.string t.qs,c',.int .i64 t.wh,.int .i64 t.fr,.int .i64 t.tu,.int .i64 t.am,.int .i64 t.no] 75;go_enter Tryz.func24,Tryz.ntmps24
 obtain⟨Bi,Db,Da,Em,FL,GD,Gq,Ga,Gp,Fp,CG,Cm,C9,BV⟩:=Dp A 0 1 2 3 4 5 6 7 8 9 10 11 12 13;obtain⟨DR,DN,DL⟩:=B_ A 14 15 16;obtain⟨cB0,cB1,cB2,cB3,Pz,Py,Px,Pw,Pv,NB,Ff,GA,F_,F3⟩:=Dp B 0 1 2 3 4 5 6 7 8 9 10 11 12 13;obtain⟨Gn,Gm,Gl⟩:=B_ B 14 15 16;go_wp2_with fail
 clear hw0;refine(E1.out _ (ha1.out.below AO) (ha2.out.below AO)).mono ?_;rintro _ w1 ⟨rfl,bb⟩;clear Bi Db Da Em FL GD Gq Ga Gp Fp CG Cm C9 BV DR DN DL cB0 cB1 cB2 cB3 Pz Py Px Pw Pv NB Ff GA F_ F3 Gn Gm Gl;have AZ:=bu AO bb;have Cx:=bb.size;replace A:=A.up bb;replace B:=B.up bb;clear AO bb;obtain⟨Bi,Db,Da,Em,FL,GD,Gq,Ga,Gp,Fp,CG,Cm,C9,BV⟩:=Dp A 0 1 2 3 4 5 6 7 8 9 10 11 12 13;obtain⟨DR,DN,DL⟩:=B_ A 14 15 16;obtain⟨cB0,cB1,cB2,cB3,Pz,Py,Px,Pw,Pv,NB,Ff,GA,F_,F3⟩:=Dp B 0 1 2 3 4 5 6 7 8 9 10 11 12 13;obtain⟨Gn,Gm,Gl⟩:=B_ B 14 15 16;go_wp2_with fail
 refine(E2.out _ (hb1.out.below AZ) (hb2.out.below AZ)).mono ?_;rintro _ w2 ⟨rfl,bb⟩;clear Bi Db Da Em FL GD Gq Ga Gp Fp CG Cm C9 BV DR DN DL cB0 cB1 cB2 cB3 Pz Py Px Pw Pv NB Ff GA F_ F3 Gn Gm Gl;have Ao:=bu AZ bb;have Ex:=bb.size;replace A:=A.up bb;replace B:=B.up bb;clear AZ bb;obtain⟨Bi,Db,Da,Em,FL,GD,Gq,Ga,Gp,Fp,CG,Cm,C9,BV⟩:=Dp A 0 1 2 3 4 5 6 7 8 9 10 11 12 13;obtain⟨DR,DN,DL⟩:=B_ A 14 15 16;obtain⟨cB0,cB1,cB2,cB3,Pz,Py,Px,Pw,Pv,NB,Ff,GA,F_,F3⟩:=Dp B 0 1 2 3 4 5 6 7 8 9 10 11 12 13;obtain⟨Gn,Gm,Gl⟩:=B_ B 14 15 16;go_wp2_with fail
 refine(E3.out _ (hc1.out.below Ao) (hc2.out.below Ao)).mono ?_;rintro _ w3 ⟨rfl,bb⟩;clear Bi Db Da Em FL GD Gq Ga Gp Fp CG Cm C9 BV DR DN DL cB0 cB1 cB2 cB3 Pz Py Px Pw Pv NB Ff GA F_ F3 Gn Gm Gl;have BK:=bu Ao bb;have IW:=bb.size;replace A:=A.up bb;replace B:=B.up bb;clear Ao bb;obtain⟨Bi,Db,Da,Em,FL,GD,Gq,Ga,Gp,Fp,CG,Cm,C9,BV⟩:=Dp A 0 1 2 3 4 5 6 7 8 9 10 11 12 13;obtain⟨DR,DN,DL⟩:=B_ A 14 15 16;obtain⟨cB0,cB1,cB2,cB3,Pz,Py,Px,Pw,Pv,NB,Ff,GA,F_,F3⟩:=Dp B 0 1 2 3 4 5 6 7 8 9 10 11 12 13;obtain⟨Gn,Gm,Gl⟩:=B_ B 14 15 16;go_wp2_with fail
 refine(E4.out _).mono ?_;rintro _ w4 ⟨rfl,bb⟩;clear Bi Db Da Em FL GD Gq Ga Gp Fp CG Cm C9 BV DR DN DL cB0 cB1 cB2 cB3 Pz Py Px Pw Pv NB Ff GA F_ F3 Gn Gm Gl;have Co:=bu BK bb;have OJ:=bb.size;replace A:=A.up bb;replace B:=B.up bb;clear BK bb;go_wp2;go_ret;exact⟨rfl,Co⟩
def OM(w:World)(lo:Nat)(a b c:Value)(xs ys zs:List Int):Prop:=∃p q,OI w lo a xs∧(∀j,a.ownBlock=some j→j<p)∧OI w p b ys∧(∀j,b.ownBlock=some j→j<q)∧OI w q c zs∧lo≤p∧p≤q
theorem VH(t:MT)(a b c:Value)(xs ys zs:List Int)(lo k0:Nat)(w:World)(hk:k0≤90000000)(hx:xs.length≤1048576)(hy:ys.length≤1048576)(hz:zs.length≤1048576)(h:OM w lo a b c xs ys zs):
 Calls Tryz.prog 25 #[Dw t a b c,.int .i64 k0] w fun e w'=>e= .returned (.int .i64 ((k0:Int)+xs.length+ys.length+zs.length))∧OM w' lo a b c (A8 k0 xs.length) (A8 (k0+xs.length) ys.length) (A8 (k0+xs.length+ys.length) zs.length)∧Kp w w' (fun k=>a.ownBlock=some k∨b.ownBlock=some k∨c.ownBlock=some k):=by
 obtain⟨p,q,oa,ta,ob,tb,oc,hlp,hpq⟩:=h;have ra:=World.ownsRow.lt oa;have rb:=World.ownsRow.lt ob;have rc:=World.ownsRow.lt oc;have M1:=hide fun w h=>QE t.bn t.bv t.bs lo a xs k0 w (by omega) (by omega) h;have M2:Hid (∀w,OI w p b ys→Calls Tryz.prog 77 #[qv t.pv t.ps b,.int .i64 ((k0:Int)+(xs.length:Int))] w fun e w'=>e= .returned (.int .i64 ((k0:Int)+(xs.length:Int)+(ys.length:Int)))∧OI w' p b (A8 (k0+xs.length) ys.length)∧Kp w w' (fun k=>b.ownBlock=some k)):=hide fun w h=>SG t.pv t.ps p b ys (k0+xs.length) w (by omega) (by omega) h;have M3:Hid (∀w,OI w q c zs→Calls Tryz.prog 63 #[qv t.qv t.qs c,.int .i64 ((k0:Int)+(xs.length:Int)+(ys.length:Int))] w fun e w'=>e= .returned (.int .i64 ((k0:Int)+(xs.length:Int)+(ys.length:Int)+(zs.length:Int)))∧OI w' q c (A8 (k0+xs.length+ys.length) zs.length)∧Kp w w' (fun k=>c.ownBlock=some k)):=hide fun w h=>Jj t.qv t.qs q c zs (k0+xs.length+ys.length) w (by omega) (by omega) h;obtain⟨w0,hw0,AO,A,DC⟩:=bx1 w #[.int .i64 t.k,.int .i64 t.vw,.string t.bn,.int .i64 t.bv,.string t.bs,a,.int .i64 t.pv,.string t.ps,b,.int .i64 t.qv,.string t.qs,c,.int .i64 t.wh,.int .i64 t.fr,.int .i64 t.tu,.int .i64 t.am,.int .i64 t.no] 75;go_enter Tryz.func25,Tryz.ntmps25
 replace oa:=oa.below AO;replace ob:=ob.below AO;replace oc:=oc.below AO;have K:=Below.BJ AO (fun k=>a.ownBlock=some k∨b.ownBlock=some k∨c.ownBlock=some k);clear AO;obtain⟨Bi,Db,Da,Em,FL,GD,Gq,Ga,Gp,Fp,CG,Cm,C9,BV⟩:=Dp A 0 1 2 3 4 5 6 7 8 9 10 11 12 13;obtain⟨DR,DN,DL⟩:=B_ A 14 15 16;go_wp2_with fail
 clear hw0;refine(M1.out _ oa).mono ?_;rintro _ w1 ⟨rfl,nn,kn⟩;clear Bi Db Da Em FL GD Gq Ga Gp Fp CG Cm C9 BV DR DN DL;replace A:=A.kp kn (fun e=>by have:=ra _ e;omega);replace ob:=ob.kp kn (fun j hj e=>by have:=rb j hj;have:=ta j e;omega);replace oc:=oc.kp kn (fun j hj e=>by have:=rc j hj;have:=ta j e;omega);replace oa:=nn;replace K:=K.trans (kn.mono fun k e=>Or.inl e);clear nn kn;obtain⟨Bi,Db,Da,Em,FL,GD,Gq,Ga,Gp,Fp,CG,Cm,C9,BV⟩:=Dp A 0 1 2 3 4 5 6 7 8 9 10 11 12 13;obtain⟨DR,DN,DL⟩:=B_ A 14 15 16;go_wp2_with fail
 refine(M2.out _ ob).mono ?_;rintro _ w2 ⟨rfl,nn,kn⟩;clear Bi Db Da Em FL GD Gq Ga Gp Fp CG Cm C9 BV DR DN DL;replace A:=A.kp kn (fun e=>by have:=rb _ e;omega);replace oa:=oa.kp kn (fun j hj e=>by have:=ta j hj;have:=rb j e;omega);replace oc:=oc.kp kn (fun j hj e=>by have:=rc j hj;have:=tb j e;omega);replace ob:=nn;replace K:=K.trans (kn.mono fun k e=>Or.inr (Or.inl e));clear nn kn;obtain⟨Bi,Db,Da,Em,FL,GD,Gq,Ga,Gp,Fp,CG,Cm,C9,BV⟩:=Dp A 0 1 2 3 4 5 6 7 8 9 10 11 12 13;obtain⟨DR,DN,DL⟩:=B_ A 14 15 16;go_wp2_with fail
 refine(M3.out _ oc).mono ?_;rintro _ w3 ⟨rfl,nn,kn⟩;clear Bi Db Da Em FL GD Gq Ga Gp Fp CG Cm C9 BV DR DN DL;replace A:=A.kp kn (fun e=>by have:=rc _ e;omega);replace oa:=oa.kp kn (fun j hj e=>by have:=ta j hj;have:=rc j e;omega);replace ob:=ob.kp kn (fun j hj e=>by have:=tb j hj;have:=rc j e;omega);replace oc:=nn;replace K:=K.trans (kn.mono fun k e=>Or.inr (Or.inr e));clear nn kn;go_wp2;go_ret;exact⟨rfl,⟨p,q,oa,ta,ob,tb,oc,hlp,hpq⟩,K⟩
end
end Go.Proofs.YtcjmcgolgbkknaaGreatDoor
namespace Go.Proofs
open Go.Shelf
def Tryz.lays169_ren:Go.Shelf.Ren:=⟨fun|169=>298|n=>n,fun|70=>348|9=>9|0=>0|72=>350|37=>31|127=>269|3=>3|5=>5|n=>n,fun|n=>n⟩
theorem Tryz.lays169:Go.Proofs.Lays.n169 Tryz.prog Tryz.lays169_ren:={
 mixed:=by kernel_rfl
 f169:=Tryz.func298.trans (congrArg some (by kernel_rfl))
 t0:=Tryz.underlying0
 a0:=Tryz.isAgg0
 z0:=Tryz.sizeOf0
 v0:=Tryz.zeroValue0
 t3:=Tryz.underlying3
 a3:=Tryz.isAgg3
 z3:=Tryz.sizeOf3
 v3:=Tryz.zeroValue3
 t9:=Tryz.underlying9
 a9:=Tryz.isAgg9
 z9:=Tryz.sizeOf9
 v9:=Tryz.zeroValue9
 t37:=Tryz.underlying31
 a37:=Tryz.isAgg31
 z37:=Tryz.sizeOf31
 v37:=Tryz.zeroValue31
 t70:=Tryz.underlying348
 a70:=Tryz.isAgg348
 z70:=Tryz.sizeOf348
 v70:=Tryz.zeroValue348
 t72:=Tryz.underlying350
 a72:=Tryz.isAgg350
 z72:=Tryz.sizeOf350
 v72:=Tryz.zeroValue350
 t127:=Tryz.underlying269
 a127:=Tryz.isAgg269
 z127:=Tryz.sizeOf269
 v127:=Tryz.zeroValue269 }
theorem Tryz.Builder_Extra_169:Builder.Extra Tryz.prog Tryz.lays169_ren:={
 sizeBuilder:=by kernel_rfl
 liesBuilder:=by kernel_rfl
 t5:=Tryz.underlying5
 a5:=Tryz.isAgg5
 z5:=Tryz.sizeOf5
 v5:=Tryz.zeroValue5
 infoByte:=by kernel_rfl
 cellsByte:=by kernel_rfl
 sizeByte:=by kernel_rfl
 neB5:=by decide }
open Go.RowKit in
theorem Tryz.Builder_String_any(B b:Nat)(l:List UInt8)(w:World)(h:Lib.IsBuilder 350 5 B b (Lib.byteCells l) w)(hBw:B≤w.heap.size):
 Calls Tryz.prog 298 #[.pointer (some ⟨b,0,none⟩)] w fun e w'=>e= .returned (.string ⟨l.toArray⟩)∧Below B w w':=Any.Builder_String_any Tryz.lays169 Tryz.Builder_Extra_169 B b l w h hBw
end Go.Proofs
namespace Go.Proofs.YtcjmcgolgbkknaaGreatDoor
section

def put:Nat→Nat→List Int
 |0,n=>[(n:Int)]
 |f+1,n=>if n≤127 then [(n:Int)]else((n:Int)%128+128) :: put f (n/128)
def At(n:Nat)(f m:Nat)(done:List Int):Prop:=done++put f m=put 4 n∧m<128 ^ (f+1)∧done.length+f=4
end
section
open Go.RowKit
def bs(s:ByteArray):List Int:=s.data.toList.map fun b=>(b.toNat:Int)
theorem Tryz.infoB:(Tryz.prog.info? 350).map (fun i=>(i.zero,i.size,i.bytes))=some (some (.agg #[.pointer none,.slice none 0 0]),2,32):=by kernel_rfl
theorem wN:liesAt Tryz.prog Tryz.prog.depth 350 (2/Tryz.prog.cellsOf 350) 0 350 1=true:=by kernel_rfl

theorem Yc(b:Nat)(w:World)(h0:w.cell? ⟨b,0,none⟩=some (.pointer (some ⟨b,0,none⟩))):
 Calls Tryz.prog 304 #[.pointer (some ⟨b,0,none⟩)] w fun e w'=>e= .returned (.tuple #[])∧w'=w:=by
 obtain⟨j,hj,_⟩:=info_parts Tryz.infoB;have hq:=Lib.run_neq_ptr_same (P:=Tryz.prog) w (⟨b,0,none⟩:Addr) Tryz.underlying348 hj;go_enter Tryz.func304,Tryz.ntmps304
 go_wp2
 go_end0
 exact⟨rfl,rfl⟩

theorem Q8(b:Nat)(w:World)(h0:w.cell? ⟨b,0,none⟩=some (.pointer none))(hsh:w.shape? b=some (350,2))(hfz:w.frozen? ⟨b,0,none⟩=false):
 Calls Tryz.prog 304 #[.pointer (some ⟨b,0,none⟩)] w fun e w'=>e= .returned (.tuple #[])∧w'=w.setCell ⟨b,0,none⟩ (.pointer (some ⟨b,0,none⟩)):=by
 obtain⟨j,hj,_,hjs,_⟩:=info_parts Tryz.infoB;have hlt:b<w.heap.size:=AQ h0;have k1:=Lib.run_to_unsafe (P:=Tryz.prog) w (⟨b,0,none⟩:Addr) Tryz.underlying348 Tryz.underlying272 hj (by rw[hjs];decide) hsh (show 0<2 by decide)
 have k2:∀x:Value,(callFunc 315 #[x]).run Tryz.prog w= .ok (.value x) w:=fun x=>by
  rw[run_callFunc_extern Tryz.func315 (by kernel_rfl) (by kernel_rfl) (by kernel_rfl) (e:=Extern.AbiNoEscape.same) (by kernel_rfl),Lib.run_noEscape];rfl
 have k3:=Lib.run_from_unsafe (P:=Tryz.prog) w (⟨b,0,none⟩:Addr) Tryz.underlying272 Tryz.underlying348 hj hsh wN;have hq:=Lib.run_neq_ptr_same (P:=Tryz.prog) (w.setCell ⟨b,0,none⟩ (.pointer (some ⟨b,0,none⟩))) (⟨b,0,none⟩:Addr) Tryz.underlying348 hj;have hc:=World.cell?_setCell_same w ⟨b,0,none⟩ (.pointer (some ⟨b,0,none⟩)) h0;go_enter Tryz.func304,Tryz.ntmps304
 go_wp2
 go_end0
 exact⟨rfl,rfl⟩

theorem fB(B b:Nat)(bs:List Value)(w:World)(h:Lib.IsBuilder 350 5 B b bs w):
 Calls Tryz.prog 304 #[.pointer (some ⟨b,0,none⟩)] w fun e w'=>e= .returned (.tuple #[])∧Lib.BuilderAt 350 5 B b (.pointer (some ⟨b,0,none⟩)) bs w'∧Below B w w':=by
 rcases h with h|h
 ·refine(Q8 b w h.cell0 h.shape h.frozen0).mono ?_;rintro e w' ⟨rfl,rfl⟩;exact⟨rfl,h.used _,(Below.refl B w).setCell (p:=⟨b,0,none⟩) h.1 _⟩
 refine(Yc b w h.cell0).mono ?_;rintro e w' ⟨rfl,rfl⟩;exact⟨rfl,h,Below.refl B _⟩
theorem a_{w:World}{B:Nat}{e:TypeId}{k:Nat}{v:Value}{n:Nat}{xs:List Value}(h:w.ownsRow B e k v n xs)(hn:0<n):∃g cap,v= .slice (some ⟨g,0,none⟩) n cap:=by
 rcases h.2 with⟨_,h0⟩|⟨g,cap,cur,hv,_⟩
 ·omega
 exact⟨g,cap,hv⟩
theorem oL{w1 w2:World}{b:Nat}{v p:Value}(hbk:w1.heap[b]? =some (.cells #[p,v] 350 (0,0)))(hg:w1.grownBy w2 v.ownBlock)(hne:v.ownBlock≠some b):w2.heap[b]? =some (.cells #[p,v] 350 (0,0)):=by
 have hlt:b<w1.heap.size:=(Array.getElem?_eq_some_iff.1 hbk).1;rw[hg.block b hlt (fun e=>hne e.symm)];exact hbk

theorem writeString(B b:Nat)(bs:List Value)(s:ByteArray)(w:World)(h:Lib.IsBuilder 350 5 B b bs w)(hlen:bs.length≤1000000000)(hs:s.size≤1000000000)(hs0:0<s.size)(hBw:B≤w.heap.size):
 Calls Tryz.prog 297 #[.pointer (some ⟨b,0,none⟩),.string s] w fun e w'=>e= .returned (.tuple #[.int .i64 s.size,.nilIface])∧Lib.BuilderAt 350 5 B b (.pointer (some ⟨b,0,none⟩)) (bs++Lib.strCells s) w'∧Below B w w':=by
 obtain⟨i0,hi,hz0,hz1,hz2⟩:=info_parts Tryz.info5;go_enter Tryz.func297,Tryz.ntmps297
 go_wp2_with fail
 refine(fB B b bs _ h).mono ?_;rintro e w1 ⟨rfl,⟨hB,v,hbk,hown,hne⟩,b1⟩;have s1:=b1.size;have c1:w1.cell? ⟨b,1,none⟩=some v:=by rw[Lib.cell_of_heap hbk];rfl
 clear h
 go_wp2_with (first
  |(at_builtin;refine Lib.wpList_append_own_string _ rfl _ _ 31 9 rfl B 5 i0 Tryz.underlying31 Tryz.underlying9 hi hz0 hz1 hz2 _ _ _ rfl hown s rfl (by unfold maxLen;omega) (by omega) (by omega) ?_;intro v' w2 ho' hg' _;have hb2:=oL hbk hg' hne;have d1:w2.cell? ⟨b,1,none⟩=some v:=(by rw[Lib.cell_of_heap hb2];rfl);have f1:=Lib.frozen_of_heap hb2 1;have be:=b1.grown hg' (by omega) (fun k hk=>(hown.lt k hk).1);obtain⟨g,cap,rfl⟩:=a_ ho' (by omega);clear hg' hown hbk c1))
 go_ret2
 exact⟨rfl,Lib.BuilderAt.put hB hb2 (bs':=bs++Lib.strCells s) (by simpa[Lib.strCells_length]using ho') (by decide),be.setCell (p:=⟨b,1,none⟩) hB _⟩
end
end Go.Proofs.YtcjmcgolgbkknaaGreatDoor
