/- Lemmas, as stated. -/
import Derived.Test.YtcjmcgolgbkknaaGreatDoorRows
import Derived.WalkSmall
import Derived.BigQuiet
import Derived.Deep.RegionHeld3
import Derived.Deep.DeepCutAuto
set_option maxRecDepth 100000
set_option maxHeartbeats 1600000
set_option linter.unusedSectionVars false
namespace Go.Proofs.YtcjmcgolgbkknaaGreatDoor
section
open Go.RowKit
theorem Ak{n:Nat}:n≤n:=Nat.le_refl n
theorem hide{p:Prop}(h:p):Hid p:=h
theorem zX{p:Prop}(h:Hid p):p:=h

def RB(w:World)(v:Value)(xs:List Int):Prop:=
 xs.length≤140737488355328∧∃ao cap,v= .slice ao xs.length cap∧(xs.length≤cap∧cap≤maxLen)∧(xs=[]∨∃b off,ao=some ⟨b,off,none⟩∧∀k,k<xs.length→w.cell? ⟨b,off+k,none⟩=some (.int .u8 (xs.getD k 0)))

def OB(w:World)(base:Nat)(v:Value)(xs:List Int):Prop:=w.ownsRow base 5 1 v xs.length (xs.map (Value.int .u8))

theorem OB.rb{w:World}{base:Nat}{v:Value}{xs:List Int}(h:OB w base v xs)(hl:xs.length≤140737488355328):RB w v xs:=by
 refine⟨hl,?_⟩;rcases h.2 with⟨rfl,h0⟩|⟨g,cap,cur,rfl,_,_,tV,hcm,_⟩
 ·exact⟨none,0,by rw[h0],⟨by omega,by unfold maxLen;omega⟩,.inl (List.length_eq_zero_iff.1 h0)⟩
 refine⟨_,cap,rfl,⟨tV,hcm⟩,.inr ⟨g,0,rfl,fun k hk=>?_⟩⟩;have:=World.ownsRow.cellAt h k (by omega);rw[Nat.zero_add,this];simp[List.getElem?_map,List.getElem?_eq_getElem hk]
theorem OB.below{w w':World}{base:Nat}{v:Value}{xs:List Int}(h:OB w base v xs)(hb:Below w.heap.size w w'):OB w' base v xs:=
 World.ownsRow.kept (row:=none) h ⟨hb.os,hb.tape,hb.output,hb.size,fun k hk _=>hb.block k hk⟩ (by cases v.ownBlock<;>simp)
theorem OB.drewN{w:World}{base:Nat}{v:Value}{xs:List Int}(h:OB w base v xs)(n:Nat):OB (w.drewN n) base v xs:=h
theorem OB.apart{w w':World}{base N:Nat}{v u:Value}{xs:List Int}(h:OB w base v xs)(hg:w.grownBy w' u.ownBlock)(hv:∀k,v.ownBlock=some k→k<N)(hu:∀k,u.ownBlock=some k→N≤k):OB w' base v xs:=by
 refine World.ownsRow.kept h hg ?_;cases hv':v.ownBlock with
 |none=>exact .inl rfl
 |some k=>exact .inr fun e=>by have:=hv k hv';have:=hu k e.symm;omega

theorem AQ{w:World}{a:Addr}{v:Value}(h:w.cell? a=some v):a.block<w.heap.size:=World.block_lt_of_cell? w a h
theorem RB.below{w w':World}{B:Nat}{v:Value}{xs:List Int}(h:RB w v xs)(hb:Below B w w')(hB:w.heap.size≤B:=by exact Nat.le_refl _):RB w' v xs:=by
 obtain⟨hl,ao,cap,rfl,hcap,h⟩:=h;refine⟨hl,ao,cap,rfl,hcap,?_⟩;rcases h with h|⟨b,off,rfl,h⟩
 ·exact .inl h
 refine .inr ⟨b,off,rfl,fun k hk=>?_⟩;have:=h k hk;exact(hb.cell (Nat.lt_of_lt_of_le (AQ this) hB)).trans this
theorem RB.drewN{w:World}{v:Value}{xs:List Int}(h:RB w v xs)(n:Nat):RB (w.drewN n) v xs:=h
theorem EJ{a b c:World}{row:Option Nat}(h:a.grownBy b row)(k:b.grownBy c row):a.grownBy c row:=
 ⟨k.os.trans h.os,k.tape.trans h.tape,k.output.trans h.output,Nat.le_trans h.size k.size,fun i hi hr=>(k.block i (Nat.lt_of_lt_of_le hi h.size) hr).trans (h.block i hi hr)⟩
theorem D9(a:World)(row:Option Nat):a.grownBy a row:=⟨rfl,rfl,rfl,Nat.le_refl _,fun _ _ _=>rfl⟩

theorem Tryz.info5:(Tryz.prog.info? 5).map (fun i=>(i.zero,i.size,i.bytes))=some (some (.int .u8 0),1,1):=by kernel_rfl
theorem Tryz.info9:(Tryz.prog.info? 9).map (fun i=>(i.zero,i.size,i.bytes))=some (some (.string ⟨#[]⟩),1,16):=by kernel_rfl
theorem one_cell(w:World)(x:Value)(t:TypeId)(j:Nat)(u:Value)(h:[x][j]? =some u):(w.alloc (.cells #[x] t)).cell? ((⟨w.heap.size,0,none⟩:Addr).add j)=some u:=by
 match j,h with
 |0,h=>simp at h;subst h;simp[Addr.add]
theorem KX(s:ByteArray)(u:Value)(h:u ∈ [Value.string s]):u.oneCell'=true:=by simp at h;subst h;rfl
theorem bu{w a b:World}(h:Below w.heap.size w a)(k:Below a.heap.size a b):Below w.heap.size w b:=h.trans (k.mono h.size)
theorem H7(x lo hi:Int)(w:World)(h1:lo≤x)(h2:x≤hi):Calls Tryz.prog 81 #[.int .i64 x,.int .i64 lo,.int .i64 hi] w fun e w'=>e= .returned (.bool true)∧w'=w:=by
 go_enter Tryz.func81,Tryz.ntmps81
 go_wp2;go_ret;exact⟨rfl,rfl⟩

theorem L9(x lo hi:Int)(w:World)(h:x<lo∨hi<x):Calls Tryz.prog 81 #[.int .i64 x,.int .i64 lo,.int .i64 hi] w fun e w'=>e= .returned (.bool false)∧w'=w:=by
 by_cases h1:lo≤x
 ·have h2:¬x≤hi:=by omega
  clear h;go_enter Tryz.func81,Tryz.ntmps81
  go_wp2;go_ret;exact⟨rfl,rfl⟩
 have hd:decide (lo≤x)=false:=by simpa using h1
 clear h;go_enter Tryz.func81,Tryz.ntmps81
 go_wp2;go_ret;exact⟨rfl,rfl⟩
end
section
open Go.RowKit
theorem Ci(x lo hi:Int)(w:World)(h1:lo≤x)(h2:x≤hi):Calls Tryz.prog 96 #[.int .i64 x,.int .i64 lo,.int .i64 hi] w fun e w'=>e= .returned (.bool true)∧w'=w:=by
 go_enter Tryz.func96,Tryz.ntmps96
 go_wp2;go_ret;exact⟨rfl,rfl⟩

theorem Dm(x lo hi:Int)(w:World)(h:x<lo∨hi<x):Calls Tryz.prog 96 #[.int .i64 x,.int .i64 lo,.int .i64 hi] w fun e w'=>e= .returned (.bool false)∧w'=w:=by
 by_cases h1:lo≤x
 ·have h2:¬x≤hi:=by omega
  clear h;go_enter Tryz.func96,Tryz.ntmps96
  go_wp2;go_ret;exact⟨rfl,rfl⟩
 have hd:decide (lo≤x)=false:=by simpa using h1
 clear h;go_enter Tryz.func96,Tryz.ntmps96
 go_wp2;go_ret;exact⟨rfl,rfl⟩

def BG(a b c d:Int):Prop:=(0≤a∧a≤3)∧(0≤b∧b≤3)∧(0≤c∧c≤1000)∧(0≤d∧d≤99)
variable [∀(a b c d:Int),Decidable (BG a b c d)]
abbrev Hg(a b c d:Int):Value:= .agg #[.int .i64 a,.int .i64 b,.int .i64 c,.int .i64 d]

theorem Kg(a b c d:Int)(w:World)(h:BG a b c d):
 Calls Tryz.prog 178 #[Hg a b c d] w fun e w'=>e= .returned (.bool true)∧Below w.heap.size w w':=by
 obtain⟨⟨a1,a2⟩,⟨b1,b2⟩,⟨c1,c2⟩,⟨d1,d2⟩⟩:=h;go_enter Tryz.func178,Tryz.ntmps178
 go_wp2_with (first|(go_at_call 96;refine(Ci _ _ _ _ (by omega) (by omega)).mono ?_;rintro e w' ⟨rfl,rfl⟩))
 go_ret;exact⟨rfl,(Below.refl _ _).alloc Ak _⟩

theorem KL(a b c d:Int)(w:World)(h:BG a b c d):
 Calls Tryz.prog 126 #[Hg a b c d] w fun e w'=>e= .returned (.bool true)∧Below w.heap.size w w':=by
 obtain⟨⟨a1,a2⟩,⟨b1,b2⟩,⟨c1,c2⟩,⟨d1,d2⟩⟩:=h;go_enter Tryz.func126,Tryz.ntmps126
 go_wp2_with (first|(go_at_call 81;refine(H7 _ _ _ _ (by omega) (by omega)).mono ?_;rintro e w' ⟨rfl,rfl⟩))
 go_ret;exact⟨rfl,(Below.refl _ _).alloc Ak _⟩

theorem L_(a b c d:Int)(w:World)(h:¬BG a b c d):
 Calls Tryz.prog 178 #[Hg a b c d] w fun e w'=>e= .returned (.bool false)∧Below w.heap.size w w':=by
 by_cases ha:0≤a∧a≤3
 ·obtain⟨a1,a2⟩:=ha;by_cases hb:0≤b∧b≤3
  ·obtain⟨b1,b2⟩:=hb;by_cases hc:0≤c∧c≤1000
   ·obtain⟨c1,c2⟩:=hc;have hd:d<0∨99<d:=by unfold BG at h;omega
    clear h;go_enter Tryz.func178,Tryz.ntmps178
    go_wp2_with (first|(go_at_call 96;refine(Ci _ _ _ _ (by omega) (by omega)).mono ?_;rintro e w' ⟨rfl,rfl⟩)|(go_at_call 96;refine(Dm _ _ _ _ (by omega)).mono ?_;rintro e w' ⟨rfl,rfl⟩))
    go_ret;exact⟨rfl,(Below.refl _ _).alloc Ak _⟩
   have hc':c<0∨1000<c:=by omega
   clear h hc;go_enter Tryz.func178,Tryz.ntmps178
   go_wp2_with (first|(go_at_call 96;refine(Ci _ _ _ _ (by omega) (by omega)).mono ?_;rintro e w' ⟨rfl,rfl⟩)|(go_at_call 96;refine(Dm _ _ _ _ (by omega)).mono ?_;rintro e w' ⟨rfl,rfl⟩))
   go_ret;exact⟨rfl,(Below.refl _ _).alloc Ak _⟩
  have hb':b<0∨3<b:=by omega
  clear h hb;go_enter Tryz.func178,Tryz.ntmps178
  go_wp2_with (first|(go_at_call 96;refine(Ci _ _ _ _ (by omega) (by omega)).mono ?_;rintro e w' ⟨rfl,rfl⟩)|(go_at_call 96;refine(Dm _ _ _ _ (by omega)).mono ?_;rintro e w' ⟨rfl,rfl⟩))
  go_ret;exact⟨rfl,(Below.refl _ _).alloc Ak _⟩
 have ha':a<0∨3<a:=by omega
 clear h ha;go_enter Tryz.func178,Tryz.ntmps178
 go_wp2_with (first|(go_at_call 96;refine(Ci _ _ _ _ (by omega) (by omega)).mono ?_;rintro e w' ⟨rfl,rfl⟩)|(go_at_call 96;refine(Dm _ _ _ _ (by omega)).mono ?_;rintro e w' ⟨rfl,rfl⟩))
 go_ret;exact⟨rfl,(Below.refl _ _).alloc Ak _⟩

theorem Ls(a b c d:Int)(w:World)(h:¬BG a b c d):
 Calls Tryz.prog 126 #[Hg a b c d] w fun e w'=>e= .returned (.bool false)∧Below w.heap.size w w':=by
 by_cases ha:0≤a∧a≤3
 ·obtain⟨a1,a2⟩:=ha;by_cases hb:0≤b∧b≤3
  ·obtain⟨b1,b2⟩:=hb;by_cases hc:0≤c∧c≤1000
   ·obtain⟨c1,c2⟩:=hc;have hd:d<0∨99<d:=by unfold BG at h;omega
    clear h;go_enter Tryz.func126,Tryz.ntmps126
    go_wp2_with (first|(go_at_call 81;refine(H7 _ _ _ _ (by omega) (by omega)).mono ?_;rintro e w' ⟨rfl,rfl⟩)|(go_at_call 81;refine(L9 _ _ _ _ (by omega)).mono ?_;rintro e w' ⟨rfl,rfl⟩))
    go_ret;exact⟨rfl,(Below.refl _ _).alloc Ak _⟩
   have hc':c<0∨1000<c:=by omega
   clear h hc;go_enter Tryz.func126,Tryz.ntmps126
   go_wp2_with (first|(go_at_call 81;refine(H7 _ _ _ _ (by omega) (by omega)).mono ?_;rintro e w' ⟨rfl,rfl⟩)|(go_at_call 81;refine(L9 _ _ _ _ (by omega)).mono ?_;rintro e w' ⟨rfl,rfl⟩))
   go_ret;exact⟨rfl,(Below.refl _ _).alloc Ak _⟩
  have hb':b<0∨3<b:=by omega
  clear h hb;go_enter Tryz.func126,Tryz.ntmps126
  go_wp2_with (first|(go_at_call 81;refine(H7 _ _ _ _ (by omega) (by omega)).mono ?_;rintro e w' ⟨rfl,rfl⟩)|(go_at_call 81;refine(L9 _ _ _ _ (by omega)).mono ?_;rintro e w' ⟨rfl,rfl⟩))
  go_ret;exact⟨rfl,(Below.refl _ _).alloc Ak _⟩
 have ha':a<0∨3<a:=by omega
 clear h ha;go_enter Tryz.func126,Tryz.ntmps126
 go_wp2_with (first|(go_at_call 81;refine(H7 _ _ _ _ (by omega) (by omega)).mono ?_;rintro e w' ⟨rfl,rfl⟩)|(go_at_call 81;refine(L9 _ _ _ _ (by omega)).mono ?_;rintro e w' ⟨rfl,rfl⟩))
 go_ret;exact⟨rfl,(Below.refl _ _).alloc Ak _⟩

theorem VX(a b c d:Int)(w:World):
 Calls Tryz.prog 178 #[Hg a b c d] w fun e w'=>e= .returned (.bool (decide (BG a b c d)))∧Below w.heap.size w w':=by
 by_cases h:BG a b c d
 ·rw[decide_eq_true h];exact Kg a b c d w h
 rw[decide_eq_false h];exact L_ a b c d w h
theorem Gy(a b c d:Int)(w:World):
 Calls Tryz.prog 126 #[Hg a b c d] w fun e w'=>e= .returned (.bool (decide (BG a b c d)))∧Below w.heap.size w w':=by
 by_cases h:BG a b c d
 ·rw[decide_eq_true h];exact KL a b c d w h
 rw[decide_eq_false h];exact Ls a b c d w h
end
section
open Go.RowKit
theorem Tryz.info3:(Tryz.prog.info? 3).map (fun i=>(i.zero,i.size,i.bytes))=some (some (.int .i64 0),1,8):=by kernel_rfl

def RI(w:World)(v:Value)(xs:List Int):Prop:=
 xs.length≤4194304∧∃ao cap,v= .slice ao xs.length cap∧(xs=[]∨∃b off,ao=some ⟨b,off,none⟩∧∀k,k<xs.length→w.cell? ⟨b,off+k,none⟩=some (.int .i64 (xs.getD k 0)))
def OI(w:World)(base:Nat)(v:Value)(xs:List Int):Prop:=w.ownsRow base 3 1 v xs.length (xs.map (Value.int .i64))

theorem OI.ri{w:World}{base:Nat}{v:Value}{xs:List Int}(h:OI w base v xs)(hl:xs.length≤4194304):RI w v xs:=by
 refine⟨hl,?_⟩;rcases h.2 with⟨rfl,h0⟩|⟨g,cap,cur,rfl,_⟩
 ·exact⟨none,0,by rw[h0],.inl (List.length_eq_zero_iff.1 h0)⟩
 refine⟨_,cap,rfl,.inr ⟨g,0,rfl,fun k hk=>?_⟩⟩;have:=World.ownsRow.cellAt h k (by omega);rw[Nat.zero_add,this];simp[List.getElem?_map,List.getElem?_eq_getElem hk]
theorem OI.below{w w':World}{base:Nat}{v:Value}{xs:List Int}(h:OI w base v xs)(hb:Below w.heap.size w w'):OI w' base v xs:=
 World.ownsRow.kept (row:=none) h ⟨hb.os,hb.tape,hb.output,hb.size,fun k hk _=>hb.block k hk⟩ (by cases v.ownBlock<;>simp)
theorem OI.grown{w w':World}{base:Nat}{row:Option Nat}{v:Value}{xs:List Int}(h:OI w base v xs)(hg:w.grownBy w' row)(hv:∀k,v.ownBlock=some k→row≠some k):OI w' base v xs:=by
 refine World.ownsRow.kept h hg ?_;cases hv':v.ownBlock with
 |none=>exact .inl rfl
 |some k=>exact .inr fun e=>hv k hv' e.symm
theorem RI.below{w w':World}{B:Nat}{v:Value}{xs:List Int}(h:RI w v xs)(hb:Below B w w')(hB:w.heap.size≤B:=by exact Nat.le_refl _):RI w' v xs:=by
 obtain⟨hl,ao,cap,rfl,h⟩:=h;refine⟨hl,ao,cap,rfl,?_⟩;rcases h with h|⟨b,off,rfl,h⟩
 ·exact .inl h
 refine .inr ⟨b,off,rfl,fun k hk=>?_⟩;have:=h k hk;exact(hb.cell (Nat.lt_of_lt_of_le (AQ this) hB)).trans this
theorem below_drewN'{B:Nat}{w w':World}(h:Below B w w')(n:Nat):Below B w (w'.drewN n):=⟨h.os,h.tape,h.output,h.size,h.block⟩

theorem PU(va vb:Value)(xs:List Int)(w:World)(ha:RI w va xs)(hb:RI w vb xs):
 Calls Tryz.prog 121 #[va,vb] w fun e w'=>e= .returned (.bool true)∧∃n,w'=w.drewN n:=by
 obtain⟨hl,ao,ca,rfl,ha⟩:=ha;obtain⟨_,bo,cb,rfl,hb⟩:=hb;generalize hn:xs.length=n at *;have Hn:Hid (xs.length=n):=hn;clear hn;go_enter Tryz.func121,Tryz.ntmps121
 go_wp2
 go_loopw [5] (fun i wr=>∃k:Nat,k≤n∧i= .int .i64 k∧∃m,wr=w.drewN m) (fun i _=>n-(intOf i).toNat)
 case atStart=>exact⟨0,Nat.zero_le _,rfl,0,rfl⟩
 case round=>
  obtain⟨k,hk,rfl,m,rfl⟩:=hrel;by_cases hlt:k<n
  ·rcases ha with ha|⟨b,off,rfl,ha⟩
   ·subst ha;have:=Hn.out;simp at this;omega
   rcases hb with hb|⟨b',off',rfl,hb⟩
   ·subst hb;have:=Hn.out;simp at this;omega
   have ha':=ha k hlt;have hb':=hb k hlt;clear ha hb;generalize xs.getD k 0=d at *;go_wp2_with fail
   go_quiet (fail)
   go_wp2
   go_roundw
   case rel=>exact⟨k+1,by omega,by go_num,_,rfl⟩
   case measure=>simp[intOf];omega
  clear ha hb;go_wp2;go_ret;exact⟨rfl,_,rfl⟩

def GZ(xs:List Int)(k:Nat):List Value:=((xs.take k)++List.replicate (xs.length-k) 0).map (Value.int .i64)
theorem YJ(xs:List Int):GZ xs 0=List.replicate xs.length (.int .i64 0):=by simp[GZ]
theorem dx(xs:List Int):GZ xs xs.length=xs.map (Value.int .i64):=by simp[GZ]
theorem dw(xs:List Int)(k:Nat)(h:k≤xs.length):(GZ xs k).length=xs.length:=by simp[GZ];omega
theorem dn(xs:List Int)(k:Nat)(h:k<xs.length):(GZ xs k).set k (.int .i64 (xs.getD k 0))=GZ xs (k+1):=by
 have e:xs.length-k=(xs.length-(k+1))+1:=by omega
 have hk:(xs.take k).length=k:=by simp;omega
 unfold GZ;rw[List.take_succ_eq_append_getElem h,e,List.replicate_succ,List.map_append,List.map_append,List.map_append,List.set_append_right _ _ (by simp;omega),List.length_map,hk,Nat.sub_self];simp[List.getElem?_eq_getElem h]

theorem Nw(v:Value)(xs:List Int)(w:World)(h:RI w v xs):
 Calls Tryz.prog 119 #[v] w fun e w'=>∃u,e= .returned u∧OI w' w.heap.size u xs∧Below w.heap.size w w':=by
 obtain⟨i0,hi,hz0,hz1,hz2⟩:=info_parts Tryz.info3;obtain⟨hl,ao,ca,rfl,ha⟩:=h;obtain⟨n,hn⟩:∃n,xs.length=n:=⟨_,rfl⟩
 have Hn:Hid (xs.length=n):=hn;rw[hn]at hl⊢;rw[hn]at ha;clear hn;go_enter Tryz.func119,Tryz.ntmps119
 go_wp2_with (first|(at_make;refine wpList_make_full _ rfl _ _ 24 rfl w.heap.size 3 i0 (.int .i64 0) 1 Tryz.underlying24 hi hz0 hz1 .i64 .i64 n n n rfl rfl rfl rfl (by rw[hz2];omega) (by unfold maxLen;omega) Ak ?_;intro w0 ho0 hg0))
 have hstart:w0.ownsRow w.heap.size 3 1 (.slice (some ⟨w.heap.size,0,none⟩) n n) n (GZ xs 0):=by
  have e:(madeCells (Value.int IntKind.i64 0).cells (n*1)).toList=GZ xs 0:=by
   rw[YJ,Hn.out,Nat.mul_one];exact toList_madeCells_one _ _
  rw[←e];exact ho0
 have HB:Hid (Below w.heap.size w w0):=(Below.refl _ _).grown hg0 Ak (by simp);clear ho0 hg0
 go_loopw [4] (fun i wr=>∃k:Nat,k≤n∧i= .int .i64 k∧wr.ownsRow w.heap.size 3 1 (.slice (some ⟨w.heap.size,0,none⟩) n n) n (GZ xs k)∧Below w.heap.size w wr) (fun i _=>n-(intOf i).toNat)
 case atStart=>exact⟨0,Nat.zero_le _,rfl,hstart,HB.out⟩
 case round=>
  clear hstart;obtain⟨k,hk,rfl,ho,hbel⟩:=hrel;by_cases hlt:k<n
  ·rcases ha with ha|⟨b,off,rfl,ha⟩
   ·subst ha;have:=Hn.out;simp at this;omega
   have hkx:k<xs.length:=by rw[Hn.out];exact hlt
   have hc0:=ha k hlt;have hc:wr.cell? ⟨b,off+k,none⟩=some (.int .i64 (xs.getD k 0)):=(hbel.cell (AQ hc0)).trans hc0
   obtain⟨u,hu⟩:∃u,wr.cell? ⟨w.heap.size,k,none⟩=some u:=by
    have h1:=ho.cellAt k (by omega);have h2:k<(GZ xs k).length:=by rw[dw xs k (by omega)];exact hkx
    exact⟨_,h1.trans (List.getElem?_eq_getElem h2)⟩
   have hfr:=ho.frozenAt k
   have HS:Hid ((wr.setCell ⟨w.heap.size,k,none⟩ (.int .i64 (xs.getD k 0))).ownsRow w.heap.size 3 1 (.slice (some ⟨w.heap.size,0,none⟩) n n) n (GZ xs (k+1))):=by
    rw[←dn xs k hkx];exact(ho.stored k _).1
   have HG:Hid (Below w.heap.size w (wr.setCell ⟨w.heap.size,k,none⟩ (.int .i64 (xs.getD k 0)))):=hbel.setCell Ak _;clear ha ho hbel hc0;generalize xs.getD k 0=d at *;go_wp2
   go_roundw
   case rel=>exact⟨k+1,by omega,by go_num,HS.out,HG.out⟩
   case measure=>simp[intOf];omega
  have hkn:k=n:=by omega
  have HO:Hid (OI wr w.heap.size (.slice (some ⟨w.heap.size,0,none⟩) n n) xs):=by
   have h1:=dx xs;rw[Hn.out]at h1;unfold OI Hid;rw[Hn.out,←h1,←hkn];rw[←hkn]at ho;exact ho
  clear ha ho;go_wp2;go_ret;exact⟨_,rfl,HO.out,hbel⟩

theorem N9(ao:Option Addr)(n ca:Nat)(left:Int)(w:World)(hn:(n:Int)≤left)(hl:left≤1048576):
 Calls Tryz.prog 115 #[.slice ao n ca,.int .i64 left] w fun e w'=>e= .returned (.int .i64 (left-n))∧w'=w:=by
 have hd:decide (left-(n:Int)<0)=false:=by simp;omega
 go_enter Tryz.func115,Tryz.ntmps115
 go_wp2;go_ret;exact⟨rfl,rfl⟩
theorem Qe(ao:Option Addr)(n ca:Nat)(left:Int)(w:World)(h0:0≤left)(hn:left<n)(hl:left≤1048576)(hm:n≤9223372036854775807):
 Calls Tryz.prog 115 #[.slice ao n ca,.int .i64 left] w fun e w'=>e= .returned (.int .i64 (-1))∧w'=w:=by
 have hd:decide (left-(n:Int)<0)=true:=by simp;omega
 go_enter Tryz.func115,Tryz.ntmps115
 go_wp2;go_ret;exact⟨rfl,rfl⟩
structure Kp(w w':World)(X:Nat→Prop):Prop where
 os:w'.os=w.os
 tape:w'.tape=w.tape
 output:w'.output=w.output
 size:w.heap.size≤w'.heap.size
 block:∀k,k<w.heap.size→¬X k→w'.heap[k]? =w.heap[k]?
theorem Kp.refl(w:World)(X:Nat→Prop):Kp w w X:=⟨rfl,rfl,rfl,Nat.le_refl _,fun _ _ _=>rfl⟩
theorem Kp.trans{a b c:World}{X:Nat→Prop}(h:Kp a b X)(k:Kp b c X):Kp a c X:=
 ⟨k.os.trans h.os,k.tape.trans h.tape,k.output.trans h.output,Nat.le_trans h.size k.size,fun i hi hx=>(k.block i (Nat.lt_of_lt_of_le hi h.size) hx).trans (h.block i hi hx)⟩
theorem Kp.mono{a b:World}{X Y:Nat→Prop}(h:Kp a b X)(hxy:∀k,X k→Y k):Kp a b Y:=⟨h.os,h.tape,h.output,h.size,fun k hk hy=>h.block k hk (fun hx=>hy (hxy k hx))⟩
theorem Below.BJ{w w':World}(h:Below w.heap.size w w')(X:Nat→Prop):Kp w w' X:=⟨h.os,h.tape,h.output,h.size,fun k hk _=>h.block k hk⟩
theorem CE{w w':World}{row:Option Nat}(h:w.grownBy w' row):Kp w w' (fun k=>row=some k):=⟨h.os,h.tape,h.output,h.size,fun k hk hx=>h.block k hk (fun e=>hx e.symm)⟩
theorem Kp.cell{w w':World}{X:Nat→Prop}(h:Kp w w' X){a:Addr}{v:Value}(hc:w.cell? a=some v)(hx:¬X a.block):w'.cell? a=some v:=
 (World.cell?_of_block (h.block a.block (AQ hc) hx)).trans hc
theorem Below.kp{B:Nat}{a w w':World}{X:Nat→Prop}(h:Below B a w)(k:Kp w w' X)(hB:B≤w.heap.size)(hx:∀k,X k→B≤k):Below B a w':=
 ⟨k.os.trans h.os,k.tape.trans h.tape,k.output.trans h.output,Nat.le_trans h.size k.size,fun i hi=>(k.block i (by omega) (fun h'=>by have:=hx i h';omega)).trans (h.block i hi)⟩
theorem OI.kp{w w':World}{base:Nat}{X:Nat→Prop}{v:Value}{xs:List Int}(h:OI w base v xs)(k:Kp w w' X)(hv:∀k,v.ownBlock=some k→¬X k):OI w' base v xs:=by
 refine⟨h.1,?_⟩;rcases h.2 with hn|⟨g,cap,cur,rfl,hb,hgg,rest⟩
 ·exact .inl hn
 refine .inr ⟨g,cap,cur,rfl,hb,?_,rest⟩;rw[k.block g (Array.getElem?_eq_some_iff.1 hgg).1 (hv g rfl)];exact hgg

theorem OI.mono{w:World}{base base':Nat}{v:Value}{xs:List Int}(h:OI w base v xs)(hb:base'≤base):OI w base' v xs:=by
 refine⟨h.1,?_⟩;rcases h.2 with hn|⟨g,cap,cur,rfl,hg,rest⟩
 ·exact .inl hn
 exact .inr ⟨g,cap,cur,rfl,Nat.le_trans hb hg,rest⟩

theorem OI.form{w:World}{base:Nat}{v:Value}{xs:List Int}(h:OI w base v xs):∃ao ca,v= .slice ao xs.length ca:=by
 rcases h.2 with⟨rfl,h0⟩|⟨g,cap,cur,rfl,_⟩
 ·exact⟨none,0,by rw[h0]⟩
 exact⟨_,_,rfl⟩

def IE(w:World)(g:Nat)(a b:Value):Prop:=∃t,w.heap[g]? =some (.cells #[a,b] t (0,0))
theorem IE.lt{w:World}{g:Nat}{a b:Value}(h:IE w g a b):g<w.heap.size:=by obtain⟨t,h⟩:=h;exact(Array.getElem?_eq_some_iff.1 h).1
theorem IE.cells{w:World}{g:Nat}{a b:Value}(h:IE w g a b):w.cell? ⟨g,0,none⟩=some a∧w.cell? ⟨g,1,none⟩=some b∧w.frozen? ⟨g,0,none⟩=false∧w.frozen? ⟨g,1,none⟩=false:=by
 obtain⟨t,h⟩:=h;refine⟨?_,?_,frozen_of_row w g 0 _ t h,frozen_of_row w g 1 _ t h⟩
 ·rw[cell_of_row w g 0 _ t (0,0) h];rfl
 rw[cell_of_row w g 1 _ t (0,0) h];rfl
theorem IE.below{w w':World}{g B:Nat}{a b:Value}(h:IE w g a b)(hb:Below B w w')(hg:g<B):IE w' g a b:=by obtain⟨t,h⟩:=h;exact⟨t,(hb.block g hg).trans h⟩
theorem IE.kp{w w':World}{g:Nat}{X:Nat→Prop}{a b:Value}(h:IE w g a b)(k:Kp w w' X)(hg:¬X g):IE w' g a b:=by have hl:=h.lt;obtain⟨t,h⟩:=h;exact⟨t,(k.block g hl hg).trans h⟩
theorem IE.alloc{w:World}{g:Nat}{a b:Value}(h:IE w g a b)(o:Obj):IE (w.alloc o) g a b:=h.kp (X:=fun _=>False) (Below.BJ ((Below.refl _ _).alloc Ak o) _) (fun h=>h)
theorem IE.drewN{w:World}{g:Nat}{a b:Value}(h:IE w g a b)(n:Nat):IE (w.drewN n) g a b:=h
theorem IE.other{w:World}{g:Nat}{a b:Value}(h:IE w g a b){p:Addr}(hp:g≠p.block)(u:Value):IE (w.setCell p u) g a b:=by obtain⟨t,h⟩:=h;exact⟨t,(heap_setCell_other w p g u hp).trans h⟩

structure OL(w:World)(lo hi:Nat)(a b:Value)(xs ys:List Int):Prop where
 has:OI w lo a xs
 next:OI w lo b ys
 top:∀k,a.ownBlock=some k→k<hi
 top':∀k,b.ownBlock=some k→k<hi
 ne:∀k,a.ownBlock=some k→b.ownBlock≠some k
theorem OL.kp{w w':World}{lo hi:Nat}{X:Nat→Prop}{a b:Value}{xs ys:List Int}(h:OL w lo hi a b xs ys)(k:Kp w w' X)(hx:∀k,lo≤k→k<hi→¬X k):OL w' lo hi a b xs ys:=
 ⟨h.has.kp k (fun j hj=>hx j (World.ownsRow.lt h.has j hj).1 (h.top j hj)),h.next.kp k (fun j hj=>hx j (World.ownsRow.lt h.next j hj).1 (h.top' j hj)),h.top,h.top',h.ne⟩
theorem OL.below{w w':World}{lo hi:Nat}{a b:Value}{xs ys:List Int}(h:OL w lo hi a b xs ys)(hb:Below w.heap.size w w'):OL w' lo hi a b xs ys:=h.kp (Below.BJ hb (fun _=>False)) (fun _ _ _ h=>h)
theorem OL.alloc{w:World}{lo hi:Nat}{a b:Value}{xs ys:List Int}(h:OL w lo hi a b xs ys)(o:Obj):OL (w.alloc o) lo hi a b xs ys:=h.below ((Below.refl _ _).alloc Ak _)
theorem OL.ri{w:World}{lo hi:Nat}{a b:Value}{xs ys:List Int}(h:OL w lo hi a b xs ys)(hl:xs.length≤4194304)(hm:ys.length≤4194304):RI w a xs∧RI w b ys:=⟨h.has.ri hl,h.next.ri hm⟩
theorem OL.mono{w:World}{lo hi lo' hi':Nat}{a b:Value}{xs ys:List Int}(h:OL w lo hi a b xs ys)(h1:lo'≤lo)(h2:hi≤hi'):OL w lo' hi' a b xs ys:=
 ⟨h.has.mono h1,h.next.mono h1,fun k hk=>Nat.lt_of_lt_of_le (h.top k hk) h2,fun k hk=>Nat.lt_of_lt_of_le (h.top' k hk) h2,h.ne⟩
theorem Below.set{B:Nat}{a w:World}(h:Below B a w){g:Nat}(j:Nat)(u:Value)(hg:B≤g):Below B a (w.setCell ⟨g,j,none⟩ u):=Below.setCell h (p:=⟨g,j,none⟩) hg u
theorem AB(w:World)(g j:Nat)(u:Value):Kp w (w.setCell ⟨g,j,none⟩ u) (fun k=>k=g):=
 ⟨rfl,rfl,rfl,by simp,fun k _ hk=>heap_setCell_other w ⟨g,j,none⟩ k u hk⟩
def Loc(w:World)(g:Nat)(cs:Array Value):Prop:=∃t,w.heap[g]? =some (.cells cs t (0,0))
theorem AJ(w:World)(cs:Array Value)(t:TypeId){g:Nat}(h:w.heap.size=g):Loc (w.alloc (.cells cs t)) g cs:=h▸⟨t,heap_alloc_new w _⟩
theorem Loc.lt{w:World}{g:Nat}{cs:Array Value}(h:Loc w g cs):g<w.heap.size:=by obtain⟨t,h⟩:=h;exact(Array.getElem?_eq_some_iff.1 h).1
theorem Loc.cell{w:World}{g:Nat}{cs:Array Value}(h:Loc w g cs)(j:Nat){v:Value}(hj:cs[j]? =some v):w.cell? ⟨g,j,none⟩=some v:=by
 obtain⟨t,h⟩:=h;rw[cell_of_row w g j _ t (0,0) h];exact hj
theorem Loc.frozen{w:World}{g:Nat}{cs:Array Value}(h:Loc w g cs)(j:Nat):w.frozen? ⟨g,j,none⟩=false:=by obtain⟨t,h⟩:=h;exact frozen_of_row w g j _ t h
theorem Loc.below{w w':World}{g B:Nat}{cs:Array Value}(h:Loc w g cs)(hb:Below B w w')(hg:g<B):Loc w' g cs:=by obtain⟨t,h⟩:=h;exact⟨t,(hb.block g hg).trans h⟩
theorem Loc.kp{w w':World}{g:Nat}{X:Nat→Prop}{cs:Array Value}(h:Loc w g cs)(k:Kp w w' X)(hg:¬X g):Loc w' g cs:=by have hl:=h.lt;obtain⟨t,h⟩:=h;exact⟨t,(k.block g hl hg).trans h⟩
theorem Loc.alloc{w:World}{g:Nat}{cs:Array Value}(h:Loc w g cs)(o:Obj):Loc (w.alloc o) g cs:=h.kp (X:=fun _=>False) (Below.BJ ((Below.refl _ _).alloc Ak o) _) (fun h=>h)
theorem Loc.drewN{w:World}{g:Nat}{cs:Array Value}(h:Loc w g cs)(n:Nat):Loc (w.drewN n) g cs:=h
theorem Loc.set{w:World}{g:Nat}{cs:Array Value}(h:Loc w g cs)(j:Nat)(u:Value){cs':Array Value}(e:cs.setIfInBounds j u=cs'):Loc (w.setCell ⟨g,j,none⟩ u) g cs':=by obtain⟨t,h⟩:=h;exact⟨t,by rw[heap_setCell_same w g j _ t u h,e]⟩
theorem Loc.other{w:World}{g:Nat}{cs:Array Value}(h:Loc w g cs){p:Addr}(hp:g≠p.block)(u:Value):Loc (w.setCell p u) g cs:=by obtain⟨t,h⟩:=h;exact⟨t,(heap_setCell_other w p g u hp).trans h⟩

abbrev r4(a b c d:Int):Array Value:= #[.int .i64 a,.int .i64 b,.int .i64 c,.int .i64 d]
theorem Loc.up{w w':World}{g:Nat}{cs:Array Value}(h:Loc w g cs)(b:Below w.heap.size w w'):Loc w' g cs:=Loc.below h b h.lt
theorem bx1(w:World)(c:Array Value)(T:TypeId):∃x,w.alloc (.cells c T)=x∧Below w.heap.size w x∧Loc x w.heap.size c∧w.heap.size+1≤x.heap.size:=⟨_,rfl,(Below.refl _ _).alloc Ak _,AJ w _ _ rfl,by simp⟩
theorem Gb(w:World)(c:Array Value)(T:TypeId)(d:Array Value)(U:TypeId):∃x,(w.alloc (.cells c T)).alloc (.cells d U)=x∧Below w.heap.size w x∧Loc x w.heap.size c∧Loc x (w.heap.size+1) d∧w.heap.size+1+1≤x.heap.size:=⟨_,rfl,((Below.refl _ _).alloc Ak _).alloc (by simp) _,(AJ w _ _ rfl).alloc _,AJ (w.alloc _) _ _ (by simp),by simp⟩
theorem oJ(w:World)(c:Array Value)(T:TypeId)(d:Array Value)(U:TypeId)(e:Array Value)(V:TypeId):∃x,((w.alloc (.cells c T)).alloc (.cells d U)).alloc (.cells e V)=x∧Below w.heap.size w x∧Loc x w.heap.size c∧Loc x (w.heap.size+1) d∧Loc x (w.heap.size+1+1) e∧w.heap.size+1+1+1≤x.heap.size:=⟨_,rfl,(((Below.refl _ _).alloc Ak _).alloc (by simp) _).alloc (by simp;omega) _,((AJ w _ _ rfl).alloc _).alloc _,(AJ (w.alloc _) _ _ (by simp)).alloc _,AJ ((w.alloc _).alloc _) _ _ (by simp),by simp⟩
theorem kL{w:World}{b:Nat}{cs:Array Value}(A:Loc w b cs):∀w',Below w.heap.size w w'→Loc w' b cs:=fun _ h=>A.up h
theorem ka{w:World}{S T:World→Prop}(h:∀w',Below w.heap.size w w'→S w')(g:∀w',Below w.heap.size w w'→T w'):∀w',Below w.heap.size w w'→S w'∧T w':=fun w' b=>⟨h w' b,g w' b⟩
theorem kw{w:World}{S:World→Prop}(h:∀w',Below w.heap.size w w'→S w'):Hid (∀w',Below w.heap.size w w'→Below w.heap.size w w'∧S w'):=fun w' b=>⟨b,h w' b⟩
theorem yt{w:World}{b:Nat}{cs:Array Value}(A:Loc w b cs)(i0:Nat){u0:Value}(h0:cs[i0]? =some u0:=by rfl):∀w',Below w.heap.size w w'→w'.cell? ⟨b,i0,none⟩=some u0:=fun _ h=>(A.up h).cell i0 h0
theorem Iu{w:World}{b:Nat}{cs:Array Value}(A:Loc w b cs)(i0 i1:Nat){u0 u1:Value}(h0:cs[i0]? =some u0:=by rfl)(h1:cs[i1]? =some u1:=by rfl):∀w',Below w.heap.size w w'→w'.cell? ⟨b,i0,none⟩=some u0∧w'.cell? ⟨b,i1,none⟩=some u1:=fun _ h=>⟨(A.up h).cell i0 h0,(A.up h).cell i1 h1⟩
theorem Cn{w:World}{b:Nat}{cs:Array Value}(A:Loc w b cs)(i0 i1:Nat){u0 u1:Value}(h0:cs[i0]? =some u0:=by rfl)(h1:cs[i1]? =some u1:=by rfl):w.cell? ⟨b,i0,none⟩=some u0∧w.cell? ⟨b,i1,none⟩=some u1:=⟨A.cell i0 h0,A.cell i1 h1⟩
theorem VS{w:World}{b:Nat}{cs:Array Value}(A:Loc w b cs)(i0 i1 i2:Nat){u0 u1 u2:Value}(h0:cs[i0]? =some u0:=by rfl)(h1:cs[i1]? =some u1:=by rfl)(h2:cs[i2]? =some u2:=by rfl):∀w',Below w.heap.size w w'→w'.cell? ⟨b,i0,none⟩=some u0∧w'.cell? ⟨b,i1,none⟩=some u1∧w'.cell? ⟨b,i2,none⟩=some u2:=fun _ h=>⟨(A.up h).cell i0 h0,(A.up h).cell i1 h1,(A.up h).cell i2 h2⟩
theorem B_{w:World}{b:Nat}{cs:Array Value}(A:Loc w b cs)(i0 i1 i2:Nat){u0 u1 u2:Value}(h0:cs[i0]? =some u0:=by rfl)(h1:cs[i1]? =some u1:=by rfl)(h2:cs[i2]? =some u2:=by rfl):w.cell? ⟨b,i0,none⟩=some u0∧w.cell? ⟨b,i1,none⟩=some u1∧w.cell? ⟨b,i2,none⟩=some u2:=⟨A.cell i0 h0,A.cell i1 h1,A.cell i2 h2⟩
theorem ic{w:World}{b:Nat}{cs:Array Value}(A:Loc w b cs)(i0 i1 i2 i3:Nat){u0 u1 u2 u3:Value}(h0:cs[i0]? =some u0:=by rfl)(h1:cs[i1]? =some u1:=by rfl)(h2:cs[i2]? =some u2:=by rfl)(h3:cs[i3]? =some u3:=by rfl):∀w',Below w.heap.size w w'→w'.cell? ⟨b,i0,none⟩=some u0∧w'.cell? ⟨b,i1,none⟩=some u1∧w'.cell? ⟨b,i2,none⟩=some u2∧w'.cell? ⟨b,i3,none⟩=some u3:=fun _ h=>⟨(A.up h).cell i0 h0,(A.up h).cell i1 h1,(A.up h).cell i2 h2,(A.up h).cell i3 h3⟩
theorem WT{w:World}{b:Nat}{cs:Array Value}(A:Loc w b cs)(i0 i1 i2 i3:Nat){u0 u1 u2 u3:Value}(h0:cs[i0]? =some u0:=by rfl)(h1:cs[i1]? =some u1:=by rfl)(h2:cs[i2]? =some u2:=by rfl)(h3:cs[i3]? =some u3:=by rfl):w.cell? ⟨b,i0,none⟩=some u0∧w.cell? ⟨b,i1,none⟩=some u1∧w.cell? ⟨b,i2,none⟩=some u2∧w.cell? ⟨b,i3,none⟩=some u3:=⟨A.cell i0 h0,A.cell i1 h1,A.cell i2 h2,A.cell i3 h3⟩
theorem kc5{w:World}{b:Nat}{cs:Array Value}(A:Loc w b cs)(i0 i1 i2 i3 i4:Nat){u0 u1 u2 u3 u4:Value}(h0:cs[i0]? =some u0:=by rfl)(h1:cs[i1]? =some u1:=by rfl)(h2:cs[i2]? =some u2:=by rfl)(h3:cs[i3]? =some u3:=by rfl)(h4:cs[i4]? =some u4:=by rfl):∀w',Below w.heap.size w w'→w'.cell? ⟨b,i0,none⟩=some u0∧w'.cell? ⟨b,i1,none⟩=some u1∧w'.cell? ⟨b,i2,none⟩=some u2∧w'.cell? ⟨b,i3,none⟩=some u3∧w'.cell? ⟨b,i4,none⟩=some u4:=fun _ h=>⟨(A.up h).cell i0 h0,(A.up h).cell i1 h1,(A.up h).cell i2 h2,(A.up h).cell i3 h3,(A.up h).cell i4 h4⟩
theorem Za{w:World}{b:Nat}{cs:Array Value}(A:Loc w b cs)(i0 i1 i2 i3 i4:Nat){u0 u1 u2 u3 u4:Value}(h0:cs[i0]? =some u0:=by rfl)(h1:cs[i1]? =some u1:=by rfl)(h2:cs[i2]? =some u2:=by rfl)(h3:cs[i3]? =some u3:=by rfl)(h4:cs[i4]? =some u4:=by rfl):w.cell? ⟨b,i0,none⟩=some u0∧w.cell? ⟨b,i1,none⟩=some u1∧w.cell? ⟨b,i2,none⟩=some u2∧w.cell? ⟨b,i3,none⟩=some u3∧w.cell? ⟨b,i4,none⟩=some u4:=⟨A.cell i0 h0,A.cell i1 h1,A.cell i2 h2,A.cell i3 h3,A.cell i4 h4⟩
theorem kc6{w:World}{b:Nat}{cs:Array Value}(A:Loc w b cs)(i0 i1 i2 i3 i4 i5:Nat){u0 u1 u2 u3 u4 u5:Value}(h0:cs[i0]? =some u0:=by rfl)(h1:cs[i1]? =some u1:=by rfl)(h2:cs[i2]? =some u2:=by rfl)(h3:cs[i3]? =some u3:=by rfl)(h4:cs[i4]? =some u4:=by rfl)(h5:cs[i5]? =some u5:=by rfl):∀w',Below w.heap.size w w'→w'.cell? ⟨b,i0,none⟩=some u0∧w'.cell? ⟨b,i1,none⟩=some u1∧w'.cell? ⟨b,i2,none⟩=some u2∧w'.cell? ⟨b,i3,none⟩=some u3∧w'.cell? ⟨b,i4,none⟩=some u4∧w'.cell? ⟨b,i5,none⟩=some u5:=fun _ h=>⟨(A.up h).cell i0 h0,(A.up h).cell i1 h1,(A.up h).cell i2 h2,(A.up h).cell i3 h3,(A.up h).cell i4 h4,(A.up h).cell i5 h5⟩
theorem QQ{w:World}{b:Nat}{cs:Array Value}(A:Loc w b cs)(i0 i1 i2 i3 i4 i5:Nat){u0 u1 u2 u3 u4 u5:Value}(h0:cs[i0]? =some u0:=by rfl)(h1:cs[i1]? =some u1:=by rfl)(h2:cs[i2]? =some u2:=by rfl)(h3:cs[i3]? =some u3:=by rfl)(h4:cs[i4]? =some u4:=by rfl)(h5:cs[i5]? =some u5:=by rfl):w.cell? ⟨b,i0,none⟩=some u0∧w.cell? ⟨b,i1,none⟩=some u1∧w.cell? ⟨b,i2,none⟩=some u2∧w.cell? ⟨b,i3,none⟩=some u3∧w.cell? ⟨b,i4,none⟩=some u4∧w.cell? ⟨b,i5,none⟩=some u5:=⟨A.cell i0 h0,A.cell i1 h1,A.cell i2 h2,A.cell i3 h3,A.cell i4 h4,A.cell i5 h5⟩
theorem ACj{w:World}{b:Nat}{cs:Array Value}(A:Loc w b cs)(i0 i1 i2 i3 i4 i5 i6 i7 i8 i9 rU i11 i12 rT:Nat){u0 u1 u2 u3 u4 u5 u6 u7 u8 u9 uS uR uQ uP:Value}(h0:cs[i0]? =some u0:=by rfl)(h1:cs[i1]? =some u1:=by rfl)(h2:cs[i2]? =some u2:=by rfl)(h3:cs[i3]? =some u3:=by rfl)(h4:cs[i4]? =some u4:=by rfl)(h5:cs[i5]? =some u5:=by rfl)(h6:cs[i6]? =some u6:=by rfl)(h7:cs[i7]? =some u7:=by rfl)(h8:cs[i8]? =some u8:=by rfl)(h9:cs[i9]? =some u9:=by rfl)(h10:cs[rU]? =some uS:=by rfl)(h11:cs[i11]? =some uR:=by rfl)(h12:cs[i12]? =some uQ:=by rfl)(h13:cs[rT]? =some uP:=by rfl):∀w',Below w.heap.size w w'→w'.cell? ⟨b,i0,none⟩=some u0∧w'.cell? ⟨b,i1,none⟩=some u1∧w'.cell? ⟨b,i2,none⟩=some u2∧w'.cell? ⟨b,i3,none⟩=some u3∧w'.cell? ⟨b,i4,none⟩=some u4∧w'.cell? ⟨b,i5,none⟩=some u5∧w'.cell? ⟨b,i6,none⟩=some u6∧w'.cell? ⟨b,i7,none⟩=some u7∧w'.cell? ⟨b,i8,none⟩=some u8∧w'.cell? ⟨b,i9,none⟩=some u9∧w'.cell? ⟨b,rU,none⟩=some uS∧w'.cell? ⟨b,i11,none⟩=some uR∧w'.cell? ⟨b,i12,none⟩=some uQ∧w'.cell? ⟨b,rT,none⟩=some uP:=fun _ h=>⟨(A.up h).cell i0 h0,(A.up h).cell i1 h1,(A.up h).cell i2 h2,(A.up h).cell i3 h3,(A.up h).cell i4 h4,(A.up h).cell i5 h5,(A.up h).cell i6 h6,(A.up h).cell i7 h7,(A.up h).cell i8 h8,(A.up h).cell i9 h9,(A.up h).cell rU h10,(A.up h).cell i11 h11,(A.up h).cell i12 h12,(A.up h).cell rT h13⟩
theorem Dp{w:World}{b:Nat}{cs:Array Value}(A:Loc w b cs)(i0 i1 i2 i3 i4 i5 i6 i7 i8 i9 rU i11 i12 rT:Nat){u0 u1 u2 u3 u4 u5 u6 u7 u8 u9 uS uR uQ uP:Value}(h0:cs[i0]? =some u0:=by rfl)(h1:cs[i1]? =some u1:=by rfl)(h2:cs[i2]? =some u2:=by rfl)(h3:cs[i3]? =some u3:=by rfl)(h4:cs[i4]? =some u4:=by rfl)(h5:cs[i5]? =some u5:=by rfl)(h6:cs[i6]? =some u6:=by rfl)(h7:cs[i7]? =some u7:=by rfl)(h8:cs[i8]? =some u8:=by rfl)(h9:cs[i9]? =some u9:=by rfl)(h10:cs[rU]? =some uS:=by rfl)(h11:cs[i11]? =some uR:=by rfl)(h12:cs[i12]? =some uQ:=by rfl)(h13:cs[rT]? =some uP:=by rfl):w.cell? ⟨b,i0,none⟩=some u0∧w.cell? ⟨b,i1,none⟩=some u1∧w.cell? ⟨b,i2,none⟩=some u2∧w.cell? ⟨b,i3,none⟩=some u3∧w.cell? ⟨b,i4,none⟩=some u4∧w.cell? ⟨b,i5,none⟩=some u5∧w.cell? ⟨b,i6,none⟩=some u6∧w.cell? ⟨b,i7,none⟩=some u7∧w.cell? ⟨b,i8,none⟩=some u8∧w.cell? ⟨b,i9,none⟩=some u9∧w.cell? ⟨b,rU,none⟩=some uS∧w.cell? ⟨b,i11,none⟩=some uR∧w.cell? ⟨b,i12,none⟩=some uQ∧w.cell? ⟨b,rT,none⟩=some uP:=⟨A.cell i0 h0,A.cell i1 h1,A.cell i2 h2,A.cell i3 h3,A.cell i4 h4,A.cell i5 h5,A.cell i6 h6,A.cell i7 h7,A.cell i8 h8,A.cell i9 h9,A.cell rU h10,A.cell i11 h11,A.cell i12 h12,A.cell rT h13⟩
end
section
open Go.RowKit
variable [∀(a b c d:Int),Decidable (BG a b c d)]
abbrev cv(n f:Int):Value:= .agg #[.int .i64 n,.int .i64 f]
def A_(n f:Int):Prop:=(4≤n∧n≤7)∧1≤f∧f≤6
variable [∀(n f:Int),Decidable (A_ n f)]
def DK(n f:Int):Int:=if A_ n f then(n-1)/3 else 0
def Bd(n f:Int):Int:=if A_ n f then n-(n-1)/3 else 0
theorem Q7{n f:Int}(h:A_ n f):n=4∨n=5∨n=6∨n=7:=by obtain⟨h,_⟩:=h;omega
theorem Bo(w:World)(o:Obj):Below w.heap.size w (w.alloc o):=(Below.refl _ _).alloc Ak _

theorem Bc(n f:Int)(w:World):
 Calls Tryz.prog 80 #[cv n f] w fun e w'=>e= .returned (.bool (decide (A_ n f)))∧Below w.heap.size w w':=by
 by_cases h1:4≤n∧n≤7
 ·by_cases h2:1≤f∧f≤6
  ·have hd:decide (A_ n f)=true:=by simp[A_,h1,h2]
   rw[hd];go_enter Tryz.func80,Tryz.ntmps80
   go_wp2_with (first|(go_at_call 81;refine(H7 _ _ _ _ (by omega) (by omega)).mono ?_;rintro e w' ⟨rfl,rfl⟩))
   go_ret;exact⟨rfl,Bo _ _⟩
  have hd:decide (A_ n f)=false:=by simp[A_,h1];omega
  rw[hd];go_enter Tryz.func80,Tryz.ntmps80
  go_wp2_with fail
  refine(H7 _ _ _ _ (by omega) (by omega)).mono ?_;rintro e w' ⟨rfl,rfl⟩;go_wp2_with fail
  refine(L9 _ _ _ _ (by omega)).mono ?_;rintro e w' ⟨rfl,rfl⟩;go_wp2;go_ret;exact⟨rfl,Bo _ _⟩
 have hd:decide (A_ n f)=false:=by simp only[decide_eq_false_iff_not];rintro⟨h,_⟩;exact h1 h
 rw[hd];go_enter Tryz.func80,Tryz.ntmps80
 go_wp2_with fail
 refine(L9 _ _ _ _ (by omega)).mono ?_;rintro e w' ⟨rfl,rfl⟩;go_wp2;go_ret;exact⟨rfl,Bo _ _⟩

theorem Cz(n f:Int)(w:World):
 Calls Tryz.prog 172 #[cv n f] w fun e w'=>e= .returned (.bool (decide (A_ n f)))∧Below w.heap.size w w':=by
 by_cases h1:4≤n∧n≤7
 ·by_cases h2:1≤f∧f≤6
  ·have hd:decide (A_ n f)=true:=by simp[A_,h1,h2]
   rw[hd];go_enter Tryz.func172,Tryz.ntmps172
   go_wp2_with (first|(go_at_call 96;refine(Ci _ _ _ _ (by omega) (by omega)).mono ?_;rintro e w' ⟨rfl,rfl⟩))
   go_ret;exact⟨rfl,Bo _ _⟩
  have hd:decide (A_ n f)=false:=by simp[A_,h1];omega
  rw[hd];go_enter Tryz.func172,Tryz.ntmps172
  go_wp2_with fail
  refine(Ci _ _ _ _ (by omega) (by omega)).mono ?_;rintro e w' ⟨rfl,rfl⟩;go_wp2_with fail
  refine(Dm _ _ _ _ (by omega)).mono ?_;rintro e w' ⟨rfl,rfl⟩;go_wp2;go_ret;exact⟨rfl,Bo _ _⟩
 have hd:decide (A_ n f)=false:=by simp only[decide_eq_false_iff_not];rintro⟨h,_⟩;exact h1 h
 rw[hd];go_enter Tryz.func172,Tryz.ntmps172
 go_wp2_with fail
 refine(Dm _ _ _ _ (by omega)).mono ?_;rintro e w' ⟨rfl,rfl⟩;go_wp2;go_ret;exact⟨rfl,Bo _ _⟩

theorem YB(n f:Int)(w:World):
 Calls Tryz.prog 233 #[cv n f] w fun e w'=>e= .returned (.int .i64 (DK n f))∧Below w.heap.size w w':=by
 have OK:=hide fun w=>Cz n f w;by_cases h:A_ n f
 ·have hd:decide (A_ n f)=true:=by simpa using h
  rw[hd]at OK;have hf:DK n f=(n-1)/3:=by simp[DK,h]
  rw[hf];have L0:=AJ w #[.int .i64 n,.int .i64 f] 48 rfl;rcases Q7 h with rfl|rfl|rfl|rfl
  all_goals
   clear h hd hf;go_enter Tryz.func233,Tryz.ntmps233
   go_wp2_with fail
   refine(OK.out _).mono ?_;rintro e w1 ⟨rfl,b1⟩;have L1:=L0.up b1;have B1:=(Bo _ _).trans (b1.mono (by simp));have p0:=L1.cell 0 rfl;have p1:=L1.cell 1 rfl;clear L0 b1;go_wp2;go_ret;exact⟨by go_num,B1⟩
 have hd:decide (A_ n f)=false:=by simpa using h
 rw[hd]at OK;have hf:DK n f=0:=by simp[DK,h]
 rw[hf];clear h hd hf;go_enter Tryz.func233,Tryz.ntmps233
 go_wp2_with fail
 refine(OK.out _).mono ?_;rintro e w1 ⟨rfl,b1⟩;go_wp2;go_ret;exact⟨rfl,(Bo _ _).trans (b1.mono (by simp))⟩

theorem D7(n f:Int)(w:World):
 Calls Tryz.prog 166 #[cv n f] w fun e w'=>e= .returned (.int .i64 (Bd n f))∧Below w.heap.size w w':=by
 have OK:=hide fun w=>Bc n f w;by_cases h:A_ n f
 ·have hd:decide (A_ n f)=true:=by simpa using h
  rw[hd]at OK;have hf:Bd n f=n-(n-1)/3:=by simp[Bd,h]
  rw[hf];have L0:=AJ w #[.int .i64 n,.int .i64 f] 48 rfl;rcases Q7 h with rfl|rfl|rfl|rfl
  all_goals
   clear h hd hf;go_enter Tryz.func166,Tryz.ntmps166
   go_wp2_with fail
   refine(OK.out _).mono ?_;rintro e w1 ⟨rfl,b1⟩;have L1:=L0.up b1;have B1:=(Bo _ _).trans (b1.mono (by simp));have p0:=L1.cell 0 rfl;have p1:=L1.cell 1 rfl;clear L0 b1;go_wp2;go_ret;exact⟨by go_num,B1⟩
 have hd:decide (A_ n f)=false:=by simpa using h
 rw[hd]at OK;have hf:Bd n f=0:=by simp[Bd,h]
 rw[hf];clear h hd hf;go_enter Tryz.func166,Tryz.ntmps166
 go_wp2_with fail
 refine(OK.out _).mono ?_;rintro e w1 ⟨rfl,b1⟩;go_wp2;go_ret;exact⟨rfl,(Bo _ _).trans (b1.mono (by simp))⟩

theorem X9(n f:Int)(w:World):
 Calls Tryz.prog 209 #[cv n f] w fun e w'=>e= .returned (.int .i64 (Bd n f))∧Below w.heap.size w w':=by
 have OK:=hide fun w=>Cz n f w;have FA:=hide fun w=>YB n f w;by_cases h:A_ n f
 ·have hd:decide (A_ n f)=true:=by simpa using h
  rw[hd]at OK;have hf:Bd n f=n-DK n f:=by simp[Bd,DK,h]
  rw[hf];have h1:=h.1.1;have h2:=h.1.2;have hg:DK n f=(n-1)/3:=by simp[DK,h]
  have h3:1≤DK n f∧DK n f≤2:=by omega
  obtain⟨h3,h4⟩:=h3;clear hg hf hd h;generalize DK n f=q at *;have L0:=AJ w #[.int .i64 n,.int .i64 f] 48 rfl;go_enter Tryz.func209,Tryz.ntmps209
  go_wp2_with fail
  refine(OK.out _).mono ?_;rintro e w1 ⟨rfl,b1⟩;have L1:=L0.up b1;have B1:Below w.heap.size w w1:=(Bo _ _).trans (b1.mono (by simp))
  have K:Hid (∀w',Below w1.heap.size w1 w'→Below w1.heap.size w1 w'∧w'.cell? ⟨w.heap.size,0,none⟩=some (.int .i64 n)∧w'.cell? ⟨w.heap.size,1,none⟩=some (.int .i64 f)):=hide fun w' hb'=>
   ⟨hb',(L1.up hb').cell 0 rfl,(L1.up hb').cell 1 rfl⟩
  have bA:Below w1.heap.size w1 w1.drew:=Below.drew (Below.refl _ _);have Dk:=K.out _ bA;clear L0 L1 b1;go_upto_region 3 with fail
  first|go_region_held3 (fun w'=>Below w1.heap.size w1 w'∧w'.cell? ⟨w.heap.size,0,none⟩=some (.int .i64 n)∧w'.cell? ⟨w.heap.size,1,none⟩=some (.int .i64 f)) (exact Dk) (first
   | (go_at_call 233;have hgo:=bA;refine(FA.out _).mono ?_;rintro e wa ⟨rfl,ba⟩
      have bB:Below w1.heap.size w1 wa:=bu bA ba;have Dk:=K.out _ bB;clear bA hgo ba))|fail
  all_goals
   go_wp2;go_ret;exact⟨by simp only[IntKind.wrap_i64];simp;omega,bu B1 bB⟩
 have hd:decide (A_ n f)=false:=by simpa using h
 rw[hd]at OK;have hf:Bd n f=0:=by simp[Bd,h]
 rw[hf];clear h hd hf;go_enter Tryz.func209,Tryz.ntmps209
 go_wp2_with fail
 refine(OK.out _).mono ?_;rintro e w1 ⟨rfl,b1⟩;go_wp2;go_ret;exact⟨rfl,(Bo _ _).trans (b1.mono (by simp))⟩

theorem Wp(n f:Int)(w:World):
 Calls Tryz.prog 8 #[cv n f] w fun e w'=>e= .returned (cv n f)∧Below w.heap.size w w':=by
 go_enter Tryz.func8,Tryz.ntmps8
 go_wp2;refine bodyPost_ret (v:=cv n f) (by simp[results,Tryz.results8,go_sem]) rfl ?_;exact⟨rfl,(((Below.refl _ _).alloc Ak _).alloc (by simp) _).alloc (by simp;omega) _⟩
end
end Go.Proofs.YtcjmcgolgbkknaaGreatDoor
