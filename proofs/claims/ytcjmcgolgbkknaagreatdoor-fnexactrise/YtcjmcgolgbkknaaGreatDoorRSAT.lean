/- Lemmas; their conditions stand in each statement. -/
import Derived.Test.YtcjmcgolgbkknaaGreatDoorRSAS
set_option maxRecDepth 100000
set_option maxHeartbeats 1600000
set_option linter.unusedSectionVars false
namespace Go.Proofs.YtcjmcgolgbkknaaGreatDoor
section
open Go.RowKit
theorem Mg(v:Value)(xs:List Int)(p:Int)(u:TypeId)(pv:Value)(w:World)(h:RB w v xs)(hb:Bytes xs)(he:w.cell? ⟨1,0,none⟩=some (.iface u pv)):
 Calls Tryz.prog 242 #[v,.int .i64 p] w fun e w'=>fI (AV xs p) [{ v:= .iface u pv,recovered:=false }] e∧w'=w:=by
 by_cases hp:p<0
 ·refine(V6 v xs p u pv w h hp he).mono ?_;rintro e w' ⟨rfl,rfl⟩;exact⟨.inr ⟨GH xs p hp,rfl⟩,rfl⟩
 obtain⟨m,rfl⟩:=Int.eq_ofNat_of_zero_le (Int.not_lt.1 hp);refine(V7 v xs m u pv w h hb he).mono ?_;rintro e w' ⟨h1,rfl⟩;refine⟨?_,rfl⟩;rw[IQ];exact h1

theorem H_(v:Value)(xs:List Int)(p n q:Int)(u:TypeId)(pv:Value)(w:World)(h:RB w v xs)(hb:Bytes xs)(he:w.cell? ⟨1,0,none⟩=some (.iface u pv))(hr:AV xs p=some (n,q)):
 Calls Tryz.prog 242 #[v,.int .i64 p] w fun e w'=>e= .returned (.tuple #[.int .i64 n,.int .i64 q])∧w'=w:=by
 refine(Mg v xs p u pv w h hb he).mono ?_;rintro e w' ⟨h1,rfl⟩;rw[hr]at h1;rcases h1 with⟨n',q',h2,h3⟩|⟨h2,_⟩
 ·simp only[Option.some.injEq,Prod.mk.injEq]at h2;obtain⟨rfl,rfl⟩:=h2;exact⟨h3,rfl⟩
 cases h2
theorem Kl(v:Value)(xs:List Int)(p:Int)(u:TypeId)(pv:Value)(w:World)(h:RB w v xs)(hb:Bytes xs)(he:w.cell? ⟨1,0,none⟩=some (.iface u pv))(hr:AV xs p=none):
 Calls Tryz.prog 242 #[v,.int .i64 p] w fun e w'=>e= .panicked [{ v:= .iface u pv,recovered:=false }]∧w'=w:=by
 refine(Mg v xs p u pv w h hb he).mono ?_;rintro e w' ⟨h1,rfl⟩;rw[hr]at h1;rcases h1 with⟨n',q',h2,h3⟩|⟨_,h3⟩
 ·cases h2
 exact⟨h3,rfl⟩

theorem WZ(B:Nat)(v:Value)(xs:List Int)(p n q:Int)(x y:Value)(u:TypeId)(pv:Value)(w:World)(h:RB w v xs)(hb:Bytes xs)(he:w.cell? ⟨1,0,none⟩=some (.iface u pv))(hr:Hid (AV xs p=some (n,q)))
 (h0:w.cell? ⟨B,0,none⟩=some v) (h1:w.cell? ⟨B+1,0,none⟩=some (.int .i64 p)) (h2:w.cell? ⟨B+2,0,none⟩=some x) (h3:w.cell? ⟨B+3,0,none⟩=some y)
 (f2:w.frozen? ⟨B+2,0,none⟩=false) (f3:w.frozen? ⟨B+3,0,none⟩=false):
 Calls Tryz.prog 241 #[.pointer (some ⟨B,0,none⟩),.pointer (some ⟨B+1,0,none⟩),.pointer (some ⟨B+2,0,none⟩),.pointer (some ⟨B+3,0,none⟩)] w fun e w'=>
  e= .returned (.tuple #[])∧w'=(w.setCell ⟨B+2,0,none⟩ (.int .i64 n)).setCell ⟨B+3,0,none⟩ (.int .i64 q):=by
 go_enter Tryz.func241,Tryz.ntmps241
 go_wp2_with fail
 refine(H_ v xs p n q u pv _ h hb he hr.out).mono ?_;rintro e w' ⟨rfl,rfl⟩;go_wp2
 go_end0
 exact⟨rfl,rfl⟩

theorem Wd(B:Nat)(v:Value)(xs:List Int)(p:Int)(u:TypeId)(pv:Value)(w:World)(h:RB w v xs)(hb:Bytes xs)(he:w.cell? ⟨1,0,none⟩=some (.iface u pv))(hr:Hid (AV xs p=none))
 (h0:w.cell? ⟨B,0,none⟩=some v) (h1:w.cell? ⟨B+1,0,none⟩=some (.int .i64 p)):
 Calls Tryz.prog 241 #[.pointer (some ⟨B,0,none⟩),.pointer (some ⟨B+1,0,none⟩),.pointer (some ⟨B+2,0,none⟩),.pointer (some ⟨B+3,0,none⟩)] w fun e w'=>
  e= .panicked [{ v:= .iface u pv,recovered:=false }]∧w'=w:=by
 go_enter Tryz.func241,Tryz.ntmps241
 go_wp2_with fail
 refine(Kl v xs p u pv _ h hb he hr.out).mono ?_;rintro e w' ⟨rfl,rfl⟩;go_wp2;exact⟨rfl,rfl,rfl⟩

theorem Jk(w:World)(x:Value)(t:TypeId):(w.alloc (.cells #[x] t)).cell? ⟨w.heap.size,0,none⟩=some x:=by simp
theorem IZ(w:World)(x:Value)(t:TypeId):(w.alloc (.cells #[x] t)).frozen? ⟨w.heap.size,0,none⟩=false:=by simp[go_sem]
abbrev boxes(w:World)(v:Value)(p:Int):World:=(((w.alloc (.cells #[v] 31)).alloc (.cells #[.int .i64 p] 3)).alloc (.cells #[.int .i64 0] 3)).alloc (.cells #[.int .i64 0] 3)
theorem Ms(w:World)(v:Value)(p:Int):Below w.heap.size w (boxes w v p):=
 ((((Below.refl _ _).alloc Ae _).alloc (by simp) _).alloc (by simp;omega) _).alloc (by simp;omega) _
theorem IY(w:World)(v:Value)(p:Int):(boxes w v p).heap.size=w.heap.size+4:=by simp
theorem Xt(w:World)(v:Value)(p:Int)(o:Obj):
 ((boxes w v p).alloc o).cell? ⟨w.heap.size,0,none⟩=some v∧((boxes w v p).alloc o).cell? ⟨w.heap.size+1,0,none⟩=some (.int .i64 p)∧((boxes w v p).alloc o).cell? ⟨w.heap.size+2,0,none⟩=some (.int .i64 0)∧((boxes w v p).alloc o).cell? ⟨w.heap.size+3,0,none⟩=some (.int .i64 0)∧
 ((boxes w v p).alloc o).frozen? ⟨w.heap.size+2,0,none⟩=false∧((boxes w v p).alloc o).frozen? ⟨w.heap.size+3,0,none⟩=false:=by
 simp[boxes,go_sem]

theorem Y6(v:Value)(xs:List Int)(p n q:Int)(u:TypeId)(pv:Value)(w:World)(h:RB w v xs)(hb:Bytes xs)(he:w.cell? ⟨1,0,none⟩=some (.iface u pv))(hr:Hid (AV xs p=some (n,q))):
 Calls Tryz.prog 240 #[.func (.func 241) #[] #[.pointer (some ⟨w.heap.size,0,none⟩),.pointer (some ⟨w.heap.size+1,0,none⟩),.pointer (some ⟨w.heap.size+1+1,0,none⟩),.pointer (some ⟨w.heap.size+1+1+1,0,none⟩)]] (boxes w v p) fun e w'=>
  e= .returned (.bool true)∧w'.cell? ⟨w.heap.size+1+1,0,none⟩=some (.int .i64 n)∧w'.cell? ⟨w.heap.size+1+1+1,0,none⟩=some (.int .i64 q)∧Below w.heap.size w w':=by
 have hlt:=AL he;obtain⟨c0,c1,c2,c3,f2,f3⟩:=Xt w v p (.cells #[.bool false] 4);have hbl:Below w.heap.size w ((boxes w v p).alloc (.cells #[.bool false] 4)):=(Ms w v p).alloc (by rw[IY];omega) _;have hbs:=IY w v p;refine(JJ 241 _ (boxes w v p) (fun w1=>w1=(((boxes w v p).alloc (.cells #[.bool false] 4)).setCell ⟨w.heap.size+2,0,none⟩ (.int .i64 n)).setCell ⟨w.heap.size+3,0,none⟩ (.int .i64 q)) (fun _=>by simp[go_sem]) ?_).mono ?_
 ·refine(WZ w.heap.size v xs p n q _ _ u pv _ (h.below hbl) hb ((hbl.cell hlt).trans he) hr c0 c1 c2 c3 f2 f3).mono ?_;rintro e w' ⟨rfl,rfl⟩;refine⟨rfl,rfl,?_,?_⟩
  ·rw[World.cell?_setCell_other _ _ _ _ (by simp),World.cell?_setCell_other _ _ _ _ (by simp)];exact Jk _ _ _
  rw[World.frozen?_setCell,World.frozen?_setCell];exact IZ _ _ _
 rintro e w' ⟨rfl,w1,rfl,rfl⟩;refine⟨rfl,?_,?_,?_⟩
 ·rw[World.cell?_setCell_other _ _ _ _ (by simp),World.cell?_setCell_other _ _ _ _ (by simp),World.cell?_setCell_same _ _ _ c2]
 ·rw[World.cell?_setCell_other _ _ _ _ (by simp)];exact World.cell?_setCell_same _ _ _ ((World.cell?_setCell_other _ _ _ _ (by simp)).trans c3)
 exact((hbl.setCell (by simp) _).setCell (by simp) _).setCell (by rw[hbs];simp) _

theorem XW(v:Value)(xs:List Int)(p n q:Int)(u:TypeId)(pv:Value)(w:World)(h:RB w v xs)(hb:Bytes xs)(he:w.cell? ⟨1,0,none⟩=some (.iface u pv))(hr:Hid (AV xs p=some (n,q))):
 Calls Tryz.prog 216 #[v,.int .i64 p] w fun e w'=>e= .returned (.tuple #[.int .i64 n,.int .i64 q,.bool true])∧Below w.heap.size w w':=by
 have wK:∀(fn:Fn)(first cap:Array Value)(w:World),(Instr.makeFunc fn first cap).run Tryz.prog w= .ok (.func fn first cap) w:=fun _ _ _ _=>rfl;have hrd:=Y6 v xs p n q u pv w h hb he hr;obtain⟨hl,ao,ca,rfl,_,h'⟩:=h;clear h';go_enter Tryz.func216,Tryz.ntmps216
 go_wp2_with fail
 refine hrd.mono ?_;rintro e w' ⟨rfl,c2,c3,Sk⟩;go_wp2_with fail
 go_quiet (fail)
 go_wp2
 go_ret3
 exact⟨rfl,below_drewN Sk _⟩

theorem Y7(v:Value)(xs:List Int)(p:Int)(u:TypeId)(pv:Value)(w:World)(h:RB w v xs)(hb:Bytes xs)(he:w.cell? ⟨1,0,none⟩=some (.iface u pv))(hr:Hid (AV xs p=none)):
 Calls Tryz.prog 240 #[.func (.func 241) #[] #[.pointer (some ⟨w.heap.size,0,none⟩),.pointer (some ⟨w.heap.size+1,0,none⟩),.pointer (some ⟨w.heap.size+1+1,0,none⟩),.pointer (some ⟨w.heap.size+1+1+1,0,none⟩)]] (boxes w v p) fun e w'=>
  e= .returned (.bool false)∧w'.cell? ⟨w.heap.size+1+1,0,none⟩=some (.int .i64 0)∧w'.cell? ⟨w.heap.size+1+1+1,0,none⟩=some (.int .i64 0)∧Below w.heap.size w w':=by
 have hlt:=AL he;obtain⟨c0,c1,c2,c3,f2,f3⟩:=Xt w v p (.cells #[.bool false] 4);have hbl:Below w.heap.size w ((boxes w v p).alloc (.cells #[.bool false] 4)):=(Ms w v p).alloc (by rw[IY];omega) _;have hbs:=IY w v p;refine(JK 241 _ (boxes w v p) (fun w1=>w1=(boxes w v p).alloc (.cells #[.bool false] 4)) u pv (fun _=>by simp[go_sem]) ?_).mono ?_
 ·refine(Wd w.heap.size v xs p u pv _ (h.below hbl) hb ((hbl.cell hlt).trans he) hr c0 c1).mono ?_;rintro e w' ⟨rfl,rfl⟩;exact⟨rfl,rfl,Jk _ _ _,IZ _ _ _⟩
 rintro e w' ⟨rfl,w1,rfl,rfl⟩;refine⟨rfl,?_,?_,?_⟩
 ·rw[World.cell?_setCell_other _ _ _ _ (by simp)];exact c2
 ·rw[World.cell?_setCell_other _ _ _ _ (by simp)];exact c3
 exact hbl.setCell (by rw[hbs];simp) _

theorem XX(v:Value)(xs:List Int)(p:Int)(u:TypeId)(pv:Value)(w:World)(h:RB w v xs)(hb:Bytes xs)(he:w.cell? ⟨1,0,none⟩=some (.iface u pv))(hr:Hid (AV xs p=none)):
 Calls Tryz.prog 216 #[v,.int .i64 p] w fun e w'=>e= .returned (.tuple #[.int .i64 0,.int .i64 0,.bool false])∧Below w.heap.size w w':=by
 have wK:∀(fn:Fn)(first cap:Array Value)(w:World),(Instr.makeFunc fn first cap).run Tryz.prog w= .ok (.func fn first cap) w:=fun _ _ _ _=>rfl;have hrd:=Y7 v xs p u pv w h hb he hr;obtain⟨hl,ao,ca,rfl,_,h'⟩:=h;clear h';go_enter Tryz.func216,Tryz.ntmps216
 go_wp2_with fail
 refine hrd.mono ?_;rintro e w' ⟨rfl,c2,c3,Sk⟩;go_wp2_with fail
 go_quiet (fail)
 go_wp2
 go_ret3
 exact⟨rfl,below_drewN Sk _⟩

def AA0(r:Option (Int×Int)):Int:=match r with|some x=>x.1|none=>0
def AAz(r:Option (Int×Int)):Int:=match r with|some x=>x.2|none=>0
theorem uF(xs:List Int)(hb:Bytes xs)(f i p:Nat)(n:Int)(h0:0≤n)(m q:Int)(h:Az xs f i p n=some (m,q)):0≤m∧m≤2147483647∧(p:Int)<q∧q≤xs.length:=by
 induction f generalizing i p n with
 |zero=>simp[Az]at h
 | succ f ih=>
  by_cases hp:p<xs.length
  ·have hx:=hb p hp;have h128:(0:Int)≤128 ^ i:=Int.pow_nonneg (by omega);have hmul:0≤xs.getD p 0%128*128 ^ i:=Int.mul_nonneg (by omega) h128;by_cases hd:128≤xs.getD p 0
   ·rw[Hr xs f i p n hp hd]at h;have:=ih (i+1) (p+1) _ (by omega) h;omega
   by_cases hbad:2147483647<n+xs.getD p 0%128*128 ^ i∨(xs.getD p 0=0∧0<i)
   ·rw[K_ xs f i p n hp hd hbad]at h;cases h
   rw[Ht xs f i p n hp hd hbad]at h;simp only[Option.some.injEq,Prod.mk.injEq]at h;omega
  rw[Cn xs _ i p n hp]at h;cases h
theorem Ec(xs:List Int)(hb:Bytes xs)(p m q:Int)(h:AV xs p=some (m,q)):0≤m∧m≤2147483647∧0<q∧q≤xs.length:=by
 by_cases hp:p<0
 ·rw[GH xs p hp]at h;cases h
 rw[AV,if_neg hp]at h;have:=uF xs hb 5 0 p.toNat 0 (by omega) m q h;omega

def F7(xs:List Int)(q n:Nat):ByteArray:=strOfNums ((xs.drop q).take n)
theorem Lf{w:World}{b off q n:Nat}{xs:List Int}(h:∀k,k<xs.length→w.cell? ⟨b,off+k,none⟩=some (.int .u8 (xs.getD k 0)))(hq:q+n≤xs.length):
 ∀i,i<n→w.cell? ⟨b,off+q+i,none⟩=some (.int .u8 (((xs.drop q).take n).getD i 0)):=by
 intro i hi;rw[Nat.add_assoc,h (q+i) (by omega)];simp[List.getD_eq_getElem?_getD,List.getElem?_drop,hi]
theorem Hy(xs:List Int)(q n:Nat)(hq:q+n≤xs.length):((xs.drop q).take n).length=n:=by simp;omega

theorem Qp(v:Value)(xs:List Int)(p:Int)(n q:Nat)(u:TypeId)(pv:Value)(w:World)(h:RB w v xs)(hb:Bytes xs)(he:w.cell? ⟨1,0,none⟩=some (.iface u pv))(hr:Hid (AV xs p=some ((n:Int),(q:Int))))(hn:n≤2147483647)(hq:0<q)(hl:q+n≤xs.length):
 Calls Tryz.prog 263 #[v,.int .i64 p] w fun e w'=>e= .returned (.tuple #[.string (F7 xs q n),.int .i64 ((q:Int)+n)])∧w'=w:=by
 have hr1:=fun w(h:RB w v xs)(he:w.cell? ⟨1,0,none⟩=some (.iface u pv))=>H_ v xs p n q u pv w h hb he hr.out;have HR:=hide hr1;clear hr1;have h':=h;obtain⟨hlen,ao,ca,rfl,⟨hcap,hcm⟩,hc⟩:=h';unfold maxLen at hcm;rcases hc with rfl|⟨b,off,rfl,hc⟩
 ·simp at hl;omega
 by_cases hcq:ca=q
 ·obtain rfl:n=0:=by omega
  have hcv:=run_convert_bytes_arg (P:=Tryz.prog) w 31 5 Tryz.underlying31 Tryz.underlying5 b off 0 0 [] rfl (fun i hi=>by omega) 9 Tryz.underlying9;clear hc;subst hcq;go_enter Tryz.func263,Tryz.ntmps263
  go_wp2_with fail
  refine(HR.out _ h he).mono ?_;rintro e w' ⟨rfl,rfl⟩;go_wp2
  go_ret2
  exact⟨by simp[F7],rfl⟩
 have hcv:=run_convert_bytes_arg (P:=Tryz.prog) w 31 5 Tryz.underlying31 Tryz.underlying5 b (off+q) n (ca-q) ((xs.drop q).take n) (Hy xs q n hl) (Lf hc hl) 9 Tryz.underlying9;clear hc;go_enter Tryz.func263,Tryz.ntmps263
 go_wp2_with fail
 refine(HR.out _ h he).mono ?_;rintro e w' ⟨rfl,rfl⟩;go_wp2
 go_ret2
 exact⟨rfl,rfl⟩

theorem Te(v:Value)(xs:List Int)(p:Int)(n q:Nat)(u:TypeId)(pv:Value)(w:World)(h:RB w v xs)(hb:Bytes xs)(he:w.cell? ⟨1,0,none⟩=some (.iface u pv))(hr:Hid (AV xs p=some ((n:Int),(q:Int))))(hn:n≤2147483647)(hq:q≤xs.length)(hl:xs.length<q+n):
 Calls Tryz.prog 263 #[v,.int .i64 p] w fun e w'=>e= .panicked [{ v:= .iface u pv,recovered:=false }]∧w'=w:=by
 have hr1:=fun w(h:RB w v xs)(he:w.cell? ⟨1,0,none⟩=some (.iface u pv))=>H_ v xs p n q u pv w h hb he hr.out;have HR:=hide hr1;clear hr1;have h':=h;obtain⟨hlen,ao,ca,rfl,_,hc⟩:=h';clear hc;go_enter Tryz.func263,Tryz.ntmps263
 go_wp2_with fail
 refine(HR.out _ h he).mono ?_;rintro e w' ⟨rfl,rfl⟩;go_wp2;exact⟨rfl,rfl,rfl⟩

theorem Qq(v:Value)(xs:List Int)(p:Int)(u:TypeId)(pv:Value)(w:World)(h:RB w v xs)(hb:Bytes xs)(he:w.cell? ⟨1,0,none⟩=some (.iface u pv))(hr:Hid (AV xs p=none)):
 Calls Tryz.prog 263 #[v,.int .i64 p] w fun e w'=>e= .panicked [{ v:= .iface u pv,recovered:=false }]∧w'=w:=by
 have hr1:=fun w(h:RB w v xs)(he:w.cell? ⟨1,0,none⟩=some (.iface u pv))=>Kl v xs p u pv w h hb he hr.out;have HR:=hide hr1;clear hr1;have h':=h;obtain⟨hlen,ao,ca,rfl,_,hc⟩:=h';clear hc;go_enter Tryz.func263,Tryz.ntmps263
 go_wp2_with fail
 refine(HR.out _ h he).mono ?_;rintro e w' ⟨rfl,rfl⟩;go_wp2;exact⟨rfl,rfl,rfl⟩

def Ap(xs:List Int)(p:Int):Option (ByteArray×Int):=
 match AV xs p with
 |some (n,q)=>if n≤(xs.length:Int)-q then some (F7 xs q.toNat n.toNat,q+n)else none
 |none=>none

theorem Td(v:Value)(xs:List Int)(p:Int)(s:ByteArray)(r:Int)(u:TypeId)(pv:Value)(w:World)(h:RB w v xs)(hb:Bytes xs)(he:w.cell? ⟨1,0,none⟩=some (.iface u pv))(hr:Ap xs p=some (s,r)):
 Calls Tryz.prog 263 #[v,.int .i64 p] w fun e w'=>e= .returned (.tuple #[.string s,.int .i64 r])∧w'=w:=by
 unfold Ap at hr;cases hg:AV xs p with
 |none=>rw[hg]at hr;cases hr
 | some x=>
  obtain⟨n,q⟩:=x;have bd:=Ec xs hb p n q hg;rw[hg]at hr;by_cases hl:n≤(xs.length:Int)-q
  ·simp only[if_pos hl,Option.some.injEq,Prod.mk.injEq]at hr;obtain⟨rfl,rfl⟩:=hr;obtain⟨n,rfl⟩:=Int.eq_ofNat_of_zero_le bd.1;obtain⟨q,rfl⟩:=Int.eq_ofNat_of_zero_le (show 0≤q by omega);exact Qp v xs p n q u pv w h hb he hg (by omega) (by omega) (by omega)
  simp[if_neg hl]at hr
theorem V5(v:Value)(xs:List Int)(p:Int)(u:TypeId)(pv:Value)(w:World)(h:RB w v xs)(hb:Bytes xs)(he:w.cell? ⟨1,0,none⟩=some (.iface u pv))(hr:Ap xs p=none):
 Calls Tryz.prog 263 #[v,.int .i64 p] w fun e w'=>e= .panicked [{ v:= .iface u pv,recovered:=false }]∧w'=w:=by
 unfold Ap at hr;cases hg:AV xs p with
 |none=>exact Qq v xs p u pv w h hb he hg
 |some x=>
  obtain⟨n,q⟩:=x;have bd:=Ec xs hb p n q hg;rw[hg]at hr;by_cases hl:n≤(xs.length:Int)-q
  ·simp[if_pos hl]at hr
  obtain⟨n,rfl⟩:=Int.eq_ofNat_of_zero_le bd.1;obtain⟨q,rfl⟩:=Int.eq_ofNat_of_zero_le (show 0≤q by omega);exact Te v xs p n q u pv w h hb he hg (by omega) (by omega) (by omega)
end
section

theorem pW(pre post:List Int)(f m i:Nat)(n:Int)(h0:0≤n)(hm:m<128 ^ (f+1))(hi:0<i→0<m)(hle:n+(m:Int)*128 ^ i≤2147483647):
 Az (pre++put f m++post) (f+1) i pre.length n=some (n+(m:Int)*128 ^ i,(pre.length:Int)+(put f m).length):=by
 induction f generalizing pre m i n with
 |zero=>
  have hm':m≤127:=by simp at hm;omega
  have hp:pre.length<(pre++put 0 m++post).length:=by simp[put]
  have hd:(pre++put 0 m++post).getD pre.length 0=(m:Int):=by simp[put]
  have hmod:(m:Int)%128=m:=by omega
  rw[Ht _ 0 i pre.length n hp (by rw[hd];omega) (by rw[hd,hmod];omega),hd,hmod];simp[put]
 | succ f ih=>
  by_cases hs:m≤127
  ·have hpt:put (f+1) m=[(m:Int)]:=Rk (f+1) m hs;rw[hpt];have hp:pre.length<(pre++[(m:Int)]++post).length:=by simp
   have hd:(pre++[(m:Int)]++post).getD pre.length 0=(m:Int):=by simp
   have hmod:(m:Int)%128=m:=by omega
   rw[Ht _ (f+1) i pre.length n hp (by rw[hd];omega) (by rw[hd,hmod];omega),hd,hmod];simp
  have hpt:put (f+1) m=((m:Int)%128+128) :: put f (m/128):=Rl f m (by omega);rw[hpt];have hp:pre.length<(pre++(((m:Int)%128+128) :: put f (m/128))++post).length:=by simp
  have hd:(pre++(((m:Int)%128+128) :: put f (m/128))++post).getD pre.length 0=(m:Int)%128+128:=by simp
  have hmod:((m:Int)%128+128)%128=(m:Int)%128:=by omega
  rw[Hr _ (f+1) i pre.length n hp (by rw[hd];omega),hd,hmod];have hl:pre++(((m:Int)%128+128) :: put f (m/128))++post=(pre++[(m:Int)%128+128])++put f (m/128)++post:=by simp
  have yI:(128:Int) ^ (i+1)=128 ^ i*128:=Int.pow_succ 128 i;have h128:(0:Int)≤128 ^ i:=Int.pow_nonneg (by omega)
  have hval:n+(m:Int)%128*128 ^ i+((m/128:Nat):Int)*128 ^ (i+1)=n+(m:Int)*128 ^ i:=by
   rw[yI];have hdm:(m:Int)=(m:Int)%128+128*((m/128:Nat):Int):=by omega
   have:(m:Int)*128 ^ i=((m:Int)%128+128*((m/128:Nat):Int))*128 ^ i:=by rw[←hdm]
   rw[this,Int.add_mul,Int.mul_comm (128 ^ i) 128,←Int.mul_assoc,Int.mul_comm ((m/128:Nat):Int) 128];omega
  have hge:0≤(m:Int)%128*128 ^ i:=Int.mul_nonneg (by omega) h128;have:=ih (pre++[(m:Int)%128+128]) (m/128) (i+1) (n+(m:Int)%128*128 ^ i) (by omega) (by rw[Nat.pow_succ]at hm;exact Nat.div_lt_of_lt_mul (by rw[Nat.mul_comm];exact hm)) (by omega) (by rw[hval];exact hle);rw[hl];rw[show(pre++[(m:Int)%128+128]).length=pre.length+1 from by simp]at this;rw[this,hval];simp;omega

theorem j_(xs:List Int)(hb:∀k,k<xs.length→0≤xs.getD k 0∧xs.getD k 0≤255)(f i p:Nat)(n m q:Int)(h:Az xs (f+1) i p n=some (m,q)):
 ∃(r e:Nat),m=n+(r:Int)*128 ^ i∧r<128 ^ (f+1)∧(0<i→0<r)∧q=(p:Int)+e∧p+e≤xs.length∧(xs.drop p).take e=put f r:=by
 induction f generalizing i p n with
 | zero=>
  by_cases hp:p<xs.length
  ·have hx:=hb p hp;by_cases hd:128≤xs.getD p 0
   ·rw[Hr xs 0 i p n hp hd]at h;simp[Az]at h
   by_cases hbad:2147483647<n+xs.getD p 0%128*128 ^ i∨(xs.getD p 0=0∧0<i)
   ·rw[K_ xs 0 i p n hp hd hbad]at h;cases h
   rw[Ht xs 0 i p n hp hd hbad]at h;simp only[Option.some.injEq,Prod.mk.injEq]at h;obtain⟨d,hdd⟩:=Int.eq_ofNat_of_zero_le hx.1
   have hdrop:(xs.drop p).take 1=[xs.getD p 0]:=by
    rw[List.drop_eq_getElem_cons hp,List.take_succ_cons,List.take_zero,List.getD_eq_getElem?_getD,List.getElem?_eq_getElem hp];rfl
   refine⟨d,1,?_,by simp;omega,by omega,by omega,by omega,?_⟩
   ·rw[←h.1,hdd,show((d:Int)%128)=d from by omega]
   rw[hdrop,hdd];simp[put]
  ·rw[Cn xs _ i p n hp]at h;cases h
 | succ f ih=>
  by_cases hp:p<xs.length
  ·have hx:=hb p hp
   have hdrop:xs.drop p=xs.getD p 0 :: xs.drop (p+1):=by
    rw[List.drop_eq_getElem_cons hp,List.getD_eq_getElem?_getD,List.getElem?_eq_getElem hp];rfl
   obtain⟨d,hdd⟩:=Int.eq_ofNat_of_zero_le hx.1;by_cases hd:128≤xs.getD p 0
   ·rw[Hr xs (f+1) i p n hp hd]at h;obtain⟨r,e,h1,h2,h3,h4,h5,h6⟩:=ih (i+1) (p+1) _ h;have hr:=h3 (by omega);refine⟨d%128+128*r,e+1,?_,?_,by omega,by omega,by omega,?_⟩
    ·rw[h1,hdd,Int.pow_succ,Int.natCast_add,Int.natCast_mul,Int.add_mul,Int.natCast_emod]
     have e1:((128:Nat):Int)*(r:Int)*128 ^ i=(r:Int)*(128 ^ i*128):=by
      rw[Int.mul_comm ((128:Nat):Int) (r:Int),Int.mul_assoc,Int.mul_comm ((128:Nat):Int) (128 ^ i)];rfl
     rw[e1];have e2:((128:Nat):Int)=128:=rfl;rw[e2];omega
    ·rw[Nat.pow_succ];omega
    rw[hdrop,List.take_succ_cons,h6,Rl f _ (by omega)];rw[show(d%128+128*r)/128=r from by omega,hdd]
    congr 1;omega
   by_cases hbad:2147483647<n+xs.getD p 0%128*128 ^ i∨(xs.getD p 0=0∧0<i)
   ·rw[K_ xs (f+1) i p n hp hd hbad]at h;cases h
   rw[Ht xs (f+1) i p n hp hd hbad]at h;simp only[Option.some.injEq,Prod.mk.injEq]at h;refine⟨d,1,?_,?_,by omega,by omega,by omega,?_⟩
   ·rw[←h.1,hdd,show((d:Int)%128)=d from by omega]
   ·have:(128:Nat)≤128 ^ (f+1+1):=by
     rw[Nat.pow_succ];have:0<128 ^ (f+1):=Nat.pow_pos (by omega);omega
    omega
   rw[hdrop,hdd,Rk (f+1) d (by omega)];simp
  rw[Cn xs _ i p n hp]at h;cases h

theorem XY(xs:List Int)(hb:Aw xs)(p m q:Int)(h:AV xs p=some (m,q)):
 ∃(k e:Nat),p=k∧q=(k:Int)+e∧k+e≤xs.length∧0≤m∧m≤2147483647∧(xs.drop k).take e=EJ m:=by
 have bd:=Ec xs hb.get p m q h;by_cases hp:p<0
 ·rw[GH xs p hp]at h;cases h
 obtain⟨k,rfl⟩:=Int.eq_ofNat_of_zero_le (Int.not_lt.1 hp);rw[IQ]at h;obtain⟨r,e,h1,h2,_,h4,h5,h6⟩:=j_ xs hb.get 4 0 k 0 m q h;have hm:m=(r:Int):=by rw[h1];simp
 subst hm;exact⟨k,e,rfl,h4,h5,by omega,by omega,by rw[h6,F_ r (by omega)]⟩

theorem yh(l:List Int)(h:Aw l):bs (strOfNums l)=l:=by
 unfold bs;rw[strOfNums_data,List.map_map]
 conv=>rhs;rw[←List.map_id l]
 apply List.map_congr_left
 intro x hx;have:=h x hx;simp;omega
theorem xR(s:ByteArray):strOfNums (bs s)=s:=by
 apply ByteArray.ext
 apply Array.toList_inj.1
 rw[strOfNums_data,bs,List.map_map]
 conv=>rhs;rw[←List.map_id s.data.toList]
 apply List.map_congr_left
 intro x _;simp

def DC(b:UInt8)(ps:List ByteArray):Nat→List UInt8
 |0=>[]
 |j+1=>(if 0<j then DC b ps j++[b]else DC b ps j)++(ps.getD j ByteArray.empty).data.toList
theorem ZZ(b:UInt8)(ps qs:List ByteArray)(j:Nat)(h:j≤ps.length):DC b (ps++qs) j=DC b ps j:=by
 induction j with
 |zero=>rfl
 | succ j ih=>
  have e:(ps++qs).getD j ByteArray.empty=ps.getD j ByteArray.empty:=by
   rw[List.getD_eq_getElem?_getD,List.getD_eq_getElem?_getD,List.getElem?_append_left (by omega)]
  rw[DC,DC,ih (by omega),e]
theorem Mj(b:UInt8)(ps:List ByteArray)(x:ByteArray):DC b (ps++[x]) (ps.length+1)=(if 0<ps.length then DC b ps ps.length++[b]else DC b ps ps.length)++x.data.toList:=by
 have e:(ps++[x]).getD ps.length ByteArray.empty=x:=by simp
 rw[DC,ZZ b ps [x] ps.length Ae,e]
theorem eZ(s:ByteArray)(i j:Nat):(s.extract i j).data.toList=(s.data.toList.drop i).take (j-i):=by
 rw[ByteArray.data_extract,Array.toList_extract]
theorem gU(s:ByteArray)(b:UInt8)(k:Nat)(hk:k≤s.size):
 ((G6 s b.toNat k).1=[]∧(G6 s b.toNat k).2=0)∨(0<(G6 s b.toNat k).1.length∧DC b (G6 s b.toNat k).1 (G6 s b.toNat k).1.length++[b]=s.data.toList.take (G6 s b.toNat k).2):=by
 induction k with
 |zero=>left;simp[G6]
 | succ k ih=>
  have ih:=ih (by omega);have hks:k<s.size:=by omega
  by_cases hb:(s[k].toNat:Int)=b.toNat
  ·rw[Kn s _ k hks hb]
   right
   have hle:=(J9 s b.toNat k).1
   have hbb:s[k]=b:=by
    apply UInt8.toNat_inj.1;omega
   have htk:s.data.toList.take (k+1)=s.data.toList.take k++[b]:=by
    rw[List.take_succ_eq_append_getElem (by simpa using hks)]
    congr 1
    rw[←hbb];rfl
   refine⟨by simp,?_⟩;simp only[List.length_append,List.length_cons,List.length_nil,Nat.zero_add];rw[Mj,eZ,htk]
   congr 1
   rcases ih with⟨h1,h2⟩|⟨h1,h2⟩
   ·rw[h1,h2];simp[DC]
   rw[if_pos h1,h2];rw[←List.take_add]
   congr 1;omega
  rw[JL s _ k hks hb];exact ih
theorem J5(s:ByteArray)(b:UInt8):DC b (Ab s b.toNat) (Ab s b.toNat).length=s.data.toList:=by
 have hle:=(J9 s b.toNat s.size).1;have hinv:=gU s b s.size Ae;have hlen:s.data.toList.length=s.size:=by simp
 unfold Ab;simp only[List.length_append,List.length_cons,List.length_nil,Nat.zero_add];rw[Mj,eZ];rcases hinv with⟨h1,h2⟩|⟨h1,h2⟩
 ·rw[h1,h2];simp only[List.length_nil,DC,List.drop_zero,Nat.sub_zero];rw[List.take_of_length_le (by omega)];simp
 rw[if_pos h1,h2,←List.take_add,List.take_of_length_le (by omega)]
end
section
variable [∀(a b c d:Int),Decidable (BD a b c d)] [∀(a b c d:Nat),Decidable (Dg a b c d)] [∀(x:T4),Decidable (Dt x)]
def jn:List (List UInt8)→List UInt8
 | []=>[]
 | [p]=>p
 |p :: q :: r=>p++44 :: jn (q :: r)
theorem eF(ps:List (List UInt8))(p:List UInt8):jn (ps++[p])=(if 0<ps.length then jn ps++[44]else jn ps)++p:=by
 induction ps with
 |nil=>simp[jn]
 | cons x ps ih=>
  cases ps with
  |nil=>simp[jn]
  |cons y ps=>
   rw[List.cons_append]at ih;rw[List.cons_append,List.cons_append,jn,jn,ih];simp
theorem jc(ps qs:List (List UInt8))(hp:∀p ∈ ps,44 ∉ p)(hq:∀q ∈ qs,44 ∉ q)(hn:ps≠[])(hm:qs≠[])(h:jn ps=jn qs):ps=qs:=by
 induction ps generalizing qs with
 |nil=>exact absurd rfl hn
 | cons p ps ih=>
  cases qs with
  |nil=>exact absurd rfl hm
  | cons q qs=>
   have hp0:=hp p (by simp);have hq0:=hq q (by simp);cases ps with
   |nil=>
    cases qs with
    |nil=>simp[jn]at h;rw[h]
    |cons q' qs=>simp only[jn]at h;rw[h]at hp0;simp at hp0
   | cons p' ps=>
    cases qs with
    |nil=>simp only[jn]at h;rw[←h]at hq0;simp at hq0
    |cons q' qs=>
     simp only[jn]at h;have e1:p=q:=by rw[←EF (y:=jn (p' :: ps)) hp0,h,EF hq0]
     have e2:jn (p' :: ps)=jn (q' :: qs):=by rw[←Ej (x:=p) (y:=jn (p' :: ps)) hp0,h,Ej hq0]
     rw[e1,ih (q' :: qs) (fun x hx=>hp x (by simp at hx⊢;exact .inr hx)) (fun x hx=>hq x (by simp at hx⊢;exact .inr hx)) (by simp) (by simp) e2]
theorem R_(ps:List ByteArray)(k:Nat)(hk:k≤ps.length):DC 44 ps k=jn ((ps.take k).map fun s=>s.data.toList):=by
 induction k with
 |zero=>simp[DC,jn]
 |succ k ih=>
  rw[DC,ih (by omega),JZ ps k (by omega),List.map_append,List.map_singleton,eF];simp only[List.length_map,List.length_take];rw[show min k ps.length=k from by omega]
theorem fG(xs:List T4)(k:Nat)(hk:k≤xs.length):MQ xs k=jn ((xs.take k).map fun x=>(TF x).data.toList):=by
 induction k with
 |zero=>simp[MQ,jn]
 | succ k ih=>
  have e:xs.take (k+1)=xs.take k++[xs.getD k (0,0,0,0)]:=by
   rw[List.take_succ_eq_append_getElem (by omega),List.getD_eq_getElem?_getD,List.getElem?_eq_getElem (by omega)];rfl
  rw[MQ,ih (by omega),e,List.map_append,List.map_singleton,eF];simp only[List.length_map,List.length_take];rw[show min k xs.length=k from by omega]
theorem iR(s:ByteArray)(k:Nat)(hk:k≤s.size):(∀p ∈ (G6 s 44 k).1,(44:UInt8) ∉ p.data.toList)∧(44:UInt8) ∉ (s.data.toList.drop (G6 s 44 k).2).take (k-(G6 s 44 k).2):=by
 induction k with
 |zero=>simp[G6]
 | succ k ih=>
  obtain⟨h1,h2⟩:=ih (by omega);have hle:=(J9 s 44 k).1;by_cases hb:(s[k].toNat:Int)=44
  ·rw[Kn s 44 k (by omega) hb];refine⟨fun p hp=>?_,by simp⟩;rw[List.mem_append]at hp;rcases hp with hp|hp
   ·exact h1 p hp
   simp at hp;rw[hp,ext_list];exact h2
  rw[JL s 44 k (by omega) hb];refine⟨h1,?_⟩
  have e:=IG (m:=44) (l:=s.data.toList) (n:=(G6 s 44 k).2) (pos:=k) (v:=1) hle h2 (fun j hj=>by
   obtain rfl:j=0:=by omega
   rw[Nat.add_zero,List.getElem?_eq_getElem (by simp;omega)];intro e;have e':s[k]=44:=Option.some.inj e;rw[e']at hb;exact hb rfl)
  exact e
theorem Vr(s:ByteArray):∀p ∈ Ab s 44,(44:UInt8) ∉ p.data.toList:=by
 intro p hp;obtain⟨h1,h2⟩:=iR s s.size Ae;unfold Ab at hp;rw[List.mem_append]at hp;rcases hp with hp|hp
 ·exact h1 p hp
 simp at hp;rw[hp,ext_list];exact h2
theorem nA(s:ByteArray):Ab s 44≠[]:=by unfold Ab;simp
theorem fT(x:T4):(44:UInt8) ∉ (TF x).data.toList:=by
 unfold TF txt;obtain⟨a,b,c,d⟩:=x;by_cases h:BD a b c d
 ·show(44:UInt8) ∉ (if BD a b c d then fQ a b c d else(⟨#[]⟩:ByteArray)).data.toList;rw[if_pos h];obtain⟨a',b',c',d',rfl,rfl,rfl,rfl⟩:=Tp h;rw[JY,BC];unfold rZ;have n:=fun n=>II n 44 (by decide);simp[n]
 show(44:UInt8) ∉ (if BD a b c d then fQ a b c d else(⟨#[]⟩:ByteArray)).data.toList;rw[if_neg h];simp
theorem yE{s:ByteArray}{q:Nat×Nat×Nat×Nat}(h:DR s.data.toList=some q):TF (zm q)=s∧Dt (zm q):=by
 obtain⟨a,b,c,d⟩:=q;have hi:=OZ h;exact⟨W9 hi,Jf.2 hi.1⟩
theorem ADC{x:T4}(h:Dt x):∃q,zm q=x∧DR (TF x).data.toList=some q:=by
 obtain⟨a,b,c,d⟩:=x;obtain⟨a',b',c',d',rfl,rfl,rfl,rfl⟩:=Tp h;refine⟨(a',b',c',d'),rfl,OY ⟨Jf.1 h,?_⟩⟩;show _=(if BD (a':Int) b' c' d' then fQ a' b' c' d' else(⟨#[]⟩:ByteArray)).data.toList;rw[if_pos (show BD (a':Int) b' c' d' from h),JY,BC]
theorem Mv{ps:List ByteArray}{ys:List T4}(h:CW ps=some ys):ys.map TF=ps∧∀y ∈ ys,Dt y:=by
 induction ps generalizing ys with
 |nil=>simp[CW]at h;subst h;simp
 | cons p ps ih=>
  rw[CW]at h;cases hp:DR p.data.toList with
  |none=>rw[hp]at h;cases h
  | some q=>
   rw[hp]at h;cases hq:CW ps with
   |none=>rw[hq]at h;cases h
   |some zs=>
    rw[hq]at h;simp at h;subst h;obtain⟨i1,i2⟩:=ih hq;obtain⟨j1,j2⟩:=yE hp;refine⟨by simp[i1,j1],fun y hy=>?_⟩;simp at hy;rcases hy with rfl|hy
    ·exact j2
    exact i2 y hy
theorem qo(ys:List T4)(h:∀y ∈ ys,Dt y):CW (ys.map TF)=some ys:=by
 induction ys with
 |nil=>rfl
 |cons y ys ih=>
  obtain⟨q,e,hq⟩:=ADC (h y (by simp));rw[List.map_cons,CW,hq,ih (fun z hz=>h z (by simp[hz]))];simp[e]
theorem VW{s:ByteArray}{ys:List T4}(h:Cm s=some ys):Iq ys=s:=by
 unfold Cm at h
 split at h
 ·rename_i hz;simp at h;subst h;unfold Iq;simp[MQ,Bj,hz]
 obtain⟨h1,h2⟩:=Mv h;unfold Iq;rw[if_pos h2,fG ys ys.length Ae,List.take_of_length_le Ae];have hj:=J5 s 44;have e44:(((44:UInt8).toNat:Nat):Int)=44:=rfl;rw[e44,R_ _ _ Ae,List.take_of_length_le Ae,←h1,List.map_map]at hj;have hj':jn (ys.map fun x=>(TF x).data.toList)=s.data.toList:=hj;rw[hj',KZ]
theorem fP(ys:List T4)(h:∀y ∈ ys,Dt y):Cm (Iq ys)=some ys:=by
 have e:Iq ys=Bj (jn (ys.map fun x=>(TF x).data.toList)):=by
  unfold Iq;rw[if_pos h,fG ys ys.length Ae,List.take_of_length_le Ae]
 cases ys with
 |nil=>rw[e];unfold Cm;simp[jn,Bj]
 | cons y ys=>
  have hne:Iq (y :: ys)≠⟨#[]⟩:=by
   rw[e];intro hz;have hz':=congrArg (fun s:ByteArray=>s.data.toList) hz;have hy:=xC (h y (by simp));cases ys with
   |nil=>simp[jn,Bj]at hz';exact hy (ByteArray.ext hz')
   |cons y' ys=>simp[jn,Bj]at hz'
  unfold Cm;rw[if_neg hne];have hj:=J5 (Iq (y :: ys)) 44;have e44:(((44:UInt8).toNat:Nat):Int)=44:=rfl;rw[e44,R_ _ _ Ae,List.take_of_length_le Ae]at hj;have hl:(Iq (y :: ys)).data.toList=jn ((y :: ys).map fun x=>(TF x).data.toList):=by rw[e];rfl
  rw[hl]at hj
  have hu:=jc _ _ (fun p hp=>by
   obtain⟨z,hz,rfl⟩:=List.mem_map.1 hp;exact Vr _ z hz) (fun q hq=>by
   obtain⟨z,_,rfl⟩:=List.mem_map.1 hq;exact fT z) (by simp[nA]) (by simp) hj
  have hs:Ab (Iq (y :: ys)) 44=(y :: ys).map TF:=by
   have inj:∀(a b:List ByteArray),a.map (fun s=>s.data.toList)=b.map (fun s=>s.data.toList)→a=b:=by
    intro a
    induction a with
    |nil=>intro b hb;cases b with
     |nil=>rfl
     |cons=>simp at hb
    | cons x a ih=>
     intro b hb;cases b with
     |nil=>simp at hb
     |cons z b=>
      simp at hb;rw[ih b hb.2,ByteArray.ext hb.1]
   apply inj
   rw[hu,List.map_map];rfl
  rw[hs];exact qo _ h
end
section
open Go.RowKit
variable [∀(a b c d:Int),Decidable (BD a b c d)] [∀(a b c d:Nat),Decidable (Dg a b c d)] [∀(last:Int)(s:St),Decidable (Ak last s)] [∀(x:T4),Decidable (Dt x)]
def jb(b:UInt8):List (List UInt8)→List UInt8
 | []=>[]
 | [p]=>p
 |p :: q :: r=>p++b :: jb b (q :: r)
theorem UE(b:UInt8)(p:List UInt8)(ps:List (List UInt8)):jb b (p :: ps)=p++ps.flatMap (fun t=>b :: t):=by
 induction ps generalizing p with
 |nil=>simp[jb]
 |cons q ps ih=>rw[jb,ih];simp
theorem tT(b:UInt8)(ps:List (List UInt8))(p:List UInt8):jb b (ps++[p])=(if 0<ps.length then jb b ps++[b]else jb b ps)++p:=by
 cases ps with
 |nil=>simp[jb]
 |cons x ps=>rw[List.cons_append,UE,UE];simp
theorem jd(b:UInt8)(ps qs:List (List UInt8))(hp:∀p ∈ ps,b ∉ p)(hq:∀q ∈ qs,b ∉ q)(hn:ps≠[])(hm:qs≠[])(h:jb b ps=jb b qs):ps=qs:=by
 induction ps generalizing qs with
 |nil=>exact absurd rfl hn
 | cons p ps ih=>
  cases qs with
  |nil=>exact absurd rfl hm
  | cons q qs=>
   have hp0:=hp p (by simp);have hq0:=hq q (by simp);cases ps with
   |nil=>
    cases qs with
    |nil=>simp[jb]at h;rw[h]
    |cons q' qs=>simp only[jb]at h;rw[h]at hp0;simp at hp0
   | cons p' ps=>
    cases qs with
    |nil=>simp only[jb]at h;rw[←h]at hq0;simp at hq0
    |cons q' qs=>
     simp only[jb]at h;have e1:p=q:=by rw[←EF (y:=jb b (p' :: ps)) hp0,h,EF hq0]
     have e2:jb b (p' :: ps)=jb b (q' :: qs):=by rw[←Ej (x:=p) (y:=jb b (p' :: ps)) hp0,h,Ej hq0]
     rw[e1,ih (q' :: qs) (fun x hx=>hp x (by simp at hx⊢;exact .inr hx)) (fun x hx=>hq x (by simp at hx⊢;exact .inr hx)) (by simp) (by simp) e2]
theorem ja(b:UInt8)(ps:List ByteArray)(k:Nat)(hk:k≤ps.length):DC b ps k=jb b ((ps.take k).map fun s=>s.data.toList):=by
 induction k with
 |zero=>simp[DC,jb]
 |succ k ih=>
  rw[DC,ih (by omega),JZ ps k (by omega),List.map_append,List.map_singleton,tT];simp only[List.length_map,List.length_take];rw[show min k ps.length=k from by omega]
theorem ZI(s:ByteArray)(b:UInt8)(k:Nat)(hk:k≤s.size):(∀p ∈ (G6 s b.toNat k).1,b ∉ p.data.toList)∧b ∉ (s.data.toList.drop (G6 s b.toNat k).2).take (k-(G6 s b.toNat k).2):=by
 induction k with
 |zero=>simp[G6]
 | succ k ih=>
  obtain⟨h1,h2⟩:=ih (by omega);have hle:=(J9 s b.toNat k).1;by_cases hb:(s[k].toNat:Int)=b.toNat
  ·rw[Kn s b.toNat k (by omega) hb];refine⟨fun p hp=>?_,by simp⟩;rw[List.mem_append]at hp;rcases hp with hp|hp
   ·exact h1 p hp
   simp at hp;rw[hp,ext_list];exact h2
  rw[JL s b.toNat k (by omega) hb];refine⟨h1,?_⟩
  exact IG (m:=b) (l:=s.data.toList) (n:=(G6 s b.toNat k).2) (pos:=k) (v:=1) hle h2 (fun j hj=>by
   obtain rfl:j=0:=by omega
   rw[Nat.add_zero,List.getElem?_eq_getElem (by simp;omega)];intro e;have e':s[k]=b:=Option.some.inj e;rw[e']at hb;exact hb rfl)
theorem TV(s:ByteArray)(b:UInt8):∀p ∈ Ab s b.toNat,b ∉ p.data.toList:=by
 intro p hp;obtain⟨h1,h2⟩:=ZI s b s.size Ae;unfold Ab at hp;rw[List.mem_append]at hp;rcases hp with hp|hp
 ·exact h1 p hp
 simp at hp;rw[hp,ext_list];exact h2
theorem Vq(s:ByteArray)(b:UInt8):jb b ((Ab s b.toNat).map fun s=>s.data.toList)=s.data.toList:=by
 have:=J5 s b;rw[ja b _ _ Ae,List.take_of_length_le Ae]at this;exact this
theorem Lm(s:ByteArray)(b:Int):Ab s b≠[]:=by unfold Ab;simp
theorem m_(s:ByteArray)(b:UInt8)(ps:List (List UInt8))(hn:ps≠[])(hp:∀p ∈ ps,b ∉ p)(h:s.data.toList=jb b ps):(Ab s b.toNat).map (fun s=>s.data.toList)=ps:=by
 refine jd b _ _ (fun p hp'=>?_) hp (by simp[Lm]) hn ((Vq s b).trans h);obtain⟨q,hq,rfl⟩:=List.mem_map.1 hp';exact TV s b q hq

def Bl(s:St):List UInt8:=Lib.decDigits s.1.toNat++124 :: (Iq s.2).data.toList
def nm(ss:List St):List UInt8:=ss.flatMap fun s=>47 :: Bl s
def Lb(s:St):Prop:=(1≤s.1∧s.1≤60)∧s.2.length≤2∧∀x ∈ s.2,Dt x
def Im(ss:List St):Prop:=ss.length≤30∧(∀s ∈ ss,Lb s)∧ss.Pairwise (fun a b=>a.1<b.1)
theorem YL(x:T4)(m:UInt8)(h:m.toNat<48∨57<m.toNat)(h1:m≠62)(h2:m≠58)(h3:m≠35):m ∉ (TF x).data.toList:=by
 unfold TF txt;obtain⟨a,b,c,d⟩:=x;by_cases ho:BD a b c d
 ·show m ∉ (if BD a b c d then fQ a b c d else(⟨#[]⟩:ByteArray)).data.toList;rw[if_pos ho];obtain⟨a',b',c',d',rfl,rfl,rfl,rfl⟩:=Tp ho;rw[JY,BC];unfold rZ;have n:=fun n=>II n m h;simp[n,h1,h2,h3]
 show m ∉ (if BD a b c d then fQ a b c d else(⟨#[]⟩:ByteArray)).data.toList;rw[if_neg ho];simp
theorem YK(ts:List T4)(m:UInt8)(h:m.toNat<48∨57<m.toNat)(h1:m≠62)(h2:m≠58)(h3:m≠35)(h4:m≠44):m ∉ (Iq ts).data.toList:=by
 unfold Iq
 split
 ·rw[BC]
  have:∀k,k≤ts.length→m ∉ MQ ts k:=by
   intro k
   induction k with
   |zero=>intro _;simp[MQ]
   |succ k ih=>
    intro hk;have:=ih (by omega);have c:=YL (ts.getD k (0,0,0,0)) m h h1 h2 h3;rw[MQ]
    split<;>simp[this,h4]<;>simpa using c
  exact this ts.length Ae
 simp
theorem Eo(s:St):(47:UInt8) ∉ Bl s:=by
 unfold Bl;have h1:=II s.1.toNat 47 (by decide);have h2:=YK s.2 47 (by decide) (by decide) (by decide) (by decide) (by decide);simp[h1,h2]
theorem Md{p:ByteArray}{s:St}(h:stepOf p=some s):p.data.toList=Bl s∧(0≤s.1)∧∀x ∈ s.2,Dt x:=by
 unfold stepOf at h
 split at h
 ·rename_i hm;cases hn:numOf (hd 124 p.data.toList)with
  |none=>rw[hn]at h;cases h
  | some n=>
   rw[hn]at h;cases ht:Cm (Bj (tl 124 p.data.toList))with
   |none=>rw[ht]at h;cases h
   | some ts=>
    rw[ht]at h;cases h
    obtain⟨_,h2⟩:=DK hn;have h3:=VW ht
    have e:p.data.toList=hd 124 p.data.toList++124 :: tl 124 p.data.toList:=by
     unfold hd tl;generalize p.data.toList=l at hm
     induction l with
     |nil=>simp at hm
     |cons y l ih=>
      by_cases hy:y=124
      ·subst hy;simp
      have hm':(124:UInt8) ∈ l:=by rcases List.mem_cons.1 hm with e|e;exact absurd e.symm hy;exact e
      have:=ih hm';simp only[List.takeWhile_cons,List.dropWhile_cons,bne_iff_ne,ne_eq,hy,not_false_eq_true,if_true];rw[List.cons_append,←this]
    refine⟨?_,by simp,?_⟩
    ·rw[e,←h2];unfold Bl;rw[h3];simp[BC]
    unfold Cm at ht
    split at ht
    ·cases ht;simp
    exact(Mv ht).2
 cases h
theorem Gi{p:ByteArray}{s:St}(h:Lb s)(hp:p.data.toList=Bl s):stepOf p=some s:=by
 obtain⟨⟨h1,h2⟩,_,h3⟩:=h;have c:=II s.1.toNat 124 (by decide);unfold stepOf;rw[hp];have hm:(124:UInt8) ∈ Bl s:=by unfold Bl;simp
 rw[if_pos hm];have e1:hd 124 (Bl s)=Lib.decDigits s.1.toNat:=by unfold Bl;exact EF c
 have e2:tl 124 (Bl s)=(Iq s.2).data.toList:=by unfold Bl;exact Ej c
 rw[e1,e2,Hf (by omega),KZ,fP s.2 h3];obtain⟨v,ts⟩:=s;simp at h1⊢;omega
theorem gz(ps:List ByteArray)(q:Int×List St)(h:BP ps=some q):ps.map (fun p=>p.data.toList)=q.2.map Bl∧(∀s ∈ q.2,Lb s∧s.1≤q.1)∧q.2.Pairwise (fun a b=>a.1<b.1):=by
 generalize hn:ps.length=n
 induction n generalizing ps q with
 |zero=>
  have:ps=[]:=List.length_eq_zero_iff.1 hn;subst this;cases h
  simp
 | succ n ih=>
  obtain⟨ps',p,rfl⟩:∃ps' p,ps=ps'++[p]:=⟨ps.dropLast,ps.getLast (fun e=>by rw[e]at hn;simp at hn),(List.dropLast_concat_getLast _).symm⟩
  rw[DY]at h;unfold FN at h;cases hr:BP ps' with
  |none=>rw[hr]at h;cases h
  | some q'=>
   rw[hr]at h;cases hs:stepOf p with
   |none=>rw[hs]at h;simp at h
   | some s=>
    rw[hs]at h;simp only[Option.bind_some]at h
    split at h
    ·rename_i hg;cases h
     obtain⟨i1,i2,i3⟩:=ih ps' q' hr (by simpa using hn);obtain⟨_,o2,_,_⟩:=JF ps' q' hr;obtain⟨g1,g2,g3⟩:=hg;obtain⟨t1,t2,t3⟩:=Md hs;refine⟨by simp[i1,t1],fun y hy=>?_,?_⟩
     ·rcases List.mem_append.1 hy with hy|hy
      ·exact⟨(i2 y hy).1,by have:=(i2 y hy).2;show y.1≤s.1;omega⟩
      simp at hy;subst hy;exact⟨⟨⟨by omega,g2⟩,g3,t3⟩,Int.le_refl _⟩
     rw[List.pairwise_append];refine⟨i3,by simp,fun a ha b hb=>?_⟩;simp at hb;subst hb;have:=(i2 a ha).2;omega
    cases h
theorem xS(ss:List St)(hok:∀s ∈ ss,Lb s)(hpw:ss.Pairwise (fun a b=>a.1<b.1))(ps:List ByteArray)(hp:ps.map (fun p=>p.data.toList)=ss.map Bl):∃l,BP ps=some (l,ss)∧∀x,(∀s ∈ ss,s.1<x)→0<x→l<x:=by
 generalize hn:ss.length=n
 induction n generalizing ss ps with
 |zero=>
  have:ss=[]:=List.length_eq_zero_iff.1 hn;subst this;have:ps=[]:=by simpa using hp
  subst this;exact⟨0,rfl,fun x _ h=>h⟩
 |succ n ih=>
  obtain⟨ss',s,rfl⟩:∃ss' s,ss=ss'++[s]:=⟨ss.dropLast,ss.getLast (fun e=>by rw[e]at hn;simp at hn),(List.dropLast_concat_getLast _).symm⟩
  have hpl:ps.length=(ss'++[s]).length:=by have:=congrArg List.length hp;simpa using this
  obtain⟨ps',p,rfl⟩:∃ps' p,ps=ps'++[p]:=⟨ps.dropLast,ps.getLast (fun e=>by rw[e]at hpl;simp at hpl),(List.dropLast_concat_getLast _).symm⟩
  rw[List.map_append,List.map_append]at hp;obtain⟨hp1,hp2⟩:=List.append_inj hp (by simp at hpl⊢;exact hpl);rw[List.pairwise_append]at hpw;obtain⟨l,hl,hx⟩:=ih ss' (fun y hy=>hok y (by simp[hy])) hpw.1 ps' hp1 (by simpa using hn);have hs:=hok s (by simp);have hst:=Gi hs (p:=p) (by simpa using hp2);have hlt:l<s.1:=hx s.1 (fun y hy=>hpw.2.2 y hy s (by simp)) (by have:=hs.1;omega);refine⟨s.1,?_,fun x h1 _=>h1 s (by simp)⟩;rw[DY,hl];unfold FN;simp only[Option.bind_some,hst];rw[if_pos (show Ak l s from⟨hlt,hs.1.2,hs.2.1⟩)]
theorem wB(ss:List St):nm ss=jb 47 ([] :: ss.map Bl):=by
 rw[UE];unfold nm;simp[List.flatMap_map]
theorem Cg(s:ByteArray)(ss:List St):AO s=some ss↔s.data.toList=nm ss∧Im ss:=by
 unfold AO;by_cases hz:s=⟨#[]⟩
 ·rw[if_pos hz];subst hz
  constructor
  ·intro h;cases h;exact⟨rfl,by simp,by simp,by simp⟩
  rintro⟨h,_⟩;cases ss with
  |nil=>rfl
  |cons x ss=>simp[nm]at h
 rw[if_neg hz];have hj:=Vq s 47;have e47:((47:UInt8).toNat:Int)=47:=rfl;rw[e47]at hj
 constructor
 ·intro h
  split at h
  ·rename_i hc;cases hr:BP (Ab s 47).tail with
   |none=>rw[hr]at h;cases h
   | some q=>
    rw[hr]at h;cases h
    obtain⟨h1,h2,h3⟩:=gz _ q hr;have hlen:=(JF _ q hr).1;cases hp:Ab s 47 with
    |nil=>exact absurd hp (Lm s 47)
    | cons p ps=>
     rw[hp]at hc h1 hj hlen;simp at hc;refine⟨?_,?_,fun y hy=>(h2 y hy).1,h3⟩
     ·rw[←hj,wB,List.map_cons,hc.1];simp only[List.tail_cons]at h1;rw[h1]
     show q.2.length≤30;simp at hlen;omega
  cases h
 rintro⟨h1,h2,h3,h4⟩
 have hne:ss≠[]:=by
  rintro rfl
  apply hz
  apply ByteArray.ext
  apply Array.toList_inj.1
  rw[h1];rfl
 have hsp:=m_ s 47 ([] :: ss.map Bl) (by simp) (fun p hp=>by
  rcases List.mem_cons.1 hp with rfl|hp
  ·simp
  obtain⟨y,_,rfl⟩:=List.mem_map.1 hp;exact Eo y) (by rw[h1,wB])
 rw[e47]at hsp;cases hp:Ab s 47 with
 |nil=>exact absurd hp (Lm s 47)
 |cons p ps=>
  rw[hp]at hsp;simp only[List.map_cons,List.cons.injEq]at hsp;obtain⟨l,hl,_⟩:=xS ss h3 h4 ps hsp.2;have hpl:ps.length=ss.length:=by have:=congrArg List.length hsp.2;simpa using this
  have hp0:p=⟨#[]⟩:=ByteArray.ext (Array.toList_inj.1 hsp.1);rw[if_pos ⟨by simpa using hp0,by simp;omega⟩,List.tail_cons,hl];rfl
end
end Go.Proofs.YtcjmcgolgbkknaaGreatDoor
