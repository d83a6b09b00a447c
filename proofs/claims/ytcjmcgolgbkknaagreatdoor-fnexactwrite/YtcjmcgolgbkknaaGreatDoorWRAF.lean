/- Lemmas; their conditions stand in each statement. -/
import Derived.Test.YtcjmcgolgbkknaaGreatDoorWRAE
import Derived.Lib.ItoaLen
set_option maxRecDepth 100000
set_option maxHeartbeats 8000000
namespace Go.Proofs.YtcjmcgolgbkknaaGreatDoor
section
open Go.RowKit
def bs(s:ByteArray):List Int:=s.data.toList.map fun b=>(b.toNat:Int)
theorem qJ(s:ByteArray):(bs s).length=s.size:=by rw[bs,List.length_map,Array.length_toList];rfl
theorem qK(s:ByteArray):(bs s).map (Value.int .u8)=Lib.strCells s:=by simp[bs,Lib.strCells]
def DJ(s:ByteArray):List Int:=put 4 s.size++bs s
theorem V6(s:ByteArray):(DJ s).length=(put 4 s.size).length+s.size:=by rw[DJ,List.length_append,qJ]

theorem ZU(w:World)(s:ByteArray)(cap:Nat)(e:TypeId)(fr:Nat×Nat)(j:Nat)(u:Value)(h:(Lib.strCells s)[j]? =some u):
 (w.alloc (.cells (bytesRow s cap) e fr)).cell? ((⟨w.heap.size,0,none⟩:Addr).add j)=some u:=by
 have hj:j<s.data.size:=by
  have:=(List.getElem?_eq_some_iff.1 h).1;simpa[Lib.strCells]using this
 have h1:=bytesRow_at s cap j hj
 have h2:u= .int .u8 (s.data[j].toNat:Int):=by
  rw[Lib.strCells,List.getElem?_map,Array.getElem?_toList,Array.getElem?_eq_getElem hj]at h;simpa using h.symm
 subst h2;rw[show((⟨w.heap.size,0,none⟩:Addr).add j)=⟨w.heap.size,j,none⟩ from by unfold Addr.add;split<;>simp_all];rw[cell_of_row _ w.heap.size j _ e fr (heap_alloc_new w _)];exact h1
theorem ZT(s:ByteArray)(u:Value)(h:u ∈ Lib.strCells s):u.oneCell'=true:=by
 simp[Lib.strCells]at h;obtain⟨a,_,rfl⟩:=h;rfl

theorem Wn{B:Nat}{w wr w1:World}{v v':Value}{xs:List Int}{s:ByteArray}(hB:B≤wr.heap.size)(ho:wr.ownsRow B 5 1 v xs.length (xs.map (Value.int .u8)))(hb:Below B w wr)
 (ho':w1.ownsRow B 5 1 v' (xs.length+s.size) (xs.map (Value.int .u8)++Lib.strCells s)) (hg:wr.grownBy w1 v.ownBlock):
 OB w1 B v' (xs++bs s)∧Below B w w1:=by
 refine⟨?_,hb.grown hg hB (fun j hj=>(ho.lt j hj).1)⟩;unfold OB;rw[List.length_append,qJ,List.map_append,qK];exact ho'

theorem WJ(s:ByteArray)(w:World)(hs:s.size≤1048576):
 Calls Tryz.prog 195 #[.string s] w fun e w'=>∃v,e= .returned v∧OB w' w.heap.size v (DJ s)∧Below w.heap.size w w':=by
 obtain⟨i0,hi,hz0,hz1,hz2⟩:=info_parts Tryz.info5;have hcv:=fun w=>run_bytes_of_string (P:=Tryz.prog) w 9 31 5 s Tryz.underlying9 Tryz.underlying31 Tryz.underlying5;have hpl:=Ll 4 s.size;go_enter Tryz.func195,Tryz.ntmps195
 go_wp2_with fail
 refine(NW s.size _ (by omega)).mono ?_;rintro e w1 ⟨v0,rfl,o0,b0⟩;have s0:=b0.size
 go_wp2_with (first
       |(at_builtin;refine wpList_append_own _ rfl (.tmp 5) (.tmp 7) 31 rfl w.heap.size 5 i0 (.int .u8 0) 1 1 Tryz.underlying31 hi hz0 hz1 hz2 rfl (by decide) _ _ _ rfl ((o0.alloc _).drew) ⟨w1.heap.size,0,none⟩ s.size _ (Lib.strCells s) rfl (by rw[Lib.strCells_length];omega) (ZU _ _ _ _ _) (ZT s) (by unfold maxLen;omega) (by omega) (by simp;omega) ?_;intro v' w2 ho' hg' _;have R:=Wn (by simp;omega) ((o0.alloc _).drew) ((b0.alloc s0 _).drew) ho' hg';clear ho' hg' hcv o0))
 go_ret;exact⟨_,rfl,R.1,R.2⟩

theorem XN(s:ByteArray)(w:World)(hs:s.size≤1048576):
 Calls Tryz.prog 228 #[.string s] w fun e w'=>∃v,e= .returned v∧OB w' w.heap.size v (DJ s)∧Below w.heap.size w w':=by
 obtain⟨i0,hi,hz0,hz1,hz2⟩:=info_parts Tryz.info5;have hpl:=Ll 4 s.size;go_enter Tryz.func228,Tryz.ntmps228
 go_wp2_with fail
 refine(Nf s.size _ (by omega)).mono ?_;rintro e w1 ⟨v0,rfl,o0,b0⟩;have s0:=b0.size
 go_wp2_with (first
       |(at_builtin;refine Lib.wpList_append_own_string _ rfl _ _ 31 9 rfl w.heap.size 5 i0 Tryz.underlying31 Tryz.underlying9 hi hz0 hz1 hz2 _ _ _ rfl o0 s rfl (by unfold maxLen;omega) (by omega) s0 ?_;intro v' w2 ho' hg' _;have R:=Wn s0 o0 b0 ho' hg';clear ho' hg' o0))
 go_ret;exact⟨_,rfl,R.1,R.2⟩
theorem Tryz.infoB:(Tryz.prog.info? 350).map (fun i=>(i.zero,i.size,i.bytes))=some (some (.agg #[.pointer none,.slice none 0 0]),2,32):=by kernel_rfl
theorem AAl:liesAt Tryz.prog Tryz.prog.depth 350 (2/Tryz.prog.cellsOf 350) 0 350 1=true:=by kernel_rfl

theorem aM(b:Nat)(w:World)(h0:w.cell? ⟨b,0,none⟩=some (.pointer (some ⟨b,0,none⟩))):
 Calls Tryz.prog 304 #[.pointer (some ⟨b,0,none⟩)] w fun e w'=>e= .returned (.tuple #[])∧w'=w:=by
 obtain⟨j,hj,_⟩:=info_parts Tryz.infoB;have hq:=Lib.run_neq_ptr_same (P:=Tryz.prog) w (⟨b,0,none⟩:Addr) Tryz.underlying348 hj;go_enter Tryz.func304,Tryz.ntmps304
 go_wp2
 go_end0
 exact⟨rfl,rfl⟩

theorem TZ(b:Nat)(w:World)(h0:w.cell? ⟨b,0,none⟩=some (.pointer none))(hsh:w.shape? b=some (350,2))(hfz:w.frozen? ⟨b,0,none⟩=false):
 Calls Tryz.prog 304 #[.pointer (some ⟨b,0,none⟩)] w fun e w'=>e= .returned (.tuple #[])∧w'=w.setCell ⟨b,0,none⟩ (.pointer (some ⟨b,0,none⟩)):=by
 obtain⟨j,hj,_,hjs,_⟩:=info_parts Tryz.infoB;have hlt:b<w.heap.size:=AU h0;have k1:=Lib.run_to_unsafe (P:=Tryz.prog) w (⟨b,0,none⟩:Addr) Tryz.underlying348 Tryz.underlying272 hj (by rw[hjs];decide) hsh (show 0<2 by decide)
 have k2:∀x:Value,(callFunc 315 #[x]).run Tryz.prog w= .ok (.value x) w:=fun x=>by
  rw[run_callFunc_extern Tryz.func315 (by kernel_rfl) (by kernel_rfl) (by kernel_rfl) (e:=Extern.AbiNoEscape.same) (by kernel_rfl),Lib.run_noEscape];rfl
 have k3:=Lib.run_from_unsafe (P:=Tryz.prog) w (⟨b,0,none⟩:Addr) Tryz.underlying272 Tryz.underlying348 hj hsh AAl;have hq:=Lib.run_neq_ptr_same (P:=Tryz.prog) (w.setCell ⟨b,0,none⟩ (.pointer (some ⟨b,0,none⟩))) (⟨b,0,none⟩:Addr) Tryz.underlying348 hj;have hc:=World.cell?_setCell_same w ⟨b,0,none⟩ (.pointer (some ⟨b,0,none⟩)) h0;go_enter Tryz.func304,Tryz.ntmps304
 go_wp2
 go_end0
 exact⟨rfl,rfl⟩

theorem kD(B b:Nat)(bs:List Value)(w:World)(h:Lib.IsBuilder 350 5 B b bs w):
 Calls Tryz.prog 304 #[.pointer (some ⟨b,0,none⟩)] w fun e w'=>e= .returned (.tuple #[])∧Lib.BuilderAt 350 5 B b (.pointer (some ⟨b,0,none⟩)) bs w'∧Below B w w':=by
 rcases h with h|h
 ·refine(TZ b w h.cell0 h.shape h.frozen0).mono ?_;rintro e w' ⟨rfl,rfl⟩;exact⟨rfl,h.used _,(Below.refl B w).setCell (p:=⟨b,0,none⟩) h.1 _⟩
 refine(aM b w h.cell0).mono ?_;rintro e w' ⟨rfl,rfl⟩;exact⟨rfl,h,Below.refl B _⟩
theorem iW{w:World}{B:Nat}{e:TypeId}{k:Nat}{v:Value}{n:Nat}{xs:List Value}(h:w.ownsRow B e k v n xs)(hn:0<n):∃g cap,v= .slice (some ⟨g,0,none⟩) n cap:=by
 rcases h.2 with⟨_,h0⟩|⟨g,cap,cur,hv,_⟩
 ·omega
 exact⟨g,cap,hv⟩
theorem ui{w1 w2:World}{b:Nat}{v p:Value}(hbk:w1.heap[b]? =some (.cells #[p,v] 350 (0,0)))(hg:w1.grownBy w2 v.ownBlock)(hne:v.ownBlock≠some b):w2.heap[b]? =some (.cells #[p,v] 350 (0,0)):=by
 have hlt:b<w1.heap.size:=(Array.getElem?_eq_some_iff.1 hbk).1;rw[hg.block b hlt (fun e=>hne e.symm)];exact hbk

theorem writeString(B b:Nat)(bs:List Value)(s:ByteArray)(w:World)(h:Lib.IsBuilder 350 5 B b bs w)(hlen:bs.length≤1000000000)(hs:s.size≤1000000000)(hs0:0<s.size)(hBw:B≤w.heap.size):
 Calls Tryz.prog 297 #[.pointer (some ⟨b,0,none⟩),.string s] w fun e w'=>e= .returned (.tuple #[.int .i64 s.size,.nilIface])∧Lib.BuilderAt 350 5 B b (.pointer (some ⟨b,0,none⟩)) (bs++Lib.strCells s) w'∧Below B w w':=by
 obtain⟨i0,hi,hz0,hz1,hz2⟩:=info_parts Tryz.info5;go_enter Tryz.func297,Tryz.ntmps297
 go_wp2_with fail
 refine(kD B b bs _ h).mono ?_;rintro e w1 ⟨rfl,⟨hB,v,hbk,hown,hne⟩,b1⟩;have s1:=b1.size;have c1:w1.cell? ⟨b,1,none⟩=some v:=by rw[Lib.cell_of_heap hbk];rfl
 clear h
 go_wp2_with (first
  |(at_builtin;refine Lib.wpList_append_own_string _ rfl _ _ 31 9 rfl B 5 i0 Tryz.underlying31 Tryz.underlying9 hi hz0 hz1 hz2 _ _ _ rfl hown s rfl (by unfold maxLen;omega) (by omega) (by omega) ?_;intro v' w2 ho' hg' _;have hb2:=ui hbk hg' hne;have d1:w2.cell? ⟨b,1,none⟩=some v:=(by rw[Lib.cell_of_heap hb2];rfl);have f1:=Lib.frozen_of_heap hb2 1;have be:=b1.grown hg' (by omega) (fun k hk=>(hown.lt k hk).1);obtain⟨g,cap,rfl⟩:=iW ho' (by omega);clear hg' hown hbk c1))
 go_ret2
 exact⟨rfl,Lib.BuilderAt.put hB hb2 (bs':=bs++Lib.strCells s) (by simpa[Lib.strCells_length]using ho') (by decide),be.setCell (p:=⟨b,1,none⟩) hB _⟩
def XI(ps:List (List UInt8)):List UInt8:=ps.flatMap fun t=>44 :: t
def Md:List (List UInt8)→List UInt8
 | []=>[]
 |p :: ps=>p++XI ps
theorem MF(p:List UInt8)(ps:List (List UInt8)):XI (p :: ps)=44 :: Md (p :: ps):=by simp[XI,Md]
theorem oH(ps:List (List UInt8))(k:Nat)(h:k<ps.length):XI (ps.take (k+1))=XI (ps.take k)++44 :: ps.getD k []:=by
 rw[List.take_succ_eq_append_getElem h];unfold XI;rw[List.flatMap_append]
 congr 1
 simp[List.getD_eq_getElem?_getD,h]
theorem xw(ps:List (List UInt8))(h:∀p ∈ ps,p.length≤21):(XI ps).length≤ps.length*22:=by
 induction ps with
 |nil=>simp[XI]
 |cons p ps ih=>
  have h1:=h p (by simp);have h2:=ih (fun q hq=>h q (by simp[hq]));simp only[XI,List.flatMap_cons,List.length_append,List.length_cons]at *;omega
theorem j_{a b x y:List UInt8}(ha:(44:UInt8) ∉ a)(hb:(44:UInt8) ∉ b)(h:a++44 :: x=b++44 :: y):a=b∧x=y:=by
 induction a generalizing b with
 |nil=>
  cases b with
  |nil=>simpa using h
  |cons c b=>simp at h;exact absurd (by simp[h.1]) hb
 | cons c a ih=>
  cases b with
  |nil=>simp at h;exact absurd (by simp[h.1]) ha
  |cons d b=>
   simp only[List.cons_append,List.cons.injEq]at h;have:=ih (b:=b) (fun q=>ha (by simp[q])) (fun q=>hb (by simp[q])) h.2;exact⟨by rw[h.1,this.1],this.2⟩
theorem xx(ps qs:List (List UInt8))(hp:∀p ∈ ps,p≠[]∧(44:UInt8) ∉ p)(hq:∀q ∈ qs,q≠[]∧(44:UInt8) ∉ q)(h:Md ps=Md qs):ps=qs:=by
 induction ps generalizing qs with
 | nil=>
  cases qs with
  |nil=>rfl
  |cons q qs=>
   simp only[Md]at h;exact absurd (List.append_eq_nil_iff.1 h.symm).1 (hq q (by simp)).1
 | cons p ps ih=>
  cases qs with
  |nil=>
   simp only[Md]at h;exact absurd (List.append_eq_nil_iff.1 h).1 (hp p (by simp)).1
  | cons q qs=>
   have pc:=(hp p (by simp)).2;have qc:=(hq q (by simp)).2;simp only[Md]at h;cases ps with
   | nil=>
    cases qs with
    |nil=>simpa[XI]using h
    |cons q2 qs=>
     rw[MF]at h;simp only[XI,List.flatMap_nil,List.append_nil]at h;exact absurd (by rw[h];simp) pc
   | cons p2 ps=>
    cases qs with
    |nil=>
     rw[MF]at h;simp only[XI,List.flatMap_nil,List.append_nil]at h;exact absurd (by rw[←h];simp) qc
    |cons q2 qs=>
     rw[MF,MF]at h;obtain⟨e1,e2⟩:=j_ pc qc h;rw[e1,ih (q2 :: qs) (fun x hx=>hp x (by simp at hx⊢;exact .inr hx)) (fun x hx=>hq x (by simp at hx⊢;exact .inr hx)) e2]
theorem Gi(u:Nat)(h:¬u<10):Lib.decDigits u=Lib.decDigits (u/10)++[UInt8.ofNat (48+u%10)]:=by rw[Lib.decDigits,dif_neg h]
theorem Jl(d:Nat)(h:d<10):(UInt8.ofNat (48+d)).toNat=48+d:=by rw[UInt8.toNat_ofNat'];omega
theorem TV(u:Nat):∀c ∈ Lib.decDigits u,48≤c.toNat∧c.toNat≤57:=by
 induction u using Nat.strongRecOn with
 | ind u ih=>
  intro c hc;by_cases h:u<10
  ·rw[Lib.decDigits_one h]at hc;have e:c=UInt8.ofNat (48+u):=by simpa using hc
   have:=Jl u h;rw[e];omega
  rw[Gi u h,List.mem_append]at hc;rcases hc with hc|hc
  ·exact ih (u/10) (by omega) c hc
  have e:c=UInt8.ofNat (48+u%10):=by simpa using hc
  have:=Jl (u%10) (by omega);rw[e];omega
theorem aJ(u:Nat):Lib.decDigits u≠[]:=by
 intro e;have:=congrArg List.length e;rw[Lib.decDigits_length]at this;have:=Lib.nDigits_pos u;simp at *;omega
theorem eU(u v:Nat)(e:Lib.decDigits u=Lib.decDigits v):u=v:=by
 induction u using Nat.strongRecOn generalizing v with
 | ind u ih=>
  by_cases h:u<10
  ·by_cases k:v<10
   ·rw[Lib.decDigits_one h,Lib.decDigits_one k]at e;have:=congrArg UInt8.toNat (List.cons.inj e).1;rw[Jl u h,Jl v k]at this;omega
   rw[Lib.decDigits_one h,Gi v k]at e;have hl:=congrArg List.length e;have:=List.length_pos_iff.2 (aJ (v/10));simp only[List.length_append,List.length_cons,List.length_nil]at hl;omega
  by_cases k:v<10
  ·rw[Lib.decDigits_one k,Gi u h]at e;have hl:=congrArg List.length e;have:=List.length_pos_iff.2 (aJ (u/10));simp only[List.length_append,List.length_cons,List.length_nil]at hl;omega
  rw[Gi u h,Gi v k]at e;obtain⟨e1,e2⟩:=List.append_inj' e rfl;have:=ih (u/10) (by omega) (v/10) e1;have e3:=congrArg UInt8.toNat (List.cons.inj e2).1;rw[Jl _ (by omega),Jl _ (by omega)]at e3;omega
theorem Kg(n:Int):Lib.itoa n≠[]∧(44:UInt8) ∉ Lib.itoa n:=by
 have no:∀u,(44:UInt8) ∉ Lib.decDigits u:=fun u hc=>by have:=TV u 44 hc;simp at this
 rw[Lib.itoa]
 split
 ·exact⟨by simp,by simp[no]⟩
 exact⟨aJ _,no _⟩
theorem XJ{n m:Int}(e:Lib.itoa n=Lib.itoa m):n=m:=by
 have no:∀u r,(45:UInt8) :: r≠Lib.decDigits u:=fun u r h=>by have:=TV u 45 (by rw[←h];simp);simp at this
 rw[Lib.itoa,Lib.itoa]at e
 split at e
 ·split at e
  ·have:=eU _ _ (List.cons.inj e).2;omega
  exact absurd e (no _ _)
 split at e
 ·exact absurd e.symm (no _ _)
 have:=eU _ _ e;omega
def j3(xs:List Int):List UInt8:=Md (xs.map Lib.itoa)
theorem pJ{xs ys:List Int}(e:j3 xs=j3 ys):xs=ys:=by
 have h:=xx _ _ (fun p hp=>by obtain⟨n,_,rfl⟩:=List.mem_map.1 hp;exact Kg n) (fun p hp=>by obtain⟨n,_,rfl⟩:=List.mem_map.1 hp;exact Kg n) e;exact(List.map_inj_right (fun _ _ h=>XJ h)).1 h
theorem NC(s:ByteArray):Lib.strCells s=Lib.byteCells s.data.toList:=by simp[Lib.strCells,Lib.byteCells]
theorem Tc(x y:List UInt8):Lib.byteCells x++Lib.byteCells y=Lib.byteCells (x++y):=by simp[Lib.byteCells]
theorem Ta(x:List UInt8):(Lib.byteCells x).length=x.length:=by simp[Lib.byteCells]
theorem sZ:(350:TypeId)≠5:=by decide

theorem o6(B b n:Nat)(w:World)(hB:B≤b)(hbk:w.heap[b]? =some (.cells #[.pointer (some ⟨b,0,none⟩),.slice none 0 0] 350 (0,0)))(hBw:B≤w.heap.size)(hn:n≤1000000000):
 Calls Tryz.prog 305 #[.pointer (some ⟨b,0,none⟩),.int .i64 n] w fun e w'=>e= .returned (.tuple #[])∧Lib.BuilderAt 350 5 B b (.pointer (some ⟨b,0,none⟩)) [] w'∧Below B w w':=by
 obtain⟨i0,hi,_,hz1,_⟩:=info_parts Tryz.info5;obtain⟨cs,hrun,hle,hmax⟩:=Lib.run_makeNoZero (P:=Tryz.prog) w.drew #[3] 31 5 Tryz.underlying31 n (by omega);have hlt:b<w.heap.size:=(Array.getElem?_eq_some_iff.1 hbk).1;have hw:IntKind.i64.wrap (IntKind.i64.wrap 0+(n:Int))=n:=by rw[IntKind.wrap_i64,IntKind.wrap_i64];omega
 have hcall:(callFunc 316 #[.int .i64 (IntKind.i64.wrap (IntKind.i64.wrap 0+(n:Int)))]).run Tryz.prog w.drew= .ok (.value (.slice (some ⟨w.drew.heap.size,0,none⟩) n cs.size)) (w.drew.drew.drew.alloc (.cells cs 5)):=by
  rw[hw,run_callFunc_extern Tryz.func316 (by kernel_rfl) (by kernel_rfl) (by kernel_rfl) (e:=Extern.BytealgMakeNoZero.makeNoZero #[3] #[31]) (by kernel_rfl),hrun];rfl
 have c1:w.drew.cell? ⟨b,1,none⟩=some (.slice none 0 0):=by rw[Lib.cell_of_heap (w:=w.drew) hbk];rfl
 have hold:(w.alloc (.cells cs 5)).heap[b]? =_:=(Lib.alloc_old w _ b hlt).trans hbk;have c2:(w.alloc (.cells cs 5)).cell? ⟨b,1,none⟩=some (.slice none 0 0):=by rw[Lib.cell_of_heap hold];rfl
 have f2:(w.alloc (.cells cs 5)).frozen? ⟨b,1,none⟩=false:=Lib.frozen_of_heap hold 1
 have hcopy:∀W:World,(Builtin.copy_ #[31,31] 3 #[.slice (some ⟨w.heap.size,0,none⟩) 0 cs.size,.slice none 0 0]).run Tryz.prog W= .ok (goInt 0) W:=
  fun W=>run_copy_none W 31 31 3 5 _ _ 0 cs.size 0 0 Tryz.underlying31 (by rw[hi];simp[hz1]) rfl
 have hfin:=Lib.grown_fresh (T:=350) (e:=5) (cs:=cs) hB hbk hBw (hmax (by unfold maxLen;omega)) sZ;have c2':((w.alloc (.cells cs 5)).drew.drew.drew).cell? ⟨b,1,none⟩=some (.slice none 0 0):=c2;clear hw hrun hmax hlt hold hbk;go_enter Tryz.func305,Tryz.ntmps305
 go_upto_region 0 with fail
 refine wp_region_noPanic ?_;refine wp_region_held_drew (S:=fun w'=>w'.cell? ⟨b,1,none⟩=some (.slice none 0 0)) (by kernel_rfl) c1 (fun hHeld=>?_);refine tx 0 5 ?_;refine tx 6 11 ?_;refine tx 9 14 ?_;refine tx 1 6 ?_;refine tx 10 15 ?_;refine tx 2 7 ?_;refine tx 11 16 ?_;refine tx 3 8 ?_;refine tx 12 17 ?_;refine tx 4 9 ?_;refine tx 13 18 ?_;refine tx 5 10 ?_;refine tx 7 12 ?_;refine rd 8 rfl (fun KK AA=>?_);go_simp;clear hHeld;refine AA.out _ _ c2' (fun hHeld=>?_);clear AA KK;refine tx 14 19 ?_;refine tx 15 4 ?_;clear hHeld;refine Bu ?_;go_wp2
 go_end0
 exact⟨rfl,hfin⟩

theorem o8(B b n:Nat)(w:World)(hB:B≤b)(hbk:w.heap[b]? =some (.cells #[.pointer none,.slice none 0 0] 350 (0,0)))(hBw:B≤w.heap.size)(hn:n≤1000000000):
 Calls Tryz.prog 296 #[.pointer (some ⟨b,0,none⟩),.int .i64 n] w fun e w'=>e= .returned (.tuple #[])∧Lib.BuilderAt 350 5 B b (.pointer (some ⟨b,0,none⟩)) [] w'∧Below B w w':=by
 obtain⟨w1,hw1⟩:∃w1,w.setCell ⟨b,0,none⟩ (.pointer (some ⟨b,0,none⟩))=w1:=⟨_,rfl⟩
 have hbk1:w1.heap[b]? =some (.cells #[.pointer (some ⟨b,0,none⟩),.slice none 0 0] 350 (0,0)):=by rw[←hw1];simp[World.setCell,Array.getElem?_modify,hbk]
 have b1:Below B w w1:=hw1▸(Below.refl B w).setCell (p:=⟨b,0,none⟩) hB _;have c1:w1.cell? ⟨b,1,none⟩=some (.slice none 0 0):=by rw[Lib.cell_of_heap hbk1];rfl
 have c1':w1.drew.cell? ⟨b,1,none⟩=some (.slice none 0 0):=c1;have hU:Lib.BuilderAt 350 5 B b (.pointer (some ⟨b,0,none⟩)) [] w1:=⟨hB,.slice none 0 0,hbk1,World.ownsRow_nil _ _ _ _,by simp[Value.ownBlock]⟩
 have CK:=hide (TZ b w (by rw[Lib.cell_of_heap hbk];rfl) (by simp[World.shape?,hbk]) (Lib.frozen_of_heap hbk 0));rw[hw1]at CK;have GN:=hide (o6 B b n w1.drew hB hbk1 (Nat.le_trans hBw b1.size) hn);have hn0:decide ((n:Int)<0)=false:=by simp
 clear hw1;go_enter Tryz.func296,Tryz.ntmps296
 go_wp2_with fail
 refine CK.out.mono ?_;rintro e w' ⟨rfl,rfl⟩;by_cases h0:n=0
 ·subst h0;go_upto_region 3 with fail
  refine wp_region_noPanic ?_;refine wp_region_held_drew (S:=fun w'=>w'.cell? ⟨b,1,none⟩=some (.slice none 0 0)) (by kernel_rfl) c1' (fun hHeld=>?_);refine tx 0 9 ?_;refine tx 5 14 ?_;refine tx 11 20 ?_;refine tx 1 10 ?_;refine tx 6 15 ?_;refine tx 2 11 ?_;refine tx 7 16 ?_;refine tx 3 12 ?_;refine tx 8 17 ?_;refine tx 4 13 ?_;refine tx 9 18 ?_;refine tx 10 19 ?_;refine tx 12 21 ?_;clear hHeld;refine Bu ?_;go_wp2
  go_end0
  exact⟨rfl,hU.drew,b1.drew⟩
 have hd:decide (IntKind.i64.wrap 0<(n:Int))=true:=by rw[IntKind.wrap_i64];simp;omega
 go_upto_region 3 with fail
 refine wp_region_noPanic ?_;refine wp_region_held_drew (S:=fun w'=>w'.cell? ⟨b,1,none⟩=some (.slice none 0 0)) (by kernel_rfl) c1' (fun hHeld=>?_);refine tx 0 9 ?_;refine tx 5 14 ?_;refine tx 11 20 ?_;refine tx 1 10 ?_;refine tx 6 15 ?_;refine tx 2 11 ?_;refine tx 7 16 ?_;refine tx 3 12 ?_;refine tx 8 17 ?_;refine tx 4 13 ?_;refine tx 9 18 ?_;refine tx 10 19 ?_;refine tx 12 21 ?_;clear hHeld;refine Bu ?_;go_wp2_with fail
 refine GN.out.mono ?_;rintro e w2 ⟨rfl,h1,h2⟩;go_wp2
 go_end0
 exact⟨rfl,h1,b1.drew.trans h2⟩
theorem oI(ps:List (List UInt8))(k:Nat):(Md (ps.take k)).length≤(Md ps).length:=by
 have h:∀(qs:List (List UInt8)) j,(XI (qs.take j)).length≤(XI qs).length:=fun qs j=>by
  unfold XI
  conv=>rhs;rw[←List.take_append_drop j qs,List.flatMap_append,List.length_append]
  omega
 cases ps with
 |nil=>simp
 |cons p ps=>
  cases k with
  |zero=>simp[Md]
  |succ k=>simp only[List.take_succ_cons,Md,List.length_append];have:=h ps k;omega
theorem oJ(ps:List (List UInt8))(k:Nat)(h:k+1<ps.length):Md (ps.take (k+2))=Md (ps.take (k+1))++44 :: ps.getD (k+1) []:=by
 cases ps with
 |nil=>simp at h
 |cons p ps=>
  simp only[List.take_succ_cons,Md];rw[oH ps k (by simpa using h),List.append_assoc];rfl

theorem join_none(a:Option Addr)(c:Nat)(w:World):
 Calls Tryz.prog 280 #[.slice a 0 c,.string ⟨#[44]⟩] w fun e w'=>e= .returned (.string ⟨#[]⟩)∧Below w.heap.size w w':=by
 go_enter Tryz.func280,Tryz.ntmps280
 go_wp2;go_ret;exact⟨rfl,Below.refl _ _⟩
theorem join_one(b c:Nat)(s:ByteArray)(w:World)(h:w.cell? ⟨b,0,none⟩=some (.string s)):
 Calls Tryz.prog 280 #[.slice (some ⟨b,0,none⟩) 1 c,.string ⟨#[44]⟩] w fun e w'=>e= .returned (.string s)∧Below w.heap.size w w':=by
 go_enter Tryz.func280,Tryz.ntmps280
 go_wp2;go_ret;exact⟨rfl,Below.refl _ _⟩

theorem jR(b c n:Nat)(ss:List ByteArray)(w:World)(hn:ss.length=n)(h2:2≤n)(hl:n≤4194304)(hc:n≤c)(hs:∀s ∈ ss,0<s.size∧s.size≤21)
 (h:∀k,k<n→w.cell? ⟨b,k,none⟩=some (.string (ss.getD k ⟨#[]⟩))):
 Calls Tryz.prog 280 #[.slice (some ⟨b,0,none⟩) n c,.string ⟨#[44]⟩] w fun e w'=>e= .returned (.string ⟨(Md (ss.map (·.data.toList))).toArray⟩)∧Below w.heap.size w w':=by
 have hb:b<w.heap.size:=AU (h 0 (by omega))
 have hsz:∀k,k<n→0<(ss.getD k ⟨#[]⟩).size∧(ss.getD k ⟨#[]⟩).size≤21:=fun k hk=>by
  have hk':k<ss.length:=by omega
  rw[List.getD_eq_getElem?_getD,List.getElem?_eq_getElem hk'];exact hs _ (List.getElem_mem hk')
 have hlen:(Md (ss.map (·.data.toList))).length≤n*22+21:=by
  cases ss with
  |nil=>simp[Md]
  |cons s ss=>
   have h1:=(hs s (by simp)).2;have h3:=xw (ss.map (·.data.toList)) (fun p hp=>by obtain⟨t,ht,rfl⟩:=List.mem_map.1 hp;have h5:=(hs t (by simp[ht])).2;have h6:t.data.toList.length=t.size:=Array.length_toList;omega);simp only[List.map_cons,Md,List.length_append,List.length_map,List.length_cons]at *;have h6:s.data.toList.length=s.size:=Array.length_toList;omega
 have HS:=hide hsz;have HC:=hide h;have HL:=hide fun k=>oI (ss.map (·.data.toList)) k;have HN:=hide fun k(hk:k+1<n)=>oJ (ss.map (·.data.toList)) k (by simpa[hn]using hk)
 have HG:Hid (∀k,k<n→(ss.map (·.data.toList)).getD k []=(ss.getD k ⟨#[]⟩).data.toList):=hide fun k hk=>by
  have hk':k<ss.length:=by omega
  simp[List.getD_eq_getElem?_getD,hk']
 have HA:Hid ((ss.map (·.data.toList)).take n=ss.map (·.data.toList)):=hide (List.take_of_length_le (by simp[hn]))
 have H1:Hid (Md ((ss.map (·.data.toList)).take 1)=(ss.getD 0 ⟨#[]⟩).data.toList):=hide (by
  cases ss with
  |nil=>simp at hn;omega
  |cons s ss=>simp[Md,XI])
 generalize ss.map (·.data.toList)=ps at *;have hne0:((n:Int)==0)=false:=beq_eq_false_iff_ne.2 (by omega);have hne1:((n:Int)==1)=false:=beq_eq_false_iff_ne.2 (by omega)
 have hq:¬(9223372036854775807/((n:Int)-1)≤1):=by
  have h1:(2:Int)*((n:Int)-1)≤9223372036854775807:=by omega
  have:=Int.le_ediv_of_mul_le (show(0:Int)<(n:Int)-1 by omega) h1;omega
 clear h hs hsz hn;go_enter Tryz.func280,Tryz.ntmps280
 go_wp2_with fail
 go_loopw [5,41] (fun a i wr=>∃k t:Nat,k≤n∧i= .int .i64 k∧a= .int .i64 t∧t≤n+21*k∧wr=w) (fun _ i _=>n-(intOf i).toNat)
 case atStart=>exact⟨0,n-1,Nat.zero_le _,rfl,by congr 1;omega,by omega,rfl⟩
 case round=>
  obtain⟨k,t,hk,rfl,rfl,ht,hw⟩:=hrel;have hw':=hw.symm;subst hw';clear hw;by_cases hlt:k<n
  ·have hcell:=HC.out k hlt;have hss:=HS.out k hlt;generalize ss.getD k ⟨#[]⟩=s at *;have hd:decide (9223372036854775807-(t:Int)<(s.size:Int))=false:=by simp;omega
   go_wp2
   go_roundw
   case rel=>exact⟨k+1,t+s.size,by omega,by go_num,by go_num,by omega,trivial⟩
   case measure=>simp[intOf];omega
  have hke:k=n:=by omega
  subst hke;clear hlt hk;go_wp2_with fail
  refine(o8 w.heap.size w.heap.size t _ Af (heap_alloc_new w _) (by simp) (by omega)).mono ?_;rintro e w1 ⟨rfl,G1,b1⟩;have B1:Below w.heap.size w w1:=((Below.refl _ w).alloc Af _).trans b1;have hcell:=(B1.cell (p:=⟨b,0,none⟩) hb).trans (HC.out 0 (by omega));have hss:=HS.out 0 (by omega);have HI:=hide G1;have s1:=B1.size;clear b1 G1;generalize ss.getD 0 ⟨#[]⟩=s0 at *;go_wp2_with fail
  refine(writeString _ _ _ s0 _ (.inr HI.out) (by simp) (by omega) (by omega) (by omega)).mono ?_;rintro e w2 ⟨rfl,G2,b2⟩;have B2:Below w.heap.size w w2:=B1.trans b2
  have HI2:Hid (Lib.IsBuilder 350 5 w.heap.size w.heap.size (Lib.byteCells (Md (ps.take 1))) w2):=by
   show Lib.IsBuilder _ _ _ _ _ _;rw[H1.out,←NC];exact .inr (by simpa using G2)
  have s2:=B2.size;clear G2 b2 HI B1 s1 hcell hss;go_wp2_with fail
  go_loopw [65] (fun i wx=>∃j:Nat,j≤k-1∧i= .int .i64 j∧Hid (Lib.IsBuilder 350 5 w.heap.size w.heap.size (Lib.byteCells (Md (ps.take (j+1)))) wx)∧Below w.heap.size w wx) (fun i _=>k-1-(intOf i).toNat)
  case atStart=>exact⟨0,Nat.zero_le _,rfl,HI2,B2⟩
  case round=>
   clear HI2 B2 s2;obtain⟨j,hj,rfl,HB,Bx⟩:=hrel;have sx:=Bx.size;by_cases hlt:j<k-1
   ·have hcell:wr.cell? ⟨b,1+j,none⟩=some (.string (ss.getD (1+j) ⟨#[]⟩)):=(Bx.cell (p:=⟨b,1+j,none⟩) hb).trans (HC.out (1+j) (by omega));have hss:=HS.out (1+j) (by omega);have HE:Hid (Md (ps.take (j+2))=Md (ps.take (j+1))++44 :: (ss.getD (1+j) ⟨#[]⟩).data.toList):=hide (by rw[HN.out j (by omega),HG.out (j+1) (by omega),show 1+j=j+1 from Nat.add_comm 1 j]);have hlj:=Nat.le_trans (HL.out (j+1)) hlen;generalize ss.getD (1+j) ⟨#[]⟩=s at *;go_wp2_with fail
    refine(writeString _ _ _ ⟨#[44]⟩ _ HB.out (by rw[Ta];omega) (by decide) (by decide) (by omega)).mono ?_;rintro e w3 ⟨rfl,G3,b3⟩;have B3:Below w.heap.size w w3:=Bx.trans b3;replace hcell:=(b3.cell (p:=⟨b,1+j,none⟩) hb).trans hcell;have HI3:=hide G3;have s3:=B3.size;clear G3 b3;go_wp2_with fail
    refine(writeString _ _ _ s _ (.inr HI3.out) (by simp only[List.length_append,Ta,Lib.strCells_length];have:(⟨#[44]⟩:ByteArray).size=1:=rfl;omega) (by omega) (by omega) (by omega)).mono ?_;rintro e w4 ⟨rfl,G4,b4⟩;have B4:Below w.heap.size w w4:=B3.trans b4
    have HI4:Hid (Lib.IsBuilder 350 5 w.heap.size w.heap.size (Lib.byteCells (Md (ps.take (j+2)))) w4):=by
     show Lib.IsBuilder _ _ _ _ _ _;rw[HE.out,show∀(x:List UInt8)(y:List UInt8),x++44 :: y=x++((⟨#[44]⟩:ByteArray).data.toList++y) from fun _ _=>rfl,←Tc,←Tc,←NC,←NC,←List.append_assoc];exact .inr G4
    clear G4 b4 HI3 HE;go_wp2
    go_roundw
    case rel=>exact⟨j+1,by omega,by go_num,HI4,B4⟩
    case measure=>simp[intOf];omega
   have hje:j+1=k:=by omega
   have hB':=HB.out;rw[hje,HA.out]at hB';have HB':=hide hB';clear HB hB' hje;go_wp2_with fail
   refine(Tryz.Builder_String_any w.heap.size w.heap.size _ _ HB'.out (by omega)).mono ?_;rintro e w5 ⟨rfl,b5⟩;have B5:=Bx.trans b5;go_wp2;go_ret;exact⟨rfl,B5⟩
theorem oG(b c:Nat)(ss:List ByteArray)(w:World)(hl:ss.length≤4194304)(hc:ss.length≤c)(hs:∀s ∈ ss,0<s.size∧s.size≤21)
 (h:∀k,k<ss.length→w.cell? ⟨b,k,none⟩=some (.string (ss.getD k ⟨#[]⟩))):
 Calls Tryz.prog 280 #[.slice (some ⟨b,0,none⟩) ss.length c,.string ⟨#[44]⟩] w fun e w'=>e= .returned (.string ⟨(Md (ss.map (·.data.toList))).toArray⟩)∧Below w.heap.size w w':=by
 by_cases h2:2≤ss.length
 ·exact jR b c ss.length ss w rfl h2 hl hc hs h
 match ss,h with
 | [],_=>exact join_none _ _ w
 | [s],h=>
  have:=join_one b c s w (h 0 (by simp));simpa[Md,XI]using this
 |s :: t :: r,_=>simp at h2
theorem UT(w:World)(c:Int):(convert 31 9 (.slice (some ⟨w.heap.size,0,none⟩) 1 1)).run Tryz.prog (w.alloc (.cells #[.int .u8 c] 5))= .ok (.string (strOfNums [c])) (w.alloc (.cells #[.int .u8 c] 5)):=by
 refine run_convert_bytes_arg (P:=Tryz.prog) _ 31 5 Tryz.underlying31 Tryz.underlying5 w.heap.size 0 1 1 [c] rfl (fun i hi=>?_) 9 Tryz.underlying9;obtain rfl:i=0:=by omega
 simp
end
section

def rest(m:Nat):List UInt8:=if m=0 then []else Lib.decDigits m
theorem rest_step(m:Nat)(h:m≠0):rest m=rest (m/10)++[UInt8.ofNat (48+m%10)]:=by
 by_cases h10:m<10
 ·have e:m/10=0:=by omega
  rw[rest,if_neg h,Lib.decDigits,dif_pos h10,e,rest,if_pos rfl,Nat.mod_eq_of_lt h10];rfl
 have e:m/10≠0:=by omega
 rw[rest,if_neg h,Lib.decDigits,dif_neg h10,rest,if_neg e]
def yg(n m:Nat)(t:List UInt8):Prop:=rest m++t=rest n∧t.length≤20∧m<10 ^ (20-t.length)
theorem M7(n:Nat)(h:n≤9223372036854775808):yg n n []:=⟨by simp,by simp,by simp;omega⟩
theorem Qz{n m:Nat}{t:List UInt8}(h:yg n m t)(h0:m≠0):yg n (m/10) (UInt8.ofNat (48+m%10) :: t)∧t.length≤19:=by
 obtain⟨h1,h2,h3⟩:=h
 have hl:t.length≤19:=by
  by_cases e:t.length=20
  ·rw[e]at h3;simp at h3;omega
  omega
 refine⟨⟨?_,by simp;omega,?_⟩,hl⟩
 ·rw[rest_step m h0]at h1;simpa using h1
 have e:20-t.length=(20-(t.length+1))+1:=by omega
 rw[e,Nat.pow_succ]at h3;simp only[List.length_cons];exact Nat.div_lt_of_lt_mul (by rw[Nat.mul_comm];exact h3)
theorem Ux{n:Nat}{t:List UInt8}(h:yg n 0 t)(hn:n≠0):t=Lib.decDigits n:=by
 have:=h.1
 rwa [rest,if_pos rfl,List.nil_append,rest,if_neg hn]at this

theorem Qb(k:Nat)(t:List UInt8)(h:k<10):strOfNums [48+(k:Int)]++(⟨t.toArray⟩:ByteArray)=⟨(UInt8.ofNat (48+k) :: t).toArray⟩:=by
 have e:(48+(k:Int)).toNat=48+k:=by omega
 apply ByteArray.ext
 apply Array.toList_inj.1
 simp[strOfNums,e]
theorem Qa(c:Int):(strOfNums [c]).size=1:=rfl
end
section
open Go.RowKit
theorem QG(n:Nat)(w:World)(hn:0<n)(hm:n≤9223372036854775807):
 Calls Tryz.prog 230 #[.int .i64 n] w fun e w'=>e= .returned (.string ⟨(Lib.decDigits n).toArray⟩)∧Below w.heap.size w w':=by
 have hcv:=UT;have hsz:=Qa;have hne:((n:Int)==0)=false:=by simp;omega
 have hlt:decide ((n:Int)<0)=false:=by simp
 go_enter Tryz.func230,Tryz.ntmps230
 go_wp2
 go_loopw [0,4] (fun x s wr=>∃(m:Nat)(t:List UInt8),m≤9223372036854775807∧yg n m t∧x= .int .i64 m∧s= .string ⟨t.toArray⟩∧Below w.heap.size w wr) (fun x _ _=>(intOf x).toNat)
 case atStart=>exact⟨n,[],hm,M7 n (by omega),rfl,rfl,Below.refl _ _⟩
 case round=>
  obtain⟨m,t,hm',hd,rfl,rfl,hb⟩:=hrel;by_cases h0:m=0
  ·subst h0;have HE:=hide (Ux hd (by omega));clear hd;go_wp2;go_ret;have HE':=HE.out;subst HE';exact⟨rfl,hb⟩
  have hne':((m:Int) != 0)=true:=by simp[h0]
  obtain⟨hd',hl⟩:=Qz hd h0;have HD:=hide hd';clear hd hd';have hs0:=hb.size;have hmo:=Qb (m%10) t (by omega);have hbl:Below w.heap.size w (wr.alloc (.cells #[.int .u8 (48+(m:Int)%10)] 5)):=hb.alloc hs0 _;go_wp2
  go_roundw
  case rel=>exact⟨m/10,_,by omega,HD.out,by go_num,by rw[←hmo];rfl,hbl⟩
  case measure=>simp[intOf];omega

theorem QH(n:Nat)(w:World)(hn:0<n)(hm:n≤9223372036854775808):
 Calls Tryz.prog 230 #[.int .i64 (-(n:Int))] w fun e w'=>e= .returned (.string ⟨(45 :: Lib.decDigits n).toArray⟩)∧Below w.heap.size w w':=by
 have hcv:=UT;have hsz:=Qa;have hne:((-(n:Int))==0)=false:=by simp;omega
 have hlt:decide (-(n:Int)<0)=true:=by simp;omega
 go_enter Tryz.func230,Tryz.ntmps230
 go_wp2
 go_loopw [0,4] (fun x s wr=>∃(m:Nat)(t:List UInt8),m≤9223372036854775808∧yg n m t∧x= .int .i64 (-(m:Int))∧s= .string ⟨t.toArray⟩∧Below w.heap.size w wr) (fun x _ _=>(-(intOf x)).toNat)
 case atStart=>exact⟨n,[],hm,M7 n hm,rfl,rfl,Below.refl _ _⟩
 case round=>
  obtain⟨m,t,hm',hd,rfl,rfl,hb⟩:=hrel;by_cases h0:m=0
  ·subst h0;have HE:=hide (Ux hd (by omega));have hl:=hd.2.1;clear hd;go_wp2;go_ret;have HE':=HE.out;subst HE';exact⟨by apply congrArg Ending.returned;apply congrArg Value.string;apply ByteArray.ext;apply Array.toList_inj.1;simp,hb⟩
  have hne':((-(m:Int)) != 0)=true:=by simp[h0]
  obtain⟨hd',hl⟩:=Qz hd h0;have HD:=hide hd';clear hd hd';have hs0:=hb.size;have hmo:=Qb (m%10) t (by omega);have ht:(-(m:Int)).tmod 10= -((m%10:Nat):Int):=by rw[Int.neg_tmod];rfl
  have hq:(-(m:Int)).tdiv 10= -((m/10:Nat):Int):=by rw[Int.neg_tdiv];rfl
  by_cases hz:m%10=0
  ·have hbl:Below w.heap.size w (wr.alloc (.cells #[.int .u8 48] 5)):=hb.alloc hs0 _;go_wp2
   go_roundw
   case rel=>exact⟨m/10,_,by omega,HD.out,by go_num,by rw[←hmo,hz];rfl,hbl⟩
   case measure=>simp[intOf];omega
  have hbl:Below w.heap.size w (wr.alloc (.cells #[.int .u8 (48+(m:Int)%10)] 5)):=hb.alloc hs0 _;go_wp2
  go_roundw
  case rel=>exact⟨m/10,_,by omega,HD.out,by go_num,by rw[←hmo];rfl,hbl⟩
  case measure=>simp[intOf];omega

theorem Nr(w:World):
 Calls Tryz.prog 230 #[.int .i64 0] w fun e w'=>e= .returned (.string ⟨(Lib.decDigits 0).toArray⟩)∧Below w.heap.size w w':=by
 go_enter Tryz.func230,Tryz.ntmps230
 go_wp2;go_ret;exact⟨by rw[Lib.decDigits];rfl,Below.refl _ _⟩

theorem C9(n:Int)(w:World)(h0: -9223372036854775808≤n)(h1:n≤9223372036854775807):
 Calls Tryz.prog 230 #[.int .i64 n] w fun e w'=>e= .returned (.string ⟨(Lib.itoa n).toArray⟩)∧Below w.heap.size w w':=by
 unfold Lib.itoa;by_cases hn:n<0
 ·obtain⟨m,rfl⟩:∃m:Nat,n= -(m:Int):=⟨n.natAbs,by omega⟩
  rw[if_pos hn,show(-(m:Int)).natAbs=m from by omega];exact QH m w (by omega) (by omega)
 obtain⟨m,rfl⟩:=Int.eq_ofNat_of_zero_le (Int.not_lt.1 hn);rw[if_neg hn,Int.toNat_natCast];by_cases hm:m=0
 ·subst hm;exact Nr w
 exact QG m w (by omega) (by omega)
end
end Go.Proofs.YtcjmcgolgbkknaaGreatDoor
namespace Go.Proofs
open Go.Shelf
def Tryz.laysM171_ren:Go.Shelf.Ren:=⟨fun|171=>279|243=>295|246=>303|283=>311|284=>312|285=>313|286=>314|129=>320|317=>319|318=>321|319=>322|320=>323|337=>326|338=>327|n=>n,fun|3=>3|9=>9|2=>2|4=>4|171=>363|0=>0|53=>364|37=>31|5=>5|173=>367|212=>376|51=>234|20=>20|213=>377|46=>336|232=>384|233=>385|n=>n,fun|17=>5|18=>6|19=>7|n=>n⟩
theorem Tryz.laysM171:Go.Proofs.LaysM.n171 Tryz.prog Tryz.laysM171_ren:={
 mixed:=by kernel_rfl
 f129:=Tryz.func320.trans (congrArg some (by kernel_rfl))
 f171:=Tryz.func279.trans (congrArg some (by kernel_rfl))
 f243:=Tryz.func295.trans (congrArg some (by kernel_rfl))
 f246:=Tryz.func303.trans (congrArg some (by kernel_rfl))
 f283:=Tryz.func311.trans (congrArg some (by kernel_rfl))
 f284:=Tryz.func312.trans (congrArg some (by kernel_rfl))
 f285:=Tryz.func313.trans (congrArg some (by kernel_rfl))
 f286:=Tryz.func314.trans (congrArg some (by kernel_rfl))
 f317:=Tryz.func319.trans (congrArg some (by kernel_rfl))
 f318:=Tryz.func321.trans (congrArg some (by kernel_rfl))
 f319:=Tryz.func322.trans (congrArg some (by kernel_rfl))
 f320:=Tryz.func323.trans (congrArg some (by kernel_rfl))
 f337:=Tryz.func326.trans (congrArg some (by kernel_rfl))
 f338:=Tryz.func327.trans (congrArg some (by kernel_rfl))
 t0:=Tryz.underlying0
 a0:=Tryz.isAgg0
 z0:=Tryz.sizeOf0
 v0:=Tryz.zeroValue0
 t2:=Tryz.underlying2
 a2:=Tryz.isAgg2
 z2:=Tryz.sizeOf2
 v2:=Tryz.zeroValue2
 t3:=Tryz.underlying3
 a3:=Tryz.isAgg3
 z3:=Tryz.sizeOf3
 v3:=Tryz.zeroValue3
 t4:=Tryz.underlying4
 a4:=Tryz.isAgg4
 z4:=Tryz.sizeOf4
 v4:=Tryz.zeroValue4
 t5:=Tryz.underlying5
 a5:=Tryz.isAgg5
 z5:=Tryz.sizeOf5
 v5:=Tryz.zeroValue5
 t9:=Tryz.underlying9
 a9:=Tryz.isAgg9
 z9:=Tryz.sizeOf9
 v9:=Tryz.zeroValue9
 t20:=Tryz.underlying20
 a20:=Tryz.isAgg20
 z20:=Tryz.sizeOf20
 v20:=Tryz.zeroValue20
 t37:=Tryz.underlying31
 a37:=Tryz.isAgg31
 z37:=Tryz.sizeOf31
 v37:=Tryz.zeroValue31
 t46:=Tryz.underlying336
 a46:=Tryz.isAgg336
 z46:=Tryz.sizeOf336
 v46:=Tryz.zeroValue336
 t51:=Tryz.underlying234
 a51:=Tryz.isAgg234
 z51:=Tryz.sizeOf234
 v51:=Tryz.zeroValue234
 t53:=Tryz.underlying364
 a53:=Tryz.isAgg364
 z53:=Tryz.sizeOf364
 v53:=Tryz.zeroValue364
 t171:=Tryz.underlying363
 a171:=Tryz.isAgg363
 z171:=Tryz.sizeOf363
 v171:=Tryz.zeroValue363
 t173:=Tryz.underlying367
 a173:=Tryz.isAgg367
 z173:=Tryz.sizeOf367
 v173:=Tryz.zeroValue367
 t212:=Tryz.underlying376
 a212:=Tryz.isAgg376
 z212:=Tryz.sizeOf376
 v212:=Tryz.zeroValue376
 t213:=Tryz.underlying377
 a213:=Tryz.isAgg377
 z213:=Tryz.sizeOf377
 t232:=Tryz.underlying384
 a232:=Tryz.isAgg384
 z232:=Tryz.sizeOf384
 v232:=Tryz.zeroValue384
 t233:=Tryz.underlying385
 a233:=Tryz.isAgg385
 z233:=Tryz.sizeOf385
 v233:=Tryz.zeroValue385
 g17:=by kernel_rfl
 g18:=by kernel_rfl
 g19:=by kernel_rfl
 i0:=by kernel_rfl
 i2:=by kernel_rfl
 i3:=by kernel_rfl
 i4:=by kernel_rfl
 i5:=by kernel_rfl
 i9:=by kernel_rfl
 i20:=by kernel_rfl
 i37:=by kernel_rfl
 i46:=by kernel_rfl
 i51:=by kernel_rfl
 i53:=by kernel_rfl
 i171:=by kernel_rfl
 i173:=by kernel_rfl
 i212:=by kernel_rfl
 i232:=by kernel_rfl
 i233:=by kernel_rfl
 m17:=by kernel_rfl
 m18:=by kernel_rfl
 m19:=by kernel_rfl }
open Go.RowKit Go.Sort Go.Lib in
theorem Tryz.strconv_Itoa (n : Int) (h0 : -9223372036854775808 ≤ n) (h1 : n ≤ 9223372036854775807) (w : World) (htab : Lib.TabIs Tryz.prog w "internal/strconv.uint64pow10" .u64 Lib.pow10Tab) :
 Calls Tryz.prog 279 #[.int .i64 n] w fun e w'=>e= .returned (.string ⟨(Lib.itoa n).toArray⟩)∧∃k os,w'=grow (w.drewN k) os:=Any.strconv_Itoa Tryz.laysM171 n h0 h1 w htab
end Go.Proofs
namespace Go.Proofs.YtcjmcgolgbkknaaGreatDoor
section
open Go.RowKit
theorem Z_(w:World)(k:Nat)(os:Array Obj):Below w.heap.size w (Sort.grow (w.drewN k) os):=
 ⟨rfl,rfl,rfl,by simp[Sort.grow],fun i hi=>by simp only[Sort.grow,World.heap_drewN];rw[Array.getElem?_append_left hi]⟩

abbrev Pow (w : World) : Prop := Lib.TabIs Tryz.prog w "internal/strconv.uint64pow10" .u64 Lib.pow10Tab
theorem yE : Tryz.prog.globalNamed "internal/strconv.uint64pow10" = some 5 := by kernel_rfl
theorem Pow.below{w w':World}(h:Pow w)(hb:Below w.heap.size w w'):Pow w':=by
 have hlt:5<w.heap.size:=AU (h.cell yE 0 (by decide));exact var?_below hb yE hlt h

theorem Es(n:Int)(w:World)(h0: -9223372036854775808≤n)(h1:n≤9223372036854775807)(ht:Pow w):
 Calls Tryz.prog 258 #[.int .i64 n] w fun e w'=>e= .returned (.string ⟨(Lib.itoa n).toArray⟩)∧Below w.heap.size w w':=by
 go_enter Tryz.func258,Tryz.ntmps258
 go_wp2_with fail
 refine(Tryz.strconv_Itoa n h0 h1 _ ht).mono ?_;rintro e w' ⟨rfl,k,os,rfl⟩;go_wp2;go_ret;exact⟨rfl,Z_ _ _ _⟩
def I7(n:Int):ByteArray:=⟨(Lib.itoa n).toArray⟩
theorem pM(n:Int):(I7 n).data.toList=Lib.itoa n:=by simp[I7]
def Gy(xs:List Int)(k:Nat):List Value:=((xs.take k).map I7++List.replicate (xs.length-k) (⟨#[]⟩:ByteArray)).map Value.string
theorem Y8(xs:List Int):Gy xs 0=List.replicate xs.length (.string ⟨#[]⟩):=by simp[Gy]
theorem g_(xs:List Int):Gy xs xs.length=(xs.map I7).map Value.string:=by simp[Gy]
theorem gz(xs:List Int)(k:Nat)(h:k≤xs.length):(Gy xs k).length=xs.length:=by simp[Gy];omega
theorem gy(xs:List Int)(k:Nat)(h:k<xs.length):(Gy xs k).set k (.string (I7 (xs.getD k 0)))=Gy xs (k+1):=by
 have e:xs.length-k=(xs.length-(k+1))+1:=by omega
 have hk:((xs.take k).map I7).length=k:=by simp;omega
 unfold Gy;rw[List.take_succ_eq_append_getElem h,e,List.replicate_succ,List.map_append,List.map_append,List.map_append,List.map_append,List.set_append_right _ _ (by rw[List.length_map,hk];exact Nat.le_refl _),List.length_map,hk,Nat.sub_self];simp[List.getElem?_eq_getElem h]
theorem TI{xs:List Int}{k:Nat}(h:k<xs.length):xs.getD k 0 ∈ xs:=by
 rw[List.getD_eq_getElem?_getD,List.getElem?_eq_getElem h];exact List.getElem_mem h
def In64(xs:List Int):Prop:=∀x ∈ xs,-9223372036854775808≤x∧x≤9223372036854775807
theorem pK{n:Int}(h0: -9223372036854775808≤n)(h1:n≤9223372036854775807):0<(I7 n).size∧(I7 n).size≤21:=by
 have h2:(I7 n).size=(Lib.itoa n).length:=by simp[I7,ByteArray.size]
 have h3:=Lib.itoa_length_le n h0 h1;have h4:=List.length_pos_iff.2 (Kg n).1;omega

theorem Uv(v:Value)(xs:List Int)(w:World)(h:RI w v xs)(hw:In64 xs)(hP:Pow w):
 Calls Tryz.prog 259 #[v] w fun e w'=>e= .returned (.string ⟨(j3 xs).toArray⟩)∧Below w.heap.size w w':=by
 obtain⟨i0,hi,hz0,hz1,hz2⟩:=info_parts Tryz.info9;obtain⟨hl,ao,ca,rfl,ha⟩:=h
 have HJ:Hid (∀w',(∀k,k<(xs.map I7).length→w'.cell? ⟨w.heap.size,k,none⟩=some (.string ((xs.map I7).getD k ⟨#[]⟩)))→
  Calls Tryz.prog 280 #[.slice (some ⟨w.heap.size,0,none⟩) (xs.map I7).length (xs.map I7).length,.string ⟨#[44]⟩] w' fun e w''=>e= .returned (.string ⟨(j3 xs).toArray⟩)∧Below w'.heap.size w' w''):=hide fun w' hc=>by
  have:=oG w.heap.size (xs.map I7).length (xs.map I7) w' (by simpa using hl) Af (fun s hs=>by obtain⟨n,hn,rfl⟩:=List.mem_map.1 hs;exact pK (hw n hn).1 (hw n hn).2) hc;have e:(xs.map I7).map (fun x=>x.data.toList)=xs.map Lib.itoa:=by simp[List.map_map,Function.comp_def,pM]
  rw[e]at this;exact this
 rw[List.length_map]at HJ;have HD:Hid (∀k,k<xs.length→∀w',Pow w'→Calls Tryz.prog 258 #[.int .i64 (xs.getD k 0)] w' fun e w''=>e= .returned (.string (I7 (xs.getD k 0)))∧Below w'.heap.size w' w''):=hide fun k hk w' hp=>Es _ w' (hw _ (TI hk)).1 (hw _ (TI hk)).2 hp;have HP:=hide hP;obtain⟨n,hn⟩:∃n,xs.length=n:=⟨_,rfl⟩
 have Hn:Hid (xs.length=n):=hn;rw[hn]at hl HJ HD⊢;rw[hn]at ha;clear hn hw hP;go_enter Tryz.func259,Tryz.ntmps259
 go_wp2_with (first|(at_make;refine wpList_make_full _ rfl _ _ 249 rfl w.heap.size 9 i0 (.string ⟨#[]⟩) 1 Tryz.underlying249 hi hz0 hz1 .i64 .i64 n n n rfl rfl rfl rfl (by rw[hz2];omega) (by unfold maxLen;omega) Af ?_;intro w0 ho0 hg0))
 have hstart:w0.ownsRow w.heap.size 9 1 (.slice (some ⟨w.heap.size,0,none⟩) n n) n (Gy xs 0):=by
  have e:(madeCells (Value.string ⟨#[]⟩).cells (n*1)).toList=Gy xs 0:=by
   rw[Y8,Hn.out,Nat.mul_one];exact toList_madeCells_one _ _
  rw[←e];exact ho0
 have HB:Hid (Below w.heap.size w w0):=(Below.refl _ _).grown hg0 Af (by simp);clear ho0 hg0
 go_loopw [11] (fun i wr=>∃k:Nat,k≤n∧i= .int .i64 k∧wr.ownsRow w.heap.size 9 1 (.slice (some ⟨w.heap.size,0,none⟩) n n) n (Gy xs k)∧Below w.heap.size w wr) (fun i _=>n-(intOf i).toNat)
 case atStart=>exact⟨0,Nat.zero_le _,rfl,hstart,HB.out⟩
 case round=>
  clear hstart;obtain⟨k,hk,rfl,ho,hbel⟩:=hrel;have hsz:=hbel.size;by_cases hlt:k<n
  ·rcases ha with ha|⟨b,off,rfl,ha⟩
   ·subst ha;have:=Hn.out;simp at this;omega
   have hkx:k<xs.length:=by rw[Hn.out];exact hlt
   have hc0:=ha k hlt;have hc:wr.cell? ⟨b,off+k,none⟩=some (.int .i64 (xs.getD k 0)):=(hbel.cell (AU hc0)).trans hc0;have DI:=hide (HD.out k hlt wr (HP.out.below hbel));have HE:=hide (gy xs k hkx);have HO:=hide ho;clear ho hc0 ha;generalize xs.getD k 0=d at *;go_wp2_with fail
   refine DI.out.mono ?_;rintro e w1 ⟨rfl,b1⟩;have ho1:=World.ownsRow.kept (row:=none) HO.out ⟨b1.os,b1.tape,b1.output,b1.size,fun k hk _=>b1.block k hk⟩ (by simp[Value.ownBlock]);have bw1:=hbel.trans (b1.mono hsz)
   obtain⟨u,hu⟩:∃u,w1.cell? ⟨w.heap.size,k,none⟩=some u:=by
    have h1:=ho1.cellAt k (by omega);have h2:k<(Gy xs k).length:=by rw[gz xs k (by omega)];exact hkx
    exact⟨_,h1.trans (List.getElem?_eq_getElem h2)⟩
   have hfr:=ho1.frozenAt k
   have HS:Hid ((w1.setCell ⟨w.heap.size,k,none⟩ (.string (I7 d))).ownsRow w.heap.size 9 1 (.slice (some ⟨w.heap.size,0,none⟩) n n) n (Gy xs (k+1))):=by
    rw[←HE.out];exact(ho1.stored k _).1
   have HG:Hid (Below w.heap.size w (w1.setCell ⟨w.heap.size,k,none⟩ (.string (I7 d)))):=bw1.setCell Af _;clear ho1 hbel b1 bw1 hc DI HE HO;go_wp2
   go_roundw
   case rel=>exact⟨k+1,by omega,by go_num,HS.out,HG.out⟩
   case measure=>simp[intOf];omega
  have hkn:k=n:=by omega
  have hcl:∀j,j<n→wr.cell? ⟨w.heap.size,j,none⟩=some (.string ((xs.map I7).getD j ⟨#[]⟩)):=fun j hj=>by
   have h1:=ho.cellAt j (by omega);rw[hkn,←Hn.out,g_]at h1;rw[h1];have hj':j<xs.length:=by rw[Hn.out];exact hj
   simp[hj']
  have JA:=hide (HJ.out wr hcl);clear ha ho hcl hkn;go_wp2_with fail
  refine JA.out.mono ?_;rintro e w1 ⟨rfl,b1⟩;have bw1:=hbel.trans (b1.mono hsz);go_wp2;go_ret;exact⟨rfl,bw1⟩
end
end Go.Proofs.YtcjmcgolgbkknaaGreatDoor
