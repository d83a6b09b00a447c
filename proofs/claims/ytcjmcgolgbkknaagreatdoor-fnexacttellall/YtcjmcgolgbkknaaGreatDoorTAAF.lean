/- Lemmas, as stated. -/
import Derived.Lib.ItoaLen
import Derived.Test.YtcjmcgolgbkknaaGreatDoorTAAE
set_option maxRecDepth 100000
set_option maxHeartbeats 8000000
namespace Go.Proofs.YtcjmcgolgbkknaaGreatDoor
section
open Go.RowKit
def VT(ps:List (List UInt8)):List UInt8:=ps.flatMap fun t=>44 :: t
def Kv:List (List UInt8)→List UInt8
 | []=>[]
 |p :: ps=>p++VT ps
theorem Ke(p:List UInt8)(ps:List (List UInt8)):VT (p :: ps)=44 :: Kv (p :: ps):=by simp[VT,Kv]
theorem ik(ps:List (List UInt8))(k:Nat)(h:k<ps.length):VT (ps.take (k+1))=VT (ps.take k)++44 :: ps.getD k []:=by
 rw[List.take_succ_eq_append_getElem h];unfold VT;rw[List.flatMap_append]
 congr 1
 simp[List.getD_eq_getElem?_getD,h]
theorem rP(ps:List (List UInt8))(h:∀p ∈ ps,p.length≤21):(VT ps).length≤ps.length*22:=by
 induction ps with
 |nil=>simp[VT]
 |cons p ps ih=>
  have h1:=h p (by simp);have h2:=ih (fun q hq=>h q (by simp[hq]));simp only[VT,List.flatMap_cons,List.length_append,List.length_cons]at *;omega
theorem ek{a b x y:List UInt8}(ha:(44:UInt8) ∉ a)(hb:(44:UInt8) ∉ b)(h:a++44 :: x=b++44 :: y):a=b∧x=y:=by
 induction a generalizing b with
 |nil=>
  cases b with
  |nil=>simpa using h
  |cons c b=>simp at h;exact absurd (by simp[h.1]) hb
 | cons c a ih=>
  cases b with
  |nil=>simp at h;exact absurd (by simp[h.1]) ha
  |cons d b=>
   simp only[List.cons_append,List.cons.injEq]at h;have:=ih (b:=b) (fun q=>ha (by simp[q])) (fun q=>hb (by simp[q])) h.2;exact⟨by rw[h.1,this.1],this.2⟩
theorem rQ(ps qs:List (List UInt8))(hp:∀p ∈ ps,p≠[]∧(44:UInt8) ∉ p)(hq:∀q ∈ qs,q≠[]∧(44:UInt8) ∉ q)(h:Kv ps=Kv qs):ps=qs:=by
 induction ps generalizing qs with
 | nil=>
  cases qs with
  |nil=>rfl
  |cons q qs=>
   simp only[Kv]at h;exact absurd (List.append_eq_nil_iff.1 h.symm).1 (hq q (by simp)).1
 | cons p ps ih=>
  cases qs with
  |nil=>
   simp only[Kv]at h;exact absurd (List.append_eq_nil_iff.1 h).1 (hp p (by simp)).1
  | cons q qs=>
   have pc:=(hp p (by simp)).2;have qc:=(hq q (by simp)).2;simp only[Kv]at h;cases ps with
   | nil=>
    cases qs with
    |nil=>simpa[VT]using h
    |cons q2 qs=>
     rw[Ke]at h;simp only[VT,List.flatMap_nil,List.append_nil]at h;exact absurd (by rw[h];simp) pc
   | cons p2 ps=>
    cases qs with
    |nil=>
     rw[Ke]at h;simp only[VT,List.flatMap_nil,List.append_nil]at h;exact absurd (by rw[←h];simp) qc
    |cons q2 qs=>
     rw[Ke,Ke]at h;obtain⟨e1,e2⟩:=ek pc qc h;rw[e1,ih (q2 :: qs) (fun x hx=>hp x (by simp at hx⊢;exact .inr hx)) (fun x hx=>hq x (by simp at hx⊢;exact .inr hx)) e2]
theorem Fx(u:Nat)(h:¬u<10):Lib.decDigits u=Lib.decDigits (u/10)++[UInt8.ofNat (48+u%10)]:=by rw[Lib.decDigits,dif_neg h]
theorem JG(d:Nat)(h:d<10):(UInt8.ofNat (48+d)).toNat=48+d:=by rw[UInt8.toNat_ofNat'];omega
theorem Q6(u:Nat):∀c ∈ Lib.decDigits u,48≤c.toNat∧c.toNat≤57:=by
 induction u using Nat.strongRecOn with
 | ind u ih=>
  intro c hc;by_cases h:u<10
  ·rw[Lib.decDigits_one h]at hc;have e:c=UInt8.ofNat (48+u):=by simpa using hc
   have:=JG u h;rw[e];omega
  rw[Fx u h,List.mem_append]at hc;rcases hc with hc|hc
  ·exact ih (u/10) (by omega) c hc
  have e:c=UInt8.ofNat (48+u%10):=by simpa using hc
  have:=JG (u%10) (by omega);rw[e];omega
theorem YZ(u:Nat):Lib.decDigits u≠[]:=by
 intro e;have:=congrArg List.length e;rw[Lib.decDigits_length]at this;have:=Lib.nDigits_pos u;simp at *;omega
theorem ZZ(u v:Nat)(e:Lib.decDigits u=Lib.decDigits v):u=v:=by
 induction u using Nat.strongRecOn generalizing v with
 | ind u ih=>
  by_cases h:u<10
  ·by_cases k:v<10
   ·rw[Lib.decDigits_one h,Lib.decDigits_one k]at e;have:=congrArg UInt8.toNat (List.cons.inj e).1;rw[JG u h,JG v k]at this;omega
   rw[Lib.decDigits_one h,Fx v k]at e;have hl:=congrArg List.length e;have:=List.length_pos_iff.2 (YZ (v/10));simp only[List.length_append,List.length_cons,List.length_nil]at hl;omega
  by_cases k:v<10
  ·rw[Lib.decDigits_one k,Fx u h]at e;have hl:=congrArg List.length e;have:=List.length_pos_iff.2 (YZ (u/10));simp only[List.length_append,List.length_cons,List.length_nil]at hl;omega
  rw[Fx u h,Fx v k]at e;obtain⟨e1,e2⟩:=List.append_inj' e rfl;have:=ih (u/10) (by omega) (v/10) e1;have e3:=congrArg UInt8.toNat (List.cons.inj e2).1;rw[JG _ (by omega),JG _ (by omega)]at e3;omega
theorem Jl(n:Int):Lib.itoa n≠[]∧(44:UInt8) ∉ Lib.itoa n:=by
 have no:∀u,(44:UInt8) ∉ Lib.decDigits u:=fun u hc=>by have:=Q6 u 44 hc;simp at this
 rw[Lib.itoa]
 split
 ·exact⟨by simp,by simp[no]⟩
 exact⟨YZ _,no _⟩
theorem VU{n m:Int}(e:Lib.itoa n=Lib.itoa m):n=m:=by
 have no:∀u r,(45:UInt8) :: r≠Lib.decDigits u:=fun u r h=>by have:=Q6 u 45 (by rw[←h];simp);simp at this
 rw[Lib.itoa,Lib.itoa]at e
 split at e
 ·split at e
  ·have:=ZZ _ _ (List.cons.inj e).2;omega
  exact absurd e (no _ _)
 split at e
 ·exact absurd e.symm (no _ _)
 have:=ZZ _ _ e;omega
def eQ(xs:List Int):List UInt8:=Kv (xs.map Lib.itoa)
theorem jT{xs ys:List Int}(e:eQ xs=eQ ys):xs=ys:=by
 have h:=rQ _ _ (fun p hp=>by obtain⟨n,_,rfl⟩:=List.mem_map.1 hp;exact Jl n) (fun p hp=>by obtain⟨n,_,rfl⟩:=List.mem_map.1 hp;exact Jl n) e;exact(List.map_inj_right (fun _ _ h=>VU h)).1 h
theorem Ld(s:ByteArray):Lib.strCells s=Lib.byteCells s.data.toList:=by simp[Lib.strCells,Lib.byteCells]
theorem Q_(x y:List UInt8):Lib.byteCells x++Lib.byteCells y=Lib.byteCells (x++y):=by simp[Lib.byteCells]
theorem Q9(x:List UInt8):(Lib.byteCells x).length=x.length:=by simp[Lib.byteCells]
theorem mJ:(350:TypeId)≠5:=by decide

theorem jM(B b n:Nat)(w:World)(hB:B≤b)(hbk:w.heap[b]? =some (.cells #[.pointer (some ⟨b,0,none⟩),.slice none 0 0] 350 (0,0)))(hBw:B≤w.heap.size)(hn:n≤1000000000):
 Calls Tryz.prog 305 #[.pointer (some ⟨b,0,none⟩),.int .i64 n] w fun e w'=>e= .returned (.tuple #[])∧Lib.BuilderAt 350 5 B b (.pointer (some ⟨b,0,none⟩)) [] w'∧Below B w w':=by
 obtain⟨i0,hi,_,hz1,_⟩:=info_parts Tryz.info5;obtain⟨cs,hrun,hle,hmax⟩:=Lib.run_makeNoZero (P:=Tryz.prog) w.drew #[3] 31 5 Tryz.underlying31 n (by omega);have hlt:b<w.heap.size:=(Array.getElem?_eq_some_iff.1 hbk).1;have hw:IntKind.i64.wrap (IntKind.i64.wrap 0+(n:Int))=n:=by rw[IntKind.wrap_i64,IntKind.wrap_i64];omega
 have hcall:(callFunc 316 #[.int .i64 (IntKind.i64.wrap (IntKind.i64.wrap 0+(n:Int)))]).run Tryz.prog w.drew= .ok (.value (.slice (some ⟨w.drew.heap.size,0,none⟩) n cs.size)) (w.drew.drew.drew.alloc (.cells cs 5)):=by
  rw[hw,run_callFunc_extern Tryz.func316 (by kernel_rfl) (by kernel_rfl) (by kernel_rfl) (e:=Extern.BytealgMakeNoZero.makeNoZero #[3] #[31]) (by kernel_rfl),hrun];rfl
 have c1:w.drew.cell? ⟨b,1,none⟩=some (.slice none 0 0):=by rw[Lib.cell_of_heap (w:=w.drew) hbk];rfl
 have hold:(w.alloc (.cells cs 5)).heap[b]? =_:=(Lib.alloc_old w _ b hlt).trans hbk;have c2:(w.alloc (.cells cs 5)).cell? ⟨b,1,none⟩=some (.slice none 0 0):=by rw[Lib.cell_of_heap hold];rfl
 have f2:(w.alloc (.cells cs 5)).frozen? ⟨b,1,none⟩=false:=Lib.frozen_of_heap hold 1
 have hcopy:∀W:World,(Builtin.copy_ #[31,31] 3 #[.slice (some ⟨w.heap.size,0,none⟩) 0 cs.size,.slice none 0 0]).run Tryz.prog W= .ok (goInt 0) W:=
  fun W=>run_copy_none W 31 31 3 5 _ _ 0 cs.size 0 0 Tryz.underlying31 (by rw[hi];simp[hz1]) rfl
 have hfin:=Lib.grown_fresh (T:=350) (e:=5) (cs:=cs) hB hbk hBw (hmax (by unfold maxLen;omega)) mJ;have c2':((w.alloc (.cells cs 5)).drew.drew.drew).cell? ⟨b,1,none⟩=some (.slice none 0 0):=c2;clear hw hrun hmax hlt hold hbk;go_enter Tryz.func305,Tryz.ntmps305
 go_upto_region 0 with fail
 refine wp_region_noPanic ?_;refine wp_region_held_drew (S:=fun w'=>w'.cell? ⟨b,1,none⟩=some (.slice none 0 0)) (by kernel_rfl) c1 (fun hHeld=>?_);refine tx 0 5 ?_;refine tx 6 11 ?_;refine tx 9 14 ?_;refine tx 1 6 ?_;refine tx 10 15 ?_;refine tx 2 7 ?_;refine tx 11 16 ?_;refine tx 3 8 ?_;refine tx 12 17 ?_;refine tx 4 9 ?_;refine tx 13 18 ?_;refine tx 5 10 ?_;refine tx 7 12 ?_;refine rd 8 rfl (fun KK AA=>?_);go_simp;clear hHeld;refine AA.out _ _ c2' (fun hHeld=>?_);clear AA KK;refine tx 14 19 ?_;refine tx 15 4 ?_;clear hHeld;refine Bw ?_;go_wp2
 go_end0
 exact⟨rfl,hfin⟩

theorem jN(B b n:Nat)(w:World)(hB:B≤b)(hbk:w.heap[b]? =some (.cells #[.pointer none,.slice none 0 0] 350 (0,0)))(hBw:B≤w.heap.size)(hn:n≤1000000000):
 Calls Tryz.prog 296 #[.pointer (some ⟨b,0,none⟩),.int .i64 n] w fun e w'=>e= .returned (.tuple #[])∧Lib.BuilderAt 350 5 B b (.pointer (some ⟨b,0,none⟩)) [] w'∧Below B w w':=by
 obtain⟨w1,hw1⟩:∃w1,w.setCell ⟨b,0,none⟩ (.pointer (some ⟨b,0,none⟩))=w1:=⟨_,rfl⟩
 have hbk1:w1.heap[b]? =some (.cells #[.pointer (some ⟨b,0,none⟩),.slice none 0 0] 350 (0,0)):=by rw[←hw1];simp[World.setCell,Array.getElem?_modify,hbk]
 have b1:Below B w w1:=hw1▸(Below.refl B w).setCell (p:=⟨b,0,none⟩) hB _;have c1:w1.cell? ⟨b,1,none⟩=some (.slice none 0 0):=by rw[Lib.cell_of_heap hbk1];rfl
 have c1':w1.drew.cell? ⟨b,1,none⟩=some (.slice none 0 0):=c1;have hU:Lib.BuilderAt 350 5 B b (.pointer (some ⟨b,0,none⟩)) [] w1:=⟨hB,.slice none 0 0,hbk1,World.ownsRow_nil _ _ _ _,by simp[Value.ownBlock]⟩
 have CK:=hide (Q8 b w (by rw[Lib.cell_of_heap hbk];rfl) (by simp[World.shape?,hbk]) (Lib.frozen_of_heap hbk 0));rw[hw1]at CK;have GN:=hide (jM B b n w1.drew hB hbk1 (Nat.le_trans hBw b1.size) hn);have hn0:decide ((n:Int)<0)=false:=by simp
 clear hw1;go_enter Tryz.func296,Tryz.ntmps296
 go_wp2_with fail
 refine CK.out.mono ?_;rintro e w' ⟨rfl,rfl⟩;by_cases h0:n=0
 ·subst h0;go_upto_region 3 with fail
  refine wp_region_noPanic ?_;refine wp_region_held_drew (S:=fun w'=>w'.cell? ⟨b,1,none⟩=some (.slice none 0 0)) (by kernel_rfl) c1' (fun hHeld=>?_);refine tx 0 9 ?_;refine tx 5 14 ?_;refine tx 11 20 ?_;refine tx 1 10 ?_;refine tx 6 15 ?_;refine tx 2 11 ?_;refine tx 7 16 ?_;refine tx 3 12 ?_;refine tx 8 17 ?_;refine tx 4 13 ?_;refine tx 9 18 ?_;refine tx 10 19 ?_;refine tx 12 21 ?_;clear hHeld;refine Bw ?_;go_wp2
  go_end0
  exact⟨rfl,hU.drew,b1.drew⟩
 have hd:decide (IntKind.i64.wrap 0<(n:Int))=true:=by rw[IntKind.wrap_i64];simp;omega
 go_upto_region 3 with fail
 refine wp_region_noPanic ?_;refine wp_region_held_drew (S:=fun w'=>w'.cell? ⟨b,1,none⟩=some (.slice none 0 0)) (by kernel_rfl) c1' (fun hHeld=>?_);refine tx 0 9 ?_;refine tx 5 14 ?_;refine tx 11 20 ?_;refine tx 1 10 ?_;refine tx 6 15 ?_;refine tx 2 11 ?_;refine tx 7 16 ?_;refine tx 3 12 ?_;refine tx 8 17 ?_;refine tx 4 13 ?_;refine tx 9 18 ?_;refine tx 10 19 ?_;refine tx 12 21 ?_;clear hHeld;refine Bw ?_;go_wp2_with fail
 refine GN.out.mono ?_;rintro e w2 ⟨rfl,h1,h2⟩;go_wp2
 go_end0
 exact⟨rfl,h1,b1.drew.trans h2⟩
theorem il(ps:List (List UInt8))(k:Nat):(Kv (ps.take k)).length≤(Kv ps).length:=by
 have h:∀(qs:List (List UInt8)) j,(VT (qs.take j)).length≤(VT qs).length:=fun qs j=>by
  unfold VT
  conv=>rhs;rw[←List.take_append_drop j qs,List.flatMap_append,List.length_append]
  omega
 cases ps with
 |nil=>simp
 |cons p ps=>
  cases k with
  |zero=>simp[Kv]
  |succ k=>simp only[List.take_succ_cons,Kv,List.length_append];have:=h ps k;omega
theorem iq(ps:List (List UInt8))(k:Nat)(h:k+1<ps.length):Kv (ps.take (k+2))=Kv (ps.take (k+1))++44 :: ps.getD (k+1) []:=by
 cases ps with
 |nil=>simp at h
 |cons p ps=>
  simp only[List.take_succ_cons,Kv];rw[ik ps k (by simpa using h),List.append_assoc];rfl

theorem join_none(a:Option Addr)(c:Nat)(w:World):
 Calls Tryz.prog 280 #[.slice a 0 c,.string ⟨#[44]⟩] w fun e w'=>e= .returned (.string ⟨#[]⟩)∧Below w.heap.size w w':=by
 go_enter Tryz.func280,Tryz.ntmps280
 go_wp2;go_ret;exact⟨rfl,Below.refl _ _⟩
theorem join_one(b c:Nat)(s:ByteArray)(w:World)(h:w.cell? ⟨b,0,none⟩=some (.string s)):
 Calls Tryz.prog 280 #[.slice (some ⟨b,0,none⟩) 1 c,.string ⟨#[44]⟩] w fun e w'=>e= .returned (.string s)∧Below w.heap.size w w':=by
 go_enter Tryz.func280,Tryz.ntmps280
 go_wp2;go_ret;exact⟨rfl,Below.refl _ _⟩

theorem dO(b c n:Nat)(ss:List ByteArray)(w:World)(hn:ss.length=n)(h2:2≤n)(hl:n≤4194304)(hc:n≤c)(hs:∀s ∈ ss,0<s.size∧s.size≤21)
 (h:∀k,k<n→w.cell? ⟨b,k,none⟩=some (.string (ss.getD k ⟨#[]⟩))):
 Calls Tryz.prog 280 #[.slice (some ⟨b,0,none⟩) n c,.string ⟨#[44]⟩] w fun e w'=>e= .returned (.string ⟨(Kv (ss.map (·.data.toList))).toArray⟩)∧Below w.heap.size w w':=by
 have hb:b<w.heap.size:=AQ (h 0 (by omega))
 have hsz:∀k,k<n→0<(ss.getD k ⟨#[]⟩).size∧(ss.getD k ⟨#[]⟩).size≤21:=fun k hk=>by
  have hk':k<ss.length:=by omega
  rw[List.getD_eq_getElem?_getD,List.getElem?_eq_getElem hk'];exact hs _ (List.getElem_mem hk')
 have hlen:(Kv (ss.map (·.data.toList))).length≤n*22+21:=by
  cases ss with
  |nil=>simp[Kv]
  |cons s ss=>
   have h1:=(hs s (by simp)).2;have h3:=rP (ss.map (·.data.toList)) (fun p hp=>by obtain⟨t,ht,rfl⟩:=List.mem_map.1 hp;have h5:=(hs t (by simp[ht])).2;have h6:t.data.toList.length=t.size:=Array.length_toList;omega);simp only[List.map_cons,Kv,List.length_append,List.length_map,List.length_cons]at *;have h6:s.data.toList.length=s.size:=Array.length_toList;omega
 have HS:=hide hsz;have HC:=hide h;have HL:=hide fun k=>il (ss.map (·.data.toList)) k;have HN:=hide fun k(hk:k+1<n)=>iq (ss.map (·.data.toList)) k (by simpa[hn]using hk)
 have HG:Hid (∀k,k<n→(ss.map (·.data.toList)).getD k []=(ss.getD k ⟨#[]⟩).data.toList):=hide fun k hk=>by
  have hk':k<ss.length:=by omega
  simp[List.getD_eq_getElem?_getD,hk']
 have HA:Hid ((ss.map (·.data.toList)).take n=ss.map (·.data.toList)):=hide (List.take_of_length_le (by simp[hn]))
 have H1:Hid (Kv ((ss.map (·.data.toList)).take 1)=(ss.getD 0 ⟨#[]⟩).data.toList):=hide (by
  cases ss with
  |nil=>simp at hn;omega
  |cons s ss=>simp[Kv,VT])
 generalize ss.map (·.data.toList)=ps at *;have hne0:((n:Int)==0)=false:=beq_eq_false_iff_ne.2 (by omega);have hne1:((n:Int)==1)=false:=beq_eq_false_iff_ne.2 (by omega)
 have hq:¬(9223372036854775807/((n:Int)-1)≤1):=by
  have h1:(2:Int)*((n:Int)-1)≤9223372036854775807:=by omega
  have:=Int.le_ediv_of_mul_le (show(0:Int)<(n:Int)-1 by omega) h1;omega
 clear h hs hsz hn;go_enter Tryz.func280,Tryz.ntmps280
 go_wp2_with fail
 go_loopw [5,41] (fun a i wr=>∃k t:Nat,k≤n∧i= .int .i64 k∧a= .int .i64 t∧t≤n+21*k∧wr=w) (fun _ i _=>n-(intOf i).toNat)
 case atStart=>exact⟨0,n-1,Nat.zero_le _,rfl,by congr 1;omega,by omega,rfl⟩
 case round=>
  obtain⟨k,t,hk,rfl,rfl,ht,hw⟩:=hrel;have hw':=hw.symm;subst hw';clear hw;by_cases hlt:k<n
  ·have hcell:=HC.out k hlt;have hss:=HS.out k hlt;generalize ss.getD k ⟨#[]⟩=s at *;have hd:decide (9223372036854775807-(t:Int)<(s.size:Int))=false:=by simp;omega
   go_wp2
   go_roundw
   case rel=>exact⟨k+1,t+s.size,by omega,by go_num,by go_num,by omega,trivial⟩
   case measure=>simp[intOf];omega
  have hke:k=n:=by omega
  subst hke;clear hlt hk;go_wp2_with fail
  refine(jN w.heap.size w.heap.size t _ Ak (heap_alloc_new w _) (by simp) (by omega)).mono ?_;rintro e w1 ⟨rfl,G1,b1⟩;have B1:Below w.heap.size w w1:=((Below.refl _ w).alloc Ak _).trans b1;have hcell:=(B1.cell (p:=⟨b,0,none⟩) hb).trans (HC.out 0 (by omega));have hss:=HS.out 0 (by omega);have HI:=hide G1;have s1:=B1.size;clear b1 G1;generalize ss.getD 0 ⟨#[]⟩=s0 at *;go_wp2_with fail
  refine(writeString _ _ _ s0 _ (.inr HI.out) (by simp) (by omega) (by omega) (by omega)).mono ?_;rintro e w2 ⟨rfl,G2,b2⟩;have B2:Below w.heap.size w w2:=B1.trans b2
  have HI2:Hid (Lib.IsBuilder 350 5 w.heap.size w.heap.size (Lib.byteCells (Kv (ps.take 1))) w2):=by
   show Lib.IsBuilder _ _ _ _ _ _;rw[H1.out,←Ld];exact .inr (by simpa using G2)
  have s2:=B2.size;clear G2 b2 HI B1 s1 hcell hss;go_wp2_with fail
  go_loopw [65] (fun i wx=>∃j:Nat,j≤k-1∧i= .int .i64 j∧Hid (Lib.IsBuilder 350 5 w.heap.size w.heap.size (Lib.byteCells (Kv (ps.take (j+1)))) wx)∧Below w.heap.size w wx) (fun i _=>k-1-(intOf i).toNat)
  case atStart=>exact⟨0,Nat.zero_le _,rfl,HI2,B2⟩
  case round=>
   clear HI2 B2 s2;obtain⟨j,hj,rfl,HB,Bx⟩:=hrel;have sx:=Bx.size;by_cases hlt:j<k-1
   ·have hcell:wr.cell? ⟨b,1+j,none⟩=some (.string (ss.getD (1+j) ⟨#[]⟩)):=(Bx.cell (p:=⟨b,1+j,none⟩) hb).trans (HC.out (1+j) (by omega));have hss:=HS.out (1+j) (by omega);have HE:Hid (Kv (ps.take (j+2))=Kv (ps.take (j+1))++44 :: (ss.getD (1+j) ⟨#[]⟩).data.toList):=hide (by rw[HN.out j (by omega),HG.out (j+1) (by omega),show 1+j=j+1 from Nat.add_comm 1 j]);have hlj:=Nat.le_trans (HL.out (j+1)) hlen;generalize ss.getD (1+j) ⟨#[]⟩=s at *;go_wp2_with fail
    refine(writeString _ _ _ ⟨#[44]⟩ _ HB.out (by rw[Q9];omega) (by decide) (by decide) (by omega)).mono ?_;rintro e w3 ⟨rfl,G3,b3⟩;have B3:Below w.heap.size w w3:=Bx.trans b3;replace hcell:=(b3.cell (p:=⟨b,1+j,none⟩) hb).trans hcell;have HI3:=hide G3;have s3:=B3.size;clear G3 b3;go_wp2_with fail
    refine(writeString _ _ _ s _ (.inr HI3.out) (by simp only[List.length_append,Q9,Lib.strCells_length];have:(⟨#[44]⟩:ByteArray).size=1:=rfl;omega) (by omega) (by omega) (by omega)).mono ?_;rintro e w4 ⟨rfl,G4,b4⟩;have B4:Below w.heap.size w w4:=B3.trans b4
    have HI4:Hid (Lib.IsBuilder 350 5 w.heap.size w.heap.size (Lib.byteCells (Kv (ps.take (j+2)))) w4):=by
     show Lib.IsBuilder _ _ _ _ _ _;rw[HE.out,show∀(x:List UInt8)(y:List UInt8),x++44 :: y=x++((⟨#[44]⟩:ByteArray).data.toList++y) from fun _ _=>rfl,←Q_,←Q_,←Ld,←Ld,←List.append_assoc];exact .inr G4
    clear G4 b4 HI3 HE;go_wp2
    go_roundw
    case rel=>exact⟨j+1,by omega,by go_num,HI4,B4⟩
    case measure=>simp[intOf];omega
   have hje:j+1=k:=by omega
   have hB':=HB.out;rw[hje,HA.out]at hB';have HB':=hide hB';clear HB hB' hje;go_wp2_with fail
   refine(Tryz.Builder_String_any w.heap.size w.heap.size _ _ HB'.out (by omega)).mono ?_;rintro e w5 ⟨rfl,b5⟩;have B5:=Bx.trans b5;go_wp2;go_ret;exact⟨rfl,B5⟩
theorem ig(b c:Nat)(ss:List ByteArray)(w:World)(hl:ss.length≤4194304)(hc:ss.length≤c)(hs:∀s ∈ ss,0<s.size∧s.size≤21)
 (h:∀k,k<ss.length→w.cell? ⟨b,k,none⟩=some (.string (ss.getD k ⟨#[]⟩))):
 Calls Tryz.prog 280 #[.slice (some ⟨b,0,none⟩) ss.length c,.string ⟨#[44]⟩] w fun e w'=>e= .returned (.string ⟨(Kv (ss.map (·.data.toList))).toArray⟩)∧Below w.heap.size w w':=by
 by_cases h2:2≤ss.length
 ·exact dO b c ss.length ss w rfl h2 hl hc hs h
 match ss,h with
 | [],_=>exact join_none _ _ w
 | [s],h=>
  have:=join_one b c s w (h 0 (by simp));simpa[Kv,VT]using this
 |s :: t :: r,_=>simp at h2
theorem R8(w:World)(c:Int):(convert 31 9 (.slice (some ⟨w.heap.size,0,none⟩) 1 1)).run Tryz.prog (w.alloc (.cells #[.int .u8 c] 5))= .ok (.string (strOfNums [c])) (w.alloc (.cells #[.int .u8 c] 5)):=by
 refine run_convert_bytes_arg (P:=Tryz.prog) _ 31 5 Tryz.underlying31 Tryz.underlying5 w.heap.size 0 1 1 [c] rfl (fun i hi=>?_) 9 Tryz.underlying9;obtain rfl:i=0:=by omega
 simp
end
section

def rest(m:Nat):List UInt8:=if m=0 then []else Lib.decDigits m
theorem rest_step(m:Nat)(h:m≠0):rest m=rest (m/10)++[UInt8.ofNat (48+m%10)]:=by
 by_cases h10:m<10
 ·have e:m/10=0:=by omega
  rw[rest,if_neg h,Lib.decDigits,dif_pos h10,e,rest,if_pos rfl,Nat.mod_eq_of_lt h10];rfl
 have e:m/10≠0:=by omega
 rw[rest,if_neg h,Lib.decDigits,dif_neg h10,rest,if_neg e]
def si(n m:Nat)(t:List UInt8):Prop:=rest m++t=rest n∧t.length≤20∧m<10 ^ (20-t.length)
theorem La(n:Nat)(h:n≤9223372036854775808):si n n []:=⟨by simp,by simp,by simp;omega⟩
theorem PW{n m:Nat}{t:List UInt8}(h:si n m t)(h0:m≠0):si n (m/10) (UInt8.ofNat (48+m%10) :: t)∧t.length≤19:=by
 obtain⟨h1,h2,h3⟩:=h
 have hl:t.length≤19:=by
  by_cases e:t.length=20
  ·rw[e]at h3;simp at h3;omega
  omega
 refine⟨⟨?_,by simp;omega,?_⟩,hl⟩
 ·rw[rest_step m h0]at h1;simpa using h1
 have e:20-t.length=(20-(t.length+1))+1:=by omega
 rw[e,Nat.pow_succ]at h3;simp only[List.length_cons];exact Nat.div_lt_of_lt_mul (by rw[Nat.mul_comm];exact h3)
theorem Sl{n:Nat}{t:List UInt8}(h:si n 0 t)(hn:n≠0):t=Lib.decDigits n:=by
 have:=h.1
 rwa [rest,if_pos rfl,List.nil_append,rest,if_neg hn]at this

theorem Oq(k:Nat)(t:List UInt8)(h:k<10):strOfNums [48+(k:Int)]++(⟨t.toArray⟩:ByteArray)=⟨(UInt8.ofNat (48+k) :: t).toArray⟩:=by
 have e:(48+(k:Int)).toNat=48+k:=by omega
 apply ByteArray.ext
 apply Array.toList_inj.1
 simp[strOfNums,e]
theorem Oo(c:Int):(strOfNums [c]).size=1:=rfl
end
section
open Go.RowKit
theorem OY(n:Nat)(w:World)(hn:0<n)(hm:n≤9223372036854775807):
 Calls Tryz.prog 230 #[.int .i64 n] w fun e w'=>e= .returned (.string ⟨(Lib.decDigits n).toArray⟩)∧Below w.heap.size w w':=by
 have hcv:=R8;have hsz:=Oo;have hne:((n:Int)==0)=false:=by simp;omega
 have hlt:decide ((n:Int)<0)=false:=by simp
 go_enter Tryz.func230,Tryz.ntmps230
 go_wp2
 go_loopw [0,4] (fun x s wr=>∃(m:Nat)(t:List UInt8),m≤9223372036854775807∧si n m t∧x= .int .i64 m∧s= .string ⟨t.toArray⟩∧Below w.heap.size w wr) (fun x _ _=>(intOf x).toNat)
 case atStart=>exact⟨n,[],hm,La n (by omega),rfl,rfl,Below.refl _ _⟩
 case round=>
  obtain⟨m,t,hm',hd,rfl,rfl,hb⟩:=hrel;by_cases h0:m=0
  ·subst h0;have HE:=hide (Sl hd (by omega));clear hd;go_wp2;go_ret;have xY:=HE.out;subst xY;exact⟨rfl,hb⟩
  have hne':((m:Int) != 0)=true:=by simp[h0]
  obtain⟨hd',hl⟩:=PW hd h0;have HD:=hide hd';clear hd hd';have hs0:=hb.size;have hmo:=Oq (m%10) t (by omega);have hbl:Below w.heap.size w (wr.alloc (.cells #[.int .u8 (48+(m:Int)%10)] 5)):=hb.alloc hs0 _;go_wp2
  go_roundw
  case rel=>exact⟨m/10,_,by omega,HD.out,by go_num,by rw[←hmo];rfl,hbl⟩
  case measure=>simp[intOf];omega

theorem OZ(n:Nat)(w:World)(hn:0<n)(hm:n≤9223372036854775808):
 Calls Tryz.prog 230 #[.int .i64 (-(n:Int))] w fun e w'=>e= .returned (.string ⟨(45 :: Lib.decDigits n).toArray⟩)∧Below w.heap.size w w':=by
 have hcv:=R8;have hsz:=Oo;have hne:((-(n:Int))==0)=false:=by simp;omega
 have hlt:decide (-(n:Int)<0)=true:=by simp;omega
 go_enter Tryz.func230,Tryz.ntmps230
 go_wp2
 go_loopw [0,4] (fun x s wr=>∃(m:Nat)(t:List UInt8),m≤9223372036854775808∧si n m t∧x= .int .i64 (-(m:Int))∧s= .string ⟨t.toArray⟩∧Below w.heap.size w wr) (fun x _ _=>(-(intOf x)).toNat)
 case atStart=>exact⟨n,[],hm,La n hm,rfl,rfl,Below.refl _ _⟩
 case round=>
  obtain⟨m,t,hm',hd,rfl,rfl,hb⟩:=hrel;by_cases h0:m=0
  ·subst h0;have HE:=hide (Sl hd (by omega));have hl:=hd.2.1;clear hd;go_wp2;go_ret;have xY:=HE.out;subst xY;exact⟨by apply congrArg Ending.returned;apply congrArg Value.string;apply ByteArray.ext;apply Array.toList_inj.1;simp,hb⟩
  have hne':((-(m:Int)) != 0)=true:=by simp[h0]
  obtain⟨hd',hl⟩:=PW hd h0;have HD:=hide hd';clear hd hd';have hs0:=hb.size;have hmo:=Oq (m%10) t (by omega);have ht:(-(m:Int)).tmod 10= -((m%10:Nat):Int):=by rw[Int.neg_tmod];rfl
  have hq:(-(m:Int)).tdiv 10= -((m/10:Nat):Int):=by rw[Int.neg_tdiv];rfl
  by_cases hz:m%10=0
  ·have hbl:Below w.heap.size w (wr.alloc (.cells #[.int .u8 48] 5)):=hb.alloc hs0 _;go_wp2
   go_roundw
   case rel=>exact⟨m/10,_,by omega,HD.out,by go_num,by rw[←hmo,hz];rfl,hbl⟩
   case measure=>simp[intOf];omega
  have hbl:Below w.heap.size w (wr.alloc (.cells #[.int .u8 (48+(m:Int)%10)] 5)):=hb.alloc hs0 _;go_wp2
  go_roundw
  case rel=>exact⟨m/10,_,by omega,HD.out,by go_num,by rw[←hmo];rfl,hbl⟩
  case measure=>simp[intOf];omega

theorem MV(w:World):
 Calls Tryz.prog 230 #[.int .i64 0] w fun e w'=>e= .returned (.string ⟨(Lib.decDigits 0).toArray⟩)∧Below w.heap.size w w':=by
 go_enter Tryz.func230,Tryz.ntmps230
 go_wp2;go_ret;exact⟨by rw[Lib.decDigits];rfl,Below.refl _ _⟩

theorem Ct(n:Int)(w:World)(h0: -9223372036854775808≤n)(h1:n≤9223372036854775807):
 Calls Tryz.prog 230 #[.int .i64 n] w fun e w'=>e= .returned (.string ⟨(Lib.itoa n).toArray⟩)∧Below w.heap.size w w':=by
 unfold Lib.itoa;by_cases hn:n<0
 ·obtain⟨m,rfl⟩:∃m:Nat,n= -(m:Int):=⟨n.natAbs,by omega⟩
  rw[if_pos hn,show(-(m:Int)).natAbs=m from by omega];exact OZ m w (by omega) (by omega)
 obtain⟨m,rfl⟩:=Int.eq_ofNat_of_zero_le (Int.not_lt.1 hn);rw[if_neg hn,Int.toNat_natCast];by_cases hm:m=0
 ·subst hm;exact MV w
 exact OY m w (by omega) (by omega)
end
end Go.Proofs.YtcjmcgolgbkknaaGreatDoor
namespace Go.Proofs
open Go.Shelf
def Tryz.laysM171_ren:Go.Shelf.Ren:=⟨fun|171=>279|243=>295|246=>303|283=>311|284=>312|285=>313|286=>314|129=>320|317=>319|318=>321|319=>322|320=>323|337=>326|338=>327|n=>n,fun|3=>3|9=>9|2=>2|4=>4|171=>363|0=>0|53=>364|37=>31|5=>5|173=>367|212=>376|51=>234|20=>20|213=>377|46=>336|232=>384|233=>385|n=>n,fun|17=>5|18=>6|19=>7|n=>n⟩
theorem Tryz.laysM171:Go.Proofs.LaysM.n171 Tryz.prog Tryz.laysM171_ren:={
 mixed:=by kernel_rfl
 f129:=Tryz.func320.trans (congrArg some (by kernel_rfl))
 f171:=Tryz.func279.trans (congrArg some (by kernel_rfl))
 f243:=Tryz.func295.trans (congrArg some (by kernel_rfl))
 f246:=Tryz.func303.trans (congrArg some (by kernel_rfl))
 f283:=Tryz.func311.trans (congrArg some (by kernel_rfl))
 f284:=Tryz.func312.trans (congrArg some (by kernel_rfl))
 f285:=Tryz.func313.trans (congrArg some (by kernel_rfl))
 f286:=Tryz.func314.trans (congrArg some (by kernel_rfl))
 f317:=Tryz.func319.trans (congrArg some (by kernel_rfl))
 f318:=Tryz.func321.trans (congrArg some (by kernel_rfl))
 f319:=Tryz.func322.trans (congrArg some (by kernel_rfl))
 f320:=Tryz.func323.trans (congrArg some (by kernel_rfl))
 f337:=Tryz.func326.trans (congrArg some (by kernel_rfl))
 f338:=Tryz.func327.trans (congrArg some (by kernel_rfl))
 t0:=Tryz.underlying0
 a0:=Tryz.isAgg0
 z0:=Tryz.sizeOf0
 v0:=Tryz.zeroValue0
 t2:=Tryz.underlying2
 a2:=Tryz.isAgg2
 z2:=Tryz.sizeOf2
 v2:=Tryz.zeroValue2
 t3:=Tryz.underlying3
 a3:=Tryz.isAgg3
 z3:=Tryz.sizeOf3
 v3:=Tryz.zeroValue3
 t4:=Tryz.underlying4
 a4:=Tryz.isAgg4
 z4:=Tryz.sizeOf4
 v4:=Tryz.zeroValue4
 t5:=Tryz.underlying5
 a5:=Tryz.isAgg5
 z5:=Tryz.sizeOf5
 v5:=Tryz.zeroValue5
 t9:=Tryz.underlying9
 a9:=Tryz.isAgg9
 z9:=Tryz.sizeOf9
 v9:=Tryz.zeroValue9
 t20:=Tryz.underlying20
 a20:=Tryz.isAgg20
 z20:=Tryz.sizeOf20
 v20:=Tryz.zeroValue20
 t37:=Tryz.underlying31
 a37:=Tryz.isAgg31
 z37:=Tryz.sizeOf31
 v37:=Tryz.zeroValue31
 t46:=Tryz.underlying336
 a46:=Tryz.isAgg336
 z46:=Tryz.sizeOf336
 v46:=Tryz.zeroValue336
 t51:=Tryz.underlying234
 a51:=Tryz.isAgg234
 z51:=Tryz.sizeOf234
 v51:=Tryz.zeroValue234
 t53:=Tryz.underlying364
 a53:=Tryz.isAgg364
 z53:=Tryz.sizeOf364
 v53:=Tryz.zeroValue364
 t171:=Tryz.underlying363
 a171:=Tryz.isAgg363
 z171:=Tryz.sizeOf363
 v171:=Tryz.zeroValue363
 t173:=Tryz.underlying367
 a173:=Tryz.isAgg367
 z173:=Tryz.sizeOf367
 v173:=Tryz.zeroValue367
 t212:=Tryz.underlying376
 a212:=Tryz.isAgg376
 z212:=Tryz.sizeOf376
 v212:=Tryz.zeroValue376
 t213:=Tryz.underlying377
 a213:=Tryz.isAgg377
 z213:=Tryz.sizeOf377
 t232:=Tryz.underlying384
 a232:=Tryz.isAgg384
 z232:=Tryz.sizeOf384
 v232:=Tryz.zeroValue384
 t233:=Tryz.underlying385
 a233:=Tryz.isAgg385
 z233:=Tryz.sizeOf385
 v233:=Tryz.zeroValue385
 g17:=by kernel_rfl
 g18:=by kernel_rfl
 g19:=by kernel_rfl
 i0:=by kernel_rfl
 i2:=by kernel_rfl
 i3:=by kernel_rfl
 i4:=by kernel_rfl
 i5:=by kernel_rfl
 i9:=by kernel_rfl
 i20:=by kernel_rfl
 i37:=by kernel_rfl
 i46:=by kernel_rfl
 i51:=by kernel_rfl
 i53:=by kernel_rfl
 i171:=by kernel_rfl
 i173:=by kernel_rfl
 i212:=by kernel_rfl
 i232:=by kernel_rfl
 i233:=by kernel_rfl
 m17:=by kernel_rfl
 m18:=by kernel_rfl
 m19:=by kernel_rfl }
open Go.RowKit Go.Sort Go.Lib in
theorem Tryz.strconv_Itoa (n : Int) (h0 : -9223372036854775808 ≤ n) (h1 : n ≤ 9223372036854775807) (w : World) (htab : Lib.TabIs Tryz.prog w "internal/strconv.uint64pow10" .u64 Lib.pow10Tab) :
 Calls Tryz.prog 279 #[.int .i64 n] w fun e w'=>e= .returned (.string ⟨(Lib.itoa n).toArray⟩)∧∃k os,w'=grow (w.drewN k) os:=Any.strconv_Itoa Tryz.laysM171 n h0 h1 w htab
end Go.Proofs
namespace Go.Proofs.YtcjmcgolgbkknaaGreatDoor
section
open Go.RowKit
theorem YS(w:World)(k:Nat)(os:Array Obj):Below w.heap.size w (Sort.grow (w.drewN k) os):=
 ⟨rfl,rfl,rfl,by simp[Sort.grow],fun i hi=>by simp only[Sort.grow,World.heap_drewN];rw[Array.getElem?_append_left hi]⟩

abbrev Pow (w : World) : Prop := Lib.TabIs Tryz.prog w "internal/strconv.uint64pow10" .u64 Lib.pow10Tab
theorem rz : Tryz.prog.globalNamed "internal/strconv.uint64pow10" = some 5 := by kernel_rfl
theorem Pow.below{w w':World}(h:Pow w)(hb:Below w.heap.size w w'):Pow w':=by
 have hlt:5<w.heap.size:=AQ (h.cell rz 0 (by decide));exact var?_below hb rz hlt h

theorem EZ(n:Int)(w:World)(h0: -9223372036854775808≤n)(h1:n≤9223372036854775807)(ht:Pow w):
 Calls Tryz.prog 258 #[.int .i64 n] w fun e w'=>e= .returned (.string ⟨(Lib.itoa n).toArray⟩)∧Below w.heap.size w w':=by
 go_enter Tryz.func258,Tryz.ntmps258
 go_wp2_with fail
 refine(Tryz.strconv_Itoa n h0 h1 _ ht).mono ?_;rintro e w' ⟨rfl,k,os,rfl⟩;go_wp2;go_ret;exact⟨rfl,YS _ _ _⟩
def Ib(n:Int):ByteArray:=⟨(Lib.itoa n).toArray⟩
theorem jV(n:Int):(Ib n).data.toList=Lib.itoa n:=by simp[Ib]
def GL(xs:List Int)(k:Nat):List Value:=((xs.take k).map Ib++List.replicate (xs.length-k) (⟨#[]⟩:ByteArray)).map Value.string
theorem Xa(xs:List Int):GL xs 0=List.replicate xs.length (.string ⟨#[]⟩):=by simp[GL]
theorem aJ(xs:List Int):GL xs xs.length=(xs.map Ib).map Value.string:=by simp[GL]
theorem aI(xs:List Int)(k:Nat)(h:k≤xs.length):(GL xs k).length=xs.length:=by simp[GL];omega
theorem aF(xs:List Int)(k:Nat)(h:k<xs.length):(GL xs k).set k (.string (Ib (xs.getD k 0)))=GL xs (k+1):=by
 have e:xs.length-k=(xs.length-(k+1))+1:=by omega
 have hk:((xs.take k).map Ib).length=k:=by simp;omega
 unfold GL;rw[List.take_succ_eq_append_getElem h,e,List.replicate_succ,List.map_append,List.map_append,List.map_append,List.map_append,List.set_append_right _ _ (by rw[List.length_map,hk];exact Nat.le_refl _),List.length_map,hk,Nat.sub_self];simp[List.getElem?_eq_getElem h]
theorem Qz{xs:List Int}{k:Nat}(h:k<xs.length):xs.getD k 0 ∈ xs:=by
 rw[List.getD_eq_getElem?_getD,List.getElem?_eq_getElem h];exact List.getElem_mem h
def In64(xs:List Int):Prop:=∀x ∈ xs,-9223372036854775808≤x∧x≤9223372036854775807
theorem jU{n:Int}(h0: -9223372036854775808≤n)(h1:n≤9223372036854775807):0<(Ib n).size∧(Ib n).size≤21:=by
 have h2:(Ib n).size=(Lib.itoa n).length:=by simp[Ib,ByteArray.size]
 have h3:=Lib.itoa_length_le n h0 h1;have h4:=List.length_pos_iff.2 (Jl n).1;omega

theorem Sj(v:Value)(xs:List Int)(w:World)(h:RI w v xs)(hw:In64 xs)(hP:Pow w):
 Calls Tryz.prog 259 #[v] w fun e w'=>e= .returned (.string ⟨(eQ xs).toArray⟩)∧Below w.heap.size w w':=by
 obtain⟨i0,hi,hz0,hz1,hz2⟩:=info_parts Tryz.info9;obtain⟨hl,ao,ca,rfl,ha⟩:=h
 have HJ:Hid (∀w',(∀k,k<(xs.map Ib).length→w'.cell? ⟨w.heap.size,k,none⟩=some (.string ((xs.map Ib).getD k ⟨#[]⟩)))→
  Calls Tryz.prog 280 #[.slice (some ⟨w.heap.size,0,none⟩) (xs.map Ib).length (xs.map Ib).length,.string ⟨#[44]⟩] w' fun e w''=>e= .returned (.string ⟨(eQ xs).toArray⟩)∧Below w'.heap.size w' w''):=hide fun w' hc=>by
  have:=ig w.heap.size (xs.map Ib).length (xs.map Ib) w' (by simpa using hl) Ak (fun s hs=>by obtain⟨n,hn,rfl⟩:=List.mem_map.1 hs;exact jU (hw n hn).1 (hw n hn).2) hc;have e:(xs.map Ib).map (fun x=>x.data.toList)=xs.map Lib.itoa:=by simp[List.map_map,Function.comp_def,jV]
  rw[e]at this;exact this
 rw[List.length_map]at HJ;have HD:Hid (∀k,k<xs.length→∀w',Pow w'→Calls Tryz.prog 258 #[.int .i64 (xs.getD k 0)] w' fun e w''=>e= .returned (.string (Ib (xs.getD k 0)))∧Below w'.heap.size w' w''):=hide fun k hk w' hp=>EZ _ w' (hw _ (Qz hk)).1 (hw _ (Qz hk)).2 hp;have HP:=hide hP;obtain⟨n,hn⟩:∃n,xs.length=n:=⟨_,rfl⟩
 have Hn:Hid (xs.length=n):=hn;rw[hn]at hl HJ HD⊢;rw[hn]at ha;clear hn hw hP;go_enter Tryz.func259,Tryz.ntmps259
 go_wp2_with (first|(at_make;refine wpList_make_full _ rfl _ _ 249 rfl w.heap.size 9 i0 (.string ⟨#[]⟩) 1 Tryz.underlying249 hi hz0 hz1 .i64 .i64 n n n rfl rfl rfl rfl (by rw[hz2];omega) (by unfold maxLen;omega) Ak ?_;intro w0 ho0 hg0))
 have hstart:w0.ownsRow w.heap.size 9 1 (.slice (some ⟨w.heap.size,0,none⟩) n n) n (GL xs 0):=by
  have e:(madeCells (Value.string ⟨#[]⟩).cells (n*1)).toList=GL xs 0:=by
   rw[Xa,Hn.out,Nat.mul_one];exact toList_madeCells_one _ _
  rw[←e];exact ho0
 have HB:Hid (Below w.heap.size w w0):=(Below.refl _ _).grown hg0 Ak (by simp);clear ho0 hg0
 go_loopw [11] (fun i wr=>∃k:Nat,k≤n∧i= .int .i64 k∧wr.ownsRow w.heap.size 9 1 (.slice (some ⟨w.heap.size,0,none⟩) n n) n (GL xs k)∧Below w.heap.size w wr) (fun i _=>n-(intOf i).toNat)
 case atStart=>exact⟨0,Nat.zero_le _,rfl,hstart,HB.out⟩
 case round=>
  clear hstart;obtain⟨k,hk,rfl,ho,hbel⟩:=hrel;have hsz:=hbel.size;by_cases hlt:k<n
  ·rcases ha with ha|⟨b,off,rfl,ha⟩
   ·subst ha;have:=Hn.out;simp at this;omega
   have hkx:k<xs.length:=by rw[Hn.out];exact hlt
   have hc0:=ha k hlt;have hc:wr.cell? ⟨b,off+k,none⟩=some (.int .i64 (xs.getD k 0)):=(hbel.cell (AQ hc0)).trans hc0;have DI:=hide (HD.out k hlt wr (HP.out.below hbel));have HE:=hide (aF xs k hkx);have HO:=hide ho;clear ho hc0 ha;generalize xs.getD k 0=d at *;go_wp2_with fail
   refine DI.out.mono ?_;rintro e w1 ⟨rfl,b1⟩;have ho1:=World.ownsRow.kept (row:=none) HO.out ⟨b1.os,b1.tape,b1.output,b1.size,fun k hk _=>b1.block k hk⟩ (by simp[Value.ownBlock]);have zG:=hbel.trans (b1.mono hsz)
   obtain⟨u,hu⟩:∃u,w1.cell? ⟨w.heap.size,k,none⟩=some u:=by
    have h1:=ho1.cellAt k (by omega);have h2:k<(GL xs k).length:=by rw[aI xs k (by omega)];exact hkx
    exact⟨_,h1.trans (List.getElem?_eq_getElem h2)⟩
   have hfr:=ho1.frozenAt k
   have HS:Hid ((w1.setCell ⟨w.heap.size,k,none⟩ (.string (Ib d))).ownsRow w.heap.size 9 1 (.slice (some ⟨w.heap.size,0,none⟩) n n) n (GL xs (k+1))):=by
    rw[←HE.out];exact(ho1.stored k _).1
   have HG:Hid (Below w.heap.size w (w1.setCell ⟨w.heap.size,k,none⟩ (.string (Ib d)))):=zG.setCell Ak _;clear ho1 hbel b1 zG hc DI HE HO;go_wp2
   go_roundw
   case rel=>exact⟨k+1,by omega,by go_num,HS.out,HG.out⟩
   case measure=>simp[intOf];omega
  have hkn:k=n:=by omega
  have hcl:∀j,j<n→wr.cell? ⟨w.heap.size,j,none⟩=some (.string ((xs.map Ib).getD j ⟨#[]⟩)):=fun j hj=>by
   have h1:=ho.cellAt j (by omega);rw[hkn,←Hn.out,aJ]at h1;rw[h1];have hj':j<xs.length:=by rw[Hn.out];exact hj
   simp[hj']
  have JA:=hide (HJ.out wr hcl);clear ha ho hcl hkn;go_wp2_with fail
  refine JA.out.mono ?_;rintro e w1 ⟨rfl,b1⟩;have zG:=hbel.trans (b1.mono hsz);go_wp2;go_ret;exact⟨rfl,zG⟩
abbrev tv(m d s x:ByteArray):Value:= .agg #[.string m,.string d,.string s,.string x]
theorem nC(m d s x m' d' s' x':ByteArray)(w:World):
 (binOp .eql 297 (tv m d s x) (tv m' d' s' x')).run Tryz.prog w= .ok (.bool (m.toList==m'.toList&&(d.toList==d'.toList&&(s.toList==s'.toList&&x.toList==x'.toList)))) w:=by
 have hS:Tryz.prog.underlying 297=some (.struct (Tryz.prog.fieldsOf 297)):=by kernel_rfl
 have hp:Tryz.prog.stoodInHeld 297=false:=by kernel_rfl
 rw[run_eql_struct,show(10000:Nat)=9999+1 from rfl,run_equalIn_struct w 9999 297 _ _ hS hp];simp only[Program.fieldsOf,Tryz.underlying297];go_simp;by_cases h1:m.toList=m'.toList<;>by_cases h2:d.toList=d'.toList<;>by_cases h3:s.toList=s'.toList<;>by_cases h4:x.toList=x'.toList<;>simp[h1,h2,h3,h4]
theorem YP(x y:Operand)(xs ys:Array Value)(w:World):(eqGuard .eql 297 x y (.agg xs) (.agg ys)).run Tryz.prog w= .ok () w:=run_eqGuard_agg w .eql _ x y xs ys (by kernel_rfl)
end
end Go.Proofs.YtcjmcgolgbkknaaGreatDoor
