/- Lemmas; their conditions stand in each statement. -/
import Derived.Lib.ItoaLen
import Derived.Test.YtkmnfeihjjccmaaGreatDoorTLAE
set_option maxRecDepth 100000
set_option maxHeartbeats 8000000
namespace Go.Proofs.YtkmnfeihjjccmaaGreatDoor
section
open Go.RowKit
def VP(ps:List (List UInt8)):List UInt8:=ps.flatMap fun t=>44 :: t
def Kr:List (List UInt8)→List UInt8
 | []=>[]
 |p :: ps=>p++VP ps
theorem Kb(p:List UInt8)(ps:List (List UInt8)):VP (p :: ps)=44 :: Kr (p :: ps):=by simp[VP,Kr]
theorem iy(ps:List (List UInt8))(k:Nat)(h:k<ps.length):VP (ps.take (k+1))=VP (ps.take k)++44 :: ps.getD k []:=by
 rw[List.take_succ_eq_append_getElem h]
 unfold VP
 rw[List.flatMap_append]
 congr 1
 simp[List.getD_eq_getElem?_getD,h]
theorem rf(ps:List (List UInt8))(h:∀p ∈ ps,p.length≤21):(VP ps).length≤ps.length*22:=by
 induction ps with
 |nil=>simp[VP]
 |cons p ps ih=>
  have h1:=h p (by simp)
  have h2:=ih (fun q hq=>h q (by simp[hq]))
  simp only[VP,List.flatMap_cons,List.length_append,List.length_cons]at *
  omega
theorem eU{a b x y:List UInt8}(ha:(44:UInt8) ∉ a)(hb:(44:UInt8) ∉ b)(h:a++44 :: x=b++44 :: y):a=b∧x=y:=by
 induction a generalizing b with
 |nil=>
  cases b with
  |nil=>simpa using h
  |cons c b=>simp at h;exact absurd (by simp[h.1]) hb
 | cons c a ih=>
  cases b with
  |nil=>simp at h;exact absurd (by simp[h.1]) ha
  |cons d b=>
   simp only[List.cons_append,List.cons.injEq]at h
   have:=ih (b:=b) (fun q=>ha (by simp[q])) (fun q=>hb (by simp[q])) h.2
   exact⟨by rw[h.1,this.1],this.2⟩
theorem rq(ps qs:List (List UInt8))(hp:∀p ∈ ps,p≠[]∧(44:UInt8) ∉ p)(hq:∀q ∈ qs,q≠[]∧(44:UInt8) ∉ q)(h:Kr ps=Kr qs):ps=qs:=by
 induction ps generalizing qs with
 | nil=>
  cases qs with
  |nil=>rfl
  |cons q qs=>
   simp only[Kr]at h
   exact absurd (List.append_eq_nil_iff.1 h.symm).1 (hq q (by simp)).1
 | cons p ps ih=>
  cases qs with
  |nil=>
   simp only[Kr]at h
   exact absurd (List.append_eq_nil_iff.1 h).1 (hp p (by simp)).1
  | cons q qs=>
   have pc:=(hp p (by simp)).2
   have qc:=(hq q (by simp)).2
   simp only[Kr]at h
   cases ps with
   | nil=>
    cases qs with
    |nil=>simpa[VP]using h
    |cons q2 qs=>
     rw[Kb]at h
     simp only[VP,List.flatMap_nil,List.append_nil]at h
     exact absurd (by rw[h];simp) pc
   | cons p2 ps=>
    cases qs with
    |nil=>
     rw[Kb]at h
     simp only[VP,List.flatMap_nil,List.append_nil]at h
     exact absurd (by rw[←h];simp) qc
    |cons q2 qs=>
     rw[Kb,Kb]at h
     obtain⟨e1,e2⟩:=eU pc qc h
     rw[e1,ih (q2 :: qs) (fun x hx=>hp x (by simp at hx⊢;exact .inr hx)) (fun x hx=>hq x (by simp at hx⊢;exact .inr hx)) e2]
theorem Fp(u:Nat)(h:¬u<10):Lib.decDigits u=Lib.decDigits (u/10)++[UInt8.ofNat (48+u%10)]:=by rw[Lib.decDigits,dif_neg h]
theorem I_(d:Nat)(h:d<10):(UInt8.ofNat (48+d)).toNat=48+d:=by rw[UInt8.toNat_ofNat'];omega
theorem Qy(u:Nat):∀c ∈ Lib.decDigits u,48≤c.toNat∧c.toNat≤57:=by
 induction u using Nat.strongRecOn with
 | ind u ih=>
  intro c hc
  by_cases h:u<10
  ·rw[Lib.decDigits_one h]at hc
   have e:c=UInt8.ofNat (48+u):=by simpa using hc
   have:=I_ u h
   rw[e]
   omega
  rw[Fp u h,List.mem_append]at hc
  rcases hc with hc|hc
  ·exact ih (u/10) (by omega) c hc
  have e:c=UInt8.ofNat (48+u%10):=by simpa using hc
  have:=I_ (u%10) (by omega)
  rw[e]
  omega
theorem YZ(u:Nat):Lib.decDigits u≠[]:=by
 intro e
 have:=congrArg List.length e
 rw[Lib.decDigits_length]at this
 have:=Lib.nDigits_pos u
 simp at *
 omega
theorem Za(u v:Nat)(e:Lib.decDigits u=Lib.decDigits v):u=v:=by
 induction u using Nat.strongRecOn generalizing v with
 | ind u ih=>
  by_cases h:u<10
  ·by_cases k:v<10
   ·rw[Lib.decDigits_one h,Lib.decDigits_one k]at e
    have:=congrArg UInt8.toNat (List.cons.inj e).1
    rw[I_ u h,I_ v k]at this
    omega
   rw[Lib.decDigits_one h,Fp v k]at e
   have hl:=congrArg List.length e
   have:=List.length_pos_iff.2 (YZ (v/10))
   simp only[List.length_append,List.length_cons,List.length_nil]at hl
   omega
  by_cases k:v<10
  ·rw[Lib.decDigits_one k,Fp u h]at e
   have hl:=congrArg List.length e
   have:=List.length_pos_iff.2 (YZ (u/10))
   simp only[List.length_append,List.length_cons,List.length_nil]at hl
   omega
  rw[Fp u h,Fp v k]at e
  obtain⟨e1,e2⟩:=List.append_inj' e rfl
  have:=ih (u/10) (by omega) (v/10) e1
  have e3:=congrArg UInt8.toNat (List.cons.inj e2).1
  rw[I_ _ (by omega),I_ _ (by omega)]at e3
  omega
theorem Jg(n:Int):Lib.itoa n≠[]∧(44:UInt8) ∉ Lib.itoa n:=by
 have no:∀u,(44:UInt8) ∉ Lib.decDigits u:=fun u hc=>by have:=Qy u 44 hc;simp at this
 rw[Lib.itoa]
 split
 ·exact⟨by simp,by simp[no]⟩
 exact⟨YZ _,no _⟩
theorem VQ{n m:Int}(e:Lib.itoa n=Lib.itoa m):n=m:=by
 have no:∀u r,(45:UInt8) :: r≠Lib.decDigits u:=fun u r h=>by have:=Qy u 45 (by rw[←h];simp);simp at this
 rw[Lib.itoa,Lib.itoa]at e
 split at e
 ·split at e
  ·have:=Za _ _ (List.cons.inj e).2
   omega
  exact absurd e (no _ _)
 split at e
 ·exact absurd e.symm (no _ _)
 have:=Za _ _ e
 omega
def eO(xs:List Int):List UInt8:=Kr (xs.map Lib.itoa)
theorem jY{xs ys:List Int}(e:eO xs=eO ys):xs=ys:=by
 have h:=rq _ _ (fun p hp=>by obtain⟨n,_,rfl⟩:=List.mem_map.1 hp;exact Jg n) (fun p hp=>by obtain⟨n,_,rfl⟩:=List.mem_map.1 hp;exact Jg n) e
 exact(List.map_inj_right (fun _ _ h=>VQ h)).1 h
theorem La(s:ByteArray):Lib.strCells s=Lib.byteCells s.data.toList:=by simp[Lib.strCells,Lib.byteCells]
theorem Q4(x y:List UInt8):Lib.byteCells x++Lib.byteCells y=Lib.byteCells (x++y):=by simp[Lib.byteCells]
theorem Q3(x:List UInt8):(Lib.byteCells x).length=x.length:=by simp[Lib.byteCells]
theorem mU:(229:TypeId)≠5:=by decide

theorem jR(B b n:Nat)(w:World)(hB:B≤b)(hbk:w.heap[b]? =some (.cells #[.pointer (some ⟨b,0,none⟩),.slice none 0 0] 229 (0,0)))(hBw:B≤w.heap.size)(hn:n≤1000000000):
 Calls Tryz.prog 212 #[.pointer (some ⟨b,0,none⟩),.int .i64 n] w fun e w'=>e= .returned (.tuple #[])∧Lib.BuilderAt 229 5 B b (.pointer (some ⟨b,0,none⟩)) [] w'∧Below B w w':=by
 obtain⟨i0,hi,_,hz1,_⟩:=info_parts Tryz.info5
 obtain⟨cs,hrun,hle,hmax⟩:=Lib.run_makeNoZero (P:=Tryz.prog) w.drew #[3] 31 5 Tryz.underlying31 n (by omega)
 have hlt:b<w.heap.size:=(Array.getElem?_eq_some_iff.1 hbk).1
 have hw:IntKind.i64.wrap (IntKind.i64.wrap 0+(n:Int))=n:=by rw[IntKind.wrap_i64,IntKind.wrap_i64];omega
 have hcall:(callFunc 222 #[.int .i64 (IntKind.i64.wrap (IntKind.i64.wrap 0+(n:Int)))]).run Tryz.prog w.drew= .ok (.value (.slice (some ⟨w.drew.heap.size,0,none⟩) n cs.size)) (w.drew.drew.drew.alloc (.cells cs 5)):=by
  rw[hw,run_callFunc_extern Tryz.func222 (by kernel_rfl) (by kernel_rfl) (by kernel_rfl) (e:=Extern.BytealgMakeNoZero.makeNoZero #[3] #[31]) (by kernel_rfl),hrun]
  rfl
 have c1:w.drew.cell? ⟨b,1,none⟩=some (.slice none 0 0):=by rw[Lib.cell_of_heap (w:=w.drew) hbk];rfl
 have hold:(w.alloc (.cells cs 5)).heap[b]? =_:=(Lib.alloc_old w _ b hlt).trans hbk
 have c2:(w.alloc (.cells cs 5)).cell? ⟨b,1,none⟩=some (.slice none 0 0):=by rw[Lib.cell_of_heap hold];rfl
 have f2:(w.alloc (.cells cs 5)).frozen? ⟨b,1,none⟩=false:=Lib.frozen_of_heap hold 1
 have hcopy:∀W:World,(Builtin.copy_ #[31,31] 3 #[.slice (some ⟨w.heap.size,0,none⟩) 0 cs.size,.slice none 0 0]).run Tryz.prog W= .ok (goInt 0) W:=
  fun W=>run_copy_none W 31 31 3 5 _ _ 0 cs.size 0 0 Tryz.underlying31 (by rw[hi];simp[hz1]) rfl
 have hfin:=Lib.grown_fresh (T:=229) (e:=5) (cs:=cs) hB hbk hBw (hmax (by unfold maxLen;omega)) mU
 have c2':((w.alloc (.cells cs 5)).drew.drew.drew).cell? ⟨b,1,none⟩=some (.slice none 0 0):=c2
 clear hw hrun hmax hlt hold hbk
 go_enter Tryz.func212,Tryz.ntmps212
 go_upto_region 0 with fail
 refine wp_region_noPanic ?_
 refine wp_region_held_drew (S:=fun w'=>w'.cell? ⟨b,1,none⟩=some (.slice none 0 0)) (by kernel_rfl) c1 (fun hHeld=>?_)
 refine tx 0 5 ?_
 refine tx 6 11 ?_
 refine tx 9 14 ?_
 refine tx 1 6 ?_
 refine tx 10 15 ?_
 refine tx 2 7 ?_
 refine tx 11 16 ?_
 refine tx 3 8 ?_
 refine tx 12 17 ?_
 refine tx 4 9 ?_
 refine tx 13 18 ?_
 refine tx 5 10 ?_
 refine tx 7 12 ?_
 refine rd 8 rfl (fun KK AA=>?_)
 go_simp
 clear hHeld
 refine AA.out _ _ c2' (fun hHeld=>?_)
 clear AA KK
 refine tx 14 19 ?_
 refine tx 15 4 ?_
 clear hHeld
 refine Bt ?_
 go_wp2
 go_end0
 exact⟨rfl,hfin⟩

theorem jS(B b n:Nat)(w:World)(hB:B≤b)(hbk:w.heap[b]? =some (.cells #[.pointer none,.slice none 0 0] 229 (0,0)))(hBw:B≤w.heap.size)(hn:n≤1000000000):
 Calls Tryz.prog 199 #[.pointer (some ⟨b,0,none⟩),.int .i64 n] w fun e w'=>e= .returned (.tuple #[])∧Lib.BuilderAt 229 5 B b (.pointer (some ⟨b,0,none⟩)) [] w'∧Below B w w':=by
 obtain⟨w1,hw1⟩:∃w1,w.setCell ⟨b,0,none⟩ (.pointer (some ⟨b,0,none⟩))=w1:=⟨_,rfl⟩
 have hbk1:w1.heap[b]? =some (.cells #[.pointer (some ⟨b,0,none⟩),.slice none 0 0] 229 (0,0)):=by rw[←hw1];simp[World.setCell,Array.getElem?_modify,hbk]
 have b1:Below B w w1:=hw1▸(Below.refl B w).setCell (p:=⟨b,0,none⟩) hB _
 have c1:w1.cell? ⟨b,1,none⟩=some (.slice none 0 0):=by rw[Lib.cell_of_heap hbk1];rfl
 have c1':w1.drew.cell? ⟨b,1,none⟩=some (.slice none 0 0):=c1
 have hU:Lib.BuilderAt 229 5 B b (.pointer (some ⟨b,0,none⟩)) [] w1:=⟨hB,.slice none 0 0,hbk1,World.ownsRow_nil _ _ _ _,by simp[Value.ownBlock]⟩
 have CK:=hide (Q0 b w (by rw[Lib.cell_of_heap hbk];rfl) (by simp[World.shape?,hbk]) (Lib.frozen_of_heap hbk 0))
 rw[hw1]at CK
 have GN:=hide (jR B b n w1.drew hB hbk1 (Nat.le_trans hBw b1.size) hn)
 have hn0:decide ((n:Int)<0)=false:=by simp
 clear hw1
 go_enter Tryz.func199,Tryz.ntmps199
 go_wp2_with fail
 refine CK.out.mono ?_
 rintro e w' ⟨rfl,rfl⟩
 by_cases h0:n=0
 ·subst h0
  go_upto_region 3 with fail
  refine wp_region_noPanic ?_
  refine wp_region_held_drew (S:=fun w'=>w'.cell? ⟨b,1,none⟩=some (.slice none 0 0)) (by kernel_rfl) c1' (fun hHeld=>?_)
  refine tx 0 9 ?_
  refine tx 5 14 ?_
  refine tx 11 20 ?_
  refine tx 1 10 ?_
  refine tx 6 15 ?_
  refine tx 2 11 ?_
  refine tx 7 16 ?_
  refine tx 3 12 ?_
  refine tx 8 17 ?_
  refine tx 4 13 ?_
  refine tx 9 18 ?_
  refine tx 10 19 ?_
  refine tx 12 21 ?_
  clear hHeld
  refine Bt ?_
  go_wp2
  go_end0
  exact⟨rfl,hU.drew,b1.drew⟩
 have hd:decide (IntKind.i64.wrap 0<(n:Int))=true:=by rw[IntKind.wrap_i64];simp;omega
 go_upto_region 3 with fail
 refine wp_region_noPanic ?_
 refine wp_region_held_drew (S:=fun w'=>w'.cell? ⟨b,1,none⟩=some (.slice none 0 0)) (by kernel_rfl) c1' (fun hHeld=>?_)
 refine tx 0 9 ?_
 refine tx 5 14 ?_
 refine tx 11 20 ?_
 refine tx 1 10 ?_
 refine tx 6 15 ?_
 refine tx 2 11 ?_
 refine tx 7 16 ?_
 refine tx 3 12 ?_
 refine tx 8 17 ?_
 refine tx 4 13 ?_
 refine tx 9 18 ?_
 refine tx 10 19 ?_
 refine tx 12 21 ?_
 clear hHeld
 refine Bt ?_
 go_wp2_with fail
 refine GN.out.mono ?_
 rintro e w2 ⟨rfl,h1,h2⟩
 go_wp2
 go_end0
 exact⟨rfl,h1,b1.drew.trans h2⟩
theorem jA(ps:List (List UInt8))(k:Nat):(Kr (ps.take k)).length≤(Kr ps).length:=by
 have h:∀(qs:List (List UInt8)) j,(VP (qs.take j)).length≤(VP qs).length:=fun qs j=>by
  unfold VP
  conv=>rhs;rw[←List.take_append_drop j qs,List.flatMap_append,List.length_append]
  omega
 cases ps with
 |nil=>simp
 |cons p ps=>
  cases k with
  |zero=>simp[Kr]
  |succ k=>simp only[List.take_succ_cons,Kr,List.length_append];have:=h ps k;omega
theorem jB(ps:List (List UInt8))(k:Nat)(h:k+1<ps.length):Kr (ps.take (k+2))=Kr (ps.take (k+1))++44 :: ps.getD (k+1) []:=by
 cases ps with
 |nil=>simp at h
 |cons p ps=>
  simp only[List.take_succ_cons,Kr]
  rw[iy ps k (by simpa using h),List.append_assoc]
  rfl

theorem join_none(a:Option Addr)(c:Nat)(w:World):
 Calls Tryz.prog 189 #[.slice a 0 c,.string ⟨#[44]⟩] w fun e w'=>e= .returned (.string ⟨#[]⟩)∧Below w.heap.size w w':=by
 go_enter Tryz.func189,Tryz.ntmps189
 go_wp2
 go_ret
 exact⟨rfl,Below.refl _ _⟩
theorem join_one(b c:Nat)(s:ByteArray)(w:World)(h:w.cell? ⟨b,0,none⟩=some (.string s)):
 Calls Tryz.prog 189 #[.slice (some ⟨b,0,none⟩) 1 c,.string ⟨#[44]⟩] w fun e w'=>e= .returned (.string s)∧Below w.heap.size w w':=by
 go_enter Tryz.func189,Tryz.ntmps189
 go_wp2
 go_ret
 exact⟨rfl,Below.refl _ _⟩

theorem dL(b c n:Nat)(ss:List ByteArray)(w:World)(hn:ss.length=n)(h2:2≤n)(hl:n≤4194304)(hc:n≤c)(hs:∀s ∈ ss,0<s.size∧s.size≤21)
 (h:∀k,k<n→w.cell? ⟨b,k,none⟩=some (.string (ss.getD k ⟨#[]⟩))):
 Calls Tryz.prog 189 #[.slice (some ⟨b,0,none⟩) n c,.string ⟨#[44]⟩] w fun e w'=>e= .returned (.string ⟨(Kr (ss.map (·.data.toList))).toArray⟩)∧Below w.heap.size w w':=by
 have hb:b<w.heap.size:=AY (h 0 (by omega))
 have hsz:∀k,k<n→0<(ss.getD k ⟨#[]⟩).size∧(ss.getD k ⟨#[]⟩).size≤21:=fun k hk=>by
  have hk':k<ss.length:=by omega
  rw[List.getD_eq_getElem?_getD,List.getElem?_eq_getElem hk']
  exact hs _ (List.getElem_mem hk')
 have hlen:(Kr (ss.map (·.data.toList))).length≤n*22+21:=by
  cases ss with
  |nil=>simp[Kr]
  |cons s ss=>
   have h1:=(hs s (by simp)).2
   have h3:=rf (ss.map (·.data.toList)) (fun p hp=>by obtain⟨t,ht,rfl⟩:=List.mem_map.1 hp;have h5:=(hs t (by simp[ht])).2;have h6:t.data.toList.length=t.size:=Array.length_toList;omega)
   simp only[List.map_cons,Kr,List.length_append,List.length_map,List.length_cons]at *
   have h6:s.data.toList.length=s.size:=Array.length_toList
   omega
 have HS:=hide hsz
 have HC:=hide h
 have HL:=hide fun k=>jA (ss.map (·.data.toList)) k
 have HN:=hide fun k(hk:k+1<n)=>jB (ss.map (·.data.toList)) k (by simpa[hn]using hk)
 have HG:Hid (∀k,k<n→(ss.map (·.data.toList)).getD k []=(ss.getD k ⟨#[]⟩).data.toList):=hide fun k hk=>by
  have hk':k<ss.length:=by omega
  simp[List.getD_eq_getElem?_getD,hk']
 have HA:Hid ((ss.map (·.data.toList)).take n=ss.map (·.data.toList)):=hide (List.take_of_length_le (by simp[hn]))
 have H1:Hid (Kr ((ss.map (·.data.toList)).take 1)=(ss.getD 0 ⟨#[]⟩).data.toList):=hide (by
  cases ss with
  |nil=>simp at hn;omega
  |cons s ss=>simp[Kr,VP])
 generalize ss.map (·.data.toList)=ps at *
 have hne0:((n:Int)==0)=false:=beq_eq_false_iff_ne.2 (by omega)
 have hne1:((n:Int)==1)=false:=beq_eq_false_iff_ne.2 (by omega)
 have hq:¬(9223372036854775807/((n:Int)-1)≤1):=by
  have h1:(2:Int)*((n:Int)-1)≤9223372036854775807:=by omega
  have:=Int.le_ediv_of_mul_le (show(0:Int)<(n:Int)-1 by omega) h1
  omega
 clear h hs hsz hn
 go_enter Tryz.func189,Tryz.ntmps189
 go_wp2_with fail
 go_loopw [5,41] (fun a i wr=>∃k t:Nat,k≤n∧i= .int .i64 k∧a= .int .i64 t∧t≤n+21*k∧wr=w) (fun _ i _=>n-(intOf i).toNat)
 case atStart=>exact⟨0,n-1,Nat.zero_le _,rfl,by congr 1;omega,by omega,rfl⟩
 case round=>
  obtain⟨k,t,hk,rfl,rfl,ht,hw⟩:=hrel
  have hw':=hw.symm
  subst hw'
  clear hw
  by_cases hlt:k<n
  ·have hcell:=HC.out k hlt
   have hss:=HS.out k hlt
   generalize ss.getD k ⟨#[]⟩=s at *
   have hd:decide (9223372036854775807-(t:Int)<(s.size:Int))=false:=by simp;omega
   go_wp2
   go_roundw
   case rel=>exact⟨k+1,t+s.size,by omega,by go_num,by go_num,by omega,trivial⟩
   case measure=>simp[intOf];omega
  have hke:k=n:=by omega
  subst hke
  clear hlt hk
  go_wp2_with fail
  refine(jS w.heap.size w.heap.size t _ (Nat.le_refl _) (heap_alloc_new w _) (by simp) (by omega)).mono ?_
  rintro e w1 ⟨rfl,G1,b1⟩
  have B1:Below w.heap.size w w1:=((Below.refl _ w).alloc (Nat.le_refl _) _).trans b1
  have hcell:=(B1.cell (p:=⟨b,0,none⟩) hb).trans (HC.out 0 (by omega))
  have hss:=HS.out 0 (by omega)
  have HI:=hide G1
  have s1:=B1.size
  clear b1 G1
  generalize ss.getD 0 ⟨#[]⟩=s0 at *
  go_wp2_with fail
  refine(writeString _ _ _ s0 _ (.inr HI.out) (by simp) (by omega) (by omega) (by omega)).mono ?_
  rintro e w2 ⟨rfl,G2,b2⟩
  have B2:Below w.heap.size w w2:=B1.trans b2
  have HI2:Hid (Lib.IsBuilder 229 5 w.heap.size w.heap.size (Lib.byteCells (Kr (ps.take 1))) w2):=by
   show Lib.IsBuilder _ _ _ _ _ _
   rw[H1.out,←La]
   exact .inr (by simpa using G2)
  have s2:=B2.size
  clear G2 b2 HI B1 s1 hcell hss
  go_wp2_with fail
  go_loopw [65] (fun i wx=>∃j:Nat,j≤k-1∧i= .int .i64 j∧Hid (Lib.IsBuilder 229 5 w.heap.size w.heap.size (Lib.byteCells (Kr (ps.take (j+1)))) wx)∧Below w.heap.size w wx) (fun i _=>k-1-(intOf i).toNat)
  case atStart=>exact⟨0,Nat.zero_le _,rfl,HI2,B2⟩
  case round=>
   clear HI2 B2 s2
   obtain⟨j,hj,rfl,HB,Bx⟩:=hrel
   have sx:=Bx.size
   by_cases hlt:j<k-1
   ·have hcell:wr.cell? ⟨b,1+j,none⟩=some (.string (ss.getD (1+j) ⟨#[]⟩)):=(Bx.cell (p:=⟨b,1+j,none⟩) hb).trans (HC.out (1+j) (by omega))
    have hss:=HS.out (1+j) (by omega)
    have HE:Hid (Kr (ps.take (j+2))=Kr (ps.take (j+1))++44 :: (ss.getD (1+j) ⟨#[]⟩).data.toList):=hide (by rw[HN.out j (by omega),HG.out (j+1) (by omega),show 1+j=j+1 from Nat.add_comm 1 j])
    have hlj:=Nat.le_trans (HL.out (j+1)) hlen
    generalize ss.getD (1+j) ⟨#[]⟩=s at *
    go_wp2_with fail
    refine(writeString _ _ _ ⟨#[44]⟩ _ HB.out (by rw[Q3];omega) (by decide) (by decide) (by omega)).mono ?_
    rintro e w3 ⟨rfl,G3,b3⟩
    have B3:Below w.heap.size w w3:=Bx.trans b3
    replace hcell:=(b3.cell (p:=⟨b,1+j,none⟩) hb).trans hcell
    have HI3:=hide G3
    have s3:=B3.size
    clear G3 b3
    go_wp2_with fail
    refine(writeString _ _ _ s _ (.inr HI3.out) (by simp only[List.length_append,Q3,Lib.strCells_length];have:(⟨#[44]⟩:ByteArray).size=1:=rfl;omega) (by omega) (by omega) (by omega)).mono ?_
    rintro e w4 ⟨rfl,G4,b4⟩
    have B4:Below w.heap.size w w4:=B3.trans b4
    have HI4:Hid (Lib.IsBuilder 229 5 w.heap.size w.heap.size (Lib.byteCells (Kr (ps.take (j+2)))) w4):=by
     show Lib.IsBuilder _ _ _ _ _ _
     rw[HE.out,show∀(x:List UInt8)(y:List UInt8),x++44 :: y=x++((⟨#[44]⟩:ByteArray).data.toList++y) from fun _ _=>rfl,←Q4,←Q4,←La,←La,←List.append_assoc]
     exact .inr G4
    clear G4 b4 HI3 HE
    go_wp2
    go_roundw
    case rel=>exact⟨j+1,by omega,by go_num,HI4,B4⟩
    case measure=>simp[intOf];omega
   have hje:j+1=k:=by omega
   have hB':=HB.out
   rw[hje,HA.out]at hB'
   have HB':=hide hB'
   clear HB hB' hje
   go_wp2_with fail
   refine(Tryz.Builder_String_any w.heap.size w.heap.size _ _ HB'.out (by omega)).mono ?_
   rintro e w5 ⟨rfl,b5⟩
   have B5:=Bx.trans b5
   go_wp2
   go_ret
   exact⟨rfl,B5⟩
theorem iw(b c:Nat)(ss:List ByteArray)(w:World)(hl:ss.length≤4194304)(hc:ss.length≤c)(hs:∀s ∈ ss,0<s.size∧s.size≤21)
 (h:∀k,k<ss.length→w.cell? ⟨b,k,none⟩=some (.string (ss.getD k ⟨#[]⟩))):
 Calls Tryz.prog 189 #[.slice (some ⟨b,0,none⟩) ss.length c,.string ⟨#[44]⟩] w fun e w'=>e= .returned (.string ⟨(Kr (ss.map (·.data.toList))).toArray⟩)∧Below w.heap.size w w':=by
 by_cases h2:2≤ss.length
 ·exact dL b c ss.length ss w rfl h2 hl hc hs h
 match ss,h with
 | [],_=>exact join_none _ _ w
 | [s],h=>
  have:=join_one b c s w (h 0 (by simp))
  simpa[Kr,VP]using this
 |s :: t :: r,_=>simp at h2
theorem Rt(w:World)(c:Int):(convert 31 9 (.slice (some ⟨w.heap.size,0,none⟩) 1 1)).run Tryz.prog (w.alloc (.cells #[.int .u8 c] 5))= .ok (.string (strOfNums [c])) (w.alloc (.cells #[.int .u8 c] 5)):=by
 refine run_convert_bytes_arg (P:=Tryz.prog) _ 31 5 Tryz.underlying31 Tryz.underlying5 w.heap.size 0 1 1 [c] rfl (fun i hi=>?_) 9 Tryz.underlying9
 obtain rfl:i=0:=by omega
 simp
end
section

def rest(m:Nat):List UInt8:=if m=0 then []else Lib.decDigits m
theorem rest_step(m:Nat)(h:m≠0):rest m=rest (m/10)++[UInt8.ofNat (48+m%10)]:=by
 by_cases h10:m<10
 ·have e:m/10=0:=by omega
  rw[rest,if_neg h,Lib.decDigits,dif_pos h10,e,rest,if_pos rfl,Nat.mod_eq_of_lt h10];rfl
 have e:m/10≠0:=by omega
 rw[rest,if_neg h,Lib.decDigits,dif_neg h10,rest,if_neg e]
def tN(n m:Nat)(t:List UInt8):Prop:=rest m++t=rest n∧t.length≤20∧m<10 ^ (20-t.length)
theorem LU(n:Nat)(h:n≤9223372036854775808):tN n n []:=⟨by simp,by simp,by simp;omega⟩
theorem PL{n m:Nat}{t:List UInt8}(h:tN n m t)(h0:m≠0):tN n (m/10) (UInt8.ofNat (48+m%10) :: t)∧t.length≤19:=by
 obtain⟨h1,h2,h3⟩:=h
 have hl:t.length≤19:=by
  by_cases e:t.length=20
  ·rw[e]at h3;simp at h3;omega
  omega
 refine⟨⟨?_,by simp;omega,?_⟩,hl⟩
 ·rw[rest_step m h0]at h1;simpa using h1
 have e:20-t.length=(20-(t.length+1))+1:=by omega
 rw[e,Nat.pow_succ]at h3
 simp only[List.length_cons]
 exact Nat.div_lt_of_lt_mul (by rw[Nat.mul_comm];exact h3)
theorem Sg{n:Nat}{t:List UInt8}(h:tN n 0 t)(hn:n≠0):t=Lib.decDigits n:=by
 have:=h.1
 rwa [rest,if_pos rfl,List.nil_append,rest,if_neg hn]at this

theorem Oi(k:Nat)(t:List UInt8)(h:k<10):strOfNums [48+(k:Int)]++(⟨t.toArray⟩:ByteArray)=⟨(UInt8.ofNat (48+k) :: t).toArray⟩:=by
 have e:(48+(k:Int)).toNat=48+k:=by omega
 apply ByteArray.ext
 apply Array.toList_inj.1
 simp[strOfNums,e]
theorem Oh(c:Int):(strOfNums [c]).size=1:=rfl
end
section
open Go.RowKit
theorem OV(n:Nat)(w:World)(hn:0<n)(hm:n≤9223372036854775807):
 Calls Tryz.prog 161 #[.int .i64 n] w fun e w'=>e= .returned (.string ⟨(Lib.decDigits n).toArray⟩)∧Below w.heap.size w w':=by
 have hcv:=Rt
 have hsz:=Oh
 have hne:((n:Int)==0)=false:=by simp;omega
 have hlt:decide ((n:Int)<0)=false:=by simp
 go_enter Tryz.func161,Tryz.ntmps161
 go_wp2
 go_loopw [0,4] (fun x s wr=>∃(m:Nat)(t:List UInt8),m≤9223372036854775807∧tN n m t∧x= .int .i64 m∧s= .string ⟨t.toArray⟩∧Below w.heap.size w wr) (fun x _ _=>(intOf x).toNat)
 case atStart=>exact⟨n,[],hm,LU n (by omega),rfl,rfl,Below.refl _ _⟩
 case round=>
  obtain⟨m,t,hm',hd,rfl,rfl,hb⟩:=hrel
  by_cases h0:m=0
  ·subst h0
   have HE:=hide (Sg hd (by omega))
   clear hd
   go_wp2
   go_ret
   have xk:=HE.out
   subst xk
   exact⟨rfl,hb⟩
  have hne':((m:Int) != 0)=true:=by simp[h0]
  obtain⟨hd',hl⟩:=PL hd h0
  have HD:=hide hd'
  clear hd hd'
  have hs0:=hb.size
  have hmo:=Oi (m%10) t (by omega)
  have hbl:Below w.heap.size w (wr.alloc (.cells #[.int .u8 (48+(m:Int)%10)] 5)):=hb.alloc hs0 _
  go_wp2
  go_roundw
  case rel=>exact⟨m/10,_,by omega,HD.out,by go_num,by rw[←hmo];rfl,hbl⟩
  case measure=>simp[intOf];omega

theorem OW(n:Nat)(w:World)(hn:0<n)(hm:n≤9223372036854775808):
 Calls Tryz.prog 161 #[.int .i64 (-(n:Int))] w fun e w'=>e= .returned (.string ⟨(45 :: Lib.decDigits n).toArray⟩)∧Below w.heap.size w w':=by
 have hcv:=Rt
 have hsz:=Oh
 have hne:((-(n:Int))==0)=false:=by simp;omega
 have hlt:decide (-(n:Int)<0)=true:=by simp;omega
 go_enter Tryz.func161,Tryz.ntmps161
 go_wp2
 go_loopw [0,4] (fun x s wr=>∃(m:Nat)(t:List UInt8),m≤9223372036854775808∧tN n m t∧x= .int .i64 (-(m:Int))∧s= .string ⟨t.toArray⟩∧Below w.heap.size w wr) (fun x _ _=>(-(intOf x)).toNat)
 case atStart=>exact⟨n,[],hm,LU n hm,rfl,rfl,Below.refl _ _⟩
 case round=>
  obtain⟨m,t,hm',hd,rfl,rfl,hb⟩:=hrel
  by_cases h0:m=0
  ·subst h0
   have HE:=hide (Sg hd (by omega))
   have hl:=hd.2.1
   clear hd
   go_wp2
   go_ret
   have xk:=HE.out
   subst xk
   exact⟨by apply congrArg Ending.returned;apply congrArg Value.string;apply ByteArray.ext;apply Array.toList_inj.1;simp,hb⟩
  have hne':((-(m:Int)) != 0)=true:=by simp[h0]
  obtain⟨hd',hl⟩:=PL hd h0
  have HD:=hide hd'
  clear hd hd'
  have hs0:=hb.size
  have hmo:=Oi (m%10) t (by omega)
  have ht:(-(m:Int)).tmod 10= -((m%10:Nat):Int):=by rw[Int.neg_tmod];rfl
  have hq:(-(m:Int)).tdiv 10= -((m/10:Nat):Int):=by rw[Int.neg_tdiv];rfl
  by_cases hz:m%10=0
  ·have hbl:Below w.heap.size w (wr.alloc (.cells #[.int .u8 48] 5)):=hb.alloc hs0 _
   go_wp2
   go_roundw
   case rel=>exact⟨m/10,_,by omega,HD.out,by go_num,by rw[←hmo,hz];rfl,hbl⟩
   case measure=>simp[intOf];omega
  have hbl:Below w.heap.size w (wr.alloc (.cells #[.int .u8 (48+(m:Int)%10)] 5)):=hb.alloc hs0 _
  go_wp2
  go_roundw
  case rel=>exact⟨m/10,_,by omega,HD.out,by go_num,by rw[←hmo];rfl,hbl⟩
  case measure=>simp[intOf];omega

theorem ML(w:World):
 Calls Tryz.prog 161 #[.int .i64 0] w fun e w'=>e= .returned (.string ⟨(Lib.decDigits 0).toArray⟩)∧Below w.heap.size w w':=by
 go_enter Tryz.func161,Tryz.ntmps161
 go_wp2
 go_ret
 exact⟨by rw[Lib.decDigits];rfl,Below.refl _ _⟩

theorem Cn(n:Int)(w:World)(h0: -9223372036854775808≤n)(h1:n≤9223372036854775807):
 Calls Tryz.prog 161 #[.int .i64 n] w fun e w'=>e= .returned (.string ⟨(Lib.itoa n).toArray⟩)∧Below w.heap.size w w':=by
 unfold Lib.itoa
 by_cases hn:n<0
 ·obtain⟨m,rfl⟩:∃m:Nat,n= -(m:Int):=⟨n.natAbs,by omega⟩
  rw[if_pos hn,show(-(m:Int)).natAbs=m from by omega]
  exact OW m w (by omega) (by omega)
 obtain⟨m,rfl⟩:=Int.eq_ofNat_of_zero_le (Int.not_lt.1 hn)
 rw[if_neg hn,Int.toNat_natCast]
 by_cases hm:m=0
 ·subst hm;exact ML w
 exact OV m w (by omega) (by omega)
end
end Go.Proofs.YtkmnfeihjjccmaaGreatDoor
namespace Go.Proofs
open Go.Shelf
def Tryz.laysM171_ren:Go.Shelf.Ren:=⟨fun|171=>188|243=>198|246=>210|283=>217|284=>218|285=>219|286=>220|129=>229|317=>228|318=>230|319=>231|320=>232|337=>235|338=>236|n=>n,fun|3=>3|9=>9|2=>2|4=>4|171=>249|0=>0|53=>250|37=>31|5=>5|173=>253|212=>265|51=>244|20=>20|213=>266|46=>238|232=>278|233=>279|n=>n,fun|17=>2|18=>5|19=>6|n=>n⟩
theorem Tryz.laysM171:Go.Proofs.LaysM.n171 Tryz.prog Tryz.laysM171_ren:={
 mixed:=by kernel_rfl
 f129:=Tryz.func229.trans (congrArg some (by kernel_rfl))
 f171:=Tryz.func188.trans (congrArg some (by kernel_rfl))
 f243:=Tryz.func198.trans (congrArg some (by kernel_rfl))
 f246:=Tryz.func210.trans (congrArg some (by kernel_rfl))
 f283:=Tryz.func217.trans (congrArg some (by kernel_rfl))
 f284:=Tryz.func218.trans (congrArg some (by kernel_rfl))
 f285:=Tryz.func219.trans (congrArg some (by kernel_rfl))
 f286:=Tryz.func220.trans (congrArg some (by kernel_rfl))
 f317:=Tryz.func228.trans (congrArg some (by kernel_rfl))
 f318:=Tryz.func230.trans (congrArg some (by kernel_rfl))
 f319:=Tryz.func231.trans (congrArg some (by kernel_rfl))
 f320:=Tryz.func232.trans (congrArg some (by kernel_rfl))
 f337:=Tryz.func235.trans (congrArg some (by kernel_rfl))
 f338:=Tryz.func236.trans (congrArg some (by kernel_rfl))
 t0:=Tryz.underlying0
 a0:=Tryz.isAgg0
 z0:=Tryz.sizeOf0
 v0:=Tryz.zeroValue0
 t2:=Tryz.underlying2
 a2:=Tryz.isAgg2
 z2:=Tryz.sizeOf2
 v2:=Tryz.zeroValue2
 t3:=Tryz.underlying3
 a3:=Tryz.isAgg3
 z3:=Tryz.sizeOf3
 v3:=Tryz.zeroValue3
 t4:=Tryz.underlying4
 a4:=Tryz.isAgg4
 z4:=Tryz.sizeOf4
 v4:=Tryz.zeroValue4
 t5:=Tryz.underlying5
 a5:=Tryz.isAgg5
 z5:=Tryz.sizeOf5
 v5:=Tryz.zeroValue5
 t9:=Tryz.underlying9
 a9:=Tryz.isAgg9
 z9:=Tryz.sizeOf9
 v9:=Tryz.zeroValue9
 t20:=Tryz.underlying20
 a20:=Tryz.isAgg20
 z20:=Tryz.sizeOf20
 v20:=Tryz.zeroValue20
 t37:=Tryz.underlying31
 a37:=Tryz.isAgg31
 z37:=Tryz.sizeOf31
 v37:=Tryz.zeroValue31
 t46:=Tryz.underlying238
 a46:=Tryz.isAgg238
 z46:=Tryz.sizeOf238
 v46:=Tryz.zeroValue238
 t51:=Tryz.underlying244
 a51:=Tryz.isAgg244
 z51:=Tryz.sizeOf244
 v51:=Tryz.zeroValue244
 t53:=Tryz.underlying250
 a53:=Tryz.isAgg250
 z53:=Tryz.sizeOf250
 v53:=Tryz.zeroValue250
 t171:=Tryz.underlying249
 a171:=Tryz.isAgg249
 z171:=Tryz.sizeOf249
 v171:=Tryz.zeroValue249
 t173:=Tryz.underlying253
 a173:=Tryz.isAgg253
 z173:=Tryz.sizeOf253
 v173:=Tryz.zeroValue253
 t212:=Tryz.underlying265
 a212:=Tryz.isAgg265
 z212:=Tryz.sizeOf265
 v212:=Tryz.zeroValue265
 t213:=Tryz.underlying266
 a213:=Tryz.isAgg266
 z213:=Tryz.sizeOf266
 t232:=Tryz.underlying278
 a232:=Tryz.isAgg278
 z232:=Tryz.sizeOf278
 v232:=Tryz.zeroValue278
 t233:=Tryz.underlying279
 a233:=Tryz.isAgg279
 z233:=Tryz.sizeOf279
 v233:=Tryz.zeroValue279
 g17:=by kernel_rfl
 g18:=by kernel_rfl
 g19:=by kernel_rfl
 i0:=by kernel_rfl
 i2:=by kernel_rfl
 i3:=by kernel_rfl
 i4:=by kernel_rfl
 i5:=by kernel_rfl
 i9:=by kernel_rfl
 i20:=by kernel_rfl
 i37:=by kernel_rfl
 i46:=by kernel_rfl
 i51:=by kernel_rfl
 i53:=by kernel_rfl
 i171:=by kernel_rfl
 i173:=by kernel_rfl
 i212:=by kernel_rfl
 i232:=by kernel_rfl
 i233:=by kernel_rfl
 m17:=by kernel_rfl
 m18:=by kernel_rfl
 m19:=by kernel_rfl }
open Go.RowKit Go.Sort Go.Lib in
theorem Tryz.strconv_Itoa (n : Int) (h0 : -9223372036854775808 ≤ n) (h1 : n ≤ 9223372036854775807) (w : World) (htab : Lib.TabIs Tryz.prog w "internal/strconv.uint64pow10" .u64 Lib.pow10Tab) :
 Calls Tryz.prog 188 #[.int .i64 n] w fun e w'=>e= .returned (.string ⟨(Lib.itoa n).toArray⟩)∧∃k os,w'=grow (w.drewN k) os:=Any.strconv_Itoa Tryz.laysM171 n h0 h1 w htab
end Go.Proofs
namespace Go.Proofs.YtkmnfeihjjccmaaGreatDoor
section
open Go.RowKit
theorem YS(w:World)(k:Nat)(os:Array Obj):Below w.heap.size w (Sort.grow (w.drewN k) os):=
 ⟨rfl,rfl,rfl,by simp[Sort.grow],fun i hi=>by simp only[Sort.grow,World.heap_drewN];rw[Array.getElem?_append_left hi]⟩

abbrev Pow (w : World) : Prop := Lib.TabIs Tryz.prog w "internal/strconv.uint64pow10" .u64 Lib.pow10Tab
theorem sJ : Tryz.prog.globalNamed "internal/strconv.uint64pow10" = some 2 := by kernel_rfl
theorem Pow.below{w w':World}(h:Pow w)(hb:Below w.heap.size w w'):Pow w':=by
 have hlt:2<w.heap.size:=AY (h.cell sJ 0 (by decide))
 exact var?_below hb sJ hlt h

theorem ET(n:Int)(w:World)(h0: -9223372036854775808≤n)(h1:n≤9223372036854775807)(ht:Pow w):
 Calls Tryz.prog 181 #[.int .i64 n] w fun e w'=>e= .returned (.string ⟨(Lib.itoa n).toArray⟩)∧Below w.heap.size w w':=by
 go_enter Tryz.func181,Tryz.ntmps181
 go_wp2_with fail
 refine(Tryz.strconv_Itoa n h0 h1 _ ht).mono ?_
 rintro e w' ⟨rfl,k,os,rfl⟩
 go_wp2
 go_ret
 exact⟨rfl,YS _ _ _⟩
def IQ(n:Int):ByteArray:=⟨(Lib.itoa n).toArray⟩
theorem ja(n:Int):(IQ n).data.toList=Lib.itoa n:=by simp[IQ]
def GA(xs:List Int)(k:Nat):List Value:=((xs.take k).map IQ++List.replicate (xs.length-k) (⟨#[]⟩:ByteArray)).map Value.string
theorem XY(xs:List Int):GA xs 0=List.replicate xs.length (.string ⟨#[]⟩):=by simp[GA]
theorem aJ(xs:List Int):GA xs xs.length=(xs.map IQ).map Value.string:=by simp[GA]
theorem aI(xs:List Int)(k:Nat)(h:k≤xs.length):(GA xs k).length=xs.length:=by simp[GA];omega
theorem aF(xs:List Int)(k:Nat)(h:k<xs.length):(GA xs k).set k (.string (IQ (xs.getD k 0)))=GA xs (k+1):=by
 have e:xs.length-k=(xs.length-(k+1))+1:=by omega
 have hk:((xs.take k).map IQ).length=k:=by simp;omega
 unfold GA
 rw[List.take_succ_eq_append_getElem h,e,List.replicate_succ,List.map_append,List.map_append,List.map_append,List.map_append,List.set_append_right _ _ (by rw[List.length_map,hk];exact Nat.le_refl _),List.length_map,hk,Nat.sub_self]
 simp[List.getElem?_eq_getElem h]
theorem Qt{xs:List Int}{k:Nat}(h:k<xs.length):xs.getD k 0 ∈ xs:=by
 rw[List.getD_eq_getElem?_getD,List.getElem?_eq_getElem h]
 exact List.getElem_mem h
def In64(xs:List Int):Prop:=∀x ∈ xs,-9223372036854775808≤x∧x≤9223372036854775807
theorem jZ{n:Int}(h0: -9223372036854775808≤n)(h1:n≤9223372036854775807):0<(IQ n).size∧(IQ n).size≤21:=by
 have h2:(IQ n).size=(Lib.itoa n).length:=by simp[IQ,ByteArray.size]
 have h3:=Lib.itoa_length_le n h0 h1
 have h4:=List.length_pos_iff.2 (Jg n).1
 omega

theorem Sc(v:Value)(xs:List Int)(w:World)(h:RI w v xs)(hw:In64 xs)(hP:Pow w):
 Calls Tryz.prog 182 #[v] w fun e w'=>e= .returned (.string ⟨(eO xs).toArray⟩)∧Below w.heap.size w w':=by
 obtain⟨i0,hi,hz0,hz1,hz2⟩:=info_parts Tryz.info9
 obtain⟨hl,ao,ca,rfl,ha⟩:=h
 have HJ:Hid (∀w',(∀k,k<(xs.map IQ).length→w'.cell? ⟨w.heap.size,k,none⟩=some (.string ((xs.map IQ).getD k ⟨#[]⟩)))→
  Calls Tryz.prog 189 #[.slice (some ⟨w.heap.size,0,none⟩) (xs.map IQ).length (xs.map IQ).length,.string ⟨#[44]⟩] w' fun e w''=>e= .returned (.string ⟨(eO xs).toArray⟩)∧Below w'.heap.size w' w''):=hide fun w' hc=>by
  have:=iw w.heap.size (xs.map IQ).length (xs.map IQ) w' (by simpa using hl) (Nat.le_refl _) (fun s hs=>by obtain⟨n,hn,rfl⟩:=List.mem_map.1 hs;exact jZ (hw n hn).1 (hw n hn).2) hc
  have e:(xs.map IQ).map (fun x=>x.data.toList)=xs.map Lib.itoa:=by simp[List.map_map,Function.comp_def,ja]
  rw[e]at this
  exact this
 rw[List.length_map]at HJ
 have HD:Hid (∀k,k<xs.length→∀w',Pow w'→Calls Tryz.prog 181 #[.int .i64 (xs.getD k 0)] w' fun e w''=>e= .returned (.string (IQ (xs.getD k 0)))∧Below w'.heap.size w' w''):=hide fun k hk w' hp=>ET _ w' (hw _ (Qt hk)).1 (hw _ (Qt hk)).2 hp
 have HP:=hide hP
 obtain⟨n,hn⟩:∃n,xs.length=n:=⟨_,rfl⟩
 have Hn:Hid (xs.length=n):=hn
 rw[hn]at hl HJ HD⊢
 rw[hn]at ha
 clear hn hw hP
 go_enter Tryz.func182,Tryz.ntmps182
 go_wp2_with (first|(at_make;refine wpList_make_full _ rfl _ _ 183 rfl w.heap.size 9 i0 (.string ⟨#[]⟩) 1 Tryz.underlying183 hi hz0 hz1 .i64 .i64 n n n rfl rfl rfl rfl (by rw[hz2];omega) (by unfold maxLen;omega) (Nat.le_refl _) ?_;intro w0 ho0 hg0))
 have hstart:w0.ownsRow w.heap.size 9 1 (.slice (some ⟨w.heap.size,0,none⟩) n n) n (GA xs 0):=by
  have e:(madeCells (Value.string ⟨#[]⟩).cells (n*1)).toList=GA xs 0:=by
   rw[XY,Hn.out,Nat.mul_one];exact toList_madeCells_one _ _
  rw[←e];exact ho0
 have HB:Hid (Below w.heap.size w w0):=(Below.refl _ _).grown hg0 (Nat.le_refl _) (by simp)
 clear ho0 hg0
 go_loopw [11] (fun i wr=>∃k:Nat,k≤n∧i= .int .i64 k∧wr.ownsRow w.heap.size 9 1 (.slice (some ⟨w.heap.size,0,none⟩) n n) n (GA xs k)∧Below w.heap.size w wr) (fun i _=>n-(intOf i).toNat)
 case atStart=>exact⟨0,Nat.zero_le _,rfl,hstart,HB.out⟩
 case round=>
  clear hstart
  obtain⟨k,hk,rfl,ho,hbel⟩:=hrel
  have hsz:=hbel.size
  by_cases hlt:k<n
  ·rcases ha with ha|⟨b,off,rfl,ha⟩
   ·subst ha;have:=Hn.out;simp at this;omega
   have hkx:k<xs.length:=by rw[Hn.out];exact hlt
   have hc0:=ha k hlt
   have hc:wr.cell? ⟨b,off+k,none⟩=some (.int .i64 (xs.getD k 0)):=(hbel.cell (AY hc0)).trans hc0
   have DI:=hide (HD.out k hlt wr (HP.out.below hbel))
   have HE:=hide (aF xs k hkx)
   have HO:=hide ho
   clear ho hc0 ha
   generalize xs.getD k 0=d at *
   go_wp2_with fail
   refine DI.out.mono ?_
   rintro e w1 ⟨rfl,b1⟩
   have ho1:=World.ownsRow.kept (row:=none) HO.out ⟨b1.os,b1.tape,b1.output,b1.size,fun k hk _=>b1.block k hk⟩ (by simp[Value.ownBlock])
   have zQ:=hbel.trans (b1.mono hsz)
   obtain⟨u,hu⟩:∃u,w1.cell? ⟨w.heap.size,k,none⟩=some u:=by
    have h1:=ho1.cellAt k (by omega)
    have h2:k<(GA xs k).length:=by rw[aI xs k (by omega)];exact hkx
    exact⟨_,h1.trans (List.getElem?_eq_getElem h2)⟩
   have hfr:=ho1.frozenAt k
   have HS:Hid ((w1.setCell ⟨w.heap.size,k,none⟩ (.string (IQ d))).ownsRow w.heap.size 9 1 (.slice (some ⟨w.heap.size,0,none⟩) n n) n (GA xs (k+1))):=by
    rw[←HE.out];exact(ho1.stored k _).1
   have HG:Hid (Below w.heap.size w (w1.setCell ⟨w.heap.size,k,none⟩ (.string (IQ d)))):=zQ.setCell (Nat.le_refl _) _
   clear ho1 hbel b1 zQ hc DI HE HO
   go_wp2
   go_roundw
   case rel=>exact⟨k+1,by omega,by go_num,HS.out,HG.out⟩
   case measure=>simp[intOf];omega
  have hkn:k=n:=by omega
  have hcl:∀j,j<n→wr.cell? ⟨w.heap.size,j,none⟩=some (.string ((xs.map IQ).getD j ⟨#[]⟩)):=fun j hj=>by
   have h1:=ho.cellAt j (by omega)
   rw[hkn,←Hn.out,aJ]at h1
   rw[h1]
   have hj':j<xs.length:=by rw[Hn.out];exact hj
   simp[hj']
  have JA:=hide (HJ.out wr hcl)
  clear ha ho hcl hkn
  go_wp2_with fail
  refine JA.out.mono ?_
  rintro e w1 ⟨rfl,b1⟩
  have zQ:=hbel.trans (b1.mono hsz)
  go_wp2
  go_ret
  exact⟨rfl,zQ⟩
abbrev tv(m d s x:ByteArray):Value:= .agg #[.string m,.string d,.string s,.string x]
theorem nL(m d s x m' d' s' x':ByteArray)(w:World):
 (binOp .eql 212 (tv m d s x) (tv m' d' s' x')).run Tryz.prog w= .ok (.bool (m.toList==m'.toList&&(d.toList==d'.toList&&(s.toList==s'.toList&&x.toList==x'.toList)))) w:=by
 have hS:Tryz.prog.underlying 212=some (.struct (Tryz.prog.fieldsOf 212)):=by kernel_rfl
 have hp:Tryz.prog.stoodInHeld 212=false:=by kernel_rfl
 rw[run_eql_struct,show(10000:Nat)=9999+1 from rfl,run_equalIn_struct w 9999 212 _ _ hS hp]
 simp only[Program.fieldsOf,Tryz.underlying212]
 go_simp
 by_cases h1:m.toList=m'.toList<;>by_cases h2:d.toList=d'.toList<;>by_cases h3:s.toList=s'.toList<;>by_cases h4:x.toList=x'.toList<;>simp[h1,h2,h3,h4]
theorem YP(x y:Operand)(xs ys:Array Value)(w:World):(eqGuard .eql 212 x y (.agg xs) (.agg ys)).run Tryz.prog w= .ok () w:=run_eqGuard_agg w .eql _ x y xs ys (by kernel_rfl)
end
end Go.Proofs.YtkmnfeihjjccmaaGreatDoor
