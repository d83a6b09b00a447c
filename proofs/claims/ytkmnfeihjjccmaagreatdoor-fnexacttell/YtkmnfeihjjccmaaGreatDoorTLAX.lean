/- Lemmas; their conditions stand in each statement. -/
import Derived.Test.YtkmnfeihjjccmaaGreatDoorTLAW
set_option maxRecDepth 100000
set_option maxHeartbeats 8000000
set_option linter.unusedSectionVars false
namespace Go.Proofs.YtkmnfeihjjccmaaGreatDoor
section
open Go.RowKit
variable [∀(n:Int)(s:List Int),Decidable (Dt n s)]
theorem mO{n:Int}{xs:List Int}{k:Nat}(hk:k<xs.length)(h:Dt n (xs.take k))(h0:0≤xs.getD k 0)(h1:xs.getD k 0<n)(h2:0<k→xs.getD (k-1) 0<xs.getD k 0):Dt n (xs.take (k+1)):=by
 rw[Ow xs k hk]
 refine⟨fun x hx=>?_,List.pairwise_append.2 ⟨h.2,by simp,fun x hx y hy=>?_⟩⟩
 ·rcases List.mem_append.1 hx with hx|hx
  ·exact h.1 x hx
  simp at hx;subst hx;exact⟨h0,h1⟩
 simp at hy
 subst hy
 by_cases hk0:0<k
 ·have h3:=h2 hk0
  have e:xs.take k=xs.take (k-1)++[xs.getD (k-1) 0]:=by
   have:=Ow xs (k-1) (by omega)
   rwa [show k-1+1=k by omega]at this
  have hp:=h.2
  rw[e]at hx hp
  rcases List.mem_append.1 hx with hx|hx
  ·have:=(List.pairwise_append.1 hp).2.2 x hx (xs.getD (k-1) 0) (by simp)
   simp only[List.getD_eq_getElem?_getD]at *
   omega
  simp at hx
  simp only[List.getD_eq_getElem?_getD]at *
  omega
 have:k=0:=by omega
 subst this;simp at hx
theorem rR{n:Int}{xs:List Int}{k:Nat}(hk:k<xs.length)(h:xs.getD k 0<0∨n≤xs.getD k 0∨(0<k∧xs.getD k 0≤xs.getD (k-1) 0)):¬Dt n xs:=fun ho=>by
 have hm:=ho.1 _ (SS hk)
 rcases h with h|h|⟨h0,h⟩
 ·omega
 ·omega
 have:=List.pairwise_iff_getElem.1 ho.2 (k-1) k (by omega) hk (by omega)
 rw[List.getD_eq_getElem?_getD,List.getD_eq_getElem?_getD,List.getElem?_eq_getElem hk,List.getElem?_eq_getElem (show k-1<xs.length by omega)]at h
 simp at h
 omega

theorem D5(m:Int)(v:Value)(xs:List Int)(w:World)(h:RI w v xs):
 Calls Tryz.prog 117 #[.int .i64 m,v] w fun e w'=>e= .returned (.bool (decide (Dt m xs)))∧Below w.heap.size w w':=by
 have hl:=h.1
 obtain⟨ao,ca,rfl⟩:=h.form
 have H:=hide h
 obtain⟨n,hn⟩:∃n,xs.length=n:=⟨_,rfl⟩
 have Hn:=hide hn
 obtain⟨r,hr⟩:∃r,decide (Dt m xs)=r:=⟨_,rfl⟩
 have HR:=hide hr
 rw[hn]at hl H⊢
 rw[hr]
 clear h hn hr
 go_enter Tryz.func117,Tryz.ntmps117
 go_wp2
 go_loopw [5] (fun j wr=>∃k:Nat,k≤n∧j= .int .i64 k∧Hid (Dt m (xs.take k))∧Below w.heap.size w wr) (fun j _=>n-(intOf j).toNat)
 case atStart=>exact⟨0,Nat.zero_le _,rfl,hide (by simp[Dt]),Below.refl _ _⟩
 case round=>
  obtain⟨k,hk,rfl,HK,br⟩:=hrel
  have HR2:=hide (H.out.below br)
  by_cases hlt:k<n
  ·have hkx:k<xs.length:=by have:=Hn.out;omega
   obtain⟨b,off,rfl,c⟩:=HR2.out.at k hkx
   have HP:Hid (0<k→wr.cell? ⟨b,off+(k-1),none⟩=some (.int .i64 (xs.getD (k-1) 0))):=hide fun h0=>by
    obtain⟨b',off',e,c'⟩:=HR2.out.at (k-1) (by omega)
    cases e;exact c'
   have HG:=hide fun h0 h1 h2=>mO hkx HK.out h0 h1 h2
   have HB:=hide fun h=>rR (n:=m) hkx h
   generalize xs.getD k 0=d at *
   by_cases g0:d<0
   ·have hrr:r=false:=by rw[←HR.out];exact decide_eq_false (HB.out (.inl g0))
    subst hrr
    have g0':decide (d<0)=true:=by simpa using g0
    clear HG HB HP HK
    go_wp2_with fail
    go_quiet (fail)
    go_wp2
    go_ret
    exact⟨rfl,by first|exact br|exact below_drewN' br _⟩
   have g0':decide (d<0)=false:=by simpa using g0
   by_cases g1:m≤d
   ·have hrr:r=false:=by rw[←HR.out];exact decide_eq_false (HB.out (.inr (.inl g1)))
    subst hrr
    have g1':decide (m≤d)=true:=by simpa using g1
    clear HG HB HP HK
    go_wp2_with fail
    go_quiet (fail)
    go_wp2
    go_ret
    exact⟨rfl,by first|exact br|exact below_drewN' br _⟩
   have g1':decide (m≤d)=false:=by simpa using g1
   by_cases hk0:0<k
   ·have c2:=HP.out hk0
    obtain⟨j,rfl⟩:∃j,k=j+1:=⟨k-1,by omega⟩
    rw[show j+1-1=j by omega]at c2 HG HB
    generalize xs.getD j 0=p at *
    have ej:(((j+1:Nat):Int))-1=(j:Int):=by omega
    have hk0':decide ((0:Int)<((j+1:Nat):Int))=true:=by rw[decide_eq_true_iff];omega
    by_cases g2:d≤p
    ·have hrr:r=false:=by rw[←HR.out];exact decide_eq_false (HB.out (.inr (.inr ⟨by omega,g2⟩)))
     subst hrr
     have g2':decide (d≤p)=true:=by simpa using g2
     clear HG HB HP HK
     go_wp2_with fail
     go_quiet (fail)
     go_wp2
     go_ret
     exact⟨rfl,by first|exact br|exact below_drewN' br _⟩
    have g2':decide (d≤p)=false:=by simpa using g2
    have HK':=hide (HG.out (by omega) (by omega) (fun _=>by omega))
    clear HG HB HP HK
    go_wp2_with fail
    go_quiet (fail)
    go_wp2
    go_roundw
    case rel=>exact⟨j+1+1,by omega,by go_num,HK',by first|exact br|exact below_drewN' br _⟩
    case measure=>simp[intOf];omega
   obtain rfl:k=0:=by omega
   rw[Nat.add_zero]at c
   have HK':=hide (HG.out (by omega) (by omega) (fun h=>by omega))
   clear HG HB HP HK
   go_wp2_with fail
   go_quiet (fail)
   go_wp2
   go_roundw
   case rel=>exact⟨1,by omega,by go_num,HK',by first|exact br|exact below_drewN' br _⟩
   case measure=>simp[intOf];omega
  have hkn:k=xs.length:=by have:=Hn.out;omega
  have hrr:r=true:=by
   rw[←HR.out]
   have:=HK.out
   rw[List.take_of_length_le (by omega)]at this
   exact decide_eq_true this
  subst hrr
  have hd0:decide ((k:Int)<(n:Int))=false:=by simp;omega
  clear HK
  go_wp2
  go_ret
  exact⟨rfl,by first|exact br|exact below_drewN' br _⟩
theorem dQ(x:Int)(w:World):Calls Tryz.prog 179 #[.int .i64 x] w fun e w'=>e= .returned (.bool false)∧Below w.heap.size w w':=by
 go_enter Tryz.func179,Tryz.ntmps179
 go_wp2
 go_ret
 exact⟨rfl,Below.refl _ _⟩
def Ex(x y:Int):Int:=if x<y then -1 else if y<x then 1 else 0
theorem nu(x y:Int):Ex x y<0↔x<y:=by
 unfold Ex
 repeat' split
 all_goals omega
theorem Vy(x y:Int)(w:World):Calls Tryz.prog 169 #[.int .i64 x,.int .i64 y] w fun e w'=>e= .returned (.int .i64 (Ex x y))∧Below w.heap.size w w':=by
 have NA:=hide fun x w=>dQ x w
 unfold Ex
 by_cases h1:x<y
 ·rw[if_pos h1]
  have d1:decide (x<y)=true:=by simpa using h1
  clear h1
  go_enter Tryz.func169,Tryz.ntmps169
  go_wp2_with fail
  refine(NA.out _ _).mono ?_
  rintro _ w1 ⟨rfl,b1⟩
  go_wp2_with fail
  refine(NA.out _ _).mono ?_
  rintro _ w2 ⟨rfl,b2⟩
  go_wp2
  go_ret
  exact⟨rfl,bu b1 b2⟩
 rw[if_neg h1]
 have d1:decide (x<y)=false:=by simpa using h1
 clear h1
 by_cases h2:y<x
 ·rw[if_pos h2]
  have d2:decide (y<x)=true:=by simpa using h2
  have d3:decide (x>y)=true:=by simpa using h2
  clear h2
  go_enter Tryz.func169,Tryz.ntmps169
  go_wp2_with fail
  refine(NA.out _ _).mono ?_
  rintro _ w1 ⟨rfl,b1⟩
  go_wp2_with fail
  refine(NA.out _ _).mono ?_
  rintro _ w2 ⟨rfl,b2⟩
  go_wp2
  go_ret
  exact⟨rfl,bu b1 b2⟩
 rw[if_neg h2]
 have d2:decide (y<x)=false:=by simpa using h2
 have d3:decide (x>y)=false:=by simpa using h2
 clear h2
 go_enter Tryz.func169,Tryz.ntmps169
 go_wp2_with fail
 refine(NA.out _ _).mono ?_
 rintro _ w1 ⟨rfl,b1⟩
 go_wp2_with fail
 refine(NA.out _ _).mono ?_
 rintro _ w2 ⟨rfl,b2⟩
 go_wp2
 go_ret
 exact⟨rfl,bu b1 b2⟩
def ABx(xs:List Int):Prop:=∀j,j+1<xs.length→xs.getD j 0<xs.getD (j+1) 0
theorem WC(xs:List Int):ABx xs↔xs.Pairwise (· < ·):=by
 constructor
 ·intro h
  refine List.pairwise_iff_getElem.2 fun i j hi hj hij=>?_
  have key:∀d,i+d+1<xs.length→xs.getD i 0<xs.getD (i+d+1) 0:=by
   intro d
   induction d with
   |zero=>exact fun hd=>h i hd
   |succ d ih=>exact fun hd=>Int.lt_trans (ih (by omega)) (h (i+d+1) hd)
  have:=key (j-i-1) (by omega)
  rw[show i+(j-i-1)+1=j from by omega]at this
  simpa[List.getD_eq_getElem?_getD,List.getElem?_eq_getElem hi,List.getElem?_eq_getElem hj]using this
 intro h j hj
 have:=List.pairwise_iff_getElem.1 h j (j+1) (by omega) hj (by omega)
 simpa[List.getD_eq_getElem?_getD,List.getElem?_eq_getElem hj,List.getElem?_eq_getElem (show j<xs.length by omega)]using this
theorem WA(v:Value)(xs:List Int)(w:World)(h:RI w v xs):
 Calls Tryz.prog 170 #[.agg #[v,.func (.func 169) #[] #[]]] w fun e w'=>e= .returned (.bool (decide (xs.Pairwise (· < ·))))∧Below w.heap.size w w':=by
 obtain⟨ao,ca,rfl⟩:=h.form
 have hl:=h.1
 have H:=hide h
 obtain⟨n,hn⟩:∃n,xs.length=n:=⟨_,rfl⟩
 have Hn:=hide hn
 rw[hn]at hl H⊢
 clear h hn
 obtain⟨w0,hw0⟩:∃w0,w.alloc (.cells #[.slice ao n ca,.func (.func 169) #[] #[]] 208)=w0:=⟨_,rfl⟩
 have B0:Below w.heap.size w w0:=hw0▸(Below.refl _ _).alloc (Nat.le_refl _) _
 have L0:Loc w0 w.heap.size #[.slice ao n ca,.func (.func 169) #[] #[]]:=hw0▸AB w _ _ rfl
 go_enter Tryz.func170,Tryz.ntmps170
 go_wp2
 clear hw0
 go_loopw [3] (fun i wr=>∃m:Nat,1≤m∧m≤n+1∧i= .int .i64 m∧Hid (∀j,j+1<m→j+1<n→xs.getD j 0<xs.getD (j+1) 0)∧Loc wr w.heap.size #[.slice ao n ca,.func (.func 169) #[] #[]]∧Below w.heap.size w wr) (fun i _=>n+1-(intOf i).toNat)
 case atStart=>exact⟨1,Nat.le_refl _,by omega,by go_num,hide (fun j hj=>absurd hj (by omega)),L0,B0⟩
 case round=>
  clear L0 B0
  obtain⟨m,hm1,hm,rfl,HA,L,br⟩:=hrel
  have q0:=L.cell 0 rfl
  have q1:=L.cell 1 rfl
  by_cases hlt:m<n
  ·obtain⟨k,hk⟩:∃k,m=k+1:=⟨m-1,by omega⟩
   have hk1:(m:Int)-1=(k:Int):=by omega
   have hwk:IntKind.i64.wrap (k:Int)=(k:Int):=by rw[IntKind.wrap_i64];omega
   have hkn:k<n:=by omega
   obtain⟨g,off,rfl,cx⟩:=(H.out.below br).at k (by rw[Hn.out];omega)
   obtain⟨g',off',e,cy⟩:=(H.out.below br).at m (by rw[Hn.out];omega)
   cases e
   have CT:=hide fun w=>Vy (xs.getD k 0) (xs.getD m 0) w
   have HS:Hid (xs.getD k 0<xs.getD m 0→∀j,j+1<m+1→j+1<n→xs.getD j 0<xs.getD (j+1) 0):=hide fun h j hj hj2=>by
    by_cases e:j=k
    ·rw[e,←hk];exact h
    exact HA.out j (by omega) hj2
   have HN:Hid (xs.getD m 0≤xs.getD k 0→¬xs.Pairwise (· < ·)):=hide fun h ha=>Int.not_lt.2 h (by have:=(WC xs).2 ha k (by rw[Hn.out];omega);rwa [←hk]at this)
   clear HA
   generalize xs.getD k 0=x at *
   generalize xs.getD m 0=y at *
   replace hk:=hide hk
   have K:Hid (∀w',Below wr.heap.size wr w'→(w'.cell? ⟨w.heap.size,0,none⟩=some (.slice (some ⟨g,off,none⟩) n ca)∧w'.cell? ⟨w.heap.size,1,none⟩=some (.func (.func 169) #[] #[]))∧w'.cell? ⟨g,off+k,none⟩=some (.int .i64 x)∧w'.cell? ⟨g,off+m,none⟩=some (.int .i64 y)):=hide fun w' hb=>by
    have l:=L.up hb
    exact⟨⟨l.cell 0 rfl,l.cell 1 rfl⟩,(hb.cell (AY cx)).trans cx,(hb.cell (AY cy)).trans cy⟩
   have bA:Below wr.heap.size wr wr.drew:=Below.drew (Below.refl _ _)
   have Dg:=K.out _ bA
   clear cx cy
   go_wp2_with fail
   refine wp_region_noPanic ?_
   refine wp_region_held_drew (S:=(fun w'=>(w'.cell? ⟨w.heap.size,0,none⟩=some (.slice (some ⟨g,off,none⟩) n ca)∧w'.cell? ⟨w.heap.size,1,none⟩=some (.func (.func 169) #[] #[]))∧w'.cell? ⟨g,off+k,none⟩=some (.int .i64 x)∧w'.cell? ⟨g,off+m,none⟩=some (.int .i64 y))) (by kernel_rfl) Dg (fun hHeld=>?_)
   refine tx 0 11 ?_
   refine tx 1 12 ?_
   refine tx 2 13 ?_
   refine tx 3 14 ?_
   refine tx 4 15 ?_
   refine tx 5 16 ?_
   refine tx 6 17 ?_
   refine tx 7 18 ?_
   refine tx 8 19 ?_
   refine tx 9 20 ?_
   refine tx 10 21 ?_
   refine tx 11 22 ?_
   refine tx 12 23 ?_
   refine rd 13 rfl (fun KK AA=>?_)
   go_simp
   refine(CT.out _).mono ?_
   rintro _ wa ⟨rfl,ba⟩
   have bB:Below wr.heap.size wr wa:=bA.trans ba
   clear hHeld
   refine AA.out _ _ (K.out _ bB) (fun hHeld=>?_)
   clear AA KK
   refine tx 14 25 ?_
   clear hHeld
   refine Bt ?_
   have LB:=L.up bB
   have BB:=bu br bB
   have hcm:=hide (nu x y)
   generalize Ex x y=q at *
   by_cases hq:q<0
   ·have HS:=hide (HS.out (hcm.out.1 hq))
    have hq0:¬0≤q:=by omega
    clear hcm HN
    go_wp2
    go_roundw
    case rel=>exact⟨m+1,by omega,by omega,by go_num,HS,LB,BB⟩
    case measure=>simp[intOf];omega
   have hno:decide (xs.Pairwise (· < ·))=false:=decide_eq_false (HN.out (Int.not_lt.1 fun h=>hq (hcm.out.2 h)))
   have hq0:0≤q:=by omega
   clear hcm HS HN
   go_wp2
   go_ret
   exact⟨by first|rfl|(rw[hno];rfl),BB⟩
  have r_:decide (xs.Pairwise (· < ·))=true:=decide_eq_true ((WC xs).1 fun j hj=>HA.out j (by have:=Hn.out;omega) (by have:=Hn.out;omega))
  clear HA
  go_wp2
  go_ret
  exact⟨by first|rfl|(rw[r_];rfl),br⟩
theorem mQ{n:Int}{xs:List Int}(h0:0<xs.length):Dt n xs↔xs.Pairwise (· < ·)∧0≤xs.getD 0 0∧xs.getD (xs.length-1) 0<n:=by
 have g:∀k(hk:k<xs.length),xs.getD k 0=xs[k]:=fun k hk=>by rw[List.getD_eq_getElem?_getD,List.getElem?_eq_getElem hk];rfl
 unfold Dt
 constructor
 ·rintro⟨h1,h2⟩
  refine⟨h2,?_,?_⟩
  ·rw[g 0 h0];exact(h1 _ (List.getElem_mem h0)).1
  rw[g _ (by omega)];exact(h1 _ (List.getElem_mem (by omega))).2
 rintro⟨h2,h3,h4⟩
 refine⟨fun x hx=>?_,h2⟩
 obtain⟨j,hj,rfl⟩:=List.getElem_of_mem hx
 rw[g 0 h0]at h3
 rw[g _ (by omega)]at h4
 have hp:=List.pairwise_iff_getElem.1 h2
 constructor
 ·by_cases e:j=0
  ·subst e;exact h3
  have:=hp 0 j h0 hj (by omega);omega
 by_cases e:j=xs.length-1
 ·have:xs[j]=xs[xs.length-1]:=by congr 1
  omega
 have:=hp j (xs.length-1) hj (by omega) (by omega);omega
theorem Qq(m:Int)(v:Value)(xs:List Int)(w:World)(h:RI w v xs):
 Calls Tryz.prog 156 #[.int .i64 m,v] w fun e w'=>e= .returned (.bool (decide (Dt m xs)))∧Below w.heap.size w w':=by
 obtain⟨ao,ca,rfl⟩:=h.form
 have hl:=h.1
 by_cases hz:xs.length=0
 ·obtain rfl:xs=[]:=List.length_eq_zero_iff.1 hz
  have ed:decide (Dt m [])=true:=decide_eq_true ⟨by simp,List.Pairwise.nil⟩
  rw[ed]
  clear ed h hl hz
  go_enter Tryz.func156,Tryz.ntmps156
  go_wp2
  go_ret
  exact⟨rfl,Below.refl _ _⟩
 have AS:=hide fun w h=>WA (.slice ao xs.length ca) xs w h
 obtain⟨w0,hw0⟩:∃w0,w.alloc (.cells #[.slice ao xs.length ca,.func (.func 169) #[] #[]] 208)=w0:=⟨_,rfl⟩
 have B0:Below w.heap.size w w0:=hw0▸(Below.refl _ _).alloc (Nat.le_refl _) _
 have L0:Loc w0 w.heap.size #[.slice ao xs.length ca,.func (.func 169) #[] #[]]:=hw0▸AB w _ _ rfl
 have H:=hide (h.below B0)
 obtain⟨g,off,rfl,c0⟩:=H.out.at 0 (by omega)
 obtain⟨g',off',e,c1⟩:=H.out.at (xs.length-1) (by omega)
 cases e
 have HO:=hide (mQ (n:=m) (xs:=xs) (by omega))
 generalize xs.getD 0 0=x at *
 generalize xs.getD (xs.length-1) 0=y at *
 have FIN:Hid (decide (Dt m xs)=(decide (xs.Pairwise (· < ·))&&(decide (0≤x)&&decide (y<m)))):=hide (by
  have:=HO.out
  by_cases hp:xs.Pairwise (· < ·)<;>by_cases hx:0≤x<;>by_cases hy:y<m<;>simp[hp,hx,hy,this])
 generalize decide (Dt m xs)=qq at *
 clear HO
 generalize decide (xs.Pairwise (· < ·))=q at *
 obtain⟨n,hn⟩:∃n,xs.length=n+1:=⟨xs.length-1,by omega⟩
 rw[hn]at H AS L0 hw0 hl hz c1⊢
 rw[Nat.add_sub_cancel]at c1
 rw[Nat.add_zero]at c0
 have hnz:decide (((n+1:Nat):Int)=0)=false:=by simp;omega
 have hs1:IntKind.i64.wrap (((n+1:Nat):Int)-1)=(n:Int):=by rw[IntKind.wrap_i64];omega
 have hnn:((n+1:Nat):Int)-1=(n:Int):=by omega
 have Hn:=hide hn
 clear hn h
 have q0:=L0.cell 0 rfl
 have q1:=L0.cell 1 rfl
 go_enter Tryz.func156,Tryz.ntmps156
 go_wp2_with fail
 clear hw0
 refine(AS.out _ H.out).mono ?_
 rintro _ w1 ⟨rfl,b1⟩
 have cx:=b1.cell (p:=⟨g,off,none⟩) (AY c0)
 have cy:=b1.cell (p:=⟨g,off+n,none⟩) (AY c1)
 rw[c0]at cx
 rw[c1]at cy
 have BB:=bu B0 b1
 clear H AS c0 c1 b1 q0 q1 L0 B0
 cases q with
 |false=>
  go_wp2
  go_ret
  exact⟨by rw[FIN.out];rfl,BB⟩
 | true=>
  by_cases h0:0≤x
  ·have d0:decide (0≤x)=true:=by simpa using h0
   rw[d0]at FIN
   clear h0
   go_wp2
   go_ret
   exact⟨by rw[FIN.out];rfl,BB⟩
  have d0:decide (0≤x)=false:=by simpa using h0
  rw[d0]at FIN
  clear h0
  go_wp2
  go_ret
  exact⟨by rw[FIN.out];rfl,BB⟩
end
section
open Go.RowKit
variable [∀(a b c d:Int),Decidable (BD a b c d)]
variable [∀(a b c d:Nat),Decidable (Dj a b c d)]
variable [∀(last:Int)(s:St),Decidable (Au last s)]
variable [∀(x:T4),Decidable (Dr x)]
variable [∀(n:Int)(s:List Int),Decidable (Dt n s)]
variable [∀(n f:Int),Decidable (A8 n f)]
def JV(n f v:Int)(s:ByteArray)(xs:List Int):Bool:=decide (0<v)&&(v==Aq s)&&decide (Bc n f≤(xs.length:Int))&&decide (Dt n xs)

theorem Ri(g:Nat)(n f v:Int)(s:ByteArray)(ao:Option Addr)(ca:Nat)(xs:List Int)(w:World)(hs:s.size≤33554432)(hE:Env w)(hg:Loc w g #[.int .i64 v,.string s,.slice ao xs.length ca])(ha:RI w (.slice ao xs.length ca) xs):
 Calls Tryz.prog 150 #[.pointer (some ⟨g,0,none⟩),cv n f] w fun e w'=>e= .returned (.bool (JV n f v s xs))∧Below w.heap.size w w':=by
 have hgl:=hg.lt
 have VO:=hide fun w hE=>Ox s w hs hE
 have QU:=hide fun w=>X8 n f w
 have SO:=hide fun w h=>Qq n (.slice ao xs.length ca) xs w h
 have hvb:JV n f v s xs=(decide (0<v)&&(v==Aq s)&&decide (Bc n f≤(xs.length:Int))&&decide (Dt n xs)):=rfl
 rw[hvb]
 clear hvb
 generalize Aq s=q at *
 generalize Bc n f=qu at *
 generalize decide (Dt n xs)=ok at *
 obtain⟨w0,hw0⟩:∃w0,w.alloc (.cells #[.int .i64 n,.int .i64 f] 57)=w0:=⟨_,rfl⟩
 have B0:Below w.heap.size w w0:=hw0▸Bl _ _
 have C0:Loc w0 w.heap.size #[.int .i64 n,.int .i64 f]:=hw0▸AB w _ _ rfl
 have G0:=hg.below B0 hgl
 have HE:=hide (hE.below B0)
 have HA:=hide (ha.below B0)
 have K:=kw (ka (VN G0 0 1 2) (Ia C0 0 1))
 obtain⟨m,hm⟩:∃m,xs.length=m:=⟨_,rfl⟩
 rw[hm]at K HA SO⊢
 clear hg ha hE G0 C0 hm
 by_cases h1:0<v
 ·have d1:decide (0<v)=true:=by simpa using h1
  rw[d1,Bool.true_and]
  by_cases h2:v=q
  ·have d2:(v==q)=true:=by simpa using h2
   rw[d2,Bool.true_and]
   clear d2
   subst h2
   by_cases h3:qu≤(m:Int)
   ·have d3:decide (qu≤(m:Int))=true:=by simpa using h3
    rw[d3,Bool.true_and]
    go_enter Tryz.func150,Tryz.ntmps150
    go_upto_region 1 with fail
    clear hw0
    have bA:Below w0.heap.size w0 w0.drew:=Below.drew (Below.refl _ _)
    refine wp_region_noPanic ?_
    refine wp_region_held_drew (S:=fun w'=>Below w0.heap.size w0 w'∧(w'.cell? ⟨g,0,none⟩=some (.int .i64 v)∧w'.cell? ⟨g,1,none⟩=some (.string s)∧w'.cell? ⟨g,2,none⟩=some (.slice ao m ca))∧(w'.cell? ⟨w.heap.size,0,none⟩=some (.int .i64 n)∧w'.cell? ⟨w.heap.size,1,none⟩=some (.int .i64 f))) (by kernel_rfl) (K.out _ bA) (fun hHeld=>?_)
    refine tx 0 5 ?_
    refine tx 1 6 ?_
    refine tx 2 7 ?_
    refine tx 3 8 ?_
    refine tx 4 9 ?_
    refine tx 5 10 ?_
    refine tx 6 11 ?_
    refine tx 7 12 ?_
    refine tx 8 13 ?_
    refine tx 9 14 ?_
    refine tx 10 15 ?_
    refine tx 11 16 ?_
    refine tx 12 17 ?_
    refine tx 13 18 ?_
    refine rd 14 rfl (fun KK AA=>?_)
    go_simp
    have hgo:=bA
    refine(VO.out _ (HE.out.below hgo)).mono ?_
    rintro e MJ ⟨rfl,bb⟩
    have bB:Below w0.heap.size w0 MJ:=bu bA bb
    clear bA hgo bb hHeld
    refine AA.out _ _ (K.out _ bB) (fun hHeld=>?_)
    clear AA KK
    refine tx 15 20 ?_
    refine tx 16 21 ?_
    refine tx 17 22 ?_
    refine tx 18 23 ?_
    refine tx 19 24 ?_
    refine tx 20 25 ?_
    refine tx 21 26 ?_
    refine tx 22 27 ?_
    refine tx 23 28 ?_
    refine rd 24 rfl (fun KK AA=>?_)
    go_simp
    have hgo:=bB
    refine(QU.out _).mono ?_
    rintro e Q8 ⟨rfl,bb⟩
    have bC:Below w0.heap.size w0 Q8:=bu bB bb
    clear bB hgo bb hHeld
    refine AA.out _ _ (K.out _ bC) (fun hHeld=>?_)
    clear AA KK
    refine tx 25 30 ?_
    refine tx 26 31 ?_
    refine tx 27 32 ?_
    refine tx 28 33 ?_
    refine tx 29 34 ?_
    refine tx 30 35 ?_
    refine tx 31 36 ?_
    refine tx 32 37 ?_
    refine tx 33 38 ?_
    refine rd 34 rfl (fun KK AA=>?_)
    go_simp
    have hgo:=bC
    refine(SO.out _ (HA.out.below hgo)).mono ?_
    rintro e Ej ⟨rfl,bb⟩
    have bD:Below w0.heap.size w0 Ej:=bu bC bb
    clear bC hgo bb hHeld
    refine AA.out _ _ (K.out _ bD) (fun hHeld=>?_)
    clear AA KK
    refine tx 35 40 ?_
    refine tx 36 4 ?_
    clear hHeld
    refine Bt ?_
    go_wp2
    go_ret
    exact⟨rfl,bu B0 bD⟩
   have d3:decide (qu≤(m:Int))=false:=by simpa using h3
   rw[d3,Bool.false_and]
   go_enter Tryz.func150,Tryz.ntmps150
   go_upto_region 1 with fail
   clear hw0
   have bA:Below w0.heap.size w0 w0.drew:=Below.drew (Below.refl _ _)
   refine wp_region_noPanic ?_
   refine wp_region_held_drew (S:=fun w'=>Below w0.heap.size w0 w'∧(w'.cell? ⟨g,0,none⟩=some (.int .i64 v)∧w'.cell? ⟨g,1,none⟩=some (.string s)∧w'.cell? ⟨g,2,none⟩=some (.slice ao m ca))∧(w'.cell? ⟨w.heap.size,0,none⟩=some (.int .i64 n)∧w'.cell? ⟨w.heap.size,1,none⟩=some (.int .i64 f))) (by kernel_rfl) (K.out _ bA) (fun hHeld=>?_)
   refine tx 0 5 ?_
   refine tx 1 6 ?_
   refine tx 2 7 ?_
   refine tx 3 8 ?_
   refine tx 4 9 ?_
   refine tx 5 10 ?_
   refine tx 6 11 ?_
   refine tx 7 12 ?_
   refine tx 8 13 ?_
   refine tx 9 14 ?_
   refine tx 10 15 ?_
   refine tx 11 16 ?_
   refine tx 12 17 ?_
   refine tx 13 18 ?_
   refine rd 14 rfl (fun KK AA=>?_)
   go_simp
   have hgo:=bA
   refine(VO.out _ (HE.out.below hgo)).mono ?_
   rintro e MJ ⟨rfl,bb⟩
   have bB:Below w0.heap.size w0 MJ:=bu bA bb
   clear bA hgo bb hHeld
   refine AA.out _ _ (K.out _ bB) (fun hHeld=>?_)
   clear AA KK
   refine tx 15 20 ?_
   refine tx 16 21 ?_
   refine tx 17 22 ?_
   refine tx 18 23 ?_
   refine tx 19 24 ?_
   refine tx 20 25 ?_
   refine tx 21 26 ?_
   refine tx 22 27 ?_
   refine tx 23 28 ?_
   refine rd 24 rfl (fun KK AA=>?_)
   go_simp
   have hgo:=bB
   refine(QU.out _).mono ?_
   rintro e Q8 ⟨rfl,bb⟩
   have bC:Below w0.heap.size w0 Q8:=bu bB bb
   clear bB hgo bb hHeld
   refine AA.out _ _ (K.out _ bC) (fun hHeld=>?_)
   clear AA KK
   refine tx 25 30 ?_
   refine tx 26 31 ?_
   refine tx 27 32 ?_
   refine sx 28 33 ?_
   refine sx 29 34 ?_
   refine sx 30 35 ?_
   refine sx 31 36 ?_
   refine sx 32 37 ?_
   refine sx 33 38 ?_
   refine sx 34 39 ?_
   refine tx 35 40 ?_
   refine tx 36 4 ?_
   clear hHeld
   refine Bt ?_
   go_wp2
   go_ret
   exact⟨rfl,bu B0 bC⟩
  have d2:(v==q)=false:=by simpa using h2
  rw[d2,Bool.false_and,Bool.false_and]
  go_enter Tryz.func150,Tryz.ntmps150
  go_upto_region 1 with fail
  clear hw0
  have bA:Below w0.heap.size w0 w0.drew:=Below.drew (Below.refl _ _)
  refine wp_region_noPanic ?_
  refine wp_region_held_drew (S:=fun w'=>Below w0.heap.size w0 w'∧(w'.cell? ⟨g,0,none⟩=some (.int .i64 v)∧w'.cell? ⟨g,1,none⟩=some (.string s)∧w'.cell? ⟨g,2,none⟩=some (.slice ao m ca))∧(w'.cell? ⟨w.heap.size,0,none⟩=some (.int .i64 n)∧w'.cell? ⟨w.heap.size,1,none⟩=some (.int .i64 f))) (by kernel_rfl) (K.out _ bA) (fun hHeld=>?_)
  refine tx 0 5 ?_
  refine tx 1 6 ?_
  refine tx 2 7 ?_
  refine tx 3 8 ?_
  refine tx 4 9 ?_
  refine tx 5 10 ?_
  refine tx 6 11 ?_
  refine tx 7 12 ?_
  refine tx 8 13 ?_
  refine tx 9 14 ?_
  refine tx 10 15 ?_
  refine tx 11 16 ?_
  refine tx 12 17 ?_
  refine tx 13 18 ?_
  refine rd 14 rfl (fun KK AA=>?_)
  go_simp
  have hgo:=bA
  refine(VO.out _ (HE.out.below hgo)).mono ?_
  rintro e MJ ⟨rfl,bb⟩
  have bB:Below w0.heap.size w0 MJ:=bu bA bb
  clear bA hgo bb hHeld
  refine AA.out _ _ (K.out _ bB) (fun hHeld=>?_)
  clear AA KK
  refine tx 15 20 ?_
  refine tx 16 21 ?_
  refine tx 17 22 ?_
  refine sx 18 23 ?_
  refine sx 19 24 ?_
  refine sx 20 25 ?_
  refine sx 21 26 ?_
  refine sx 22 27 ?_
  refine sx 23 28 ?_
  refine sx 24 29 ?_
  refine sx 25 30 ?_
  refine tx 26 31 ?_
  refine tx 27 32 ?_
  refine sx 28 33 ?_
  refine sx 29 34 ?_
  refine sx 30 35 ?_
  refine sx 31 36 ?_
  refine sx 32 37 ?_
  refine sx 33 38 ?_
  refine sx 34 39 ?_
  refine tx 35 40 ?_
  refine tx 36 4 ?_
  clear hHeld
  refine Bt ?_
  go_wp2
  go_ret
  exact⟨rfl,bu B0 bB⟩
 have d1:decide (0<v)=false:=by simpa using h1
 rw[d1,Bool.false_and,Bool.false_and,Bool.false_and]
 go_enter Tryz.func150,Tryz.ntmps150
 go_upto_region 1 with fail
 clear hw0
 have bA:Below w0.heap.size w0 w0.drew:=Below.drew (Below.refl _ _)
 refine wp_region_noPanic ?_
 refine wp_region_held_drew (S:=fun w'=>Below w0.heap.size w0 w'∧(w'.cell? ⟨g,0,none⟩=some (.int .i64 v)∧w'.cell? ⟨g,1,none⟩=some (.string s)∧w'.cell? ⟨g,2,none⟩=some (.slice ao m ca))∧(w'.cell? ⟨w.heap.size,0,none⟩=some (.int .i64 n)∧w'.cell? ⟨w.heap.size,1,none⟩=some (.int .i64 f))) (by kernel_rfl) (K.out _ bA) (fun hHeld=>?_)
 refine tx 0 5 ?_
 refine tx 1 6 ?_
 refine tx 2 7 ?_
 refine tx 3 8 ?_
 refine tx 4 9 ?_
 refine tx 5 10 ?_
 refine sx 6 11 ?_
 refine sx 7 12 ?_
 refine sx 8 13 ?_
 refine sx 9 14 ?_
 refine sx 10 15 ?_
 refine sx 11 16 ?_
 refine sx 12 17 ?_
 refine sx 13 18 ?_
 refine sx 14 19 ?_
 refine sx 15 20 ?_
 refine tx 16 21 ?_
 refine tx 17 22 ?_
 refine sx 18 23 ?_
 refine sx 19 24 ?_
 refine sx 20 25 ?_
 refine sx 21 26 ?_
 refine sx 22 27 ?_
 refine sx 23 28 ?_
 refine sx 24 29 ?_
 refine sx 25 30 ?_
 refine tx 26 31 ?_
 refine tx 27 32 ?_
 refine sx 28 33 ?_
 refine sx 29 34 ?_
 refine sx 30 35 ?_
 refine sx 31 36 ?_
 refine sx 32 37 ?_
 refine sx 33 38 ?_
 refine sx 34 39 ?_
 refine tx 35 40 ?_
 refine tx 36 4 ?_
 clear hHeld
 refine Bt ?_
 go_wp2
 go_ret
 exact⟨rfl,bu B0 bA⟩
theorem VV(n f v:Int)(s:ByteArray)(ao:Option Addr)(ca:Nat)(xs:List Int)(w:World)(hs:s.size≤33554432)(hE:Env w)(ha:RI w (.slice ao xs.length ca) xs):
 Calls Tryz.prog 122 #[cv n f,qv v s (.slice ao xs.length ca)] w fun e w'=>e= .returned (.bool (decide (A8 n f)&&(BM v 0 s ⟨#[]⟩ xs []||JV n f v s xs)))∧Below w.heap.size w w':=by
 have CO:=hide fun w=>Cx n f w
 have QF:=hide fun w=>VW w
 have QS:=hide fun w h=>Jh v 0 s ⟨#[]⟩ (.slice ao xs.length ca) (.slice none 0 0) xs [] w h ⟨by simp,none,0,rfl,.inl rfl⟩
 obtain⟨w0,hw0⟩:∃w0,(w.alloc (.cells #[.int .i64 n,.int .i64 f] 57)).alloc (.cells #[.int .i64 v,.string s,.slice ao xs.length ca] 46)=w0:=⟨_,rfl⟩
 have B0:Below w.heap.size w w0:=hw0▸Bh _ _ _
 have C0:Loc w0 w.heap.size #[.int .i64 n,.int .i64 f]:=hw0▸(AB w _ _ rfl).alloc _
 have G0:Loc w0 (w.heap.size+1) #[.int .i64 v,.string s,.slice ao xs.length ca]:=hw0▸AB (w.alloc _) _ _ (by simp)
 have HA:=hide (ha.below B0)
 have VF:Hid (∀w',Below w0.heap.size w0 w'→Calls Tryz.prog 150 #[.pointer (some ⟨w.heap.size+1,0,none⟩),cv n f] w' fun e w''=>e= .returned (.bool (JV n f v s xs))∧Below w'.heap.size w' w''):=hide fun w' hb'=>Ri (w.heap.size+1) n f v s ao ca xs w' hs ((hE.below B0).below hb') (G0.up hb') (HA.out.below hb')
 have K:=kw (ka (Ia C0 0 1) (VN G0 0 1 2))
 generalize decide (A8 n f)=cb at *
 generalize BM v 0 s ⟨#[]⟩ xs []=ab at *
 generalize JV n f v s xs=vb at *
 clear ha hE G0 C0
 cases cb
 ·simp only[Bool.false_and]
  go_enter Tryz.func122,Tryz.ntmps122
  go_upto_region 1 with fail
  clear hw0
  refine Ey K (fun bA hHeld=>?_)
  refine tx 0 5 ?_
  refine rd 1 rfl (fun KK AA=>?_)
  go_simp
  have hgo:=bA
  refine(CO.out _).mono ?_
  rintro e MJ ⟨rfl,bb⟩
  have bB:Below w0.heap.size w0 MJ:=bu bA bb
  clear bA hgo bb hHeld
  refine AA.out _ _ (K.out _ bB) (fun hHeld=>?_)
  clear AA KK
  refine tx 2 7 ?_
  refine sx 3 8 ?_
  refine sx 4 9 ?_
  refine sx 5 10 ?_
  refine sx 6 11 ?_
  refine sx 7 12 ?_
  refine sx 8 13 ?_
  refine sx 9 14 ?_
  refine tx 10 15 ?_
  refine tx 11 4 ?_
  clear hHeld
  refine Bt ?_
  go_wp2
  go_ret
  exact⟨rfl,bu B0 bB⟩
 simp only[Bool.true_and]
 cases ab
 ·simp only[Bool.false_or]
  go_enter Tryz.func122,Tryz.ntmps122
  go_upto_region 1 with fail
  clear hw0
  refine Ey K (fun bA hHeld=>?_)
  refine tx 0 5 ?_
  refine rd 1 rfl (fun KK AA=>?_)
  go_simp
  have hgo:=bA
  refine(CO.out _).mono ?_
  rintro e MJ ⟨rfl,bb⟩
  have bB:Below w0.heap.size w0 MJ:=bu bA bb
  clear bA hgo bb hHeld
  refine AA.out _ _ (K.out _ bB) (fun hHeld=>?_)
  clear AA KK
  refine tx 2 7 ?_
  refine tx 3 8 ?_
  refine rd 4 rfl (fun KK AA=>?_)
  go_simp
  have hgo:=bB
  refine(QF.out _).mono ?_
  rintro e Q8 ⟨rfl,bb⟩
  have bC:Below w0.heap.size w0 Q8:=bu bB bb
  clear bB hgo bb hHeld
  refine AA.out _ _ (K.out _ bC) (fun hHeld=>?_)
  clear AA KK
  refine rd 5 rfl (fun KK AA=>?_)
  go_simp
  have hgo:=bC
  refine(QS.out _ (HA.out.below hgo)).mono ?_
  rintro e Ej ⟨rfl,bb⟩
  have bD:Below w0.heap.size w0 Ej:=bu bC bb
  clear bC hgo bb hHeld
  refine AA.out _ _ (K.out _ bD) (fun hHeld=>?_)
  clear AA KK
  refine tx 6 11 ?_
  refine tx 7 12 ?_
  refine rd 8 rfl (fun KK AA=>?_)
  go_simp
  have hgo:=bD
  refine(VF.out _ hgo).mono ?_
  rintro e wy4 ⟨rfl,bb⟩
  have bE:Below w0.heap.size w0 wy4:=bu bD bb
  clear bD hgo bb hHeld
  refine AA.out _ _ (K.out _ bE) (fun hHeld=>?_)
  clear AA KK
  refine tx 9 14 ?_
  refine tx 10 15 ?_
  refine tx 11 4 ?_
  clear hHeld
  refine Bt ?_
  go_wp2
  go_ret
  exact⟨rfl,bu B0 bE⟩
 simp only[Bool.true_or]
 go_enter Tryz.func122,Tryz.ntmps122
 go_upto_region 1 with fail
 clear hw0
 refine Ey K (fun bA hHeld=>?_)
 refine tx 0 5 ?_
 refine rd 1 rfl (fun KK AA=>?_)
 go_simp
 have hgo:=bA
 refine(CO.out _).mono ?_
 rintro e MJ ⟨rfl,bb⟩
 have bB:Below w0.heap.size w0 MJ:=bu bA bb
 clear bA hgo bb hHeld
 refine AA.out _ _ (K.out _ bB) (fun hHeld=>?_)
 clear AA KK
 refine tx 2 7 ?_
 refine tx 3 8 ?_
 refine rd 4 rfl (fun KK AA=>?_)
 go_simp
 have hgo:=bB
 refine(QF.out _).mono ?_
 rintro e Q8 ⟨rfl,bb⟩
 have bC:Below w0.heap.size w0 Q8:=bu bB bb
 clear bB hgo bb hHeld
 refine AA.out _ _ (K.out _ bC) (fun hHeld=>?_)
 clear AA KK
 refine rd 5 rfl (fun KK AA=>?_)
 go_simp
 have hgo:=bC
 refine(QS.out _ (HA.out.below hgo)).mono ?_
 rintro e Ej ⟨rfl,bb⟩
 have bD:Below w0.heap.size w0 Ej:=bu bC bb
 clear bC hgo bb hHeld
 refine AA.out _ _ (K.out _ bD) (fun hHeld=>?_)
 clear AA KK
 refine tx 6 11 ?_
 refine sx 7 12 ?_
 refine sx 8 13 ?_
 refine tx 9 14 ?_
 refine tx 10 15 ?_
 refine tx 11 4 ?_
 clear hHeld
 refine Bt ?_
 go_wp2
 go_ret
 exact⟨rfl,bu B0 bD⟩
end
end Go.Proofs.YtkmnfeihjjccmaaGreatDoor
