/- For every Conf, every replica and every message laws.FnExactTellAll returns true and leaves what was in memory as it was: impl.TellAll answers what spec.TellAll answers, number by number, its answer owns its memory, behind another call too, and it writes into no argument and keeps nothing of one, where the texts, numbers, payments, parts, bytes and posts of the replica and the names and lists of the message are together at most 1048576 (the law answers true of greater ones by itself). Conditions: the package variable errNoNumber, the two errors and the tables of the library hold what the text lays (the card ties them to that text). -/
import Derived.Test.YtcjmcgolgbkknaaGreatDoorTAAD
import Derived.Test.YtcjmcgolgbkknaaGreatDoorTABL
import Derived.Test.YtcjmcgolgbkknaaGreatDoorTABP
import Derived.Test.YtcjmcgolgbkknaaGreatDoorTABQ
import Derived.Test.YtcjmcgolgbkknaaGreatDoorTALK
set_option linter.unusedVariables false
namespace Go.Proofs.YtcjmcgolgbkknaaGreatDoor.fnExactTellAll
open Go.ChangeShapes Go.WideShapes Go.ChangeAt Go.RowKit
open Go.ChangeMaps (open_string shut_string)

theorem jQ:(Tryz.prog.globals[5]?).map (·.type)=some 376:=by kernel_rfl
theorem ja:Tryz.prog.cellsOf 376=20:=by kernel_rfl
theorem ny:Tryz.prog.cellsOf 364=1:=by kernel_rfl
theorem wy : Tryz.prog.globalNamed "strconv.ErrSyntax" = some 3 := by kernel_rfl
theorem jO:(Tryz.prog.globals[3]?).map (·.type)=some 195:=by kernel_rfl
theorem wz : Tryz.prog.globalNamed "strconv.ErrRange" = some 4 := by kernel_rfl
theorem jP:(Tryz.prog.globals[4]?).map (·.type)=some 195:=by kernel_rfl
theorem jS(os:Os)(args:Array Value):laidMetH Tryz.prog Rows.fnExactTellAllRow.laid ((World.doorLaid Tryz.prog 400 os).forCall (fun _ _=>0) ⟨#[],args,[]⟩).memory:=
 laidMetH_of_parts3 (fuel:=8) (laidMet_of_run' 8 (by kernel_rfl) (by kernel_rfl)) (by kernel_rfl) (by kernel_rfl)

set_option maxRecDepth 100000 in
theorem lifted(os:Os)(started:os.Started)(H:Type)(enc:TypeId×Value→H):
 ReturnsInHanded {} Tryz.checked os 5 .any (fun w args=>(Rows.fnExactTellAllSpec.pre enc Tryz.prog Tryz.f5 [] false w args∧laidMetH Tryz.prog Rows.fnExactTellAllRow.laid w)∧sizedMet enc Tryz.prog Tryz.f5 (OpenSpec.ofChange Rows.fnExactTellAllSpec) false w args)
  (Rows.fnExactTellAllSpec.post enc Tryz.prog Tryz.f5 false true false false):=by
 have di0:∀(a b c d:Int),Decidable (BG a b c d):=fun a b c d=>Classical.choice ((Classical.em (BG a b c d)).elim (fun h=>⟨.isTrue h⟩) (fun h=>⟨.isFalse h⟩));have di1:∀(n f:Int),Decidable (A_ n f):=fun n f=>Classical.choice ((Classical.em (A_ n f)).elim (fun h=>⟨.isTrue h⟩) (fun h=>⟨.isFalse h⟩));have di2:∀(a b c d:Nat),Decidable (DZ a b c d):=fun a b c d=>Classical.choice ((Classical.em (DZ a b c d)).elim (fun h=>⟨.isTrue h⟩) (fun h=>⟨.isFalse h⟩));have di3:∀(x:T4),Decidable (Du x):=fun x=>Classical.choice ((Classical.em (Du x)).elim (fun h=>⟨.isTrue h⟩) (fun h=>⟨.isFalse h⟩));have di4:∀(last:Int)(s:St),Decidable (Aq last s):=fun last s=>Classical.choice ((Classical.em (Aq last s)).elim (fun h=>⟨.isTrue h⟩) (fun h=>⟨.isFalse h⟩));have di5:∀(n:Int)(s:List Int),Decidable (Dv n s):=fun n s=>Classical.choice ((Classical.em (Dv n s)).elim (fun h=>⟨.isTrue h⟩) (fun h=>⟨.isFalse h⟩));have di6:∀(x y:T4),Decidable (Gs x y):=fun x y=>Classical.choice ((Classical.em (Gs x y)).elim (fun h=>⟨.isTrue h⟩) (fun h=>⟨.isFalse h⟩));have di7:∀(ts:List T4),Decidable (Asc ts):=fun ts=>Classical.choice ((Classical.em (Asc ts)).elim (fun h=>⟨.isTrue h⟩) (fun h=>⟨.isFalse h⟩));have di8:∀(ts:List T4),Decidable (DU ts):=fun ts=>Classical.choice ((Classical.em (DU ts)).elim (fun h=>⟨.isTrue h⟩) (fun h=>⟨.isFalse h⟩));have di9:∀(ts:List T4),Decidable (JM ts):=fun ts=>Classical.choice ((Classical.em (JM ts)).elim (fun h=>⟨.isTrue h⟩) (fun h=>⟨.isFalse h⟩));refine returnsInHanded_of_change_and (C:=Tryz.checked) (X:=fun w _=>laidMetH Tryz.prog Rows.fnExactTellAllRow.laid w) (fun _ _ _ hh h=>h.of_heap hh) own started (by kernel_rfl) Tryz.func5
  (ChangeSpec.witness_shaped (enc:=enc) (C:=Tryz.checked) (os:=os) (X:=fun w _=>laidMetH Tryz.prog Rows.fnExactTellAllRow.laid w) false (World.doorLaid Tryz.prog 400 os) #[cv 0 0,Dz ⟨0,0,0,0,0,0,⟨#[]⟩,[],⟨#[]⟩,[],[],[],0,[]⟩ (.slice none 0 0) (.slice none 0 0) (.slice none 0 0) (.slice none 0 0) (.slice none 0 0),Dw ⟨0,0,⟨#[]⟩,0,⟨#[]⟩,[],0,⟨#[]⟩,[],0,⟨#[]⟩,[],0,0,0,0,0⟩ (.slice none 0 0) (.slice none 0 0) (.slice none 0 0)] 8 rfl (World.shaped_of_RefB (by kernel_rfl) (by kernel_rfl)) (by kernel_rfl) (by kernel_rfl) (by kernel_rfl) (jS os _)) ?_
 intro W base args ds gs before hval0 hW _ _ hL _;have hval:∀(j:Nat) t v,Tryz.f5.params[j]? =some t→args[j]? =some v→Value.okWide Tryz.prog W .any base t v:=hval0;have hW':=hW;obtain⟨p,q,hA0,hV0,rfl,hfz,hnd⟩:=hW;have hA:DataW.TrodAll enc Tryz.prog W 0 (fun _=>true) true Tryz.f5.params.toList args.toList ds p:=hA0
 have hV : DataW.TrodVars enc Tryz.prog W (fun _ => true) ["loop.example/g00448/impl.errNoNumber"] gs q:=hV0
 rw[Tryz.params5]at hA hval;obtain⟨v0,vs0,d0,ds0,p0,q0,hargs,rfl,rfl,h0,r0⟩:=trodAll_cons hA;obtain⟨v1,vs1,d1,ds1,p1,q1,rfl,rfl,rfl,h1,r1⟩:=trodAll_cons r0;obtain⟨v2,vs2,d2,ds2,p2,q2,rfl,rfl,rfl,h2,r2⟩:=trodAll_cons r1;obtain⟨rfl,rfl,rfl⟩:=trodAll_nil r2;obtain rfl:args= #[v0,v1,v2]:=by cases args;simp_all
 rw[MakeChecks.laidMetH_plain _ _ _ (by kernel_rfl)]at hL;have htab:Pow W:=Lib.tabIs_of_head rz jQ Tryz.underlying376 Tryz.underlying364 ny ja (laidMet.tail (laidMet.tail hL));have hL3:=laidMet.tail (laidMet.tail (laidMet.tail hL));obtain⟨ar,sr,hvr,_,_,_⟩:=laid_sentinel hL3 wz jP Tryz.underlying195 g_ Tryz.underlying380 Tryz.underlying382 rfl rfl Tryz.underlying9 Sr cellsS;obtain⟨ay,sy,hvy,_,_,_⟩:=laid_sentinel (laidMet.tail hL3) wy jO Tryz.underlying195 g_ Tryz.underlying380 Tryz.underlying382 rfl rfl Tryz.underlying9 Sr cellsS;obtain⟨a0,s0,hv0,hc0,hs0,hz0⟩:=laid_sentinel (laidMet.tail (laidMet.tail hL3)) gE YT Tryz.underlying195 g_ Tryz.underlying380 Tryz.underlying382 rfl rfl Tryz.underlying9 Sr cellsS;obtain⟨rfl,rfl⟩:=hV.unique (vars_read1 enc gE YT Tryz.underlying195 hv0 trivial _);have hg0:W.cell? ⟨1,0,none⟩=some (.iface 380 (.pointer (some a0))):=by simpa using World.var?_cell gE hv0 0
 have hE:Env W:=⟨htab,⟨_,_,hg0⟩,⟨_,_,by simpa using World.var?_cell wy hvy 0⟩,⟨_,_,by simpa using World.var?_cell wz hvr 0⟩⟩
 have k0:=h0;have lt0:∀x ∈ p0,x.block<W.heap.size:=by obtain⟨m,hm⟩:=k0;exact DataW.trod_lt m _ _ _ hm
 obtain⟨n0,f0,rfl⟩:=bL (hval 0 23 v0 rfl rfl) h0;have k1:=h1;have ZO:∀x ∈ p1,x.block<W.heap.size:=by obtain⟨m,hm⟩:=k1;exact DataW.trod_lt m _ _ _ hm
 obtain⟨t1,Pf,bo1,co1,od1,oe1,ca1,cb1,cc1,cd1,ce1,rs1,ht1,rfl,hm1,aq1,fq1,ap1,at1,he1,ad1,ah1,hh1⟩:=iO (hval 1 36 v1 rfl rfl) h1;have k2:=h2;have QG:∀x ∈ p2,x.block<W.heap.size:=by obtain⟨m,hm⟩:=k2;exact DataW.trod_lt m _ _ _ hm
 obtain⟨t2,ji,bo2,co2,ca2,cb2,Cn,rfl,hm2,ha2,_,hi2⟩:=iP (hval 2 67 v2 rfl rfl) h2;clear hA0 hV0 hval0;refine(PQ n0 f0 t1 Pf bo1 co1 od1 oe1 ca1 cb1 cc1 cd1 ce1 rs1 t2 ji bo2 co2 ca2 cb2 Cn W ht1 hm1 aq1 ap1 at1 he1 ad1 ah1 hh1 hm2 ha2 hi2 hE).mono fun e W' ⟨he,fH⟩=>?_;subst he
 have hv1 : W'.var? Tryz.prog "loop.example/g00448/impl.errNoNumber" = some #[.iface 380 (.pointer (some a0))]:=var?_below fH gE (AQ hg0) hv0
 exact⟨_,rfl,_,_,_,[],_,[.cell 1 0],hW',trodAll_mk1 (shut_bool Tryz.underlying4 _),(trodAll_cons_mk (Below.trod laidOut (by kernel_rfl) (of_decide_eq_true (by kernel_rfl)) k0 fH lt0) (trodAll_cons_mk (Below.trod laidOut (by kernel_rfl) (of_decide_eq_true (by kernel_rfl)) k1 fH ZO) (trodAll_cons_mk (Below.trod laidOut (by kernel_rfl) (of_decide_eq_true (by kernel_rfl)) k2 fH QG) trodAll_mk0))),vars_read1 enc gE YT Tryz.underlying195 hv1 trivial _,fH.frame _,fun h=>by cases h⟩

theorem said:Rows.FnExactTellAllSaid:=
 OpenClaim.holds_of_wide 5 Tryz.f5 rfl rfl rfl rfl rfl rfl rfl ⟨rfl,rfl,rfl,rfl,rfl⟩ rfl rfl rfl rfl rfl (by kernel_rfl) Tryz.func5 closed
  (of_decide_eq_true (by kernel_rfl)) (by unfold Func.isWrapper;first|(rw[if_pos (by decide +kernel)];kernel_rfl)|(rw[if_neg (by decide +kernel)];exact⟨rfl,rfl⟩))
  (fun os started H enc _=>lifted os started H enc)
end Go.Proofs.YtcjmcgolgbkknaaGreatDoor.fnExactTellAll
namespace Go.Proofs.YtcjmcgolgbkknaaGreatDoor
theorem fnExactTellAll_holds:Rows.FnExactTellAllCardSaid:=
 Claim7.holds_tied_plain_at .later [] _ _ _ _ fnExactTellAll.said (fun _ h=>by cases h) (by kernel_rfl) (fun _ h=>by cases h) fnExactTellAll_row_tie rfl ⟨rfl,rfl⟩ (by kernel_rfl) rfl
  (fun f fn hf hfn=>by
   obtain rfl : f = 5:=Option.some.inj ((show Tryz.prog.funcNamed "loop.example/g00448/laws.FnExactTellAll" = some 5 by kernel_rfl).symm.trans hf) |>.symm
   obtain rfl:fn=Tryz.f5:=(Option.some.inj (Tryz.func5.symm.trans hfn)).symm
   exact⟨rM,fun j t ht=>by
    rw[Tryz.params5]at ht;have hm:t ∈ [23,36,67]:=by simpa using Array.mem_of_getElem? ht
    have hall:([23,36,67].all fun u=>!Tryz.prog.wantsStandIn u)=true:=by kernel_rfl
    exact(show Tryz.prog.wantsStandIn t=false by simpa using List.all_eq_true.1 hall t hm)⟩)
  fnExactTellAll.wu
#print axioms fnExactTellAll_holds
end Go.Proofs.YtcjmcgolgbkknaaGreatDoor
