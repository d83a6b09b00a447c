/- For every Conf, every replica, every number and every message laws.FnExactTell returns true and leaves what was in memory as it was: impl.Tell answers what spec.Tell answers, number by number, its answer owns its memory, behind another call too, and it writes into no argument and keeps nothing of one, where the texts, numbers, payments, parts, bytes and posts of the replica and the names and lists of the message are together at most 1048576 (the law answers true of greater ones by itself). Conditions: the package variable errNoNumber, the two errors and the tables of the library hold what the text lays (the card ties them to that text). -/
import Derived.Test.YtkmnfeihjjccmaaGreatDoorTLAD
import Derived.Test.YtkmnfeihjjccmaaGreatDoorTLBL
import Derived.Test.YtkmnfeihjjccmaaGreatDoorTLBP
import Derived.Test.YtkmnfeihjjccmaaGreatDoorTLBQ
import Derived.Test.YtkmnfeihjjccmaaGreatDoorTLLK
set_option linter.unusedVariables false
namespace Go.Proofs.YtkmnfeihjjccmaaGreatDoor.fnExactTell
open Go.ChangeShapes Go.WideShapes Go.ChangeAt Go.RowKit
open Go.ChangeMaps (open_string shut_string)

theorem jV:(Tryz.prog.globals[2]?).map (·.type)=some 265:=by kernel_rfl
theorem jg:Tryz.prog.cellsOf 265=20:=by kernel_rfl
theorem oI:Tryz.prog.cellsOf 250=1:=by kernel_rfl
theorem xC : Tryz.prog.globalNamed "strconv.ErrSyntax" = some 3 := by kernel_rfl
theorem jT:(Tryz.prog.globals[3]?).map (·.type)=some 232:=by kernel_rfl
theorem xD : Tryz.prog.globalNamed "strconv.ErrRange" = some 4 := by kernel_rfl
theorem jU:(Tryz.prog.globals[4]?).map (·.type)=some 232:=by kernel_rfl
theorem jX(os:Os)(args:Array Value):laidMetH Tryz.prog Rows.fnExactTellRow.laid ((World.doorLaid Tryz.prog 400 os).forCall (fun _ _=>0) ⟨#[],args,[]⟩).memory:=
 laidMetH_of_parts3 (fuel:=8) (laidMet_of_run' 8 (by kernel_rfl) (by kernel_rfl)) (by kernel_rfl) (by kernel_rfl)

set_option maxRecDepth 100000 in
theorem lifted(os:Os)(started:os.Started)(H:Type)(enc:TypeId×Value→H):
 ReturnsInHanded {} Tryz.checked os 3 .any (fun w args=>(Rows.fnExactTellSpec.pre enc Tryz.prog Tryz.f3 [] false w args∧laidMetH Tryz.prog Rows.fnExactTellRow.laid w)∧sizedMet enc Tryz.prog Tryz.f3 (OpenSpec.ofChange Rows.fnExactTellSpec) false w args)
  (Rows.fnExactTellSpec.post enc Tryz.prog Tryz.f3 false true false false):=by
 have di0:∀(a b c d:Int),Decidable (BD a b c d):=fun a b c d=>Classical.choice ((Classical.em (BD a b c d)).elim (fun h=>⟨.isTrue h⟩) (fun h=>⟨.isFalse h⟩))
 have di1:∀(n f:Int),Decidable (A8 n f):=fun n f=>Classical.choice ((Classical.em (A8 n f)).elim (fun h=>⟨.isTrue h⟩) (fun h=>⟨.isFalse h⟩))
 have di2:∀(a b c d:Nat),Decidable (Dj a b c d):=fun a b c d=>Classical.choice ((Classical.em (Dj a b c d)).elim (fun h=>⟨.isTrue h⟩) (fun h=>⟨.isFalse h⟩))
 have di3:∀(x:T4),Decidable (Dr x):=fun x=>Classical.choice ((Classical.em (Dr x)).elim (fun h=>⟨.isTrue h⟩) (fun h=>⟨.isFalse h⟩))
 have di4:∀(last:Int)(s:St),Decidable (Au last s):=fun last s=>Classical.choice ((Classical.em (Au last s)).elim (fun h=>⟨.isTrue h⟩) (fun h=>⟨.isFalse h⟩))
 have di5:∀(n:Int)(s:List Int),Decidable (Dt n s):=fun n s=>Classical.choice ((Classical.em (Dt n s)).elim (fun h=>⟨.isTrue h⟩) (fun h=>⟨.isFalse h⟩))
 have di6:∀(x y:T4),Decidable (Gm x y):=fun x y=>Classical.choice ((Classical.em (Gm x y)).elim (fun h=>⟨.isTrue h⟩) (fun h=>⟨.isFalse h⟩))
 have di7:∀(ts:List T4),Decidable (Asc ts):=fun ts=>Classical.choice ((Classical.em (Asc ts)).elim (fun h=>⟨.isTrue h⟩) (fun h=>⟨.isFalse h⟩))
 have di8:∀(ts:List T4),Decidable (DU ts):=fun ts=>Classical.choice ((Classical.em (DU ts)).elim (fun h=>⟨.isTrue h⟩) (fun h=>⟨.isFalse h⟩))
 have di9:∀(ts:List T4),Decidable (JP ts):=fun ts=>Classical.choice ((Classical.em (JP ts)).elim (fun h=>⟨.isTrue h⟩) (fun h=>⟨.isFalse h⟩))
 refine returnsInHanded_of_change_and (C:=Tryz.checked) (X:=fun w _=>laidMetH Tryz.prog Rows.fnExactTellRow.laid w) (fun _ _ _ hh h=>h.of_heap hh) own started (by kernel_rfl) Tryz.func3
  (ChangeSpec.witness_shaped (enc:=enc) (C:=Tryz.checked) (os:=os) (X:=fun w _=>laidMetH Tryz.prog Rows.fnExactTellRow.laid w) false (World.doorLaid Tryz.prog 400 os) #[cv 0 0,ES ⟨0,0,0,0,0,0,⟨#[]⟩,[],⟨#[]⟩,[],[],[],0,[]⟩ (.slice none 0 0) (.slice none 0 0) (.slice none 0 0) (.slice none 0 0) (.slice none 0 0),.int .i64 0,Dp ⟨0,0,⟨#[]⟩,0,⟨#[]⟩,[],0,⟨#[]⟩,[],0,⟨#[]⟩,[],0,0,0,0,0⟩ (.slice none 0 0) (.slice none 0 0) (.slice none 0 0)] 8 rfl (World.shaped_of_RefB (by kernel_rfl) (by kernel_rfl)) (by kernel_rfl) (by kernel_rfl) (by kernel_rfl) (jX os _)) ?_
 intro W base args ds gs before hval0 hW _ _ hL _
 have hval:∀(j:Nat) t v,Tryz.f3.params[j]? =some t→args[j]? =some v→Value.okWide Tryz.prog W .any base t v:=hval0
 have hW':=hW
 obtain⟨p,q,hA0,hV0,rfl,hfz,hnd⟩:=hW
 have hA:DataW.TrodAll enc Tryz.prog W 0 (fun _=>true) true Tryz.f3.params.toList args.toList ds p:=hA0
 have hV : DataW.TrodVars enc Tryz.prog W (fun _ => true) ["loop.example/g00448/impl.errNoNumber"] gs q:=hV0
 rw[Tryz.params3]at hA hval
 obtain⟨v0,vs0,d0,ds0,p0,q0,hargs,rfl,rfl,h0,r0⟩:=trodAll_cons hA
 obtain⟨v1,vs1,d1,ds1,p1,q1,rfl,rfl,rfl,h1,r1⟩:=trodAll_cons r0
 obtain⟨v2,vs2,d2,ds2,p2,q2,rfl,rfl,rfl,h2,r2⟩:=trodAll_cons r1
 obtain⟨v3,vs3,d3,ds3,p3,q3,rfl,rfl,rfl,h3,r3⟩:=trodAll_cons r2
 obtain⟨rfl,rfl,rfl⟩:=trodAll_nil r3
 obtain rfl:args= #[v0,v1,v2,v3]:=by cases args;simp_all
 rw[MakeChecks.laidMetH_plain _ _ _ (by kernel_rfl)]at hL
 have htab:Pow W:=Lib.tabIs_of_head sJ jV Tryz.underlying265 Tryz.underlying250 oI jg (laidMet.tail (laidMet.tail hL))
 have hL3:=laidMet.tail (laidMet.tail (laidMet.tail hL))
 obtain⟨ar,sr,hvr,_,_,_⟩:=laid_sentinel hL3 xD jU Tryz.underlying232 iF Tryz.underlying275 Tryz.underlying277 rfl rfl Tryz.underlying9 Sl cellsS
 obtain⟨ay,sy,hvy,_,_,_⟩:=laid_sentinel (laidMet.tail hL3) xC jT Tryz.underlying232 iF Tryz.underlying275 Tryz.underlying277 rfl rfl Tryz.underlying9 Sl cellsS
 obtain⟨a0,s0,hv0,hc0,hs0,hz0⟩:=laid_sentinel (laidMet.tail (laidMet.tail hL3)) gE YT Tryz.underlying232 iF Tryz.underlying275 Tryz.underlying277 rfl rfl Tryz.underlying9 Sl cellsS
 obtain⟨rfl,rfl⟩:=hV.unique (vars_read1 enc gE YT Tryz.underlying232 hv0 trivial _)
 have hg0:W.cell? ⟨1,0,none⟩=some (.iface 275 (.pointer (some a0))):=by simpa using World.var?_cell gE hv0 0
 have hE:Env W:=⟨htab,⟨_,_,hg0⟩,⟨_,_,by simpa using World.var?_cell xC hvy 0⟩,⟨_,_,by simpa using World.var?_cell xD hvr 0⟩⟩
 have k0:=h0
 have lt0:∀x ∈ p0,x.block<W.heap.size:=by obtain⟨m,hm⟩:=k0;exact DataW.trod_lt m _ _ _ hm
 obtain⟨n0,f0,rfl⟩:=bL (hval 0 23 v0 rfl rfl) h0
 have k1:=h1
 have ZP:∀x ∈ p1,x.block<W.heap.size:=by obtain⟨m,hm⟩:=k1;exact DataW.trod_lt m _ _ _ hm
 obtain⟨t1,PW,bo1,co1,od1,oe1,ca1,cb1,cc1,cd1,ce1,rs1,ht1,rfl,hm1,aq1,fq1,ap1,at1,he1,ad1,ah1,zP⟩:=iW (hval 1 36 v1 rfl rfl) h1
 have k2:=h2
 have Qn:∀x ∈ p2,x.block<W.heap.size:=by obtain⟨m,hm⟩:=k2;exact DataW.trod_lt m _ _ _ hm
 obtain⟨m2,rfl,rfl,rfl,wm2⟩:=open_int Tryz.underlying3 (hval 2 3 v2 rfl rfl) h2
 have k3:=h3
 have lt3:∀x ∈ p3,x.block<W.heap.size:=by obtain⟨m,hm⟩:=k3;exact DataW.trod_lt m _ _ _ hm
 obtain⟨t3,kS,bo3,co3,ca3,cb3,Bv,rfl,qC,ha3,_,hi3⟩:=iX (hval 3 43 v3 rfl rfl) h3
 clear hA0 hV0 hval0
 refine(Vo n0 f0 t1 PW bo1 co1 od1 oe1 ca1 cb1 cc1 cd1 ce1 rs1 m2 t3 kS bo3 co3 ca3 cb3 Bv W ht1 hm1 aq1 ap1 at1 he1 ad1 ah1 zP qC ha3 hi3 hE).mono fun e W' ⟨he,fF⟩=>?_
 subst he
 have hv1 : W'.var? Tryz.prog "loop.example/g00448/impl.errNoNumber" = some #[.iface 275 (.pointer (some a0))]:=var?_below fF gE (AY hg0) hv0
 exact⟨_,rfl,_,_,_,[],_,[.cell 1 0],hW',trodAll_mk1 (shut_bool Tryz.underlying4 _),(trodAll_cons_mk (Below.trod laidOut (by kernel_rfl) (of_decide_eq_true (by kernel_rfl)) k0 fF lt0) (trodAll_cons_mk (Below.trod laidOut (by kernel_rfl) (of_decide_eq_true (by kernel_rfl)) k1 fF ZP) (trodAll_cons_mk (shut_int Tryz.underlying3 wm2) (trodAll_cons_mk (Below.trod laidOut (by kernel_rfl) (of_decide_eq_true (by kernel_rfl)) k3 fF lt3) trodAll_mk0)))),vars_read1 enc gE YT Tryz.underlying232 hv1 trivial _,fF.frame _,fun h=>by cases h⟩

theorem said:Rows.FnExactTellSaid:=
 OpenClaim.holds_of_wide 3 Tryz.f3 rfl rfl rfl rfl rfl rfl rfl ⟨rfl,rfl,rfl,rfl,rfl⟩ rfl rfl rfl rfl rfl (by kernel_rfl) Tryz.func3 closed
  (of_decide_eq_true (by kernel_rfl)) (by unfold Func.isWrapper;first|(rw[if_pos (by decide +kernel)];kernel_rfl)|(rw[if_neg (by decide +kernel)];exact⟨rfl,rfl⟩))
  (fun os started H enc _=>lifted os started H enc)
end Go.Proofs.YtkmnfeihjjccmaaGreatDoor.fnExactTell
namespace Go.Proofs.YtkmnfeihjjccmaaGreatDoor
theorem fnExactTell_holds:Rows.FnExactTellCardSaid:=
 Claim7.holds_tied_plain_at .later [] _ _ _ _ fnExactTell.said (fun _ h=>by cases h) (by kernel_rfl) (fun _ h=>by cases h) fnExactTell_row_tie rfl ⟨rfl,rfl⟩ (by kernel_rfl) rfl
  (fun f fn hf hfn=>by
   obtain rfl : f = 3:=Option.some.inj ((show Tryz.prog.funcNamed "loop.example/g00448/laws.FnExactTell" = some 3 by kernel_rfl).symm.trans hf) |>.symm
   obtain rfl:fn=Tryz.f3:=(Option.some.inj (Tryz.func3.symm.trans hfn)).symm
   exact⟨rY,fun j t ht=>by
    rw[Tryz.params3]at ht
    have hm:t ∈ [23,36,3,43]:=by simpa using Array.mem_of_getElem? ht
    have hall:([23,36,3,43].all fun u=>!Tryz.prog.wantsStandIn u)=true:=by kernel_rfl
    exact(show Tryz.prog.wantsStandIn t=false by simpa using List.all_eq_true.1 hall t hm)⟩)
  fnExactTell.xB
#print axioms fnExactTell_holds
end Go.Proofs.YtkmnfeihjjccmaaGreatDoor
