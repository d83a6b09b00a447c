/- For every Conf, every replica and every Safe laws.FnExactWrite returns true and leaves what was in memory as it was: impl.Write answers what spec.Write answers, number by number, its answer owns its memory, behind another call too, and it writes into no argument and keeps nothing of one, where the texts, numbers, payments, parts, bytes and posts of the replica and the names and the list of voters of the Safe are together at most 1048576 (the law answers true of greater ones by itself). Conditions: the package variable errNoNumber, the two errors and the tables of the library hold what the text lays (the card ties them to that text). -/
import Derived.Test.YtcjmcgolgbkknaaGreatDoorWRAD
import Derived.Test.YtcjmcgolgbkknaaGreatDoorWRBM
import Derived.Test.YtcjmcgolgbkknaaGreatDoorWRBQ
import Derived.Test.YtcjmcgolgbkknaaGreatDoorWRBR
import Derived.Test.YtcjmcgolgbkknaaGreatDoorWRLK
set_option linter.unusedVariables false
namespace Go.Proofs.YtcjmcgolgbkknaaGreatDoor.fnExactWrite
open Go.ChangeShapes Go.WideShapes Go.ChangeAt Go.RowKit
open Go.ChangeMaps (open_string shut_string)

theorem pE:(Tryz.prog.globals[5]?).map (·.type)=some 376:=by kernel_rfl
theorem pz:Tryz.prog.cellsOf 376=20:=by kernel_rfl
theorem uU:Tryz.prog.cellsOf 364=1:=by kernel_rfl
theorem AA1 : Tryz.prog.globalNamed "strconv.ErrSyntax" = some 3 := by kernel_rfl
theorem o9:(Tryz.prog.globals[3]?).map (·.type)=some 195:=by kernel_rfl
theorem AA2 : Tryz.prog.globalNamed "strconv.ErrRange" = some 4 := by kernel_rfl
theorem o_:(Tryz.prog.globals[4]?).map (·.type)=some 195:=by kernel_rfl
theorem pI(os:Os)(args:Array Value):laidMetH Tryz.prog Rows.fnExactWriteRow.laid ((World.doorLaid Tryz.prog 400 os).forCall (fun _ _=>0) ⟨#[],args,[]⟩).memory:=
 laidMetH_of_parts3 (fuel:=8) (laidMet_of_run' 8 (by kernel_rfl) (by kernel_rfl)) (by kernel_rfl) (by kernel_rfl)

set_option maxRecDepth 100000 in
theorem lifted(os:Os)(started:os.Started)(H:Type)(enc:TypeId×Value→H):
 ReturnsInHanded {} Tryz.checked os 4 .any (fun w args=>(Rows.fnExactWriteSpec.pre enc Tryz.prog Tryz.f4 [] false w args∧laidMetH Tryz.prog Rows.fnExactWriteRow.laid w)∧sizedMet enc Tryz.prog Tryz.f4 (OpenSpec.ofChange Rows.fnExactWriteSpec) false w args)
  (Rows.fnExactWriteSpec.post enc Tryz.prog Tryz.f4 false true false false):=by
 have di0:∀(a b c d:Int),Decidable (BK a b c d):=fun a b c d=>Classical.choice ((Classical.em (BK a b c d)).elim (fun h=>⟨.isTrue h⟩) (fun h=>⟨.isFalse h⟩));have di1:∀(n f:Int),Decidable (A9 n f):=fun n f=>Classical.choice ((Classical.em (A9 n f)).elim (fun h=>⟨.isTrue h⟩) (fun h=>⟨.isFalse h⟩));have di2:∀(a b c d:Nat),Decidable (Dc a b c d):=fun a b c d=>Classical.choice ((Classical.em (Dc a b c d)).elim (fun h=>⟨.isTrue h⟩) (fun h=>⟨.isFalse h⟩));have di3:∀(x:T4),Decidable (Dv x):=fun x=>Classical.choice ((Classical.em (Dv x)).elim (fun h=>⟨.isTrue h⟩) (fun h=>⟨.isFalse h⟩));have di4:∀(last:Int)(s:St),Decidable (Ak last s):=fun last s=>Classical.choice ((Classical.em (Ak last s)).elim (fun h=>⟨.isTrue h⟩) (fun h=>⟨.isFalse h⟩));have di5:∀(n:Int)(s:List Int),Decidable (Dw n s):=fun n s=>Classical.choice ((Classical.em (Dw n s)).elim (fun h=>⟨.isTrue h⟩) (fun h=>⟨.isFalse h⟩));have di6:∀(x y:T4),Decidable (Hu x y):=fun x y=>Classical.choice ((Classical.em (Hu x y)).elim (fun h=>⟨.isTrue h⟩) (fun h=>⟨.isFalse h⟩));have di7:∀(ts:List T4),Decidable (Asc ts):=fun ts=>Classical.choice ((Classical.em (Asc ts)).elim (fun h=>⟨.isTrue h⟩) (fun h=>⟨.isFalse h⟩));have di8:∀(ts:List T4),Decidable (Dh ts):=fun ts=>Classical.choice ((Classical.em (Dh ts)).elim (fun h=>⟨.isTrue h⟩) (fun h=>⟨.isFalse h⟩));have di9:∀(ts:List T4),Decidable (J9 ts):=fun ts=>Classical.choice ((Classical.em (J9 ts)).elim (fun h=>⟨.isTrue h⟩) (fun h=>⟨.isFalse h⟩));refine returnsInHanded_of_change_and (C:=Tryz.checked) (X:=fun w _=>laidMetH Tryz.prog Rows.fnExactWriteRow.laid w) (fun _ _ _ hh h=>h.of_heap hh) own started (by kernel_rfl) Tryz.func4
  (ChangeSpec.witness_shaped (enc:=enc) (C:=Tryz.checked) (os:=os) (X:=fun w _=>laidMetH Tryz.prog Rows.fnExactWriteRow.laid w) false (World.doorLaid Tryz.prog 400 os) #[cv 0 0,FX ⟨0,0,0,0,0,0,⟨#[]⟩,[],⟨#[]⟩,[],[],[],0,[]⟩ (.slice none 0 0) (.slice none 0 0) (.slice none 0 0) (.slice none 0 0) (.slice none 0 0),sv 0 0 0 ⟨#[]⟩ (.slice none 0 0) ⟨#[]⟩] 8 rfl (World.shaped_of_RefB (by kernel_rfl) (by kernel_rfl)) (by kernel_rfl) (by kernel_rfl) (by kernel_rfl) (pI os _)) ?_
 intro W base args ds gs before hval0 hW _ _ hL _;have hval:∀(j:Nat) t v,Tryz.f4.params[j]? =some t→args[j]? =some v→Value.okWide Tryz.prog W .any base t v:=hval0;have hW':=hW;obtain⟨p,q,hA0,hV0,rfl,hfz,hnd⟩:=hW;have hA:DataW.TrodAll enc Tryz.prog W 0 (fun _=>true) true Tryz.f4.params.toList args.toList ds p:=hA0
 have hV : DataW.TrodVars enc Tryz.prog W (fun _ => true) ["loop.example/g00448/impl.errNoNumber"] gs q:=hV0
 rw[Tryz.params4]at hA hval;obtain⟨v0,vs0,d0,ds0,p0,q0,hargs,rfl,rfl,h0,r0⟩:=trodAll_cons hA;obtain⟨v1,vs1,d1,ds1,p1,q1,rfl,rfl,rfl,h1,r1⟩:=trodAll_cons r0;obtain⟨v2,vs2,d2,ds2,p2,q2,rfl,rfl,rfl,h2,r2⟩:=trodAll_cons r1;obtain⟨rfl,rfl,rfl⟩:=trodAll_nil r2;obtain rfl:args= #[v0,v1,v2]:=by cases args;simp_all
 rw[MakeChecks.laidMetH_plain _ _ _ (by kernel_rfl)]at hL;have htab:Pow W:=Lib.tabIs_of_head yE pE Tryz.underlying376 Tryz.underlying364 uU pz (laidMet.tail (laidMet.tail hL));have hL3:=laidMet.tail (laidMet.tail (laidMet.tail hL));obtain⟨ar,sr,hvr,_,_,_⟩:=laid_sentinel hL3 AA2 o_ Tryz.underlying195 mr Tryz.underlying380 Tryz.underlying382 rfl rfl Tryz.underlying9 U6 cellsS;obtain⟨ay,sy,hvy,_,_,_⟩:=laid_sentinel (laidMet.tail hL3) AA1 o9 Tryz.underlying195 mr Tryz.underlying380 Tryz.underlying382 rfl rfl Tryz.underlying9 U6 cellsS;obtain⟨a0,s0,hv0,hc0,hs0,hz0⟩:=laid_sentinel (laidMet.tail (laidMet.tail hL3)) gE aA Tryz.underlying195 mr Tryz.underlying380 Tryz.underlying382 rfl rfl Tryz.underlying9 U6 cellsS;obtain⟨rfl,rfl⟩:=hV.unique (vars_read1 enc gE aA Tryz.underlying195 hv0 trivial _);have hg0:W.cell? ⟨1,0,none⟩=some (.iface 380 (.pointer (some a0))):=by simpa using World.var?_cell gE hv0 0
 have hE:Env W:=⟨htab,⟨_,_,hg0⟩,⟨_,_,by simpa using World.var?_cell AA1 hvy 0⟩,⟨_,_,by simpa using World.var?_cell AA2 hvr 0⟩⟩
 have k0:=h0;have lt0:∀x ∈ p0,x.block<W.heap.size:=by obtain⟨m,hm⟩:=k0;exact DataW.trod_lt m _ _ _ hm
 obtain⟨n0,f0,rfl⟩:=ig (hval 0 23 v0 rfl rfl) h0;have k1:=h1;have dw:∀x ∈ p1,x.block<W.heap.size:=by obtain⟨m,hm⟩:=k1;exact DataW.trod_lt m _ _ _ hm
 obtain⟨t1,JE,bo1,co1,od1,oe1,ca1,cb1,cc1,cd1,ce1,rs1,ht1,rfl,hm1,aq1,fq1,ap1,at1,he1,ad1,ah1,hh1⟩:=nU (hval 1 36 v1 rfl rfl) h1;have k2:=h2;have MC:∀x ∈ p2,x.block<W.heap.size:=by obtain⟨m,hm⟩:=k2;exact DataW.trod_lt m _ _ _ hm
 obtain⟨vo2,lo2,n2,s2,Nl,ca2,m2,xs2,rfl,hs2,hn2,hm2,hr2,wf2⟩:=ib (hval 2 28 v2 rfl rfl) h2;clear hA0 hV0 hval0;refine(Ut n0 f0 t1 JE bo1 co1 od1 oe1 ca1 cb1 cc1 cd1 ce1 rs1 vo2 lo2 n2 s2 xs2 m2 Nl ca2 W ht1 hm1 aq1 ap1 at1 he1 ad1 ah1 hh1 hs2 hn2 hm2 hr2 hE).mono fun e W' ⟨he,kM⟩=>?_;subst he
 have hv1 : W'.var? Tryz.prog "loop.example/g00448/impl.errNoNumber" = some #[.iface 380 (.pointer (some a0))]:=var?_below kM gE (AU hg0) hv0
 exact⟨_,rfl,_,_,_,[],_,[.cell 1 0],hW',trodAll_mk1 (shut_bool Tryz.underlying4 _),(trodAll_cons_mk (Below.trod laidOut (by kernel_rfl) (of_decide_eq_true (by kernel_rfl)) k0 kM lt0) (trodAll_cons_mk (Below.trod laidOut (by kernel_rfl) (of_decide_eq_true (by kernel_rfl)) k1 kM dw) (trodAll_cons_mk (Below.trod laidOut (by kernel_rfl) (of_decide_eq_true (by kernel_rfl)) k2 kM MC) trodAll_mk0))),vars_read1 enc gE aA Tryz.underlying195 hv1 trivial _,kM.frame _,fun h=>by cases h⟩

theorem said:Rows.FnExactWriteSaid:=
 OpenClaim.holds_of_wide 4 Tryz.f4 rfl rfl rfl rfl rfl rfl rfl ⟨rfl,rfl,rfl,rfl,rfl⟩ rfl rfl rfl rfl rfl (by kernel_rfl) Tryz.func4 closed
  (of_decide_eq_true (by kernel_rfl)) (by unfold Func.isWrapper;first|(rw[if_pos (by decide +kernel)];kernel_rfl)|(rw[if_neg (by decide +kernel)];exact⟨rfl,rfl⟩))
  (fun os started H enc _=>lifted os started H enc)
end Go.Proofs.YtcjmcgolgbkknaaGreatDoor.fnExactWrite
namespace Go.Proofs.YtcjmcgolgbkknaaGreatDoor
theorem fnExactWrite_holds:Rows.FnExactWriteCardSaid:=
 Claim7.holds_tied_plain_at .later [] _ _ _ _ fnExactWrite.said (fun _ h=>by cases h) (by kernel_rfl) (fun _ h=>by cases h) fnExactWrite_row_tie rfl ⟨rfl,rfl⟩ (by kernel_rfl) rfl
  (fun f fn hf hfn=>by
   obtain rfl : f = 4:=Option.some.inj ((show Tryz.prog.funcNamed "loop.example/g00448/laws.FnExactWrite" = some 4 by kernel_rfl).symm.trans hf) |>.symm
   obtain rfl:fn=Tryz.f4:=(Option.some.inj (Tryz.func4.symm.trans hfn)).symm
   exact⟨xq,fun j t ht=>by
    rw[Tryz.params4]at ht;have hm:t ∈ [23,36,28]:=by simpa using Array.mem_of_getElem? ht
    have hall:([23,36,28].all fun u=>!Tryz.prog.wantsStandIn u)=true:=by kernel_rfl
    exact(show Tryz.prog.wantsStandIn t=false by simpa using List.all_eq_true.1 hall t hm)⟩)
  fnExactWrite.AA0
#print axioms fnExactWrite_holds
end Go.Proofs.YtcjmcgolgbkknaaGreatDoor
