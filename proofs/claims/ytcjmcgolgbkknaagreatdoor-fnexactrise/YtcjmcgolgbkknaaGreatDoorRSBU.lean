/- For every Conf and every replica laws.FnExactRise returns true and leaves what was in memory as it was: impl.Rise answers what spec.Rise answers, number by number, its answer owns its memory, behind another call too, and it writes into no argument and keeps nothing of one, where the replica's texts, numbers, payments, parts, bytes and posts are together at most 1048576 (the law answers true of greater ones by itself). Conditions: the package variables errNoNumber and errors.errorType, the two errors and the tables of the library hold what the text lays (the card ties them to that text). -/
import Derived.Test.YtcjmcgolgbkknaaGreatDoorRSBO
import Derived.Test.YtcjmcgolgbkknaaGreatDoorRSBS
import Derived.Test.YtcjmcgolgbkknaaGreatDoorRSBT
import Derived.Test.YtcjmcgolgbkknaaGreatDoorRSLK
set_option linter.unusedVariables false
namespace Go.Proofs.YtcjmcgolgbkknaaGreatDoor.fnExactRise
open Go.ChangeShapes Go.WideShapes Go.ChangeAt Go.RowKit
open Go.ChangeMaps (open_string shut_string)

theorem p8:(Tryz.prog.globals[5]?).map (·.type)=some 376:=by kernel_rfl
theorem qI:Tryz.prog.cellsOf 376=20:=by kernel_rfl
theorem uf:Tryz.prog.cellsOf 364=1:=by kernel_rfl
theorem AAj : Tryz.prog.globalNamed "strconv.ErrSyntax" = some 3 := by kernel_rfl
theorem pq:(Tryz.prog.globals[3]?).map (·.type)=some 195:=by kernel_rfl
theorem AAk : Tryz.prog.globalNamed "strconv.ErrRange" = some 4 := by kernel_rfl
theorem pz:(Tryz.prog.globals[4]?).map (·.type)=some 195:=by kernel_rfl
theorem p_(os:Os)(args:Array Value):laidMetH Tryz.prog Rows.fnExactRiseRow.laid ((World.doorLaid Tryz.prog 400 os).forCall (fun _ _=>0) ⟨#[],args,[]⟩).memory:=
 laidMetH_of_parts3 (fuel:=8) (laidMet_of_run' 8 (by kernel_rfl) (by kernel_rfl)) (by kernel_rfl) (by kernel_rfl)

set_option maxRecDepth 100000 in
theorem lifted(os:Os)(started:os.Started)(H:Type)(enc:TypeId×Value→H):
 ReturnsInHanded {} Tryz.checked os 3 .any (fun w args=>(Rows.fnExactRiseSpec.pre enc Tryz.prog Tryz.f3 [] false w args∧laidMetH Tryz.prog Rows.fnExactRiseRow.laid w)∧sizedMet enc Tryz.prog Tryz.f3 (OpenSpec.ofChange Rows.fnExactRiseSpec) false w args)
  (Rows.fnExactRiseSpec.post enc Tryz.prog Tryz.f3 false true false false):=by
 have di0:∀(a b c d:Int),Decidable (BD a b c d):=fun a b c d=>Classical.choice ((Classical.em (BD a b c d)).elim (fun h=>⟨.isTrue h⟩) (fun h=>⟨.isFalse h⟩));have di1:∀(n f:Int),Decidable (A_ n f):=fun n f=>Classical.choice ((Classical.em (A_ n f)).elim (fun h=>⟨.isTrue h⟩) (fun h=>⟨.isFalse h⟩));have di2:∀(a b c d:Nat),Decidable (Dg a b c d):=fun a b c d=>Classical.choice ((Classical.em (Dg a b c d)).elim (fun h=>⟨.isTrue h⟩) (fun h=>⟨.isFalse h⟩));have di3:∀(x:T4),Decidable (Dt x):=fun x=>Classical.choice ((Classical.em (Dt x)).elim (fun h=>⟨.isTrue h⟩) (fun h=>⟨.isFalse h⟩));have di4:∀(last:Int)(s:St),Decidable (Ak last s):=fun last s=>Classical.choice ((Classical.em (Ak last s)).elim (fun h=>⟨.isTrue h⟩) (fun h=>⟨.isFalse h⟩));have di5:∀(n:Int)(s:List Int),Decidable (Du n s):=fun n s=>Classical.choice ((Classical.em (Du n s)).elim (fun h=>⟨.isTrue h⟩) (fun h=>⟨.isFalse h⟩));have di6:∀(x y:T4),Decidable (Io x y):=fun x y=>Classical.choice ((Classical.em (Io x y)).elim (fun h=>⟨.isTrue h⟩) (fun h=>⟨.isFalse h⟩));have di7:∀(ts:List T4),Decidable (Asc ts):=fun ts=>Classical.choice ((Classical.em (Asc ts)).elim (fun h=>⟨.isTrue h⟩) (fun h=>⟨.isFalse h⟩));have di8:∀(ts:List T4),Decidable (Eh ts):=fun ts=>Classical.choice ((Classical.em (Eh ts)).elim (fun h=>⟨.isTrue h⟩) (fun h=>⟨.isFalse h⟩));have di9:∀(ts:List T4),Decidable (Le ts):=fun ts=>Classical.choice ((Classical.em (Le ts)).elim (fun h=>⟨.isTrue h⟩) (fun h=>⟨.isFalse h⟩));refine returnsInHanded_of_change_and (C:=Tryz.checked) (X:=fun w _=>laidMetH Tryz.prog Rows.fnExactRiseRow.laid w) (fun _ _ _ hh h=>h.of_heap hh) own started (by kernel_rfl) Tryz.func3
  (ChangeSpec.witness_shaped (enc:=enc) (C:=Tryz.checked) (os:=os) (X:=fun w _=>laidMetH Tryz.prog Rows.fnExactRiseRow.laid w) false (World.doorLaid Tryz.prog 400 os) #[cv 0 0,I_ ⟨0,0,0,0,0,0,⟨#[]⟩,[],⟨#[]⟩,[],[],[],0,[]⟩ (.slice none 0 0) (.slice none 0 0) (.slice none 0 0) (.slice none 0 0) (.slice none 0 0)] 8 rfl (World.shaped_of_RefB (by kernel_rfl) (by kernel_rfl)) (by kernel_rfl) (by kernel_rfl) (by kernel_rfl) (p_ os _)) ?_
 intro W base args ds gs before hval0 hW _ _ hL _;have hval:∀(j:Nat) t v,Tryz.f3.params[j]? =some t→args[j]? =some v→Value.okWide Tryz.prog W .any base t v:=hval0;have hW':=hW;obtain⟨p,q,hA0,hV0,rfl,hfz,hnd⟩:=hW;have hA:DataW.TrodAll enc Tryz.prog W 0 (fun _=>true) true Tryz.f3.params.toList args.toList ds p:=hA0
 have hV : DataW.TrodVars enc Tryz.prog W (fun _ => true) ["loop.example/g00448/impl.errNoNumber"] gs q:=hV0
 rw[Tryz.params3]at hA hval;obtain⟨v0,vs0,d0,ds0,p0,q0,hargs,rfl,rfl,h0,r0⟩:=trodAll_cons hA;obtain⟨v1,vs1,d1,ds1,p1,q1,rfl,rfl,rfl,h1,r1⟩:=trodAll_cons r0;obtain⟨rfl,rfl,rfl⟩:=trodAll_nil r1;obtain rfl:args= #[v0,v1]:=by cases args;simp_all
 have hLL : laidMet Tryz.prog [("math/bits.deBruijn32tab", Rows.laid_math_bits_deBruijn32tab), ("math/bits.deBruijn64tab", Rows.laid_math_bits_deBruijn64tab), ("internal/strconv.uint64pow10", Rows.laid_internal_strconv_uint64pow10), ("strconv.ErrRange", Rows.laid_strconv_ErrRange), ("strconv.ErrSyntax", Rows.laid_strconv_ErrSyntax), ("loop.example/g00448/impl.errNoNumber", Rows.laid_loop_example_g00448_impl_errNoNumber)] W ∧ handlesMet Tryz.prog [("errors.errorType", Rows.laid_errors_errorType)] W:=hL
 have hT:JW W:=P7 hLL.2;replace hL:=hLL.1;have htab:Pow W:=Lib.tabIs_of_head yP p8 Tryz.underlying376 Tryz.underlying364 uf qI (laidMet.tail (laidMet.tail hL));have hL3:=laidMet.tail (laidMet.tail (laidMet.tail hL));obtain⟨ar,sr,hvr,_,_,_⟩:=laid_sentinel hL3 AAk pz Tryz.underlying195 nP Tryz.underlying380 Tryz.underlying382 rfl rfl Tryz.underlying9 Ul cellsS;obtain⟨ay,sy,hvy,_,_,_⟩:=laid_sentinel (laidMet.tail hL3) AAj pq Tryz.underlying195 nP Tryz.underlying380 Tryz.underlying382 rfl rfl Tryz.underlying9 Ul cellsS;obtain⟨a0,s0,hv0,hc0,hs0,hz0⟩:=laid_sentinel (laidMet.tail (laidMet.tail hL3)) gE Z9 Tryz.underlying195 nP Tryz.underlying380 Tryz.underlying382 rfl rfl Tryz.underlying9 Ul cellsS;obtain⟨rfl,rfl⟩:=hV.unique (vars_read1 enc gE Z9 Tryz.underlying195 hv0 trivial _);have hg0:W.cell? ⟨1,0,none⟩=some (.iface 380 (.pointer (some a0))):=by simpa using World.var?_cell gE hv0 0
 have hE:Env W:=⟨htab,⟨_,_,hg0⟩,⟨_,_,by simpa using World.var?_cell AAj hvy 0⟩,⟨_,_,by simpa using World.var?_cell AAk hvr 0⟩⟩
 have k0:=h0;have lt0:∀x ∈ p0,x.block<W.heap.size:=by obtain⟨m,hm⟩:=k0;exact DataW.trod_lt m _ _ _ hm
 obtain⟨n0,f0,rfl⟩:=ig (hval 0 23 v0 rfl rfl) h0;have k1:=h1;have eD:∀x ∈ p1,x.block<W.heap.size:=by obtain⟨m,hm⟩:=k1;exact DataW.trod_lt m _ _ _ hm
 obtain⟨t1,QR,bo1,co1,od1,oe1,ca1,cb1,cc1,cd1,ce1,rs1,ht1,rfl,hm1,aq1,fq1,ap1,at1,he1,ad1,ah1,hh1⟩:=oH (hval 1 36 v1 rfl rfl) h1;clear hA0 hV0 hval0;refine(Xb n0 f0 t1 QR bo1 co1 od1 oe1 ca1 cb1 cc1 cd1 ce1 rs1 W ht1 hm1 aq1 ap1 at1 he1 ad1 ah1 hh1 hE hT).mono fun e W' ⟨he,Sk⟩=>?_;subst he
 have hv1 : W'.var? Tryz.prog "loop.example/g00448/impl.errNoNumber" = some #[.iface 380 (.pointer (some a0))]:=var?_below Sk gE (AL hg0) hv0
 exact⟨_,rfl,_,_,_,[],_,[.cell 1 0],hW',trodAll_mk1 (shut_bool Tryz.underlying4 _),(trodAll_cons_mk (Below.trod laidOut (by kernel_rfl) (of_decide_eq_true (by kernel_rfl)) k0 Sk lt0) (trodAll_cons_mk (Below.trod laidOut (by kernel_rfl) (of_decide_eq_true (by kernel_rfl)) k1 Sk eD) trodAll_mk0)),vars_read1 enc gE Z9 Tryz.underlying195 hv1 trivial _,Sk.frame _,fun h=>by cases h⟩

theorem said:Rows.FnExactRiseSaid:=
 OpenClaim.holds_of_wide 3 Tryz.f3 rfl rfl rfl rfl rfl rfl rfl ⟨rfl,rfl,rfl,rfl,rfl⟩ rfl rfl rfl rfl rfl (by kernel_rfl) Tryz.func3 closed
  (of_decide_eq_true (by kernel_rfl)) (by unfold Func.isWrapper;first|(rw[if_pos (by decide +kernel)];kernel_rfl)|(rw[if_neg (by decide +kernel)];exact⟨rfl,rfl⟩))
  (fun os started H enc _=>lifted os started H enc)
end Go.Proofs.YtcjmcgolgbkknaaGreatDoor.fnExactRise
namespace Go.Proofs.YtcjmcgolgbkknaaGreatDoor
theorem fnExactRise_holds:Rows.FnExactRiseCardSaid:=
 Claim7.holds_tied_plain_at .later [] _ _ _ _ fnExactRise.said (fun _ h=>by cases h) (by kernel_rfl) (fun _ h=>by cases h) fnExactRise_row_tie rfl ⟨rfl,rfl⟩ (by kernel_rfl) rfl
  (fun f fn hf hfn=>by
   obtain rfl : f = 3:=Option.some.inj ((show Tryz.prog.funcNamed "loop.example/g00448/laws.FnExactRise" = some 3 by kernel_rfl).symm.trans hf) |>.symm
   obtain rfl:fn=Tryz.f3:=(Option.some.inj (Tryz.func3.symm.trans hfn)).symm
   exact⟨x_,fun j t ht=>by
    rw[Tryz.params3]at ht;have hm:t ∈ [23,36]:=by simpa using Array.mem_of_getElem? ht
    have hall:([23,36].all fun u=>!Tryz.prog.wantsStandIn u)=true:=by kernel_rfl
    exact(show Tryz.prog.wantsStandIn t=false by simpa using List.all_eq_true.1 hall t hm)⟩)
  fnExactRise.AAi
#print axioms fnExactRise_holds
end Go.Proofs.YtcjmcgolgbkknaaGreatDoor
