/- Lemmas; their conditions stand in each statement. -/
import Derived.Test.YtkmnfeihjjccmaaGreatDoorTLAK
import Derived.Test.YtkmnfeihjjccmaaGreatDoorTLAG
set_option maxRecDepth 100000
set_option maxHeartbeats 4000000
namespace Go.Proofs.YtkmnfeihjjccmaaGreatDoor
section
open Go.RowKit
theorem nV(s:ByteArray)(w:World)(hs:s.size≤33554432):
 Calls Tryz.prog 209 #[.string s] w fun e w'=>e= .returned (.agg #[.string (BQ (f0 s.data.toList)),.string (BQ (f1 s.data.toList)),.string (BQ (f2 s.data.toList)),.string (BQ (f3 s.data.toList))])∧Below w.heap.size w w':=by
 go_enter Tryz.func209,Tryz.ntmps209
 go_wp2
 go_loopw [5,6] (fun a f wr=>ABv s w a f wr) (fun _ _ wr=>s.size-wr.iterPos (w.heap.size+1+1+1))
 case atStart=>exact⟨0,0,0,by omega,by omega,by omega,rfl,rfl,fD s,rfl⟩
 case round=>
  obtain⟨pos,k,n,hk,hnp,hns,rfl,rfl,hc,rfl⟩:=hrel
  by_cases hp:pos<s.size
  ·have hps:pos≤s.size:=by omega
   have hwd:1≤(Utf8.decode s pos).2:=by
    by_cases ha:s[pos].toNat<128
    ·rw[decode_ascii s pos hp ha];exact Nat.le_refl _
    exact(decode_high s pos hp (by omega)).2
   have hm0:=fun g0 g1 g2 g3 p=>(PM w s g0 g1 g2 g3 p).1
   have hm1:=fun g0 g1 g2 g3 p=>(PM w s g0 g1 g2 g3 p).2.1
   have hm2:=fun g0 g1 g2 g3 p=>(PM w s g0 g1 g2 g3 p).2.2
   have hc0:=fun g0 g1 g2 g3 p=>(PQ w s g0 g1 g2 g3 p).1
   have hc1:=fun g0 g1 g2 g3 p=>(PQ w s g0 g1 g2 g3 p).2.1
   have hc2:=fun g0 g1 g2 g3 p=>(PQ w s g0 g1 g2 g3 p).2.2.1
   have hz:=nS w s
   have hs0:=nQ w s
   have hs1:=nP w s
   have hs2:=nO w s
   have hmp:=sN w s
   have hcase:k=0∨k=1∨k=2∨k=3:=by omega
   rcases hcase with rfl|rfl|rfl|rfl
   ·by_cases hb:s[pos]=WM 0
    ·have hnx:=fun g0 g1 g2 g3 ty=>Hw w s g0 g1 g2 g3 pos hp ty
     have hde:Utf8.decode s pos=(62,1):=by rw[decode_ascii s pos hp (by rw[hb];decide),hb];rfl
     rw[hde]at hnx
     have HH:=hide (Sm hc hp (by omega) hb)
     have hint:((62:Nat):Int)=62:=rfl
     simp only[hint]at hnx
     simp only[gs]
     clear hc hb hde hwd
     go_wp2
     go_roundw
     case rel=>
      refine⟨pos+1,1,pos+1,by omega,by omega,by omega,by go_num,by go_num,HH.out.2,?_⟩
      rw[HH.out.1];rfl
     case measure=>rw[hmp,hmp];omega
    have hnx:=fun g0 g1 g2 g3 ty=>Hw w s g0 g1 g2 g3 pos hp ty
    have HM:=hide (Kj hc hp (fun _=>hb))
    have hne:(((Utf8.decode s pos).1:Int)==62)=false:=by
     by_cases ha:s[pos].toNat<128
     ·rw[decode_ascii s pos hp ha]
      have:s[pos].toNat≠62:=fun e=>hb (UInt8.toNat_inj.1 e)
      simp;omega
     have:=(decode_high s pos hp (by omega)).1
     simp;omega
    have hle:(Utf8.decode s pos).1≤2147483647:=decode_le s pos
    simp only[gs]
    generalize (Utf8.decode s pos).1=r at *
    generalize (Utf8.decode s pos).2=v at *
    clear hc hb
    go_wp2
    go_roundw
    case rel=>exact⟨pos+v,0,n,by omega,by omega,by omega,by go_num,rfl,HM.out,rfl⟩
    case measure=>rw[hmp,hmp];omega
   ·by_cases hb:s[pos]=WM 1
    ·have hnx:=fun g0 g1 g2 g3 ty=>Hw w s g0 g1 g2 g3 pos hp ty
     have hde:Utf8.decode s pos=(58,1):=by rw[decode_ascii s pos hp (by rw[hb];decide),hb];rfl
     rw[hde]at hnx
     have HH:=hide (Sm hc hp (by omega) hb)
     have hint:((58:Nat):Int)=58:=rfl
     simp only[hint]at hnx
     simp only[gs]
     clear hc hb hde hwd
     go_wp2
     go_roundw
     case rel=>
      refine⟨pos+1,2,pos+1,by omega,by omega,by omega,by go_num,by go_num,HH.out.2,?_⟩
      rw[HH.out.1];rfl
     case measure=>rw[hmp,hmp];omega
    have hnx:=fun g0 g1 g2 g3 ty=>Hw w s g0 g1 g2 g3 pos hp ty
    have HM:=hide (Kj hc hp (fun _=>hb))
    have hne:(((Utf8.decode s pos).1:Int)==58)=false:=by
     by_cases ha:s[pos].toNat<128
     ·rw[decode_ascii s pos hp ha]
      have:s[pos].toNat≠58:=fun e=>hb (UInt8.toNat_inj.1 e)
      simp;omega
     have:=(decode_high s pos hp (by omega)).1
     simp;omega
    have hle:(Utf8.decode s pos).1≤2147483647:=decode_le s pos
    simp only[gs]
    generalize (Utf8.decode s pos).1=r at *
    generalize (Utf8.decode s pos).2=v at *
    clear hc hb
    go_wp2
    go_roundw
    case rel=>exact⟨pos+v,1,n,by omega,by omega,by omega,by go_num,rfl,HM.out,rfl⟩
    case measure=>rw[hmp,hmp];omega
   ·by_cases hb:s[pos]=WM 2
    ·have hnx:=fun g0 g1 g2 g3 ty=>Hw w s g0 g1 g2 g3 pos hp ty
     have hde:Utf8.decode s pos=(35,1):=by rw[decode_ascii s pos hp (by rw[hb];decide),hb];rfl
     rw[hde]at hnx
     have HH:=hide (Sm hc hp (by omega) hb)
     have hint:((35:Nat):Int)=35:=rfl
     simp only[hint]at hnx
     simp only[gs]
     clear hc hb hde hwd
     go_wp2
     go_roundw
     case rel=>
      refine⟨pos+1,3,pos+1,by omega,by omega,by omega,by go_num,by go_num,HH.out.2,?_⟩
      rw[HH.out.1];rfl
     case measure=>rw[hmp,hmp];omega
    have hnx:=fun g0 g1 g2 g3 ty=>Hw w s g0 g1 g2 g3 pos hp ty
    have HM:=hide (Kj hc hp (fun _=>hb))
    have hne:(((Utf8.decode s pos).1:Int)==35)=false:=by
     by_cases ha:s[pos].toNat<128
     ·rw[decode_ascii s pos hp ha]
      have:s[pos].toNat≠35:=fun e=>hb (UInt8.toNat_inj.1 e)
      simp;omega
     have:=(decode_high s pos hp (by omega)).1
     simp;omega
    have hle:(Utf8.decode s pos).1≤2147483647:=decode_le s pos
    simp only[gs]
    generalize (Utf8.decode s pos).1=r at *
    generalize (Utf8.decode s pos).2=v at *
    clear hc hb
    go_wp2
    go_roundw
    case rel=>exact⟨pos+v,2,n,by omega,by omega,by omega,by go_num,rfl,HM.out,rfl⟩
    case measure=>rw[hmp,hmp];omega
   have hnx:=fun g0 g1 g2 g3 ty=>Hw w s g0 g1 g2 g3 pos hp ty
   have HM:=hide (Kj hc hp (fun h=>by omega))
   simp only[gs]
   generalize (Utf8.decode s pos).1=r at *
   generalize (Utf8.decode s pos).2=v at *
   clear hc
   go_wp2
   go_roundw
   case rel=>exact⟨pos+v,3,n,by omega,by omega,by omega,by go_num,rfl,HM.out,rfl⟩
   case measure=>rw[hmp,hmp];omega
  have HE:=hide (oJ hc hp)
  have hnx:=fun g0 g1 g2 g3 ty=>sO w s g0 g1 g2 g3 pos hp ty
  have hcase:k=0∨k=1∨k=2∨k=3:=by omega
  rcases hcase with rfl|rfl|rfl|rfl
  ·simp only[gs]
   unfold cw World.iter
   unfold cw World.iter at hnx
   clear hc
   go_wp2
   refine bodyPost_ret (v:= .agg #[.string (s.extract n s.size),.string ⟨#[]⟩,.string ⟨#[]⟩,.string ⟨#[]⟩]) (by simp[results,Tryz.results209,go_sem]) rfl ?_
   refine⟨?_,((((Below.refl _ _).alloc (Nat.le_refl _) _).alloc (by simp) _).alloc (by simp;omega) _).alloc (by simp;omega) _⟩
   obtain⟨x0,x1⟩:=HE.out
   rw[x0]
   obtain⟨x2,x3⟩:=x1 (by omega)
   simp only[WK,WM]at x2 x3
   simp only[WK,f0,f1,f2,f3,x2,x3,gT,LJ]
   rfl
  ·simp only[gs]
   unfold cw World.iter
   unfold cw World.iter at hnx
   clear hc
   go_wp2
   refine bodyPost_ret (v:= .agg #[.string (BQ (f0 s.data.toList)),.string (s.extract n s.size),.string ⟨#[]⟩,.string ⟨#[]⟩]) (by simp[results,Tryz.results209,go_sem]) rfl ?_
   refine⟨?_,((((Below.refl _ _).alloc (Nat.le_refl _) _).alloc (by simp) _).alloc (by simp;omega) _).alloc (by simp;omega) _⟩
   obtain⟨x0,x1⟩:=HE.out
   rw[x0]
   obtain⟨x2,x3⟩:=x1 (by omega)
   simp only[WK,WM]at x2 x3
   simp only[WK,f0,f1,f2,f3,x2,x3,gT,LJ]
   rfl
  ·simp only[gs]
   unfold cw World.iter
   unfold cw World.iter at hnx
   clear hc
   go_wp2
   refine bodyPost_ret (v:= .agg #[.string (BQ (f0 s.data.toList)),.string (BQ (f1 s.data.toList)),.string (s.extract n s.size),.string ⟨#[]⟩]) (by simp[results,Tryz.results209,go_sem]) rfl ?_
   refine⟨?_,((((Below.refl _ _).alloc (Nat.le_refl _) _).alloc (by simp) _).alloc (by simp;omega) _).alloc (by simp;omega) _⟩
   obtain⟨x0,x1⟩:=HE.out
   rw[x0]
   obtain⟨x2,x3⟩:=x1 (by omega)
   simp only[WK,WM]at x2 x3
   simp only[WK,f0,f1,f2,f3,x2,x3]
   rfl
  simp only[gs]
  unfold cw World.iter
  unfold cw World.iter at hnx
  clear hc
  go_wp2
  refine bodyPost_ret (v:= .agg #[.string (BQ (f0 s.data.toList)),.string (BQ (f1 s.data.toList)),.string (BQ (f2 s.data.toList)),.string (s.extract n s.size)]) (by simp[results,Tryz.results209,go_sem]) rfl ?_
  refine⟨?_,((((Below.refl _ _).alloc (Nat.le_refl _) _).alloc (by simp) _).alloc (by simp;omega) _).alloc (by simp;omega) _⟩
  obtain⟨x0,x1⟩:=HE.out
  rw[x0]
  clear x1
  rfl
end
end Go.Proofs.YtkmnfeihjjccmaaGreatDoor
namespace Go.Proofs
open Go.Shelf
def Tryz.lays172_ren:Go.Shelf.Ren:=⟨fun|172=>208|244=>215|245=>216|247=>223|279=>224|280=>225|281=>226|282=>227|287=>233|316=>159|171=>188|205=>234|321=>237|322=>238|243=>198|246=>210|283=>217|284=>218|285=>219|286=>220|129=>229|317=>228|318=>230|319=>231|320=>232|337=>235|338=>236|n=>n,fun|9=>9|3=>3|75=>232|76=>233|4=>4|5=>5|167=>258|37=>31|0=>0|85=>259|2=>2|168=>261|53=>250|175=>268|46=>238|210=>271|127=>210|145=>277|143=>275|21=>21|171=>249|173=>253|212=>265|51=>244|20=>20|213=>266|232=>278|233=>279|80=>235|n=>n,fun|15=>3|16=>4|17=>2|18=>5|19=>6|n=>n⟩
theorem Tryz.lays172:Go.Proofs.Lays.n172 Tryz.prog Tryz.lays172_ren:={
 mixed:=by kernel_rfl
 f129:=Tryz.func229.trans (congrArg some (by kernel_rfl))
 f171:=Tryz.func188.trans (congrArg some (by kernel_rfl))
 f172:=Tryz.func208.trans (congrArg some (by kernel_rfl))
 f205:=Tryz.func234.trans (congrArg some (by kernel_rfl))
 f243:=Tryz.func198.trans (congrArg some (by kernel_rfl))
 f244:=Tryz.func215.trans (congrArg some (by kernel_rfl))
 f245:=Tryz.func216.trans (congrArg some (by kernel_rfl))
 f246:=Tryz.func210.trans (congrArg some (by kernel_rfl))
 f247:=Tryz.func223.trans (congrArg some (by kernel_rfl))
 f279:=Tryz.func224.trans (congrArg some (by kernel_rfl))
 f280:=Tryz.func225.trans (congrArg some (by kernel_rfl))
 f281:=Tryz.func226.trans (congrArg some (by kernel_rfl))
 f282:=Tryz.func227.trans (congrArg some (by kernel_rfl))
 f283:=Tryz.func217.trans (congrArg some (by kernel_rfl))
 f284:=Tryz.func218.trans (congrArg some (by kernel_rfl))
 f285:=Tryz.func219.trans (congrArg some (by kernel_rfl))
 f286:=Tryz.func220.trans (congrArg some (by kernel_rfl))
 f287:=Tryz.func233.trans (congrArg some (by kernel_rfl))
 f316:=Tryz.func159.trans (congrArg some (by kernel_rfl))
 f317:=Tryz.func228.trans (congrArg some (by kernel_rfl))
 f318:=Tryz.func230.trans (congrArg some (by kernel_rfl))
 f319:=Tryz.func231.trans (congrArg some (by kernel_rfl))
 f320:=Tryz.func232.trans (congrArg some (by kernel_rfl))
 f321:=Tryz.func237.trans (congrArg some (by kernel_rfl))
 f322:=Tryz.func238.trans (congrArg some (by kernel_rfl))
 f337:=Tryz.func235.trans (congrArg some (by kernel_rfl))
 f338:=Tryz.func236.trans (congrArg some (by kernel_rfl))
 t0:=Tryz.underlying0
 a0:=Tryz.isAgg0
 z0:=Tryz.sizeOf0
 v0:=Tryz.zeroValue0
 t2:=Tryz.underlying2
 a2:=Tryz.isAgg2
 z2:=Tryz.sizeOf2
 v2:=Tryz.zeroValue2
 t3:=Tryz.underlying3
 a3:=Tryz.isAgg3
 z3:=Tryz.sizeOf3
 v3:=Tryz.zeroValue3
 t4:=Tryz.underlying4
 a4:=Tryz.isAgg4
 z4:=Tryz.sizeOf4
 v4:=Tryz.zeroValue4
 t5:=Tryz.underlying5
 a5:=Tryz.isAgg5
 z5:=Tryz.sizeOf5
 v5:=Tryz.zeroValue5
 t9:=Tryz.underlying9
 a9:=Tryz.isAgg9
 z9:=Tryz.sizeOf9
 v9:=Tryz.zeroValue9
 t20:=Tryz.underlying20
 a20:=Tryz.isAgg20
 z20:=Tryz.sizeOf20
 v20:=Tryz.zeroValue20
 t21:=Tryz.underlying21
 a21:=Tryz.isAgg21
 z21:=Tryz.sizeOf21
 v21:=Tryz.zeroValue21
 t37:=Tryz.underlying31
 a37:=Tryz.isAgg31
 z37:=Tryz.sizeOf31
 v37:=Tryz.zeroValue31
 t46:=Tryz.underlying238
 a46:=Tryz.isAgg238
 z46:=Tryz.sizeOf238
 v46:=Tryz.zeroValue238
 t51:=Tryz.underlying244
 a51:=Tryz.isAgg244
 z51:=Tryz.sizeOf244
 v51:=Tryz.zeroValue244
 t53:=Tryz.underlying250
 a53:=Tryz.isAgg250
 z53:=Tryz.sizeOf250
 v53:=Tryz.zeroValue250
 t75:=Tryz.underlying232
 a75:=Tryz.isAgg232
 z75:=Tryz.sizeOf232
 v75:=Tryz.zeroValue232
 t76:=Tryz.underlying233
 a76:=Tryz.isAgg233
 z76:=Tryz.sizeOf233
 v76:=Tryz.zeroValue233
 t85:=Tryz.underlying259
 a85:=Tryz.isAgg259
 z85:=Tryz.sizeOf259
 v85:=Tryz.zeroValue259
 t127:=Tryz.underlying210
 a127:=Tryz.isAgg210
 z127:=Tryz.sizeOf210
 v127:=Tryz.zeroValue210
 t143:=Tryz.underlying275
 a143:=Tryz.isAgg275
 z143:=Tryz.sizeOf275
 v143:=Tryz.zeroValue275
 t145:=Tryz.underlying277
 a145:=Tryz.isAgg277
 z145:=Tryz.sizeOf277
 v145:=Tryz.zeroValue277
 t167:=Tryz.underlying258
 a167:=Tryz.isAgg258
 z167:=Tryz.sizeOf258
 v167:=Tryz.zeroValue258
 t168:=Tryz.underlying261
 a168:=Tryz.isAgg261
 z168:=Tryz.sizeOf261
 v168:=Tryz.zeroValue261
 t171:=Tryz.underlying249
 a171:=Tryz.isAgg249
 z171:=Tryz.sizeOf249
 v171:=Tryz.zeroValue249
 t173:=Tryz.underlying253
 a173:=Tryz.isAgg253
 z173:=Tryz.sizeOf253
 v173:=Tryz.zeroValue253
 t175:=Tryz.underlying268
 a175:=Tryz.isAgg268
 z175:=Tryz.sizeOf268
 v175:=Tryz.zeroValue268
 t210:=Tryz.underlying271
 a210:=Tryz.isAgg271
 z210:=Tryz.sizeOf271
 v210:=Tryz.zeroValue271
 t212:=Tryz.underlying265
 a212:=Tryz.isAgg265
 z212:=Tryz.sizeOf265
 v212:=Tryz.zeroValue265
 t213:=Tryz.underlying266
 a213:=Tryz.isAgg266
 z213:=Tryz.sizeOf266
 t232:=Tryz.underlying278
 a232:=Tryz.isAgg278
 z232:=Tryz.sizeOf278
 v232:=Tryz.zeroValue278
 t233:=Tryz.underlying279
 a233:=Tryz.isAgg279
 z233:=Tryz.sizeOf279
 v233:=Tryz.zeroValue279
 g15:=by kernel_rfl
 g16:=by kernel_rfl
 g17:=by kernel_rfl
 g18:=by kernel_rfl
 g19:=by kernel_rfl }
open Go.RowKit in
theorem Tryz.strconv_Atoi(s:ByteArray)(n:Int)(hl:s.size≤18)(h:Lib.atoi s.data.toList=some n)(w:World):
 Calls Tryz.prog 208 #[.string s] w fun e w'=>e= .returned (.tuple #[.int .i64 n,.nilIface])∧∃t,w'=Lib.bytesWorld w 5 t:=Any.strconv_Atoi Tryz.lays172 s n hl h w
def Tryz.laysC172_ren:Go.Shelf.Ren:=⟨fun|172=>208|244=>215|245=>216|247=>223|279=>224|280=>225|281=>226|282=>227|287=>233|316=>159|171=>188|205=>234|321=>237|322=>238|243=>198|246=>210|283=>217|284=>218|285=>219|286=>220|129=>229|317=>228|318=>230|319=>231|320=>232|337=>235|338=>236|n=>n,fun|9=>9|3=>3|75=>232|76=>233|4=>4|5=>5|167=>258|37=>31|0=>0|85=>259|2=>2|168=>261|53=>250|175=>268|46=>238|210=>271|127=>210|145=>277|143=>275|21=>21|171=>249|173=>253|212=>265|51=>244|20=>20|213=>266|232=>278|233=>279|80=>235|n=>n,fun|15=>3|16=>4|17=>2|18=>5|19=>6|n=>n⟩
theorem Tryz.laysC172:Go.Proofs.LaysC.n172 Tryz.prog Tryz.laysC172_ren:={
 mixed:=by kernel_rfl
 f129:=Tryz.func229.trans (congrArg some (by kernel_rfl))
 f171:=Tryz.func188.trans (congrArg some (by kernel_rfl))
 f172:=Tryz.func208.trans (congrArg some (by kernel_rfl))
 f205:=Tryz.func234.trans (congrArg some (by kernel_rfl))
 f243:=Tryz.func198.trans (congrArg some (by kernel_rfl))
 f244:=Tryz.func215.trans (congrArg some (by kernel_rfl))
 f245:=Tryz.func216.trans (congrArg some (by kernel_rfl))
 f246:=Tryz.func210.trans (congrArg some (by kernel_rfl))
 f247:=Tryz.func223.trans (congrArg some (by kernel_rfl))
 f279:=Tryz.func224.trans (congrArg some (by kernel_rfl))
 f280:=Tryz.func225.trans (congrArg some (by kernel_rfl))
 f281:=Tryz.func226.trans (congrArg some (by kernel_rfl))
 f282:=Tryz.func227.trans (congrArg some (by kernel_rfl))
 f283:=Tryz.func217.trans (congrArg some (by kernel_rfl))
 f284:=Tryz.func218.trans (congrArg some (by kernel_rfl))
 f285:=Tryz.func219.trans (congrArg some (by kernel_rfl))
 f286:=Tryz.func220.trans (congrArg some (by kernel_rfl))
 f287:=Tryz.func233.trans (congrArg some (by kernel_rfl))
 f316:=Tryz.func159.trans (congrArg some (by kernel_rfl))
 f317:=Tryz.func228.trans (congrArg some (by kernel_rfl))
 f318:=Tryz.func230.trans (congrArg some (by kernel_rfl))
 f319:=Tryz.func231.trans (congrArg some (by kernel_rfl))
 f320:=Tryz.func232.trans (congrArg some (by kernel_rfl))
 f321:=Tryz.func237.trans (congrArg some (by kernel_rfl))
 f322:=Tryz.func238.trans (congrArg some (by kernel_rfl))
 f337:=Tryz.func235.trans (congrArg some (by kernel_rfl))
 f338:=Tryz.func236.trans (congrArg some (by kernel_rfl))
 t0:=Tryz.underlying0
 a0:=Tryz.isAgg0
 z0:=Tryz.sizeOf0
 v0:=Tryz.zeroValue0
 t2:=Tryz.underlying2
 a2:=Tryz.isAgg2
 z2:=Tryz.sizeOf2
 v2:=Tryz.zeroValue2
 t3:=Tryz.underlying3
 a3:=Tryz.isAgg3
 z3:=Tryz.sizeOf3
 v3:=Tryz.zeroValue3
 t4:=Tryz.underlying4
 a4:=Tryz.isAgg4
 z4:=Tryz.sizeOf4
 v4:=Tryz.zeroValue4
 t5:=Tryz.underlying5
 a5:=Tryz.isAgg5
 z5:=Tryz.sizeOf5
 v5:=Tryz.zeroValue5
 t9:=Tryz.underlying9
 a9:=Tryz.isAgg9
 z9:=Tryz.sizeOf9
 v9:=Tryz.zeroValue9
 t20:=Tryz.underlying20
 a20:=Tryz.isAgg20
 z20:=Tryz.sizeOf20
 v20:=Tryz.zeroValue20
 t21:=Tryz.underlying21
 a21:=Tryz.isAgg21
 z21:=Tryz.sizeOf21
 v21:=Tryz.zeroValue21
 t37:=Tryz.underlying31
 a37:=Tryz.isAgg31
 z37:=Tryz.sizeOf31
 v37:=Tryz.zeroValue31
 t46:=Tryz.underlying238
 a46:=Tryz.isAgg238
 z46:=Tryz.sizeOf238
 v46:=Tryz.zeroValue238
 t51:=Tryz.underlying244
 a51:=Tryz.isAgg244
 z51:=Tryz.sizeOf244
 v51:=Tryz.zeroValue244
 t53:=Tryz.underlying250
 a53:=Tryz.isAgg250
 z53:=Tryz.sizeOf250
 v53:=Tryz.zeroValue250
 t75:=Tryz.underlying232
 a75:=Tryz.isAgg232
 z75:=Tryz.sizeOf232
 v75:=Tryz.zeroValue232
 t76:=Tryz.underlying233
 a76:=Tryz.isAgg233
 z76:=Tryz.sizeOf233
 v76:=Tryz.zeroValue233
 t85:=Tryz.underlying259
 a85:=Tryz.isAgg259
 z85:=Tryz.sizeOf259
 v85:=Tryz.zeroValue259
 t127:=Tryz.underlying210
 a127:=Tryz.isAgg210
 z127:=Tryz.sizeOf210
 v127:=Tryz.zeroValue210
 t143:=Tryz.underlying275
 a143:=Tryz.isAgg275
 z143:=Tryz.sizeOf275
 v143:=Tryz.zeroValue275
 t145:=Tryz.underlying277
 a145:=Tryz.isAgg277
 z145:=Tryz.sizeOf277
 v145:=Tryz.zeroValue277
 t167:=Tryz.underlying258
 a167:=Tryz.isAgg258
 z167:=Tryz.sizeOf258
 v167:=Tryz.zeroValue258
 t168:=Tryz.underlying261
 a168:=Tryz.isAgg261
 z168:=Tryz.sizeOf261
 v168:=Tryz.zeroValue261
 t171:=Tryz.underlying249
 a171:=Tryz.isAgg249
 z171:=Tryz.sizeOf249
 v171:=Tryz.zeroValue249
 t173:=Tryz.underlying253
 a173:=Tryz.isAgg253
 z173:=Tryz.sizeOf253
 v173:=Tryz.zeroValue253
 t175:=Tryz.underlying268
 a175:=Tryz.isAgg268
 z175:=Tryz.sizeOf268
 v175:=Tryz.zeroValue268
 t210:=Tryz.underlying271
 a210:=Tryz.isAgg271
 z210:=Tryz.sizeOf271
 v210:=Tryz.zeroValue271
 t212:=Tryz.underlying265
 a212:=Tryz.isAgg265
 z212:=Tryz.sizeOf265
 v212:=Tryz.zeroValue265
 t213:=Tryz.underlying266
 a213:=Tryz.isAgg266
 z213:=Tryz.sizeOf266
 t232:=Tryz.underlying278
 a232:=Tryz.isAgg278
 z232:=Tryz.sizeOf278
 v232:=Tryz.zeroValue278
 t233:=Tryz.underlying279
 a233:=Tryz.isAgg279
 z233:=Tryz.sizeOf279
 v233:=Tryz.zeroValue279
 g15:=by kernel_rfl
 g16:=by kernel_rfl
 g17:=by kernel_rfl
 g18:=by kernel_rfl
 g19:=by kernel_rfl
 t80:=Tryz.underlying235
 a80:=Tryz.isAgg235
 z80:=Tryz.sizeOf235
 v80:=Tryz.zeroValue235
 i0:=by kernel_rfl
 i2:=by kernel_rfl
 i3:=by kernel_rfl
 i4:=by kernel_rfl
 i5:=by kernel_rfl
 i9:=by kernel_rfl
 i20:=by kernel_rfl
 i21:=by kernel_rfl
 i37:=by kernel_rfl
 i46:=by kernel_rfl
 i51:=by kernel_rfl
 i53:=by kernel_rfl
 i75:=by kernel_rfl
 i76:=by kernel_rfl
 i80:=by kernel_rfl
 i85:=by kernel_rfl
 i127:=by kernel_rfl
 i143:=by kernel_rfl
 i145:=by kernel_rfl
 i167:=by kernel_rfl
 i168:=by kernel_rfl
 i171:=by kernel_rfl
 i173:=by kernel_rfl
 i175:=by kernel_rfl
 i210:=by kernel_rfl
 i212:=by kernel_rfl
 i232:=by kernel_rfl
 i233:=by kernel_rfl
 m15:=by kernel_rfl
 m16:=by kernel_rfl
 m17:=by kernel_rfl
 m18:=by kernel_rfl
 m19:=by kernel_rfl
 c0:=by kernel_rfl
 c2:=by kernel_rfl
 c3:=by kernel_rfl
 c4:=by kernel_rfl
 c5:=by kernel_rfl
 c9:=by kernel_rfl
 c20:=by kernel_rfl
 c21:=by kernel_rfl
 c37:=by kernel_rfl
 c46:=by kernel_rfl
 c51:=by kernel_rfl
 c53:=by kernel_rfl
 c75:=by kernel_rfl
 c76:=by kernel_rfl
 c80:=by kernel_rfl
 c85:=by kernel_rfl
 c127:=by kernel_rfl
 c143:=by kernel_rfl
 c145:=by kernel_rfl
 c167:=by kernel_rfl
 c168:=by kernel_rfl
 c171:=by kernel_rfl
 c173:=by kernel_rfl
 c175:=by kernel_rfl
 c210:=by kernel_rfl
 c212:=by kernel_rfl
 c213:=by kernel_rfl
 c232:=by kernel_rfl
 c233:=by kernel_rfl }
open Go.RowKit in
theorem Tryz.strconv_Atoi_ok(s:ByteArray)(hmax:s.size≤9223372036854775806)(v:Int)(h:Lib.atoiAll s.data.toList= .ok v)(w:World):
 Calls Tryz.prog 208 #[.string s] w fun e w'=>e= .returned (.tuple #[.int .i64 v,.nilIface])∧(w'=w∨∃t,w'=Lib.bytesWorld w 5 t):=Any.strconv_Atoi_ok Tryz.laysC172 s hmax v h w
end Go.Proofs
namespace Go.Proofs.YtkmnfeihjjccmaaGreatDoor
section
open Go.RowKit
theorem L_(w:World)(e:TypeId)(t:ByteArray):Below w.heap.size w (Lib.bytesWorld w e t):=Lib.bytesWorld_below w e t

theorem jv(s:ByteArray)(n:Nat)(w:World)(h:Hid (numOf s.data.toList=some n)):
 Calls Tryz.prog 208 #[.string s] w fun e w'=>e= .returned (.tuple #[.int .i64 n,.nilIface])∧Below w.heap.size w w':=by
 obtain⟨h1,h2⟩:=Cw h.out
 have hl:=Qk h.out
 have hs:s.size≤18:=by simp at hl;omega
 refine(Tryz.strconv_Atoi s (n:Int) hs (by rw[←h2];exact V_ n) w).mono ?_
 rintro e w' ⟨rfl,t,rfl⟩
 exact⟨rfl,L_ _ _ _⟩

def ow(e:Ending):Prop:=(∃v:Int,e= .returned (.tuple #[.int .i64 v,.nilIface]))∨∃(v:Int)(t:TypeId)(x:Value),e= .returned (.tuple #[.int .i64 v,.iface t x])
theorem jw(s:ByteArray)(hs:s.size≤33554432)(w:World)(u1 u2:TypeId)(p1 p2:Value)(hy:w.cell? ⟨3,0,none⟩=some (.iface u1 p1))(hr:w.cell? ⟨4,0,none⟩=some (.iface u2 p2)):
 Calls Tryz.prog 208 #[.string s] w fun e w'=>ow e∧Below w.heap.size w w':=by
 cases h:Lib.atoiAll s.data.toList
 ·refine(Tryz.strconv_Atoi_ok s (by omega) _ h w).mono ?_
  rintro e w' ⟨rfl,h1⟩
  refine⟨.inl ⟨_,rfl⟩,?_⟩
  rcases h1 with rfl|⟨t,rfl⟩
  ·exact Below.refl _ _
  exact L_ _ _ _
 ·refine Calls.mono (Any.strconv_Atoi_syntax Tryz.laysC172 s (by omega) h _ w hy (.inr ⟨_,_,rfl⟩)) ?_
  rintro e w' ⟨N,rfl,_,_,hb⟩
  exact⟨.inr ⟨_,_,_,rfl⟩,hb⟩
 refine Calls.mono (Any.strconv_Atoi_range Tryz.laysC172 s (by omega) h _ w hr (.inr ⟨_,_,rfl⟩)) ?_
 rintro e w' ⟨N,rfl,_,_,hb⟩
 exact⟨.inr ⟨_,_,_,rfl⟩,hb⟩
theorem Zr(s:ByteArray)(k:Nat)(h:k<s.size):s.data.toList.take (k+1)=s.data.toList.take k++[s[k]]:=by
 rw[List.take_succ_eq_append_getElem (by simpa using h)];rfl
theorem V6(s:ByteArray)(k:Nat)(h:k<s.size):s.data.toList[k]? =some s[k]:=by
 rw[List.getElem?_eq_getElem (by simpa using h)];rfl
theorem jc(s:ByteArray)(k n:Nat)(h:k<s.size)(hd:Lib.decFrom 0 (s.data.toList.take k)=some n)(h1:48≤s[k].toNat)(h2:s[k].toNat≤57):
 Lib.decFrom 0 (s.data.toList.take (k+1))=some (n*10+(s[k].toNat-48)):=
 Lib.decFrom_take s.data.toList k 0 n s[k] _ hd (V6 s k h) (by rw[Lib.digitVal,if_pos ⟨h1,h2⟩])
theorem Ot(s:ByteArray):s.data.toList.length=s.size:=by simp

theorem OU(s:ByteArray)(w:World)(hm:s.size≤maxLen)(h:s.size<1∨6<s.size):
 Calls Tryz.prog 142 #[.string s] w fun e w'=>e= .returned (.tuple #[.int .i64 0,.bool false])∧w'=w:=by
 unfold maxLen at hm
 by_cases h1:s.size<1
 ·clear h
  go_enter Tryz.func142,Tryz.ntmps142
  go_wp2
  go_ret2
  exact⟨rfl,rfl⟩
 have hd:decide ((s.size:Int)<1)=false:=by simp;omega
 have h2:6<s.size:=by omega
 clear h
 go_enter Tryz.func142,Tryz.ntmps142
 go_wp2
 go_ret2
 exact⟨rfl,rfl⟩

theorem OQ(s:ByteArray)(w:World)(h1:1≤s.size)(h6:s.size≤6):
 Calls Tryz.prog 142 #[.string s] w fun e w'=>e= .returned (.tuple #[.int .i64 (Gb (numOf s.data.toList)),.bool (numOf s.data.toList).isSome])∧Below w.heap.size w w':=by
 have hd:decide ((s.size:Int)<1)=false:=by simp;omega
 go_enter Tryz.func142,Tryz.ntmps142
 go_wp2
 go_loop [4,5] (fun y i=>∃k n:Nat,k≤s.size∧y= .int .i64 n∧i= .int .i64 k∧n<10 ^ k∧Hid (Lib.decFrom 0 (s.data.toList.take k)=some n)) (fun _ i=>s.size-(intOf i).toNat)
 case atStart=>exact⟨0,0,by omega,rfl,rfl,by simp,rfl⟩
 case round=>
  obtain⟨k,n,hk,rfl,rfl,hn,HD⟩:=hrel
  have hn6:n≤999999:=by
   have:10 ^ k≤10 ^ 6:=Nat.pow_le_pow_right (by omega) (by omega)
   omega
  by_cases hlt:k<s.size
  ·by_cases hb:48≤s[k].toNat∧s[k].toNat≤57
   ·have HS:=hide (jc s k n hlt HD.out hb.1 hb.2)
    have hb1:=hb.1
    have hb2:=hb.2
    have AAd:n*10+(s[k].toNat-48)<10 ^ (k+1):=by rw[Nat.pow_succ];omega
    clear hb
    go_wp2
    go_round
    case rel=>exact⟨k+1,n*10+(s[k].toNat-48),by omega,by go_num,by go_num,AAd,HS⟩
    case measure=>simp[intOf];omega
   have HN:=hide (MW (V6 s k hlt) (by omega))
   by_cases hb1:s[k].toNat<48
   ·clear hb
    go_wp2
    go_ret2
    exact⟨by rw[HN.out];rfl,Below.refl _ _⟩
   have hb2:57<s[k].toNat:=by omega
   clear hb
   go_wp2
   go_ret2
   exact⟨by rw[HN.out];rfl,Below.refl _ _⟩
  have hks:k=s.size:=by omega
  have HD':Hid (Lib.decFrom 0 s.data.toList=some n):=by
   have:=HD.out;rw[hks,List.take_of_length_le (by rw[Ot];omega)]at this;exact this
  clear HD
  by_cases he:Lib.decDigits n=s.data.toList
  ·have HY:=hide (bO HD'.out hn6 he)
   have hs:(⟨(Lib.itoa (n:Int)).toArray⟩:ByteArray)=s:=by rw[Gx,he]
   have HC:=hide fun w=>Cn (n:Int) w (by omega) (by omega)
   rw[hs]at HC
   clear hs he
   go_wp2_with fail
   refine(HC.out _).mono ?_
   rintro e w1 ⟨rfl,b1⟩
   go_wp2
   go_ret2
   exact⟨by rw[HY.out];rfl,b1⟩
  have HN:=hide (ib HD'.out he)
  have HC:=hide fun w=>Cn (n:Int) w (by omega) (by omega)
  obtain⟨t,ht⟩:∃t:ByteArray,t=⟨(Lib.itoa (n:Int)).toArray⟩:=⟨_,rfl⟩
  rw[←ht]at HC
  have hne:t≠s:=by intro e;rw[ht,Gx]at e;apply he;rw[←e]
  have hne':=EO hne
  clear ht he
  go_wp2_with fail
  refine(HC.out _).mono ?_
  rintro e w1 ⟨rfl,b1⟩
  go_wp2
  go_ret2
  exact⟨by rw[HN.out];rfl,b1⟩

theorem Ii(s:ByteArray)(w:World)(hm:s.size≤maxLen):
 Calls Tryz.prog 142 #[.string s] w fun e w'=>e= .returned (.tuple #[.int .i64 (Gb (numOf s.data.toList)),.bool (numOf s.data.toList).isSome])∧Below w.heap.size w w':=by
 by_cases h:s.size<1∨6<s.size
 ·refine(OU s w hm h).mono ?_
  rintro e w' ⟨rfl,rfl⟩
  exact⟨by rw[Ol (by rw[Ot];exact h)];rfl,Below.refl _ _⟩
 exact OQ s w (by omega) (by omega)
theorem Mf(p:Addr)(x:Bool)(u:TypeId)(pv:Value)(older:List PanicEntry)(w:World)(hc:w.cell? p=some (.bool x))(hz:w.frozen? p=false):
 CallsD Tryz.prog 207 #[.pointer (some p)] (.panicking ({ v:= .iface u pv,recovered:=false } :: older)) w fun e u' w'=>
  e= .returned (.tuple #[])∧u'= .panicking ({ v:= .iface u pv,recovered:=true } :: older)∧w'=w.setCell p (.bool false):=by
 refine callsD_of_wpS Tryz.func207 rfl fun c₀ cs hu=>?_
 apply wpS_seq
 apply wpS_region
 simp[wpOpsS,go_sem,recoverD,hu,Tryz.ntmps207,Exit.thenS]
 refine wpS_cond (t:=true) (by simp[Act.eval,Array.replicate]) ?_
 simp only[if_true]
 apply wpS_region
 simp[wpOpsS,go_sem,hc,hz,bodyPostS,results,Tryz.results207]

theorem Yd(p:Addr)(w:World):
 CallsD Tryz.prog 207 #[.pointer (some p)] .returning w fun e u' w'=>e= .returned (.tuple #[])∧u'= .returning∧w'=w:=by
 refine callsD_of_wpS Tryz.func207 rfl fun c₀ cs hu=>?_
 apply wpS_seq
 apply wpS_region
 simp[wpOpsS,go_sem,recoverD,hu,Tryz.ntmps207,Exit.thenS]
 refine wpS_cond (t:=false) (by simp[Act.eval,Array.replicate]) ?_
 simp only[Bool.false_eq_true,if_false]
 refine wpS_of_wp (wp_skip ?_)
 cases c₀
 simp_all[bodyPostS,results,Tryz.results207]

theorem Ui(g:FuncId)(cap:Array Value)(w:World)(R:World→Prop)(hcf:∀w,(callFunc g cap).run Tryz.prog w= .ok (.enter g cap) w)
 (h:Calls Tryz.prog g cap (w.alloc (.cells #[.bool false] 4)) fun e w'=>e= .returned (.tuple #[])∧R w'∧w'.cell? ⟨w.heap.size,0,none⟩=some (.bool false)∧w'.frozen? ⟨w.heap.size,0,none⟩=false):
 Calls Tryz.prog 193 #[.func (.func g) #[] cap] w fun e w'=>e= .returned (.bool true)∧∃w1,R w1∧w'=w1.setCell ⟨w.heap.size,0,none⟩ (.bool true):=by
 have zK:∀(fn:Fn)(first cap:Array Value)(w:World),(Instr.makeFunc fn first cap).run Tryz.prog w= .ok (.func fn first cap) w:=fun _ _ _ _=>rfl
 go_enter_defers Tryz.func193,Tryz.ntmps193
 go_wp2_with fail
 refine h.mono ?_
 rintro e w1 ⟨rfl,hR,hc,hz⟩
 go_wp2
 refine leaves_cons (f:=207) (args:= #[.pointer (some ⟨w.heap.size,0,none⟩)]) (by simp) (by simp[go_sem]) ?_
 refine(Yd ⟨w.heap.size,0,none⟩ _).mono ?_
 rintro e u' w'' ⟨rfl,rfl,rfl⟩
 simp[Leaves,settle,results,Tryz.results193,go_sem]
 exact⟨_,by rw[World.cell?_setCell_same _ _ _ hc],rfl,w1,hR,rfl⟩

theorem Uj(g:FuncId)(cap:Array Value)(w:World)(R:World→Prop)(u:TypeId)(pv:Value)(hcf:∀w,(callFunc g cap).run Tryz.prog w= .ok (.enter g cap) w)
 (h:Calls Tryz.prog g cap (w.alloc (.cells #[.bool false] 4)) fun e w'=>e= .panicked [{ v:= .iface u pv,recovered:=false }]∧R w'∧w'.cell? ⟨w.heap.size,0,none⟩=some (.bool false)∧w'.frozen? ⟨w.heap.size,0,none⟩=false):
 Calls Tryz.prog 193 #[.func (.func g) #[] cap] w fun e w'=>e= .returned (.bool false)∧∃w1,R w1∧w'=w1.setCell ⟨w.heap.size,0,none⟩ (.bool false):=by
 have zK:∀(fn:Fn)(first cap:Array Value)(w:World),(Instr.makeFunc fn first cap).run Tryz.prog w= .ok (.func fn first cap) w:=fun _ _ _ _=>rfl
 go_enter_defers Tryz.func193,Tryz.ntmps193
 go_wp2_with fail
 refine h.mono ?_
 rintro e w1 ⟨rfl,hR,hc,hz⟩
 go_wp2
 refine leaves_cons (f:=207) (args:= #[.pointer (some ⟨w.heap.size,0,none⟩)]) (by simp) (by simp[go_sem]) ?_
 refine(Mf ⟨w.heap.size,0,none⟩ false u pv [] _ hc hz).mono ?_
 rintro e u' w'' ⟨rfl,rfl,rfl⟩
 simp[Leaves,settle,results,Tryz.results193,go_sem]
 exact⟨_,by rw[World.cell?_setCell_same _ _ _ hc],rfl,w1,hR,rfl⟩
theorem MN(s:ByteArray)(n:Nat)(w:World)(ht:Pow w)(h:Hid (numOf s.data.toList=some n)):
 Calls Tryz.prog 195 #[.string s] w fun e w'=>e= .returned (.int .i64 n)∧Below w.heap.size w w':=by
 obtain⟨h1,h2⟩:=Cw h.out
 have hs:(⟨(Lib.itoa (n:Int)).toArray⟩:ByteArray)=s:=by rw[Gx,h2]
 have HA:=hide (jv s n w h)
 have HC:=hide fun w ht=>ET (n:Int) w (by omega) (by omega) ht
 rw[hs]at HC
 have HT:=hide ht
 clear hs h2 ht
 go_enter Tryz.func195,Tryz.ntmps195
 go_wp2_with fail
 refine HA.out.mono ?_
 rintro e w1 ⟨rfl,b1⟩
 have s1:=b1.size
 have H1:=hide (HT.out.below b1)
 go_wp2_with fail
 refine(HC.out _ H1.out).mono ?_
 rintro e w2 ⟨rfl,b2⟩
 go_wp2
 go_ret
 exact⟨rfl,b1.trans (b2.mono s1)⟩

structure Env(w:World):Prop where
 pow:Pow w
 no:∃u pv,w.cell? ⟨1,0,none⟩=some (.iface u pv)
 syn:∃u pv,w.cell? ⟨3,0,none⟩=some (.iface u pv)
 ran:∃u pv,w.cell? ⟨4,0,none⟩=some (.iface u pv)
theorem Env.below{w w':World}(h:Env w)(hb:Below w.heap.size w w'):Env w':=by
 refine⟨h.pow.below hb,?_,?_,?_⟩
 ·obtain⟨u,pv,e⟩:=h.no;exact⟨u,pv,(hb.cell (AY e)).trans e⟩
 ·obtain⟨u,pv,e⟩:=h.syn;exact⟨u,pv,(hb.cell (AY e)).trans e⟩
 obtain⟨u,pv,e⟩:=h.ran;exact⟨u,pv,(hb.cell (AY e)).trans e⟩

theorem MP(s:ByteArray)(hs:s.size≤33554432)(u:TypeId)(pv:Value)(w:World)(hE:Env w)(he:w.cell? ⟨1,0,none⟩=some (.iface u pv))(h:Hid (numOf s.data.toList=none)):
 Calls Tryz.prog 195 #[.string s] w fun e w'=>e= .panicked [{ v:= .iface u pv,recovered:=false }]∧Below w.heap.size w w':=by
 obtain⟨u1,p1,hy⟩:=hE.syn
 obtain⟨u2,p2,hr⟩:=hE.ran
 have HA:=hide (jw s hs w u1 u2 p1 p2 hy hr)
 have hlt:1<w.heap.size:=AY he
 have HE:=hide hE
 clear hE hy hr
 go_enter Tryz.func195,Tryz.ntmps195
 go_wp2_with fail
 refine HA.out.mono ?_
 rintro e w1 ⟨h1,b1⟩
 have s1:=b1.size
 have e1:=(b1.cell hlt).trans he
 rcases h1 with⟨v,rfl⟩|⟨v,t,x,rfl⟩
 ·by_cases h0:v<0
  ·go_wp2
   exact⟨rfl,rfl,b1⟩
  have hd0:decide (v<0)=false:=by simpa using h0
  by_cases h9:999999<v
  ·go_wp2
   exact⟨rfl,rfl,b1⟩
  have hd9:decide (999999<v)=false:=by simpa using h9
  have H1:=hide (HE.out.below b1).pow
  obtain⟨n,rfl⟩:=Int.eq_ofNat_of_zero_le (Int.not_lt.1 h0)
  obtain⟨r,hr⟩:∃r:ByteArray,r=⟨(Lib.itoa (n:Int)).toArray⟩:=⟨_,rfl⟩
  have hne:r≠s:=by
   intro e
   rw[hr,Gx]at e
   have:=h.out
   rw[←e]at this
   rw[Gw (by omega)]at this
   cases this
  have hne':=EO hne
  have HC:=hide fun w ht=>ET (n:Int) w (by omega) (by omega) ht
  rw[←hr]at HC
  clear hr hne
  go_wp2_with fail
  refine(HC.out _ H1.out).mono ?_
  rintro e w2 ⟨rfl,b2⟩
  have e2:=(b2.cell (Nat.lt_of_lt_of_le hlt s1)).trans e1
  go_wp2
  exact⟨rfl,rfl,b1.trans (b2.mono s1)⟩
 go_wp2
 exact⟨rfl,rfl,b1⟩
theorem Vt(B:Nat)(s:ByteArray)(n:Nat)(x:Value)(w:World)(hE:Env w)(hr:Hid (numOf s.data.toList=some n))(h0:w.cell? ⟨B,0,none⟩=some (.string s))(h1:w.cell? ⟨B+1,0,none⟩=some x)(f1:w.frozen? ⟨B+1,0,none⟩=false):
 Calls Tryz.prog 194 #[.pointer (some ⟨B,0,none⟩),.pointer (some ⟨B+1,0,none⟩)] w fun e w'=>e= .returned (.tuple #[])∧∃w2,Below w.heap.size w w2∧w'=w2.setCell ⟨B+1,0,none⟩ (.int .i64 n):=by
 have HA:=hide (MN s n w hE.pow hr)
 have hlt:B+1<w.heap.size:=AY h1
 clear hE
 go_enter Tryz.func194,Tryz.ntmps194
 go_wp2_with fail
 refine HA.out.mono ?_
 rintro e w1 ⟨rfl,b1⟩
 have c1:w1.cell? ⟨B+1,0,none⟩=some x:=(b1.cell hlt).trans h1
 have g1:w1.frozen? ⟨B+1,0,none⟩=false:=(b1.frozen (p:=⟨B+1,0,none⟩) hlt).trans f1
 go_wp2
 go_end0
 exact⟨rfl,_,b1,rfl⟩

theorem Vu(B:Nat)(s:ByteArray)(hs:s.size≤33554432)(u:TypeId)(pv:Value)(w:World)(hE:Env w)(he:w.cell? ⟨1,0,none⟩=some (.iface u pv))(hr:Hid (numOf s.data.toList=none))(h0:w.cell? ⟨B,0,none⟩=some (.string s)):
 Calls Tryz.prog 194 #[.pointer (some ⟨B,0,none⟩),.pointer (some ⟨B+1,0,none⟩)] w fun e w'=>e= .panicked [{ v:= .iface u pv,recovered:=false }]∧Below w.heap.size w w':=by
 have HA:=hide (MP s hs u pv w hE he hr)
 clear hE he
 go_enter Tryz.func194,Tryz.ntmps194
 go_wp2_with fail
 refine HA.out.mono ?_
 rintro e w1 ⟨rfl,b1⟩
 go_wp2
 exact⟨rfl,rfl,b1⟩

theorem VA(w:World)(x:Value)(t:TypeId):(w.alloc (.cells #[x] t)).cell? ⟨w.heap.size,0,none⟩=some x:=by simp
theorem U_(w:World)(x:Value)(t:TypeId):(w.alloc (.cells #[x] t)).frozen? ⟨w.heap.size,0,none⟩=false:=by simp[go_sem]
abbrev CQ(w:World)(s:ByteArray):World:=(w.alloc (.cells #[.string s] 9)).alloc (.cells #[.int .i64 0] 3)
theorem KX(w:World)(s:ByteArray):Below w.heap.size w (CQ w s):=((Below.refl _ _).alloc (Nat.le_refl _) _).alloc (by simp) _
theorem GD(w:World)(s:ByteArray):(CQ w s).heap.size=w.heap.size+2:=by simp
theorem Ql(w:World)(s:ByteArray)(o:Obj):
 ((CQ w s).alloc o).cell? ⟨w.heap.size,0,none⟩=some (.string s)∧((CQ w s).alloc o).cell? ⟨w.heap.size+1,0,none⟩=some (.int .i64 0)∧((CQ w s).alloc o).frozen? ⟨w.heap.size+1,0,none⟩=false:=by
 simp[CQ,go_sem]

theorem Xb(s:ByteArray)(n:Nat)(w:World)(hE:Env w)(hr:Hid (numOf s.data.toList=some n)):
 Calls Tryz.prog 193 #[.func (.func 194) #[] #[.pointer (some ⟨w.heap.size,0,none⟩),.pointer (some ⟨w.heap.size+1,0,none⟩)]] (CQ w s) fun e w'=>
  e= .returned (.bool true)∧w'.cell? ⟨w.heap.size+1,0,none⟩=some (.int .i64 n)∧Below w.heap.size w w':=by
 obtain⟨c0,c1,f1⟩:=Ql w s (.cells #[.bool false] 4)
 have hbl:Below w.heap.size w ((CQ w s).alloc (.cells #[.bool false] 4)):=(KX w s).alloc (by rw[GD];omega) _
 have hbs:=GD w s
 have hsz:((CQ w s).alloc (.cells #[.bool false] 4)).heap.size=w.heap.size+3:=by simp
 refine(Ui 194 _ (CQ w s) (fun w1=>∃w2,Below ((CQ w s).alloc (.cells #[.bool false] 4)).heap.size ((CQ w s).alloc (.cells #[.bool false] 4)) w2∧w1=w2.setCell ⟨w.heap.size+1,0,none⟩ (.int .i64 n)) (fun _=>by simp[go_sem]) ?_).mono ?_
 ·refine(Vt w.heap.size s n _ _ (hE.below hbl) hr c0 c1 f1).mono ?_
  rintro e w' ⟨rfl,w2,b2,rfl⟩
  have hok:(⟨(CQ w s).heap.size,0,none⟩:Addr).block<((CQ w s).alloc (.cells #[.bool false] 4)).heap.size:=by rw[hsz];show(CQ w s).heap.size<_;rw[hbs];omega
  refine⟨rfl,⟨w2,b2,rfl⟩,?_,?_⟩
  ·rw[World.cell?_setCell_other _ _ _ _ (by simp)]
   exact(b2.cell hok).trans (VA _ _ _)
  rw[World.frozen?_setCell]
  exact(b2.frozen hok).trans (U_ _ _ _)
 rintro e w' ⟨rfl,w1,⟨w2,b2,rfl⟩,rfl⟩
 refine⟨rfl,?_,?_⟩
 ·rw[World.cell?_setCell_other _ _ _ _ (by simp)]
  exact World.cell?_setCell_same _ _ _ ((b2.cell (by rw[hsz];show w.heap.size+1<_;omega)).trans c1)
 exact((hbl.trans (b2.mono (by rw[hsz];omega))).setCell (by simp) _).setCell (by rw[hbs];simp) _

theorem Xc(s:ByteArray)(hs:s.size≤33554432)(w:World)(hE:Env w)(hr:Hid (numOf s.data.toList=none)):
 Calls Tryz.prog 193 #[.func (.func 194) #[] #[.pointer (some ⟨w.heap.size,0,none⟩),.pointer (some ⟨w.heap.size+1,0,none⟩)]] (CQ w s) fun e w'=>
  e= .returned (.bool false)∧w'.cell? ⟨w.heap.size+1,0,none⟩=some (.int .i64 0)∧Below w.heap.size w w':=by
 obtain⟨c0,c1,f1⟩:=Ql w s (.cells #[.bool false] 4)
 have hbl:Below w.heap.size w ((CQ w s).alloc (.cells #[.bool false] 4)):=(KX w s).alloc (by rw[GD];omega) _
 have hbs:=GD w s
 have hsz:((CQ w s).alloc (.cells #[.bool false] 4)).heap.size=w.heap.size+3:=by simp
 obtain⟨u,pv,he⟩:=hE.no
 refine(Uj 194 _ (CQ w s) (fun w1=>Below ((CQ w s).alloc (.cells #[.bool false] 4)).heap.size ((CQ w s).alloc (.cells #[.bool false] 4)) w1) u pv (fun _=>by simp[go_sem]) ?_).mono ?_
 ·refine(Vu w.heap.size s hs u pv _ (hE.below hbl) ((hbl.cell (AY he)).trans he) hr c0).mono ?_
  rintro e w' ⟨rfl,b2⟩
  have hok:(⟨(CQ w s).heap.size,0,none⟩:Addr).block<((CQ w s).alloc (.cells #[.bool false] 4)).heap.size:=by rw[hsz];show(CQ w s).heap.size<_;rw[hbs];omega
  exact⟨rfl,b2,(b2.cell hok).trans (VA _ _ _),(b2.frozen hok).trans (U_ _ _ _)⟩
 rintro e w' ⟨rfl,w1,b2,rfl⟩
 refine⟨rfl,?_,?_⟩
 ·rw[World.cell?_setCell_other _ _ _ _ (by simp)]
  exact(b2.cell (by rw[hsz];show w.heap.size+1<_;omega)).trans c1
 exact(hbl.trans (b2.mono (by rw[hsz];omega))).setCell (by rw[hbs];simp) _

theorem U6(s:ByteArray)(n:Nat)(w:World)(hE:Env w)(hr:Hid (numOf s.data.toList=some n)):
 Calls Tryz.prog 186 #[.string s] w fun e w'=>e= .returned (.tuple #[.int .i64 n,.bool true])∧Below w.heap.size w w':=by
 have zK:∀(fn:Fn)(first cap:Array Value)(w:World),(Instr.makeFunc fn first cap).run Tryz.prog w= .ok (.func fn first cap) w:=fun _ _ _ _=>rfl
 have HR:=hide (Xb s n w hE hr)
 clear hE
 go_enter Tryz.func186,Tryz.ntmps186
 go_wp2_with fail
 refine HR.out.mono ?_
 rintro e w' ⟨rfl,c1,fF⟩
 go_wp2
 go_ret2
 exact⟨rfl,fF⟩

theorem U7(s:ByteArray)(hs:s.size≤33554432)(w:World)(hE:Env w)(hr:Hid (numOf s.data.toList=none)):
 Calls Tryz.prog 186 #[.string s] w fun e w'=>e= .returned (.tuple #[.int .i64 0,.bool false])∧Below w.heap.size w w':=by
 have zK:∀(fn:Fn)(first cap:Array Value)(w:World),(Instr.makeFunc fn first cap).run Tryz.prog w= .ok (.func fn first cap) w:=fun _ _ _ _=>rfl
 have HR:=hide (Xc s hs w hE hr)
 clear hE
 go_enter Tryz.func186,Tryz.ntmps186
 go_wp2_with fail
 refine HR.out.mono ?_
 rintro e w' ⟨rfl,c1,fF⟩
 go_wp2
 go_ret2
 exact⟨rfl,fF⟩

theorem Oj(s:ByteArray)(hs:s.size≤33554432)(w:World)(hE:Env w):
 Calls Tryz.prog 186 #[.string s] w fun e w'=>e= .returned (.tuple #[.int .i64 (Gb (numOf s.data.toList)),.bool (numOf s.data.toList).isSome])∧Below w.heap.size w w':=by
 cases hr:numOf s.data.toList with
 |none=>exact U7 s hs w hE hr
 |some n=>exact U6 s n w hE hr
end
end Go.Proofs.YtkmnfeihjjccmaaGreatDoor
