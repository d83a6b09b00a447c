/- Lemmas, as stated. -/
import Derived.Test.YtcjmcgolgbkknaaGreatDoorTAAK
import Derived.Test.YtcjmcgolgbkknaaGreatDoorTAAG
set_option maxRecDepth 100000
set_option maxHeartbeats 4000000
namespace Go.Proofs.YtcjmcgolgbkknaaGreatDoor
section
open Go.RowKit
theorem nO(s:ByteArray)(w:World)(hs:s.size≤33554432):
 Calls Tryz.prog 294 #[.string s] w fun e w'=>e= .returned (.agg #[.string (BU (f0 s.data.toList)),.string (BU (f1 s.data.toList)),.string (BU (f2 s.data.toList)),.string (BU (f3 s.data.toList))])∧Below w.heap.size w w':=by
 go_enter Tryz.func294,Tryz.ntmps294
 go_wp2
 go_loopw [5,6] (fun a f wr=>ABh s w a f wr) (fun _ _ wr=>s.size-wr.iterPos (w.heap.size+1+1+1))
 case atStart=>exact⟨0,0,0,by omega,by omega,by omega,rfl,rfl,fF s,rfl⟩
 case round=>
  obtain⟨pos,k,n,hk,hnp,hns,rfl,rfl,hc,rfl⟩:=hrel;by_cases hp:pos<s.size
  ·have hps:pos≤s.size:=by omega
   have hwd:1≤(Utf8.decode s pos).2:=by
    by_cases ha:s[pos].toNat<128
    ·rw[decode_ascii s pos hp ha];exact Nat.le_refl _
    exact(decode_high s pos hp (by omega)).2
   have hm0:=fun g0 g1 g2 g3 p=>(PX w s g0 g1 g2 g3 p).1;have hm1:=fun g0 g1 g2 g3 p=>(PX w s g0 g1 g2 g3 p).2.1;have hm2:=fun g0 g1 g2 g3 p=>(PX w s g0 g1 g2 g3 p).2.2;have hc0:=fun g0 g1 g2 g3 p=>(PZ w s g0 g1 g2 g3 p).1;have hc1:=fun g0 g1 g2 g3 p=>(PZ w s g0 g1 g2 g3 p).2.1;have hc2:=fun g0 g1 g2 g3 p=>(PZ w s g0 g1 g2 g3 p).2.2.1;have hz:=nK w s;have hs0:=nJ w s;have hs1:=nI w s;have hs2:=nE w s;have hmp:=sD w s;have hcase:k=0∨k=1∨k=2∨k=3:=by omega
   rcases hcase with rfl|rfl|rfl|rfl
   ·by_cases hb:s[pos]=WS 0
    ·have hnx:=fun g0 g1 g2 g3 ty=>H_ w s g0 g1 g2 g3 pos hp ty;have hde:Utf8.decode s pos=(62,1):=by rw[decode_ascii s pos hp (by rw[hb];decide),hb];rfl
     rw[hde]at hnx;have HH:=hide (Sv hc hp (by omega) hb);have hint:((62:Nat):Int)=62:=rfl;simp only[hint]at hnx;simp only[gs];clear hc hb hde hwd;go_wp2
     go_roundw
     case rel=>
      refine⟨pos+1,1,pos+1,by omega,by omega,by omega,by go_num,by go_num,HH.out.2,?_⟩;rw[HH.out.1];rfl
     case measure=>rw[hmp,hmp];omega
    have hnx:=fun g0 g1 g2 g3 ty=>H_ w s g0 g1 g2 g3 pos hp ty;have HM:=hide (Kn hc hp (fun _=>hb))
    have hne:(((Utf8.decode s pos).1:Int)==62)=false:=by
     by_cases ha:s[pos].toNat<128
     ·rw[decode_ascii s pos hp ha];have:s[pos].toNat≠62:=fun e=>hb (UInt8.toNat_inj.1 e);simp;omega
     have:=(decode_high s pos hp (by omega)).1;simp;omega
    have hle:(Utf8.decode s pos).1≤2147483647:=decode_le s pos;simp only[gs];generalize (Utf8.decode s pos).1=r at *;generalize (Utf8.decode s pos).2=v at *;clear hc hb;go_wp2
    go_roundw
    case rel=>exact⟨pos+v,0,n,by omega,by omega,by omega,by go_num,rfl,HM.out,rfl⟩
    case measure=>rw[hmp,hmp];omega
   ·by_cases hb:s[pos]=WS 1
    ·have hnx:=fun g0 g1 g2 g3 ty=>H_ w s g0 g1 g2 g3 pos hp ty;have hde:Utf8.decode s pos=(58,1):=by rw[decode_ascii s pos hp (by rw[hb];decide),hb];rfl
     rw[hde]at hnx;have HH:=hide (Sv hc hp (by omega) hb);have hint:((58:Nat):Int)=58:=rfl;simp only[hint]at hnx;simp only[gs];clear hc hb hde hwd;go_wp2
     go_roundw
     case rel=>
      refine⟨pos+1,2,pos+1,by omega,by omega,by omega,by go_num,by go_num,HH.out.2,?_⟩;rw[HH.out.1];rfl
     case measure=>rw[hmp,hmp];omega
    have hnx:=fun g0 g1 g2 g3 ty=>H_ w s g0 g1 g2 g3 pos hp ty;have HM:=hide (Kn hc hp (fun _=>hb))
    have hne:(((Utf8.decode s pos).1:Int)==58)=false:=by
     by_cases ha:s[pos].toNat<128
     ·rw[decode_ascii s pos hp ha];have:s[pos].toNat≠58:=fun e=>hb (UInt8.toNat_inj.1 e);simp;omega
     have:=(decode_high s pos hp (by omega)).1;simp;omega
    have hle:(Utf8.decode s pos).1≤2147483647:=decode_le s pos;simp only[gs];generalize (Utf8.decode s pos).1=r at *;generalize (Utf8.decode s pos).2=v at *;clear hc hb;go_wp2
    go_roundw
    case rel=>exact⟨pos+v,1,n,by omega,by omega,by omega,by go_num,rfl,HM.out,rfl⟩
    case measure=>rw[hmp,hmp];omega
   ·by_cases hb:s[pos]=WS 2
    ·have hnx:=fun g0 g1 g2 g3 ty=>H_ w s g0 g1 g2 g3 pos hp ty;have hde:Utf8.decode s pos=(35,1):=by rw[decode_ascii s pos hp (by rw[hb];decide),hb];rfl
     rw[hde]at hnx;have HH:=hide (Sv hc hp (by omega) hb);have hint:((35:Nat):Int)=35:=rfl;simp only[hint]at hnx;simp only[gs];clear hc hb hde hwd;go_wp2
     go_roundw
     case rel=>
      refine⟨pos+1,3,pos+1,by omega,by omega,by omega,by go_num,by go_num,HH.out.2,?_⟩;rw[HH.out.1];rfl
     case measure=>rw[hmp,hmp];omega
    have hnx:=fun g0 g1 g2 g3 ty=>H_ w s g0 g1 g2 g3 pos hp ty;have HM:=hide (Kn hc hp (fun _=>hb))
    have hne:(((Utf8.decode s pos).1:Int)==35)=false:=by
     by_cases ha:s[pos].toNat<128
     ·rw[decode_ascii s pos hp ha];have:s[pos].toNat≠35:=fun e=>hb (UInt8.toNat_inj.1 e);simp;omega
     have:=(decode_high s pos hp (by omega)).1;simp;omega
    have hle:(Utf8.decode s pos).1≤2147483647:=decode_le s pos;simp only[gs];generalize (Utf8.decode s pos).1=r at *;generalize (Utf8.decode s pos).2=v at *;clear hc hb;go_wp2
    go_roundw
    case rel=>exact⟨pos+v,2,n,by omega,by omega,by omega,by go_num,rfl,HM.out,rfl⟩
    case measure=>rw[hmp,hmp];omega
   have hnx:=fun g0 g1 g2 g3 ty=>H_ w s g0 g1 g2 g3 pos hp ty;have HM:=hide (Kn hc hp (fun h=>by omega));simp only[gs];generalize (Utf8.decode s pos).1=r at *;generalize (Utf8.decode s pos).2=v at *;clear hc;go_wp2
   go_roundw
   case rel=>exact⟨pos+v,3,n,by omega,by omega,by omega,by go_num,rfl,HM.out,rfl⟩
   case measure=>rw[hmp,hmp];omega
  have HE:=hide (nz hc hp);have hnx:=fun g0 g1 g2 g3 ty=>sF w s g0 g1 g2 g3 pos hp ty;have hcase:k=0∨k=1∨k=2∨k=3:=by omega
  rcases hcase with rfl|rfl|rfl|rfl
  ·simp only[gs];unfold cw World.iter;unfold cw World.iter at hnx;clear hc;go_wp2;refine bodyPost_ret (v:= .agg #[.string (s.extract n s.size),.string ⟨#[]⟩,.string ⟨#[]⟩,.string ⟨#[]⟩]) (by simp[results,Tryz.results294,go_sem]) rfl ?_;refine⟨?_,((((Below.refl _ _).alloc Ak _).alloc (by simp) _).alloc (by simp;omega) _).alloc (by simp;omega) _⟩;obtain⟨x0,x1⟩:=HE.out;rw[x0];obtain⟨x2,x3⟩:=x1 (by omega);simp only[WQ,WS]at x2 x3;simp only[WQ,f0,f1,f2,f3,x2,x3,gM,LW];rfl
  ·simp only[gs];unfold cw World.iter;unfold cw World.iter at hnx;clear hc;go_wp2;refine bodyPost_ret (v:= .agg #[.string (BU (f0 s.data.toList)),.string (s.extract n s.size),.string ⟨#[]⟩,.string ⟨#[]⟩]) (by simp[results,Tryz.results294,go_sem]) rfl ?_;refine⟨?_,((((Below.refl _ _).alloc Ak _).alloc (by simp) _).alloc (by simp;omega) _).alloc (by simp;omega) _⟩;obtain⟨x0,x1⟩:=HE.out;rw[x0];obtain⟨x2,x3⟩:=x1 (by omega);simp only[WQ,WS]at x2 x3;simp only[WQ,f0,f1,f2,f3,x2,x3,gM,LW];rfl
  ·simp only[gs];unfold cw World.iter;unfold cw World.iter at hnx;clear hc;go_wp2;refine bodyPost_ret (v:= .agg #[.string (BU (f0 s.data.toList)),.string (BU (f1 s.data.toList)),.string (s.extract n s.size),.string ⟨#[]⟩]) (by simp[results,Tryz.results294,go_sem]) rfl ?_;refine⟨?_,((((Below.refl _ _).alloc Ak _).alloc (by simp) _).alloc (by simp;omega) _).alloc (by simp;omega) _⟩;obtain⟨x0,x1⟩:=HE.out;rw[x0];obtain⟨x2,x3⟩:=x1 (by omega);simp only[WQ,WS]at x2 x3;simp only[WQ,f0,f1,f2,f3,x2,x3];rfl
  simp only[gs];unfold cw World.iter;unfold cw World.iter at hnx;clear hc;go_wp2;refine bodyPost_ret (v:= .agg #[.string (BU (f0 s.data.toList)),.string (BU (f1 s.data.toList)),.string (BU (f2 s.data.toList)),.string (s.extract n s.size)]) (by simp[results,Tryz.results294,go_sem]) rfl ?_;refine⟨?_,((((Below.refl _ _).alloc Ak _).alloc (by simp) _).alloc (by simp;omega) _).alloc (by simp;omega) _⟩;obtain⟨x0,x1⟩:=HE.out;rw[x0];clear x1;rfl
end
end Go.Proofs.YtcjmcgolgbkknaaGreatDoor
namespace Go.Proofs
open Go.Shelf
def Tryz.lays172_ren:Go.Shelf.Ren:=⟨fun|172=>293|244=>301|245=>302|247=>306|279=>307|280=>308|281=>309|282=>310|287=>317|316=>188|171=>279|205=>318|321=>324|322=>325|243=>295|246=>303|283=>311|284=>312|285=>313|286=>314|129=>320|317=>319|318=>321|319=>322|320=>323|337=>326|338=>327|n=>n,fun|9=>9|3=>3|75=>195|76=>343|4=>4|5=>5|167=>357|37=>31|0=>0|85=>358|2=>2|168=>360|53=>364|175=>370|46=>336|210=>373|127=>269|145=>382|143=>380|21=>21|171=>363|173=>367|212=>376|51=>234|20=>20|213=>377|232=>384|233=>385|80=>271|n=>n,fun|15=>3|16=>4|17=>5|18=>6|19=>7|n=>n⟩
theorem Tryz.lays172:Go.Proofs.Lays.n172 Tryz.prog Tryz.lays172_ren:={
 mixed:=by kernel_rfl
 f129:=Tryz.func320.trans (congrArg some (by kernel_rfl))
 f171:=Tryz.func279.trans (congrArg some (by kernel_rfl))
 f172:=Tryz.func293.trans (congrArg some (by kernel_rfl))
 f205:=Tryz.func318.trans (congrArg some (by kernel_rfl))
 f243:=Tryz.func295.trans (congrArg some (by kernel_rfl))
 f244:=Tryz.func301.trans (congrArg some (by kernel_rfl))
 f245:=Tryz.func302.trans (congrArg some (by kernel_rfl))
 f246:=Tryz.func303.trans (congrArg some (by kernel_rfl))
 f247:=Tryz.func306.trans (congrArg some (by kernel_rfl))
 f279:=Tryz.func307.trans (congrArg some (by kernel_rfl))
 f280:=Tryz.func308.trans (congrArg some (by kernel_rfl))
 f281:=Tryz.func309.trans (congrArg some (by kernel_rfl))
 f282:=Tryz.func310.trans (congrArg some (by kernel_rfl))
 f283:=Tryz.func311.trans (congrArg some (by kernel_rfl))
 f284:=Tryz.func312.trans (congrArg some (by kernel_rfl))
 f285:=Tryz.func313.trans (congrArg some (by kernel_rfl))
 f286:=Tryz.func314.trans (congrArg some (by kernel_rfl))
 f287:=Tryz.func317.trans (congrArg some (by kernel_rfl))
 f316:=Tryz.func188.trans (congrArg some (by kernel_rfl))
 f317:=Tryz.func319.trans (congrArg some (by kernel_rfl))
 f318:=Tryz.func321.trans (congrArg some (by kernel_rfl))
 f319:=Tryz.func322.trans (congrArg some (by kernel_rfl))
 f320:=Tryz.func323.trans (congrArg some (by kernel_rfl))
 f321:=Tryz.func324.trans (congrArg some (by kernel_rfl))
 f322:=Tryz.func325.trans (congrArg some (by kernel_rfl))
 f337:=Tryz.func326.trans (congrArg some (by kernel_rfl))
 f338:=Tryz.func327.trans (congrArg some (by kernel_rfl))
 t0:=Tryz.underlying0
 a0:=Tryz.isAgg0
 z0:=Tryz.sizeOf0
 v0:=Tryz.zeroValue0
 t2:=Tryz.underlying2
 a2:=Tryz.isAgg2
 z2:=Tryz.sizeOf2
 v2:=Tryz.zeroValue2
 t3:=Tryz.underlying3
 a3:=Tryz.isAgg3
 z3:=Tryz.sizeOf3
 v3:=Tryz.zeroValue3
 t4:=Tryz.underlying4
 a4:=Tryz.isAgg4
 z4:=Tryz.sizeOf4
 v4:=Tryz.zeroValue4
 t5:=Tryz.underlying5
 a5:=Tryz.isAgg5
 z5:=Tryz.sizeOf5
 v5:=Tryz.zeroValue5
 t9:=Tryz.underlying9
 a9:=Tryz.isAgg9
 z9:=Tryz.sizeOf9
 v9:=Tryz.zeroValue9
 t20:=Tryz.underlying20
 a20:=Tryz.isAgg20
 z20:=Tryz.sizeOf20
 v20:=Tryz.zeroValue20
 t21:=Tryz.underlying21
 a21:=Tryz.isAgg21
 z21:=Tryz.sizeOf21
 v21:=Tryz.zeroValue21
 t37:=Tryz.underlying31
 a37:=Tryz.isAgg31
 z37:=Tryz.sizeOf31
 v37:=Tryz.zeroValue31
 t46:=Tryz.underlying336
 a46:=Tryz.isAgg336
 z46:=Tryz.sizeOf336
 v46:=Tryz.zeroValue336
 t51:=Tryz.underlying234
 a51:=Tryz.isAgg234
 z51:=Tryz.sizeOf234
 v51:=Tryz.zeroValue234
 t53:=Tryz.underlying364
 a53:=Tryz.isAgg364
 z53:=Tryz.sizeOf364
 v53:=Tryz.zeroValue364
 t75:=Tryz.underlying195
 a75:=Tryz.isAgg195
 z75:=Tryz.sizeOf195
 v75:=Tryz.zeroValue195
 t76:=Tryz.underlying343
 a76:=Tryz.isAgg343
 z76:=Tryz.sizeOf343
 v76:=Tryz.zeroValue343
 t85:=Tryz.underlying358
 a85:=Tryz.isAgg358
 z85:=Tryz.sizeOf358
 v85:=Tryz.zeroValue358
 t127:=Tryz.underlying269
 a127:=Tryz.isAgg269
 z127:=Tryz.sizeOf269
 v127:=Tryz.zeroValue269
 t143:=Tryz.underlying380
 a143:=Tryz.isAgg380
 z143:=Tryz.sizeOf380
 v143:=Tryz.zeroValue380
 t145:=Tryz.underlying382
 a145:=Tryz.isAgg382
 z145:=Tryz.sizeOf382
 v145:=Tryz.zeroValue382
 t167:=Tryz.underlying357
 a167:=Tryz.isAgg357
 z167:=Tryz.sizeOf357
 v167:=Tryz.zeroValue357
 t168:=Tryz.underlying360
 a168:=Tryz.isAgg360
 z168:=Tryz.sizeOf360
 v168:=Tryz.zeroValue360
 t171:=Tryz.underlying363
 a171:=Tryz.isAgg363
 z171:=Tryz.sizeOf363
 v171:=Tryz.zeroValue363
 t173:=Tryz.underlying367
 a173:=Tryz.isAgg367
 z173:=Tryz.sizeOf367
 v173:=Tryz.zeroValue367
 t175:=Tryz.underlying370
 a175:=Tryz.isAgg370
 z175:=Tryz.sizeOf370
 v175:=Tryz.zeroValue370
 t210:=Tryz.underlying373
 a210:=Tryz.isAgg373
 z210:=Tryz.sizeOf373
 v210:=Tryz.zeroValue373
 t212:=Tryz.underlying376
 a212:=Tryz.isAgg376
 z212:=Tryz.sizeOf376
 v212:=Tryz.zeroValue376
 t213:=Tryz.underlying377
 a213:=Tryz.isAgg377
 z213:=Tryz.sizeOf377
 t232:=Tryz.underlying384
 a232:=Tryz.isAgg384
 z232:=Tryz.sizeOf384
 v232:=Tryz.zeroValue384
 t233:=Tryz.underlying385
 a233:=Tryz.isAgg385
 z233:=Tryz.sizeOf385
 v233:=Tryz.zeroValue385
 g15:=by kernel_rfl
 g16:=by kernel_rfl
 g17:=by kernel_rfl
 g18:=by kernel_rfl
 g19:=by kernel_rfl }
open Go.RowKit in
theorem Tryz.strconv_Atoi(s:ByteArray)(n:Int)(hl:s.size≤18)(h:Lib.atoi s.data.toList=some n)(w:World):
 Calls Tryz.prog 293 #[.string s] w fun e w'=>e= .returned (.tuple #[.int .i64 n,.nilIface])∧∃t,w'=Lib.bytesWorld w 5 t:=Any.strconv_Atoi Tryz.lays172 s n hl h w
def Tryz.laysC172_ren:Go.Shelf.Ren:=⟨fun|172=>293|244=>301|245=>302|247=>306|279=>307|280=>308|281=>309|282=>310|287=>317|316=>188|171=>279|205=>318|321=>324|322=>325|243=>295|246=>303|283=>311|284=>312|285=>313|286=>314|129=>320|317=>319|318=>321|319=>322|320=>323|337=>326|338=>327|n=>n,fun|9=>9|3=>3|75=>195|76=>343|4=>4|5=>5|167=>357|37=>31|0=>0|85=>358|2=>2|168=>360|53=>364|175=>370|46=>336|210=>373|127=>269|145=>382|143=>380|21=>21|171=>363|173=>367|212=>376|51=>234|20=>20|213=>377|232=>384|233=>385|80=>271|n=>n,fun|15=>3|16=>4|17=>5|18=>6|19=>7|n=>n⟩
theorem Tryz.laysC172:Go.Proofs.LaysC.n172 Tryz.prog Tryz.laysC172_ren:={
 mixed:=by kernel_rfl
 f129:=Tryz.func320.trans (congrArg some (by kernel_rfl))
 f171:=Tryz.func279.trans (congrArg some (by kernel_rfl))
 f172:=Tryz.func293.trans (congrArg some (by kernel_rfl))
 f205:=Tryz.func318.trans (congrArg some (by kernel_rfl))
 f243:=Tryz.func295.trans (congrArg some (by kernel_rfl))
 f244:=Tryz.func301.trans (congrArg some (by kernel_rfl))
 f245:=Tryz.func302.trans (congrArg some (by kernel_rfl))
 f246:=Tryz.func303.trans (congrArg some (by kernel_rfl))
 f247:=Tryz.func306.trans (congrArg some (by kernel_rfl))
 f279:=Tryz.func307.trans (congrArg some (by kernel_rfl))
 f280:=Tryz.func308.trans (congrArg some (by kernel_rfl))
 f281:=Tryz.func309.trans (congrArg some (by kernel_rfl))
 f282:=Tryz.func310.trans (congrArg some (by kernel_rfl))
 f283:=Tryz.func311.trans (congrArg some (by kernel_rfl))
 f284:=Tryz.func312.trans (congrArg some (by kernel_rfl))
 f285:=Tryz.func313.trans (congrArg some (by kernel_rfl))
 f286:=Tryz.func314.trans (congrArg some (by kernel_rfl))
 f287:=Tryz.func317.trans (congrArg some (by kernel_rfl))
 f316:=Tryz.func188.trans (congrArg some (by kernel_rfl))
 f317:=Tryz.func319.trans (congrArg some (by kernel_rfl))
 f318:=Tryz.func321.trans (congrArg some (by kernel_rfl))
 f319:=Tryz.func322.trans (congrArg some (by kernel_rfl))
 f320:=Tryz.func323.trans (congrArg some (by kernel_rfl))
 f321:=Tryz.func324.trans (congrArg some (by kernel_rfl))
 f322:=Tryz.func325.trans (congrArg some (by kernel_rfl))
 f337:=Tryz.func326.trans (congrArg some (by kernel_rfl))
 f338:=Tryz.func327.trans (congrArg some (by kernel_rfl))
 t0:=Tryz.underlying0
 a0:=Tryz.isAgg0
 z0:=Tryz.sizeOf0
 v0:=Tryz.zeroValue0
 t2:=Tryz.underlying2
 a2:=Tryz.isAgg2
 z2:=Tryz.sizeOf2
 v2:=Tryz.zeroValue2
 t3:=Tryz.underlying3
 a3:=Tryz.isAgg3
 z3:=Tryz.sizeOf3
 v3:=Tryz.zeroValue3
 t4:=Tryz.underlying4
 a4:=Tryz.isAgg4
 z4:=Tryz.sizeOf4
 v4:=Tryz.zeroValue4
 t5:=Tryz.underlying5
 a5:=Tryz.isAgg5
 z5:=Tryz.sizeOf5
 v5:=Tryz.zeroValue5
 t9:=Tryz.underlying9
 a9:=Tryz.isAgg9
 z9:=Tryz.sizeOf9
 v9:=Tryz.zeroValue9
 t20:=Tryz.underlying20
 a20:=Tryz.isAgg20
 z20:=Tryz.sizeOf20
 v20:=Tryz.zeroValue20
 t21:=Tryz.underlying21
 a21:=Tryz.isAgg21
 z21:=Tryz.sizeOf21
 v21:=Tryz.zeroValue21
 t37:=Tryz.underlying31
 a37:=Tryz.isAgg31
 z37:=Tryz.sizeOf31
 v37:=Tryz.zeroValue31
 t46:=Tryz.underlying336
 a46:=Tryz.isAgg336
 z46:=Tryz.sizeOf336
 v46:=Tryz.zeroValue336
 t51:=Tryz.underlying234
 a51:=Tryz.isAgg234
 z51:=Tryz.sizeOf234
 v51:=Tryz.zeroValue234
 t53:=Tryz.underlying364
 a53:=Tryz.isAgg364
 z53:=Tryz.sizeOf364
 v53:=Tryz.zeroValue364
 t75:=Tryz.underlying195
 a75:=Tryz.isAgg195
 z75:=Tryz.sizeOf195
 v75:=Tryz.zeroValue195
 t76:=Tryz.underlying343
 a76:=Tryz.isAgg343
 z76:=Tryz.sizeOf343
 v76:=Tryz.zeroValue343
 t85:=Tryz.underlying358
 a85:=Tryz.isAgg358
 z85:=Tryz.sizeOf358
 v85:=Tryz.zeroValue358
 t127:=Tryz.underlying269
 a127:=Tryz.isAgg269
 z127:=Tryz.sizeOf269
 v127:=Tryz.zeroValue269
 t143:=Tryz.underlying380
 a143:=Tryz.isAgg380
 z143:=Tryz.sizeOf380
 v143:=Tryz.zeroValue380
 t145:=Tryz.underlying382
 a145:=Tryz.isAgg382
 z145:=Tryz.sizeOf382
 v145:=Tryz.zeroValue382
 t167:=Tryz.underlying357
 a167:=Tryz.isAgg357
 z167:=Tryz.sizeOf357
 v167:=Tryz.zeroValue357
 t168:=Tryz.underlying360
 a168:=Tryz.isAgg360
 z168:=Tryz.sizeOf360
 v168:=Tryz.zeroValue360
 t171:=Tryz.underlying363
 a171:=Tryz.isAgg363
 z171:=Tryz.sizeOf363
 v171:=Tryz.zeroValue363
 t173:=Tryz.underlying367
 a173:=Tryz.isAgg367
 z173:=Tryz.sizeOf367
 v173:=Tryz.zeroValue367
 t175:=Tryz.underlying370
 a175:=Tryz.isAgg370
 z175:=Tryz.sizeOf370
 v175:=Tryz.zeroValue370
 t210:=Tryz.underlying373
 a210:=Tryz.isAgg373
 z210:=Tryz.sizeOf373
 v210:=Tryz.zeroValue373
 t212:=Tryz.underlying376
 a212:=Tryz.isAgg376
 z212:=Tryz.sizeOf376
 v212:=Tryz.zeroValue376
 t213:=Tryz.underlying377
 a213:=Tryz.isAgg377
 z213:=Tryz.sizeOf377
 t232:=Tryz.underlying384
 a232:=Tryz.isAgg384
 z232:=Tryz.sizeOf384
 v232:=Tryz.zeroValue384
 t233:=Tryz.underlying385
 a233:=Tryz.isAgg385
 z233:=Tryz.sizeOf385
 v233:=Tryz.zeroValue385
 g15:=by kernel_rfl
 g16:=by kernel_rfl
 g17:=by kernel_rfl
 g18:=by kernel_rfl
 g19:=by kernel_rfl
 t80:=Tryz.underlying271
 a80:=Tryz.isAgg271
 z80:=Tryz.sizeOf271
 v80:=Tryz.zeroValue271
 i0:=by kernel_rfl
 i2:=by kernel_rfl
 i3:=by kernel_rfl
 i4:=by kernel_rfl
 i5:=by kernel_rfl
 i9:=by kernel_rfl
 i20:=by kernel_rfl
 i21:=by kernel_rfl
 i37:=by kernel_rfl
 i46:=by kernel_rfl
 i51:=by kernel_rfl
 i53:=by kernel_rfl
 i75:=by kernel_rfl
 i76:=by kernel_rfl
 i80:=by kernel_rfl
 i85:=by kernel_rfl
 i127:=by kernel_rfl
 i143:=by kernel_rfl
 i145:=by kernel_rfl
 i167:=by kernel_rfl
 i168:=by kernel_rfl
 i171:=by kernel_rfl
 i173:=by kernel_rfl
 i175:=by kernel_rfl
 i210:=by kernel_rfl
 i212:=by kernel_rfl
 i232:=by kernel_rfl
 i233:=by kernel_rfl
 m15:=by kernel_rfl
 m16:=by kernel_rfl
 m17:=by kernel_rfl
 m18:=by kernel_rfl
 m19:=by kernel_rfl
 c0:=by kernel_rfl
 c2:=by kernel_rfl
 c3:=by kernel_rfl
 c4:=by kernel_rfl
 c5:=by kernel_rfl
 c9:=by kernel_rfl
 c20:=by kernel_rfl
 c21:=by kernel_rfl
 c37:=by kernel_rfl
 c46:=by kernel_rfl
 c51:=by kernel_rfl
 c53:=by kernel_rfl
 c75:=by kernel_rfl
 c76:=by kernel_rfl
 c80:=by kernel_rfl
 c85:=by kernel_rfl
 c127:=by kernel_rfl
 c143:=by kernel_rfl
 c145:=by kernel_rfl
 c167:=by kernel_rfl
 c168:=by kernel_rfl
 c171:=by kernel_rfl
 c173:=by kernel_rfl
 c175:=by kernel_rfl
 c210:=by kernel_rfl
 c212:=by kernel_rfl
 c213:=by kernel_rfl
 c232:=by kernel_rfl
 c233:=by kernel_rfl }
open Go.RowKit in
theorem Tryz.strconv_Atoi_ok(s:ByteArray)(hmax:s.size≤9223372036854775806)(v:Int)(h:Lib.atoiAll s.data.toList= .ok v)(w:World):
 Calls Tryz.prog 293 #[.string s] w fun e w'=>e= .returned (.tuple #[.int .i64 v,.nilIface])∧(w'=w∨∃t,w'=Lib.bytesWorld w 5 t):=Any.strconv_Atoi_ok Tryz.laysC172 s hmax v h w
end Go.Proofs
namespace Go.Proofs.YtcjmcgolgbkknaaGreatDoor
section
open Go.RowKit
theorem MJ(w:World)(e:TypeId)(t:ByteArray):Below w.heap.size w (Lib.bytesWorld w e t):=Lib.bytesWorld_below w e t

theorem jg(s:ByteArray)(n:Nat)(w:World)(h:Hid (numOf s.data.toList=some n)):
 Calls Tryz.prog 293 #[.string s] w fun e w'=>e= .returned (.tuple #[.int .i64 n,.nilIface])∧Below w.heap.size w w':=by
 obtain⟨h1,h2⟩:=Cy h.out;have hl:=Qr h.out;have hs:s.size≤18:=by simp at hl;omega
 refine(Tryz.strconv_Atoi s (n:Int) hs (by rw[←h2];exact WE n) w).mono ?_;rintro e w' ⟨rfl,t,rfl⟩;exact⟨rfl,MJ _ _ _⟩

def oW(e:Ending):Prop:=(∃v:Int,e= .returned (.tuple #[.int .i64 v,.nilIface]))∨∃(v:Int)(t:TypeId)(x:Value),e= .returned (.tuple #[.int .i64 v,.iface t x])
theorem jh(s:ByteArray)(hs:s.size≤33554432)(w:World)(u1 u2:TypeId)(p1 p2:Value)(hy:w.cell? ⟨3,0,none⟩=some (.iface u1 p1))(hr:w.cell? ⟨4,0,none⟩=some (.iface u2 p2)):
 Calls Tryz.prog 293 #[.string s] w fun e w'=>oW e∧Below w.heap.size w w':=by
 cases h:Lib.atoiAll s.data.toList
 ·refine(Tryz.strconv_Atoi_ok s (by omega) _ h w).mono ?_;rintro e w' ⟨rfl,h1⟩;refine⟨.inl ⟨_,rfl⟩,?_⟩;rcases h1 with rfl|⟨t,rfl⟩
  ·exact Below.refl _ _
  exact MJ _ _ _
 ·refine Calls.mono (Any.strconv_Atoi_syntax Tryz.laysC172 s (by omega) h _ w hy (.inr ⟨_,_,rfl⟩)) ?_;rintro e w' ⟨N,rfl,_,_,hb⟩;exact⟨.inr ⟨_,_,_,rfl⟩,hb⟩
 refine Calls.mono (Any.strconv_Atoi_range Tryz.laysC172 s (by omega) h _ w hr (.inr ⟨_,_,rfl⟩)) ?_;rintro e w' ⟨N,rfl,_,_,hb⟩;exact⟨.inr ⟨_,_,_,rfl⟩,hb⟩
theorem Zp(s:ByteArray)(k:Nat)(h:k<s.size):s.data.toList.take (k+1)=s.data.toList.take k++[s[k]]:=by
 rw[List.take_succ_eq_append_getElem (by simpa using h)];rfl
theorem V_(s:ByteArray)(k:Nat)(h:k<s.size):s.data.toList[k]? =some s[k]:=by
 rw[List.getElem?_eq_getElem (by simpa using h)];rfl
theorem jW(s:ByteArray)(k n:Nat)(h:k<s.size)(hd:Lib.decFrom 0 (s.data.toList.take k)=some n)(h1:48≤s[k].toNat)(h2:s[k].toNat≤57):
 Lib.decFrom 0 (s.data.toList.take (k+1))=some (n*10+(s[k].toNat-48)):=
 Lib.decFrom_take s.data.toList k 0 n s[k] _ hd (V_ s k h) (by rw[Lib.digitVal,if_pos ⟨h1,h2⟩])
theorem Oz(s:ByteArray):s.data.toList.length=s.size:=by simp

theorem OX(s:ByteArray)(w:World)(hm:s.size≤maxLen)(h:s.size<1∨6<s.size):
 Calls Tryz.prog 203 #[.string s] w fun e w'=>e= .returned (.tuple #[.int .i64 0,.bool false])∧w'=w:=by
 unfold maxLen at hm;by_cases h1:s.size<1
 ·clear h;go_enter Tryz.func203,Tryz.ntmps203
  go_wp2
  go_ret2
  exact⟨rfl,rfl⟩
 have hd:decide ((s.size:Int)<1)=false:=by simp;omega
 have h2:6<s.size:=by omega
 clear h;go_enter Tryz.func203,Tryz.ntmps203
 go_wp2
 go_ret2
 exact⟨rfl,rfl⟩

theorem OW(s:ByteArray)(w:World)(h1:1≤s.size)(h6:s.size≤6):
 Calls Tryz.prog 203 #[.string s] w fun e w'=>e= .returned (.tuple #[.int .i64 (Gj (numOf s.data.toList)),.bool (numOf s.data.toList).isSome])∧Below w.heap.size w w':=by
 have hd:decide ((s.size:Int)<1)=false:=by simp;omega
 go_enter Tryz.func203,Tryz.ntmps203
 go_wp2
 go_loop [4,5] (fun y i=>∃k n:Nat,k≤s.size∧y= .int .i64 n∧i= .int .i64 k∧n<10 ^ k∧Hid (Lib.decFrom 0 (s.data.toList.take k)=some n)) (fun _ i=>s.size-(intOf i).toNat)
 case atStart=>exact⟨0,0,by omega,rfl,rfl,by simp,rfl⟩
 case round=>
  obtain⟨k,n,hk,rfl,rfl,hn,HD⟩:=hrel
  have hn6:n≤999999:=by
   have:10 ^ k≤10 ^ 6:=Nat.pow_le_pow_right (by omega) (by omega);omega
  by_cases hlt:k<s.size
  ·by_cases hb:48≤s[k].toNat∧s[k].toNat≤57
   ·have HS:=hide (jW s k n hlt HD.out hb.1 hb.2);have hb1:=hb.1;have hb2:=hb.2;have AAP:n*10+(s[k].toNat-48)<10 ^ (k+1):=by rw[Nat.pow_succ];omega
    clear hb;go_wp2
    go_round
    case rel=>exact⟨k+1,n*10+(s[k].toNat-48),by omega,by go_num,by go_num,AAP,HS⟩
    case measure=>simp[intOf];omega
   have HN:=hide (Mc (V_ s k hlt) (by omega));by_cases hb1:s[k].toNat<48
   ·clear hb;go_wp2
    go_ret2
    exact⟨by rw[HN.out];rfl,Below.refl _ _⟩
   have hb2:57<s[k].toNat:=by omega
   clear hb;go_wp2
   go_ret2
   exact⟨by rw[HN.out];rfl,Below.refl _ _⟩
  have hks:k=s.size:=by omega
  have HD':Hid (Lib.decFrom 0 s.data.toList=some n):=by
   have:=HD.out;rw[hks,List.take_of_length_le (by rw[Oz];omega)]at this;exact this
  clear HD;by_cases he:Lib.decDigits n=s.data.toList
  ·have HY:=hide (bO HD'.out hn6 he);have hs:(⟨(Lib.itoa (n:Int)).toArray⟩:ByteArray)=s:=by rw[G7,he]
   have HC:=hide fun w=>Ct (n:Int) w (by omega) (by omega);rw[hs]at HC;clear hs he;go_wp2_with fail
   refine(HC.out _).mono ?_;rintro e w1 ⟨rfl,b1⟩;go_wp2
   go_ret2
   exact⟨by rw[HY.out];rfl,b1⟩
  have HN:=hide (iR HD'.out he);have HC:=hide fun w=>Ct (n:Int) w (by omega) (by omega);obtain⟨t,ht⟩:∃t:ByteArray,t=⟨(Lib.itoa (n:Int)).toArray⟩:=⟨_,rfl⟩
  rw[←ht]at HC;have hne:t≠s:=by intro e;rw[ht,G7]at e;apply he;rw[←e]
  have hne':=EX hne;clear ht he;go_wp2_with fail
  refine(HC.out _).mono ?_;rintro e w1 ⟨rfl,b1⟩;go_wp2
  go_ret2
  exact⟨by rw[HN.out];rfl,b1⟩

theorem Io(s:ByteArray)(w:World)(hm:s.size≤maxLen):
 Calls Tryz.prog 203 #[.string s] w fun e w'=>e= .returned (.tuple #[.int .i64 (Gj (numOf s.data.toList)),.bool (numOf s.data.toList).isSome])∧Below w.heap.size w w':=by
 by_cases h:s.size<1∨6<s.size
 ·refine(OX s w hm h).mono ?_;rintro e w' ⟨rfl,rfl⟩;exact⟨by rw[Ou (by rw[Oz];exact h)];rfl,Below.refl _ _⟩
 exact OW s w (by omega) (by omega)
theorem Mk(p:Addr)(x:Bool)(u:TypeId)(pv:Value)(older:List PanicEntry)(w:World)(hc:w.cell? p=some (.bool x))(hz:w.frozen? p=false):
 CallsD Tryz.prog 260 #[.pointer (some p)] (.panicking ({ v:= .iface u pv,recovered:=false } :: older)) w fun e u' w'=>
  e= .returned (.tuple #[])∧u'= .panicking ({ v:= .iface u pv,recovered:=true } :: older)∧w'=w.setCell p (.bool false):=by
 refine callsD_of_wpS Tryz.func260 rfl fun c₀ cs hu=>?_
 apply wpS_seq
 apply wpS_region
 simp[wpOpsS,go_sem,recoverD,hu,Tryz.ntmps260,Exit.thenS];refine wpS_cond (t:=true) (by simp[Act.eval,Array.replicate]) ?_;simp only[if_true]
 apply wpS_region
 simp[wpOpsS,go_sem,hc,hz,bodyPostS,results,Tryz.results260]

theorem Yd(p:Addr)(w:World):
 CallsD Tryz.prog 260 #[.pointer (some p)] .returning w fun e u' w'=>e= .returned (.tuple #[])∧u'= .returning∧w'=w:=by
 refine callsD_of_wpS Tryz.func260 rfl fun c₀ cs hu=>?_
 apply wpS_seq
 apply wpS_region
 simp[wpOpsS,go_sem,recoverD,hu,Tryz.ntmps260,Exit.thenS];refine wpS_cond (t:=false) (by simp[Act.eval,Array.replicate]) ?_;simp only[Bool.false_eq_true,if_false];refine wpS_of_wp (wp_skip ?_);cases c₀
 simp_all[bodyPostS,results,Tryz.results260]

theorem Uk(g:FuncId)(cap:Array Value)(w:World)(R:World→Prop)(hcf:∀w,(callFunc g cap).run Tryz.prog w= .ok (.enter g cap) w)
 (h:Calls Tryz.prog g cap (w.alloc (.cells #[.bool false] 4)) fun e w'=>e= .returned (.tuple #[])∧R w'∧w'.cell? ⟨w.heap.size,0,none⟩=some (.bool false)∧w'.frozen? ⟨w.heap.size,0,none⟩=false):
 Calls Tryz.prog 240 #[.func (.func g) #[] cap] w fun e w'=>e= .returned (.bool true)∧∃w1,R w1∧w'=w1.setCell ⟨w.heap.size,0,none⟩ (.bool true):=by
 have y8:∀(fn:Fn)(first cap:Array Value)(w:World),(Instr.makeFunc fn first cap).run Tryz.prog w= .ok (.func fn first cap) w:=fun _ _ _ _=>rfl
 go_enter_defers Tryz.func240,Tryz.ntmps240
 go_wp2_with fail
 refine h.mono ?_;rintro e w1 ⟨rfl,hR,hc,hz⟩;go_wp2;refine leaves_cons (f:=260) (args:= #[.pointer (some ⟨w.heap.size,0,none⟩)]) (by simp) (by simp[go_sem]) ?_;refine(Yd ⟨w.heap.size,0,none⟩ _).mono ?_;rintro e u' w'' ⟨rfl,rfl,rfl⟩;simp[Leaves,settle,results,Tryz.results240,go_sem];exact⟨_,by rw[World.cell?_setCell_same _ _ _ hc],rfl,w1,hR,rfl⟩

theorem Ul(g:FuncId)(cap:Array Value)(w:World)(R:World→Prop)(u:TypeId)(pv:Value)(hcf:∀w,(callFunc g cap).run Tryz.prog w= .ok (.enter g cap) w)
 (h:Calls Tryz.prog g cap (w.alloc (.cells #[.bool false] 4)) fun e w'=>e= .panicked [{ v:= .iface u pv,recovered:=false }]∧R w'∧w'.cell? ⟨w.heap.size,0,none⟩=some (.bool false)∧w'.frozen? ⟨w.heap.size,0,none⟩=false):
 Calls Tryz.prog 240 #[.func (.func g) #[] cap] w fun e w'=>e= .returned (.bool false)∧∃w1,R w1∧w'=w1.setCell ⟨w.heap.size,0,none⟩ (.bool false):=by
 have y8:∀(fn:Fn)(first cap:Array Value)(w:World),(Instr.makeFunc fn first cap).run Tryz.prog w= .ok (.func fn first cap) w:=fun _ _ _ _=>rfl
 go_enter_defers Tryz.func240,Tryz.ntmps240
 go_wp2_with fail
 refine h.mono ?_;rintro e w1 ⟨rfl,hR,hc,hz⟩;go_wp2;refine leaves_cons (f:=260) (args:= #[.pointer (some ⟨w.heap.size,0,none⟩)]) (by simp) (by simp[go_sem]) ?_;refine(Mk ⟨w.heap.size,0,none⟩ false u pv [] _ hc hz).mono ?_;rintro e u' w'' ⟨rfl,rfl,rfl⟩;simp[Leaves,settle,results,Tryz.results240,go_sem];exact⟨_,by rw[World.cell?_setCell_same _ _ _ hc],rfl,w1,hR,rfl⟩
theorem MW(s:ByteArray)(n:Nat)(w:World)(ht:Pow w)(h:Hid (numOf s.data.toList=some n)):
 Calls Tryz.prog 276 #[.string s] w fun e w'=>e= .returned (.int .i64 n)∧Below w.heap.size w w':=by
 obtain⟨h1,h2⟩:=Cy h.out;have hs:(⟨(Lib.itoa (n:Int)).toArray⟩:ByteArray)=s:=by rw[G7,h2]
 have HA:=hide (jg s n w h);have HC:=hide fun w ht=>EZ (n:Int) w (by omega) (by omega) ht;rw[hs]at HC;have HT:=hide ht;clear hs h2 ht;go_enter Tryz.func276,Tryz.ntmps276
 go_wp2_with fail
 refine HA.out.mono ?_;rintro e w1 ⟨rfl,b1⟩;have s1:=b1.size;have H1:=hide (HT.out.below b1);go_wp2_with fail
 refine(HC.out _ H1.out).mono ?_;rintro e w2 ⟨rfl,b2⟩;go_wp2;go_ret;exact⟨rfl,b1.trans (b2.mono s1)⟩

structure Env(w:World):Prop where
 pow:Pow w
 no:∃u pv,w.cell? ⟨1,0,none⟩=some (.iface u pv)
 syn:∃u pv,w.cell? ⟨3,0,none⟩=some (.iface u pv)
 ran:∃u pv,w.cell? ⟨4,0,none⟩=some (.iface u pv)
theorem Env.below{w w':World}(h:Env w)(hb:Below w.heap.size w w'):Env w':=by
 refine⟨h.pow.below hb,?_,?_,?_⟩
 ·obtain⟨u,pv,e⟩:=h.no;exact⟨u,pv,(hb.cell (AQ e)).trans e⟩
 ·obtain⟨u,pv,e⟩:=h.syn;exact⟨u,pv,(hb.cell (AQ e)).trans e⟩
 obtain⟨u,pv,e⟩:=h.ran;exact⟨u,pv,(hb.cell (AQ e)).trans e⟩

theorem MX(s:ByteArray)(hs:s.size≤33554432)(u:TypeId)(pv:Value)(w:World)(hE:Env w)(he:w.cell? ⟨1,0,none⟩=some (.iface u pv))(h:Hid (numOf s.data.toList=none)):
 Calls Tryz.prog 276 #[.string s] w fun e w'=>e= .panicked [{ v:= .iface u pv,recovered:=false }]∧Below w.heap.size w w':=by
 obtain⟨u1,p1,hy⟩:=hE.syn;obtain⟨u2,p2,hr⟩:=hE.ran;have HA:=hide (jh s hs w u1 u2 p1 p2 hy hr);have hlt:1<w.heap.size:=AQ he;have HE:=hide hE;clear hE hy hr;go_enter Tryz.func276,Tryz.ntmps276
 go_wp2_with fail
 refine HA.out.mono ?_;rintro e w1 ⟨h1,b1⟩;have s1:=b1.size;have e1:=(b1.cell hlt).trans he;rcases h1 with⟨v,rfl⟩|⟨v,t,x,rfl⟩
 ·by_cases h0:v<0
  ·go_wp2;exact⟨rfl,rfl,b1⟩
  have hd0:decide (v<0)=false:=by simpa using h0
  by_cases h9:999999<v
  ·go_wp2;exact⟨rfl,rfl,b1⟩
  have hd9:decide (999999<v)=false:=by simpa using h9
  have H1:=hide (HE.out.below b1).pow;obtain⟨n,rfl⟩:=Int.eq_ofNat_of_zero_le (Int.not_lt.1 h0);obtain⟨r,hr⟩:∃r:ByteArray,r=⟨(Lib.itoa (n:Int)).toArray⟩:=⟨_,rfl⟩
  have hne:r≠s:=by
   intro e;rw[hr,G7]at e;have:=h.out;rw[←e]at this;rw[G6 (by omega)]at this;cases this
  have hne':=EX hne;have HC:=hide fun w ht=>EZ (n:Int) w (by omega) (by omega) ht;rw[←hr]at HC;clear hr hne;go_wp2_with fail
  refine(HC.out _ H1.out).mono ?_;rintro e w2 ⟨rfl,b2⟩;have e2:=(b2.cell (Nat.lt_of_lt_of_le hlt s1)).trans e1;go_wp2;exact⟨rfl,rfl,b1.trans (b2.mono s1)⟩
 go_wp2;exact⟨rfl,rfl,b1⟩
theorem Vx(B:Nat)(s:ByteArray)(n:Nat)(x:Value)(w:World)(hE:Env w)(hr:Hid (numOf s.data.toList=some n))(h0:w.cell? ⟨B,0,none⟩=some (.string s))(h1:w.cell? ⟨B+1,0,none⟩=some x)(f1:w.frozen? ⟨B+1,0,none⟩=false):
 Calls Tryz.prog 275 #[.pointer (some ⟨B,0,none⟩),.pointer (some ⟨B+1,0,none⟩)] w fun e w'=>e= .returned (.tuple #[])∧∃w2,Below w.heap.size w w2∧w'=w2.setCell ⟨B+1,0,none⟩ (.int .i64 n):=by
 have HA:=hide (MW s n w hE.pow hr);have hlt:B+1<w.heap.size:=AQ h1;clear hE;go_enter Tryz.func275,Tryz.ntmps275
 go_wp2_with fail
 refine HA.out.mono ?_;rintro e w1 ⟨rfl,b1⟩;have c1:w1.cell? ⟨B+1,0,none⟩=some x:=(b1.cell hlt).trans h1;have g1:w1.frozen? ⟨B+1,0,none⟩=false:=(b1.frozen (p:=⟨B+1,0,none⟩) hlt).trans f1;go_wp2
 go_end0
 exact⟨rfl,_,b1,rfl⟩

theorem Vy(B:Nat)(s:ByteArray)(hs:s.size≤33554432)(u:TypeId)(pv:Value)(w:World)(hE:Env w)(he:w.cell? ⟨1,0,none⟩=some (.iface u pv))(hr:Hid (numOf s.data.toList=none))(h0:w.cell? ⟨B,0,none⟩=some (.string s)):
 Calls Tryz.prog 275 #[.pointer (some ⟨B,0,none⟩),.pointer (some ⟨B+1,0,none⟩)] w fun e w'=>e= .panicked [{ v:= .iface u pv,recovered:=false }]∧Below w.heap.size w w':=by
 have HA:=hide (MX s hs u pv w hE he hr);clear hE he;go_enter Tryz.func275,Tryz.ntmps275
 go_wp2_with fail
 refine HA.out.mono ?_;rintro e w1 ⟨rfl,b1⟩;go_wp2;exact⟨rfl,rfl,b1⟩

theorem VE(w:World)(x:Value)(t:TypeId):(w.alloc (.cells #[x] t)).cell? ⟨w.heap.size,0,none⟩=some x:=by simp
theorem VD(w:World)(x:Value)(t:TypeId):(w.alloc (.cells #[x] t)).frozen? ⟨w.heap.size,0,none⟩=false:=by simp[go_sem]
abbrev CQ(w:World)(s:ByteArray):World:=(w.alloc (.cells #[.string s] 9)).alloc (.cells #[.int .i64 0] 3)
theorem KZ(w:World)(s:ByteArray):Below w.heap.size w (CQ w s):=((Below.refl _ _).alloc Ak _).alloc (by simp) _
theorem GM(w:World)(s:ByteArray):(CQ w s).heap.size=w.heap.size+2:=by simp
theorem Qs(w:World)(s:ByteArray)(o:Obj):
 ((CQ w s).alloc o).cell? ⟨w.heap.size,0,none⟩=some (.string s)∧((CQ w s).alloc o).cell? ⟨w.heap.size+1,0,none⟩=some (.int .i64 0)∧((CQ w s).alloc o).frozen? ⟨w.heap.size+1,0,none⟩=false:=by
 simp[CQ,go_sem]

theorem Xd(s:ByteArray)(n:Nat)(w:World)(hE:Env w)(hr:Hid (numOf s.data.toList=some n)):
 Calls Tryz.prog 240 #[.func (.func 275) #[] #[.pointer (some ⟨w.heap.size,0,none⟩),.pointer (some ⟨w.heap.size+1,0,none⟩)]] (CQ w s) fun e w'=>
  e= .returned (.bool true)∧w'.cell? ⟨w.heap.size+1,0,none⟩=some (.int .i64 n)∧Below w.heap.size w w':=by
 obtain⟨c0,c1,f1⟩:=Qs w s (.cells #[.bool false] 4);have hbl:Below w.heap.size w ((CQ w s).alloc (.cells #[.bool false] 4)):=(KZ w s).alloc (by rw[GM];omega) _;have hbs:=GM w s;have hsz:((CQ w s).alloc (.cells #[.bool false] 4)).heap.size=w.heap.size+3:=by simp
 refine(Uk 275 _ (CQ w s) (fun w1=>∃w2,Below ((CQ w s).alloc (.cells #[.bool false] 4)).heap.size ((CQ w s).alloc (.cells #[.bool false] 4)) w2∧w1=w2.setCell ⟨w.heap.size+1,0,none⟩ (.int .i64 n)) (fun _=>by simp[go_sem]) ?_).mono ?_
 ·refine(Vx w.heap.size s n _ _ (hE.below hbl) hr c0 c1 f1).mono ?_;rintro e w' ⟨rfl,w2,b2,rfl⟩;have hok:(⟨(CQ w s).heap.size,0,none⟩:Addr).block<((CQ w s).alloc (.cells #[.bool false] 4)).heap.size:=by rw[hsz];show(CQ w s).heap.size<_;rw[hbs];omega
  refine⟨rfl,⟨w2,b2,rfl⟩,?_,?_⟩
  ·rw[World.cell?_setCell_other _ _ _ _ (by simp)];exact(b2.cell hok).trans (VE _ _ _)
  rw[World.frozen?_setCell];exact(b2.frozen hok).trans (VD _ _ _)
 rintro e w' ⟨rfl,w1,⟨w2,b2,rfl⟩,rfl⟩;refine⟨rfl,?_,?_⟩
 ·rw[World.cell?_setCell_other _ _ _ _ (by simp)];exact World.cell?_setCell_same _ _ _ ((b2.cell (by rw[hsz];show w.heap.size+1<_;omega)).trans c1)
 exact((hbl.trans (b2.mono (by rw[hsz];omega))).setCell (by simp) _).setCell (by rw[hbs];simp) _

theorem Xe(s:ByteArray)(hs:s.size≤33554432)(w:World)(hE:Env w)(hr:Hid (numOf s.data.toList=none)):
 Calls Tryz.prog 240 #[.func (.func 275) #[] #[.pointer (some ⟨w.heap.size,0,none⟩),.pointer (some ⟨w.heap.size+1,0,none⟩)]] (CQ w s) fun e w'=>
  e= .returned (.bool false)∧w'.cell? ⟨w.heap.size+1,0,none⟩=some (.int .i64 0)∧Below w.heap.size w w':=by
 obtain⟨c0,c1,f1⟩:=Qs w s (.cells #[.bool false] 4);have hbl:Below w.heap.size w ((CQ w s).alloc (.cells #[.bool false] 4)):=(KZ w s).alloc (by rw[GM];omega) _;have hbs:=GM w s;have hsz:((CQ w s).alloc (.cells #[.bool false] 4)).heap.size=w.heap.size+3:=by simp
 obtain⟨u,pv,he⟩:=hE.no;refine(Ul 275 _ (CQ w s) (fun w1=>Below ((CQ w s).alloc (.cells #[.bool false] 4)).heap.size ((CQ w s).alloc (.cells #[.bool false] 4)) w1) u pv (fun _=>by simp[go_sem]) ?_).mono ?_
 ·refine(Vy w.heap.size s hs u pv _ (hE.below hbl) ((hbl.cell (AQ he)).trans he) hr c0).mono ?_;rintro e w' ⟨rfl,b2⟩;have hok:(⟨(CQ w s).heap.size,0,none⟩:Addr).block<((CQ w s).alloc (.cells #[.bool false] 4)).heap.size:=by rw[hsz];show(CQ w s).heap.size<_;rw[hbs];omega
  exact⟨rfl,b2,(b2.cell hok).trans (VE _ _ _),(b2.frozen hok).trans (VD _ _ _)⟩
 rintro e w' ⟨rfl,w1,b2,rfl⟩;refine⟨rfl,?_,?_⟩
 ·rw[World.cell?_setCell_other _ _ _ _ (by simp)];exact(b2.cell (by rw[hsz];show w.heap.size+1<_;omega)).trans c1
 exact(hbl.trans (b2.mono (by rw[hsz];omega))).setCell (by rw[hbs];simp) _

theorem U_(s:ByteArray)(n:Nat)(w:World)(hE:Env w)(hr:Hid (numOf s.data.toList=some n)):
 Calls Tryz.prog 256 #[.string s] w fun e w'=>e= .returned (.tuple #[.int .i64 n,.bool true])∧Below w.heap.size w w':=by
 have y8:∀(fn:Fn)(first cap:Array Value)(w:World),(Instr.makeFunc fn first cap).run Tryz.prog w= .ok (.func fn first cap) w:=fun _ _ _ _=>rfl;have HR:=hide (Xd s n w hE hr);clear hE;go_enter Tryz.func256,Tryz.ntmps256
 go_wp2_with fail
 refine HR.out.mono ?_;rintro e w' ⟨rfl,c1,fH⟩;go_wp2
 go_ret2
 exact⟨rfl,fH⟩

theorem VA(s:ByteArray)(hs:s.size≤33554432)(w:World)(hE:Env w)(hr:Hid (numOf s.data.toList=none)):
 Calls Tryz.prog 256 #[.string s] w fun e w'=>e= .returned (.tuple #[.int .i64 0,.bool false])∧Below w.heap.size w w':=by
 have y8:∀(fn:Fn)(first cap:Array Value)(w:World),(Instr.makeFunc fn first cap).run Tryz.prog w= .ok (.func fn first cap) w:=fun _ _ _ _=>rfl;have HR:=hide (Xe s hs w hE hr);clear hE;go_enter Tryz.func256,Tryz.ntmps256
 go_wp2_with fail
 refine HR.out.mono ?_;rintro e w' ⟨rfl,c1,fH⟩;go_wp2
 go_ret2
 exact⟨rfl,fH⟩

theorem Ot(s:ByteArray)(hs:s.size≤33554432)(w:World)(hE:Env w):
 Calls Tryz.prog 256 #[.string s] w fun e w'=>e= .returned (.tuple #[.int .i64 (Gj (numOf s.data.toList)),.bool (numOf s.data.toList).isSome])∧Below w.heap.size w w':=by
 cases hr:numOf s.data.toList with
 |none=>exact VA s hs w hE hr
 |some n=>exact U_ s n w hE hr
end
end Go.Proofs.YtcjmcgolgbkknaaGreatDoor
