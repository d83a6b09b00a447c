/- Lemmas; their conditions stand in each statement. -/
import Derived.Test.YtmpffkpilbbclaaGreatDoorSAAK
set_option maxRecDepth 100000
set_option maxHeartbeats 1600000
namespace Go.Proofs
open Go.Shelf
def Tryz.lays172_ren : Go.Shelf.Ren := ⟨fun | 172 => 234 | 244 => 243 | 245 => 244 | 247 => 251 | 279 => 252 | 280 => 253 | 281 => 254 | 282 => 255 | 287 => 259 | 316 => 194 | 171 => 189 | 205 => 260 | 321 => 262 | 322 => 263 | 243 => 209 | 246 => 224 | 283 => 236 | 284 => 237 | 285 => 238 | 286 => 239 | 129 => 246 | 317 => 245 | 318 => 247 | 319 => 248 | 320 => 249 | 337 => 256 | 338 => 257 | n => n, fun | 9 => 9 | 3 => 3 | 75 => 227 | 76 => 229 | 4 => 4 | 5 => 5 | 167 => 276 | 37 => 31 | 0 => 0 | 85 => 277 | 2 => 2 | 168 => 279 | 53 => 263 | 175 => 283 | 46 => 258 | 210 => 286 | 127 => 244 | 145 => 294 | 143 => 292 | 21 => 21 | 171 => 262 | 173 => 266 | 212 => 272 | 51 => 253 | 20 => 20 | 213 => 273 | 232 => 288 | 233 => 289 | 80 => 231 | n => n, fun | 15 => 3 | 16 => 4 | 17 => 2 | 18 => 5 | 19 => 6 | n => n⟩
theorem Tryz.lays172 : Go.Proofs.Lays.n172 Tryz.prog Tryz.lays172_ren := {
 mixed := by kernel_rfl
 f129 := Tryz.func246.trans (congrArg some (by kernel_rfl))
 f171 := Tryz.func189.trans (congrArg some (by kernel_rfl))
 f172 := Tryz.func234.trans (congrArg some (by kernel_rfl))
 f205 := Tryz.func260.trans (congrArg some (by kernel_rfl))
 f243 := Tryz.func209.trans (congrArg some (by kernel_rfl))
 f244 := Tryz.func243.trans (congrArg some (by kernel_rfl))
 f245 := Tryz.func244.trans (congrArg some (by kernel_rfl))
 f246 := Tryz.func224.trans (congrArg some (by kernel_rfl))
 f247 := Tryz.func251.trans (congrArg some (by kernel_rfl))
 f279 := Tryz.func252.trans (congrArg some (by kernel_rfl))
 f280 := Tryz.func253.trans (congrArg some (by kernel_rfl))
 f281 := Tryz.func254.trans (congrArg some (by kernel_rfl))
 f282 := Tryz.func255.trans (congrArg some (by kernel_rfl))
 f283 := Tryz.func236.trans (congrArg some (by kernel_rfl))
 f284 := Tryz.func237.trans (congrArg some (by kernel_rfl))
 f285 := Tryz.func238.trans (congrArg some (by kernel_rfl))
 f286 := Tryz.func239.trans (congrArg some (by kernel_rfl))
 f287 := Tryz.func259.trans (congrArg some (by kernel_rfl))
 f316 := Tryz.func194.trans (congrArg some (by kernel_rfl))
 f317 := Tryz.func245.trans (congrArg some (by kernel_rfl))
 f318 := Tryz.func247.trans (congrArg some (by kernel_rfl))
 f319 := Tryz.func248.trans (congrArg some (by kernel_rfl))
 f320 := Tryz.func249.trans (congrArg some (by kernel_rfl))
 f321 := Tryz.func262.trans (congrArg some (by kernel_rfl))
 f322 := Tryz.func263.trans (congrArg some (by kernel_rfl))
 f337 := Tryz.func256.trans (congrArg some (by kernel_rfl))
 f338 := Tryz.func257.trans (congrArg some (by kernel_rfl))
 t0 := Tryz.underlying0
 a0 := Tryz.isAgg0
 z0 := Tryz.sizeOf0
 v0 := Tryz.zeroValue0
 t2 := Tryz.underlying2
 a2 := Tryz.isAgg2
 z2 := Tryz.sizeOf2
 v2 := Tryz.zeroValue2
 t3 := Tryz.underlying3
 a3 := Tryz.isAgg3
 z3 := Tryz.sizeOf3
 v3 := Tryz.zeroValue3
 t4 := Tryz.underlying4
 a4 := Tryz.isAgg4
 z4 := Tryz.sizeOf4
 v4 := Tryz.zeroValue4
 t5 := Tryz.underlying5
 a5 := Tryz.isAgg5
 z5 := Tryz.sizeOf5
 v5 := Tryz.zeroValue5
 t9 := Tryz.underlying9
 a9 := Tryz.isAgg9
 z9 := Tryz.sizeOf9
 v9 := Tryz.zeroValue9
 t20 := Tryz.underlying20
 a20 := Tryz.isAgg20
 z20 := Tryz.sizeOf20
 v20 := Tryz.zeroValue20
 t21 := Tryz.underlying21
 a21 := Tryz.isAgg21
 z21 := Tryz.sizeOf21
 v21 := Tryz.zeroValue21
 t37 := Tryz.underlying31
 a37 := Tryz.isAgg31
 z37 := Tryz.sizeOf31
 v37 := Tryz.zeroValue31
 t46 := Tryz.underlying258
 a46 := Tryz.isAgg258
 z46 := Tryz.sizeOf258
 v46 := Tryz.zeroValue258
 t51 := Tryz.underlying253
 a51 := Tryz.isAgg253
 z51 := Tryz.sizeOf253
 v51 := Tryz.zeroValue253
 t53 := Tryz.underlying263
 a53 := Tryz.isAgg263
 z53 := Tryz.sizeOf263
 v53 := Tryz.zeroValue263
 t75 := Tryz.underlying227
 a75 := Tryz.isAgg227
 z75 := Tryz.sizeOf227
 v75 := Tryz.zeroValue227
 t76 := Tryz.underlying229
 a76 := Tryz.isAgg229
 z76 := Tryz.sizeOf229
 v76 := Tryz.zeroValue229
 t85 := Tryz.underlying277
 a85 := Tryz.isAgg277
 z85 := Tryz.sizeOf277
 v85 := Tryz.zeroValue277
 t127 := Tryz.underlying244
 a127 := Tryz.isAgg244
 z127 := Tryz.sizeOf244
 v127 := Tryz.zeroValue244
 t143 := Tryz.underlying292
 a143 := Tryz.isAgg292
 z143 := Tryz.sizeOf292
 v143 := Tryz.zeroValue292
 t145 := Tryz.underlying294
 a145 := Tryz.isAgg294
 z145 := Tryz.sizeOf294
 v145 := Tryz.zeroValue294
 t167 := Tryz.underlying276
 a167 := Tryz.isAgg276
 z167 := Tryz.sizeOf276
 v167 := Tryz.zeroValue276
 t168 := Tryz.underlying279
 a168 := Tryz.isAgg279
 z168 := Tryz.sizeOf279
 v168 := Tryz.zeroValue279
 t171 := Tryz.underlying262
 a171 := Tryz.isAgg262
 z171 := Tryz.sizeOf262
 v171 := Tryz.zeroValue262
 t173 := Tryz.underlying266
 a173 := Tryz.isAgg266
 z173 := Tryz.sizeOf266
 v173 := Tryz.zeroValue266
 t175 := Tryz.underlying283
 a175 := Tryz.isAgg283
 z175 := Tryz.sizeOf283
 v175 := Tryz.zeroValue283
 t210 := Tryz.underlying286
 a210 := Tryz.isAgg286
 z210 := Tryz.sizeOf286
 v210 := Tryz.zeroValue286
 t212 := Tryz.underlying272
 a212 := Tryz.isAgg272
 z212 := Tryz.sizeOf272
 v212 := Tryz.zeroValue272
 t213 := Tryz.underlying273
 a213 := Tryz.isAgg273
 z213 := Tryz.sizeOf273
 t232 := Tryz.underlying288
 a232 := Tryz.isAgg288
 z232 := Tryz.sizeOf288
 v232 := Tryz.zeroValue288
 t233 := Tryz.underlying289
 a233 := Tryz.isAgg289
 z233 := Tryz.sizeOf289
 v233 := Tryz.zeroValue289
 g15 := by kernel_rfl
 g16 := by kernel_rfl
 g17 := by kernel_rfl
 g18 := by kernel_rfl
 g19 := by kernel_rfl }
open Go.RowKit in
theorem Tryz.strconv_Atoi (s : ByteArray) (n : Int) (hl : s.size ≤ 18) (h : Lib.atoi s.data.toList = some n) (w : World) :
 Calls Tryz.prog 234 #[.string s] w fun e w' => e = .returned (.tuple #[.int .i64 n,.nilIface]) ∧ ∃ t, w' = Lib.bytesWorld w 5 t := Any.strconv_Atoi Tryz.lays172 s n hl h w
def Tryz.laysC172_ren : Go.Shelf.Ren := ⟨fun | 172 => 234 | 244 => 243 | 245 => 244 | 247 => 251 | 279 => 252 | 280 => 253 | 281 => 254 | 282 => 255 | 287 => 259 | 316 => 194 | 171 => 189 | 205 => 260 | 321 => 262 | 322 => 263 | 243 => 209 | 246 => 224 | 283 => 236 | 284 => 237 | 285 => 238 | 286 => 239 | 129 => 246 | 317 => 245 | 318 => 247 | 319 => 248 | 320 => 249 | 337 => 256 | 338 => 257 | n => n, fun | 9 => 9 | 3 => 3 | 75 => 227 | 76 => 229 | 4 => 4 | 5 => 5 | 167 => 276 | 37 => 31 | 0 => 0 | 85 => 277 | 2 => 2 | 168 => 279 | 53 => 263 | 175 => 283 | 46 => 258 | 210 => 286 | 127 => 244 | 145 => 294 | 143 => 292 | 21 => 21 | 171 => 262 | 173 => 266 | 212 => 272 | 51 => 253 | 20 => 20 | 213 => 273 | 232 => 288 | 233 => 289 | 80 => 231 | n => n, fun | 15 => 3 | 16 => 4 | 17 => 2 | 18 => 5 | 19 => 6 | n => n⟩
theorem Tryz.laysC172 : Go.Proofs.LaysC.n172 Tryz.prog Tryz.laysC172_ren := {
 mixed := by kernel_rfl
 f129 := Tryz.func246.trans (congrArg some (by kernel_rfl))
 f171 := Tryz.func189.trans (congrArg some (by kernel_rfl))
 f172 := Tryz.func234.trans (congrArg some (by kernel_rfl))
 f205 := Tryz.func260.trans (congrArg some (by kernel_rfl))
 f243 := Tryz.func209.trans (congrArg some (by kernel_rfl))
 f244 := Tryz.func243.trans (congrArg some (by kernel_rfl))
 f245 := Tryz.func244.trans (congrArg some (by kernel_rfl))
 f246 := Tryz.func224.trans (congrArg some (by kernel_rfl))
 f247 := Tryz.func251.trans (congrArg some (by kernel_rfl))
 f279 := Tryz.func252.trans (congrArg some (by kernel_rfl))
 f280 := Tryz.func253.trans (congrArg some (by kernel_rfl))
 f281 := Tryz.func254.trans (congrArg some (by kernel_rfl))
 f282 := Tryz.func255.trans (congrArg some (by kernel_rfl))
 f283 := Tryz.func236.trans (congrArg some (by kernel_rfl))
 f284 := Tryz.func237.trans (congrArg some (by kernel_rfl))
 f285 := Tryz.func238.trans (congrArg some (by kernel_rfl))
 f286 := Tryz.func239.trans (congrArg some (by kernel_rfl))
 f287 := Tryz.func259.trans (congrArg some (by kernel_rfl))
 f316 := Tryz.func194.trans (congrArg some (by kernel_rfl))
 f317 := Tryz.func245.trans (congrArg some (by kernel_rfl))
 f318 := Tryz.func247.trans (congrArg some (by kernel_rfl))
 f319 := Tryz.func248.trans (congrArg some (by kernel_rfl))
 f320 := Tryz.func249.trans (congrArg some (by kernel_rfl))
 f321 := Tryz.func262.trans (congrArg some (by kernel_rfl))
 f322 := Tryz.func263.trans (congrArg some (by kernel_rfl))
 f337 := Tryz.func256.trans (congrArg some (by kernel_rfl))
 f338 := Tryz.func257.trans (congrArg some (by kernel_rfl))
 t0 := Tryz.underlying0
 a0 := Tryz.isAgg0
 z0 := Tryz.sizeOf0
 v0 := Tryz.zeroValue0
 t2 := Tryz.underlying2
 a2 := Tryz.isAgg2
 z2 := Tryz.sizeOf2
 v2 := Tryz.zeroValue2
 t3 := Tryz.underlying3
 a3 := Tryz.isAgg3
 z3 := Tryz.sizeOf3
 v3 := Tryz.zeroValue3
 t4 := Tryz.underlying4
 a4 := Tryz.isAgg4
 z4 := Tryz.sizeOf4
 v4 := Tryz.zeroValue4
 t5 := Tryz.underlying5
 a5 := Tryz.isAgg5
 z5 := Tryz.sizeOf5
 v5 := Tryz.zeroValue5
 t9 := Tryz.underlying9
 a9 := Tryz.isAgg9
 z9 := Tryz.sizeOf9
 v9 := Tryz.zeroValue9
 t20 := Tryz.underlying20
 a20 := Tryz.isAgg20
 z20 := Tryz.sizeOf20
 v20 := Tryz.zeroValue20
 t21 := Tryz.underlying21
 a21 := Tryz.isAgg21
 z21 := Tryz.sizeOf21
 v21 := Tryz.zeroValue21
 t37 := Tryz.underlying31
 a37 := Tryz.isAgg31
 z37 := Tryz.sizeOf31
 v37 := Tryz.zeroValue31
 t46 := Tryz.underlying258
 a46 := Tryz.isAgg258
 z46 := Tryz.sizeOf258
 v46 := Tryz.zeroValue258
 t51 := Tryz.underlying253
 a51 := Tryz.isAgg253
 z51 := Tryz.sizeOf253
 v51 := Tryz.zeroValue253
 t53 := Tryz.underlying263
 a53 := Tryz.isAgg263
 z53 := Tryz.sizeOf263
 v53 := Tryz.zeroValue263
 t75 := Tryz.underlying227
 a75 := Tryz.isAgg227
 z75 := Tryz.sizeOf227
 v75 := Tryz.zeroValue227
 t76 := Tryz.underlying229
 a76 := Tryz.isAgg229
 z76 := Tryz.sizeOf229
 v76 := Tryz.zeroValue229
 t85 := Tryz.underlying277
 a85 := Tryz.isAgg277
 z85 := Tryz.sizeOf277
 v85 := Tryz.zeroValue277
 t127 := Tryz.underlying244
 a127 := Tryz.isAgg244
 z127 := Tryz.sizeOf244
 v127 := Tryz.zeroValue244
 t143 := Tryz.underlying292
 a143 := Tryz.isAgg292
 z143 := Tryz.sizeOf292
 v143 := Tryz.zeroValue292
 t145 := Tryz.underlying294
 a145 := Tryz.isAgg294
 z145 := Tryz.sizeOf294
 v145 := Tryz.zeroValue294
 t167 := Tryz.underlying276
 a167 := Tryz.isAgg276
 z167 := Tryz.sizeOf276
 v167 := Tryz.zeroValue276
 t168 := Tryz.underlying279
 a168 := Tryz.isAgg279
 z168 := Tryz.sizeOf279
 v168 := Tryz.zeroValue279
 t171 := Tryz.underlying262
 a171 := Tryz.isAgg262
 z171 := Tryz.sizeOf262
 v171 := Tryz.zeroValue262
 t173 := Tryz.underlying266
 a173 := Tryz.isAgg266
 z173 := Tryz.sizeOf266
 v173 := Tryz.zeroValue266
 t175 := Tryz.underlying283
 a175 := Tryz.isAgg283
 z175 := Tryz.sizeOf283
 v175 := Tryz.zeroValue283
 t210 := Tryz.underlying286
 a210 := Tryz.isAgg286
 z210 := Tryz.sizeOf286
 v210 := Tryz.zeroValue286
 t212 := Tryz.underlying272
 a212 := Tryz.isAgg272
 z212 := Tryz.sizeOf272
 v212 := Tryz.zeroValue272
 t213 := Tryz.underlying273
 a213 := Tryz.isAgg273
 z213 := Tryz.sizeOf273
 t232 := Tryz.underlying288
 a232 := Tryz.isAgg288
 z232 := Tryz.sizeOf288
 v232 := Tryz.zeroValue288
 t233 := Tryz.underlying289
 a233 := Tryz.isAgg289
 z233 := Tryz.sizeOf289
 v233 := Tryz.zeroValue289
 g15 := by kernel_rfl
 g16 := by kernel_rfl
 g17 := by kernel_rfl
 g18 := by kernel_rfl
 g19 := by kernel_rfl
 t80 := Tryz.underlying231
 a80 := Tryz.isAgg231
 z80 := Tryz.sizeOf231
 v80 := Tryz.zeroValue231
 i0 := by kernel_rfl
 i2 := by kernel_rfl
 i3 := by kernel_rfl
 i4 := by kernel_rfl
 i5 := by kernel_rfl
 i9 := by kernel_rfl
 i20 := by kernel_rfl
 i21 := by kernel_rfl
 i37 := by kernel_rfl
 i46 := by kernel_rfl
 i51 := by kernel_rfl
 i53 := by kernel_rfl
 i75 := by kernel_rfl
 i76 := by kernel_rfl
 i80 := by kernel_rfl
 i85 := by kernel_rfl
 i127 := by kernel_rfl
 i143 := by kernel_rfl
 i145 := by kernel_rfl
 i167 := by kernel_rfl
 i168 := by kernel_rfl
 i171 := by kernel_rfl
 i173 := by kernel_rfl
 i175 := by kernel_rfl
 i210 := by kernel_rfl
 i212 := by kernel_rfl
 i232 := by kernel_rfl
 i233 := by kernel_rfl
 m15 := by kernel_rfl
 m16 := by kernel_rfl
 m17 := by kernel_rfl
 m18 := by kernel_rfl
 m19 := by kernel_rfl
 c0 := by kernel_rfl
 c2 := by kernel_rfl
 c3 := by kernel_rfl
 c4 := by kernel_rfl
 c5 := by kernel_rfl
 c9 := by kernel_rfl
 c20 := by kernel_rfl
 c21 := by kernel_rfl
 c37 := by kernel_rfl
 c46 := by kernel_rfl
 c51 := by kernel_rfl
 c53 := by kernel_rfl
 c75 := by kernel_rfl
 c76 := by kernel_rfl
 c80 := by kernel_rfl
 c85 := by kernel_rfl
 c127 := by kernel_rfl
 c143 := by kernel_rfl
 c145 := by kernel_rfl
 c167 := by kernel_rfl
 c168 := by kernel_rfl
 c171 := by kernel_rfl
 c173 := by kernel_rfl
 c175 := by kernel_rfl
 c210 := by kernel_rfl
 c212 := by kernel_rfl
 c213 := by kernel_rfl
 c232 := by kernel_rfl
 c233 := by kernel_rfl }
open Go.RowKit in
theorem Tryz.strconv_Atoi_ok (s : ByteArray) (hmax : s.size ≤ 9223372036854775806) (v : Int) (h : Lib.atoiAll s.data.toList = .ok v) (w : World) :
 Calls Tryz.prog 234 #[.string s] w fun e w' => e = .returned (.tuple #[.int .i64 v,.nilIface]) ∧ (w' = w ∨ ∃ t, w' = Lib.bytesWorld w 5 t) := Any.strconv_Atoi_ok Tryz.laysC172 s hmax v h w
end Go.Proofs
namespace Go.Proofs.YtmpffkpilbbclaaGreatDoor
section
open Go.RowKit
theorem bytes_below (w : World) (e : TypeId) (t : ByteArray) : Below w.heap.size w (Lib.bytesWorld w e t) := Lib.bytesWorld_below w e t

theorem atoi_num (s : ByteArray) (n : Nat) (w : World) (h : Hid (numOf s.data.toList = some n)) :
 Calls Tryz.prog 234 #[.string s] w fun e w' => e = .returned (.tuple #[.int .i64 n,.nilIface]) ∧ Below w.heap.size w w' := by
 obtain ⟨h1, h2⟩:=numOf_some h.out
 have hl:=numOf_len h.out
 have hs : s.size ≤ 18:=by simp at hl; omega
 refine (Tryz.strconv_Atoi s (n : Int) hs (by rw [← h2]; exact atoi_digits n) w).mono ?_
 rintro e w' ⟨rfl, t, rfl⟩
 exact ⟨rfl, bytes_below _ _ _⟩

def AtoiEnd (e : Ending) : Prop := (∃ v : Int, e = .returned (.tuple #[.int .i64 v,.nilIface])) ∨ ∃ (v : Int) (t : TypeId) (x : Value), e = .returned (.tuple #[.int .i64 v,.iface t x])
theorem atoi_any (s : ByteArray) (hs : s.size ≤ 33554432) (w : World) (u1 u2 : TypeId) (p1 p2 : Value) (hy : w.cell? ⟨3, 0, none⟩ = some (.iface u1 p1)) (hr : w.cell? ⟨4, 0, none⟩ = some (.iface u2 p2)) :
 Calls Tryz.prog 234 #[.string s] w fun e w' => AtoiEnd e ∧ Below w.heap.size w w' := by
 cases h : Lib.atoiAll s.data.toList
 ·refine (Tryz.strconv_Atoi_ok s (by omega) _ h w).mono ?_
  rintro e w' ⟨rfl, h1⟩
  refine ⟨.inl ⟨_, rfl⟩, ?_⟩
  rcases h1 with rfl | ⟨t, rfl⟩
  ·exact Below.refl _ _
  exact bytes_below _ _ _
 ·refine Calls.mono (Any.strconv_Atoi_syntax Tryz.laysC172 s (by omega) h _ w hy (.inr ⟨_, _, rfl⟩)) ?_
  rintro e w' ⟨N, rfl, _, _, hb⟩
  exact ⟨.inr ⟨_, _, _, rfl⟩, hb⟩
 refine Calls.mono (Any.strconv_Atoi_range Tryz.laysC172 s (by omega) h _ w hr (.inr ⟨_, _, rfl⟩)) ?_
 rintro e w' ⟨N, rfl, _, _, hb⟩
 exact ⟨.inr ⟨_, _, _, rfl⟩, hb⟩
theorem take_snoc (s : ByteArray) (k : Nat) (h : k < s.size) : s.data.toList.take (k + 1) = s.data.toList.take k ++ [s[k]] := by
 rw [List.take_succ_eq_append_getElem (by simpa using h)]; rfl
theorem byte_get (s : ByteArray) (k : Nat) (h : k < s.size) : s.data.toList[k]? = some s[k] := by
 rw [List.getElem?_eq_getElem (by simpa using h)]; rfl
theorem dec_step (s : ByteArray) (k n : Nat) (h : k < s.size) (hd : Lib.decFrom 0 (s.data.toList.take k) = some n) (h1 : 48 ≤ s[k].toNat) (h2 : s[k].toNat ≤ 57) :
 Lib.decFrom 0 (s.data.toList.take (k + 1)) = some (n * 10 + (s[k].toNat - 48)) :=
 Lib.decFrom_take s.data.toList k 0 n s[k] _ hd (byte_get s k h) (by rw [Lib.digitVal, if_pos ⟨h1, h2⟩])
theorem len_data (s : ByteArray) : s.data.toList.length = s.size := by simp

theorem specNumber_len (s : ByteArray) (w : World) (hm : s.size ≤ maxLen) (h : s.size < 1 ∨ 6 < s.size) :
 Calls Tryz.prog 125 #[.string s] w fun e w' => e = .returned (.tuple #[.int .i64 0,.bool false]) ∧ w' = w := by
 unfold maxLen at hm
 by_cases h1 : s.size < 1
 ·clear h
  go_enter Tryz.func125, Tryz.ntmps125
  go_wp2
  go_ret2
  exact ⟨rfl, rfl⟩
 have hd : decide ((s.size : Int) < 1) = false:=by simp; omega
 have h2 : 6 < s.size:=by omega
 clear h
 go_enter Tryz.func125, Tryz.ntmps125
 go_wp2
 go_ret2
 exact ⟨rfl, rfl⟩

theorem specNumber_six (s : ByteArray) (w : World) (h1 : 1 ≤ s.size) (h6 : s.size ≤ 6) :
 Calls Tryz.prog 125 #[.string s] w fun e w' => e = .returned (.tuple #[.int .i64 (nans (numOf s.data.toList)),.bool (numOf s.data.toList).isSome]) ∧ Below w.heap.size w w' := by
 have hd : decide ((s.size : Int) < 1) = false:=by simp; omega
 go_enter Tryz.func125, Tryz.ntmps125
 go_wp2
 go_loop [4, 5] (fun y i => ∃ k n : Nat, k ≤ s.size ∧ y = .int .i64 n ∧ i = .int .i64 k ∧ n < 10 ^ k ∧ Hid (Lib.decFrom 0 (s.data.toList.take k) = some n)) (fun _ i => s.size - (intOf i).toNat)
 case atStart => exact ⟨0, 0, by omega, rfl, rfl, by simp, rfl⟩
 case round =>
  obtain ⟨k, n, hk, rfl, rfl, hn, HD⟩:=hrel
  have hn6 : n ≤ 999999:=by
   have : 10 ^ k ≤ 10 ^ 6:=Nat.pow_le_pow_right (by omega) (by omega)
   omega
  by_cases hlt : k < s.size
  ·by_cases hb : 48 ≤ s[k].toNat ∧ s[k].toNat ≤ 57
   ·have HS:=hide (dec_step s k n hlt HD.out hb.1 hb.2)
    have hb1:=hb.1
    have hb2:=hb.2
    have hpow : n * 10 + (s[k].toNat - 48) < 10 ^ (k + 1):=by rw [Nat.pow_succ]; omega
    clear hb
    go_wp2
    go_round
    case rel => exact ⟨k + 1, n * 10 + (s[k].toNat - 48), by omega, by go_num, by go_num, hpow, HS⟩
    case measure => simp [intOf]; omega
   have HN:=hide (numOf_none_byte (byte_get s k hlt) (by omega))
   by_cases hb1 : s[k].toNat < 48
   ·clear hb
    go_wp2
    go_ret2
    exact ⟨by rw [HN.out]; rfl, Below.refl _ _⟩
   have hb2 : 57 < s[k].toNat:=by omega
   clear hb
   go_wp2
   go_ret2
   exact ⟨by rw [HN.out]; rfl, Below.refl _ _⟩
  have hks : k = s.size:=by omega
  have HD' : Hid (Lib.decFrom 0 s.data.toList = some n):=by
   have:=HD.out; rw [hks, List.take_of_length_le (by rw [len_data]; omega)] at this; exact this
  clear HD
  by_cases he : Lib.decDigits n = s.data.toList
  ·have HY:=hide (numOf_yes HD'.out hn6 he)
   have hs : (⟨(Lib.itoa (n : Int)).toArray⟩ : ByteArray) = s:=by rw [itoa_nat, he]
   have HC:=hide fun w => specDigits_any (n : Int) w (by omega) (by omega)
   rw [hs] at HC
   clear hs he
   go_wp2_with fail
   refine (HC.out _).mono ?_
   rintro e w1 ⟨rfl, b1⟩
   go_wp2
   go_ret2
   exact ⟨by rw [HY.out]; rfl, b1⟩
  have HN:=hide (numOf_no HD'.out he)
  have HC:=hide fun w => specDigits_any (n : Int) w (by omega) (by omega)
  obtain ⟨t, ht⟩ : ∃ t : ByteArray, t = ⟨(Lib.itoa (n : Int)).toArray⟩:=⟨_, rfl⟩
  rw [← ht] at HC
  have hne : t ≠ s:=by intro e; rw [ht, itoa_nat] at e; apply he; rw [← e]
  have hne':=str_ne hne
  clear ht he
  go_wp2_with fail
  refine (HC.out _).mono ?_
  rintro e w1 ⟨rfl, b1⟩
  go_wp2
  go_ret2
  exact ⟨by rw [HN.out]; rfl, b1⟩

theorem specNumber_any (s : ByteArray) (w : World) (hm : s.size ≤ maxLen) :
 Calls Tryz.prog 125 #[.string s] w fun e w' => e = .returned (.tuple #[.int .i64 (nans (numOf s.data.toList)),.bool (numOf s.data.toList).isSome]) ∧ Below w.heap.size w w' := by
 by_cases h : s.size < 1 ∨ 6 < s.size
 ·refine (specNumber_len s w hm h).mono ?_
  rintro e w' ⟨rfl, rfl⟩
  exact ⟨by rw [numOf_none_len (by rw [len_data]; exact h)]; rfl, Below.refl _ _⟩
 exact specNumber_six s w (by omega) (by omega)
theorem catch_panicking (p : Addr) (x : Bool) (u : TypeId) (pv : Value) (older : List PanicEntry) (w : World) (hc : w.cell? p = some (.bool x)) (hz : w.frozen? p = false) :
 CallsD Tryz.prog 233 #[.pointer (some p)] (.panicking ({ v := .iface u pv, recovered := false } :: older)) w fun e u' w' =>
  e = .returned (.tuple #[]) ∧ u' = .panicking ({ v := .iface u pv, recovered := true } :: older) ∧ w' = w.setCell p (.bool false) := by
 refine callsD_of_wpS Tryz.func233 rfl fun c₀ cs hu => ?_
 apply wpS_seq
 apply wpS_region
 simp [wpOpsS, go_sem, recoverD, hu, Tryz.ntmps233, Exit.thenS]
 refine wpS_cond (t := true) (by simp [Act.eval, Array.replicate]) ?_
 simp only [if_true]
 apply wpS_region
 simp [wpOpsS, go_sem, hc, hz, bodyPostS, results, Tryz.results233]

theorem catch_idle (p : Addr) (w : World) :
 CallsD Tryz.prog 233 #[.pointer (some p)] .returning w fun e u' w' => e = .returned (.tuple #[]) ∧ u' = .returning ∧ w' = w := by
 refine callsD_of_wpS Tryz.func233 rfl fun c₀ cs hu => ?_
 apply wpS_seq
 apply wpS_region
 simp [wpOpsS, go_sem, recoverD, hu, Tryz.ntmps233, Exit.thenS]
 refine wpS_cond (t := false) (by simp [Act.eval, Array.replicate]) ?_
 simp only [Bool.false_eq_true, if_false]
 refine wpS_of_wp (wp_skip ?_)
 cases c₀
 simp_all [bodyPostS, results, Tryz.results233]

theorem readable_ok (g : FuncId) (cap : Array Value) (w : World) (R : World → Prop) (hcf : ∀ w, (callFunc g cap).run Tryz.prog w = .ok (.enter g cap) w)
 (h : Calls Tryz.prog g cap (w.alloc (.cells #[.bool false] 4)) fun e w' => e = .returned (.tuple #[]) ∧ R w' ∧ w'.cell? ⟨w.heap.size, 0, none⟩ = some (.bool false) ∧ w'.frozen? ⟨w.heap.size, 0, none⟩ = false) :
 Calls Tryz.prog 219 #[.func (.func g) #[] cap] w fun e w' => e = .returned (.bool true) ∧ ∃ w1, R w1 ∧ w' = w1.setCell ⟨w.heap.size, 0, none⟩ (.bool true) := by
 have hmf : ∀ (fn : Fn) (first cap : Array Value) (w : World), (Instr.makeFunc fn first cap).run Tryz.prog w = .ok (.func fn first cap) w:=fun _ _ _ _ => rfl
 go_enter_defers Tryz.func219, Tryz.ntmps219
 go_wp2_with fail
 refine h.mono ?_
 rintro e w1 ⟨rfl, hR, hc, hz⟩
 go_wp2
 refine leaves_cons (f := 233) (args := #[.pointer (some ⟨w.heap.size, 0, none⟩)]) (by simp) (by simp [go_sem]) ?_
 refine (catch_idle ⟨w.heap.size, 0, none⟩ _).mono ?_
 rintro e u' w'' ⟨rfl, rfl, rfl⟩
 simp [Leaves, settle, results, Tryz.results219, go_sem]
 exact ⟨_, by rw [World.cell?_setCell_same _ _ _ hc], rfl, w1, hR, rfl⟩

theorem readable_no (g : FuncId) (cap : Array Value) (w : World) (R : World → Prop) (u : TypeId) (pv : Value) (hcf : ∀ w, (callFunc g cap).run Tryz.prog w = .ok (.enter g cap) w)
 (h : Calls Tryz.prog g cap (w.alloc (.cells #[.bool false] 4)) fun e w' => e = .panicked [{ v := .iface u pv, recovered := false }] ∧ R w' ∧ w'.cell? ⟨w.heap.size, 0, none⟩ = some (.bool false) ∧ w'.frozen? ⟨w.heap.size, 0, none⟩ = false) :
 Calls Tryz.prog 219 #[.func (.func g) #[] cap] w fun e w' => e = .returned (.bool false) ∧ ∃ w1, R w1 ∧ w' = w1.setCell ⟨w.heap.size, 0, none⟩ (.bool false) := by
 have hmf : ∀ (fn : Fn) (first cap : Array Value) (w : World), (Instr.makeFunc fn first cap).run Tryz.prog w = .ok (.func fn first cap) w:=fun _ _ _ _ => rfl
 go_enter_defers Tryz.func219, Tryz.ntmps219
 go_wp2_with fail
 refine h.mono ?_
 rintro e w1 ⟨rfl, hR, hc, hz⟩
 go_wp2
 refine leaves_cons (f := 233) (args := #[.pointer (some ⟨w.heap.size, 0, none⟩)]) (by simp) (by simp [go_sem]) ?_
 refine (catch_panicking ⟨w.heap.size, 0, none⟩ false u pv [] _ hc hz).mono ?_
 rintro e u' w'' ⟨rfl, rfl, rfl⟩
 simp [Leaves, settle, results, Tryz.results219, go_sem]
 exact ⟨_, by rw [World.cell?_setCell_same _ _ _ hc], rfl, w1, hR, rfl⟩
theorem readDigits_some (s : ByteArray) (n : Nat) (w : World) (ht : Pow w) (h : Hid (numOf s.data.toList = some n)) :
 Calls Tryz.prog 221 #[.string s] w fun e w' => e = .returned (.int .i64 n) ∧ Below w.heap.size w w' := by
 obtain ⟨h1, h2⟩:=numOf_some h.out
 have hs : (⟨(Lib.itoa (n : Int)).toArray⟩ : ByteArray) = s:=by rw [itoa_nat, h2]
 have HA:=hide (atoi_num s n w h)
 have HC:=hide fun w ht => implDigits_any (n : Int) w (by omega) (by omega) ht
 rw [hs] at HC
 have HT:=hide ht
 clear hs h2 ht
 go_enter Tryz.func221, Tryz.ntmps221
 go_wp2_with fail
 refine HA.out.mono ?_
 rintro e w1 ⟨rfl, b1⟩
 have s1:=b1.size
 have H1:=hide (HT.out.below b1)
 go_wp2_with fail
 refine (HC.out _ H1.out).mono ?_
 rintro e w2 ⟨rfl, b2⟩
 go_wp2
 go_ret
 exact ⟨rfl, b1.trans (b2.mono s1)⟩

structure Env (w : World) : Prop where
 pow : Pow w
 no : ∃ u pv, w.cell? ⟨1, 0, none⟩ = some (.iface u pv)
 syn : ∃ u pv, w.cell? ⟨3, 0, none⟩ = some (.iface u pv)
 ran : ∃ u pv, w.cell? ⟨4, 0, none⟩ = some (.iface u pv)
theorem Env.below {w w' : World} (h : Env w) (hb : Below w.heap.size w w') : Env w' := by
 refine ⟨h.pow.below hb, ?_, ?_, ?_⟩
 ·obtain ⟨u, pv, e⟩:=h.no; exact ⟨u, pv, (hb.cell (cell_lt e)).trans e⟩
 ·obtain ⟨u, pv, e⟩:=h.syn; exact ⟨u, pv, (hb.cell (cell_lt e)).trans e⟩
 obtain ⟨u, pv, e⟩:=h.ran; exact ⟨u, pv, (hb.cell (cell_lt e)).trans e⟩

theorem readDigits_none (s : ByteArray) (hs : s.size ≤ 33554432) (u : TypeId) (pv : Value) (w : World) (hE : Env w) (he : w.cell? ⟨1, 0, none⟩ = some (.iface u pv)) (h : Hid (numOf s.data.toList = none)) :
 Calls Tryz.prog 221 #[.string s] w fun e w' => e = .panicked [{ v := .iface u pv, recovered := false }] ∧ Below w.heap.size w w' := by
 obtain ⟨u1, p1, hy⟩:=hE.syn
 obtain ⟨u2, p2, hr⟩:=hE.ran
 have HA:=hide (atoi_any s hs w u1 u2 p1 p2 hy hr)
 have hlt : 1 < w.heap.size:=cell_lt he
 have HE:=hide hE
 clear hE hy hr
 go_enter Tryz.func221, Tryz.ntmps221
 go_wp2_with fail
 refine HA.out.mono ?_
 rintro e w1 ⟨h1, b1⟩
 have s1:=b1.size
 have e1:=(b1.cell hlt).trans he
 rcases h1 with ⟨v, rfl⟩ | ⟨v, t, x, rfl⟩
 ·by_cases h0 : v < 0
  ·go_wp2
   exact ⟨rfl, rfl, b1⟩
  have hd0 : decide (v < 0) = false:=by simpa using h0
  by_cases h9 : 999999 < v
  ·go_wp2
   exact ⟨rfl, rfl, b1⟩
  have hd9 : decide (999999 < v) = false:=by simpa using h9
  have H1:=hide (HE.out.below b1).pow
  obtain ⟨n, rfl⟩:=Int.eq_ofNat_of_zero_le (Int.not_lt.1 h0)
  obtain ⟨r, hr⟩ : ∃ r : ByteArray, r = ⟨(Lib.itoa (n : Int)).toArray⟩:=⟨_, rfl⟩
  have hne : r ≠ s:=by
   intro e
   rw [hr, itoa_nat] at e
   have:=h.out
   rw [← e] at this
   rw [numOf_of (by omega)] at this
   cases this
  have hne':=str_ne hne
  have HC:=hide fun w ht => implDigits_any (n : Int) w (by omega) (by omega) ht
  rw [← hr] at HC
  clear hr hne
  go_wp2_with fail
  refine (HC.out _ H1.out).mono ?_
  rintro e w2 ⟨rfl, b2⟩
  have e2:=(b2.cell (Nat.lt_of_lt_of_le hlt s1)).trans e1
  go_wp2
  exact ⟨rfl, rfl, b1.trans (b2.mono s1)⟩
 go_wp2
 exact ⟨rfl, rfl, b1⟩
theorem digClo_some (B : Nat) (s : ByteArray) (n : Nat) (x : Value) (w : World) (hE : Env w) (hr : Hid (numOf s.data.toList = some n)) (h0 : w.cell? ⟨B, 0, none⟩ = some (.string s)) (h1 : w.cell? ⟨B + 1, 0, none⟩ = some x) (f1 : w.frozen? ⟨B + 1, 0, none⟩ = false) :
 Calls Tryz.prog 220 #[.pointer (some ⟨B, 0, none⟩),.pointer (some ⟨B + 1, 0, none⟩)] w fun e w' => e = .returned (.tuple #[]) ∧ ∃ w2, Below w.heap.size w w2 ∧ w' = w2.setCell ⟨B + 1, 0, none⟩ (.int .i64 n) := by
 have HA:=hide (readDigits_some s n w hE.pow hr)
 have hlt : B + 1 < w.heap.size:=cell_lt h1
 clear hE
 go_enter Tryz.func220, Tryz.ntmps220
 go_wp2_with fail
 refine HA.out.mono ?_
 rintro e w1 ⟨rfl, b1⟩
 have c1 : w1.cell? ⟨B + 1, 0, none⟩ = some x:=(b1.cell hlt).trans h1
 have g1 : w1.frozen? ⟨B + 1, 0, none⟩ = false:=(b1.frozen (p:=⟨B + 1, 0, none⟩) hlt).trans f1
 go_wp2
 go_end0
 exact ⟨rfl, _, b1, rfl⟩

theorem digClo_none (B : Nat) (s : ByteArray) (hs : s.size ≤ 33554432) (u : TypeId) (pv : Value) (w : World) (hE : Env w) (he : w.cell? ⟨1, 0, none⟩ = some (.iface u pv)) (hr : Hid (numOf s.data.toList = none)) (h0 : w.cell? ⟨B, 0, none⟩ = some (.string s)) :
 Calls Tryz.prog 220 #[.pointer (some ⟨B, 0, none⟩),.pointer (some ⟨B + 1, 0, none⟩)] w fun e w' => e = .panicked [{ v := .iface u pv, recovered := false }] ∧ Below w.heap.size w w' := by
 have HA:=hide (readDigits_none s hs u pv w hE he hr)
 clear hE he
 go_enter Tryz.func220, Tryz.ntmps220
 go_wp2_with fail
 refine HA.out.mono ?_
 rintro e w1 ⟨rfl, b1⟩
 go_wp2
 exact ⟨rfl, rfl, b1⟩

theorem new_cell (w : World) (x : Value) (t : TypeId) : (w.alloc (.cells #[x] t)).cell? ⟨w.heap.size, 0, none⟩ = some x := by simp
theorem new_free (w : World) (x : Value) (t : TypeId) : (w.alloc (.cells #[x] t)).frozen? ⟨w.heap.size, 0, none⟩ = false := by simp [go_sem]
abbrev nboxes (w : World) (s : ByteArray) : World := (w.alloc (.cells #[.string s] 9)).alloc (.cells #[.int .i64 0] 3)
theorem nboxes_below (w : World) (s : ByteArray) : Below w.heap.size w (nboxes w s) := ((Below.refl _ _).alloc (Nat.le_refl _) _).alloc (by simp) _
theorem nboxes_size (w : World) (s : ByteArray) : (nboxes w s).heap.size = w.heap.size + 2 := by simp
theorem nboxes_ok (w : World) (s : ByteArray) (o : Obj) :
 ((nboxes w s).alloc o).cell? ⟨w.heap.size, 0, none⟩ = some (.string s) ∧ ((nboxes w s).alloc o).cell? ⟨w.heap.size + 1, 0, none⟩ = some (.int .i64 0) ∧ ((nboxes w s).alloc o).frozen? ⟨w.heap.size + 1, 0, none⟩ = false := by
 simp [nboxes, go_sem]

theorem rdDig_some (s : ByteArray) (n : Nat) (w : World) (hE : Env w) (hr : Hid (numOf s.data.toList = some n)) :
 Calls Tryz.prog 219 #[.func (.func 220) #[] #[.pointer (some ⟨w.heap.size, 0, none⟩),.pointer (some ⟨w.heap.size + 1, 0, none⟩)]] (nboxes w s) fun e w' =>
  e = .returned (.bool true) ∧ w'.cell? ⟨w.heap.size + 1, 0, none⟩ = some (.int .i64 n) ∧ Below w.heap.size w w' := by
 obtain ⟨c0, c1, f1⟩:=nboxes_ok w s (.cells #[.bool false] 4)
 have hbl : Below w.heap.size w ((nboxes w s).alloc (.cells #[.bool false] 4)):=(nboxes_below w s).alloc (by rw [nboxes_size]; omega) _
 have hbs:=nboxes_size w s
 have hsz : ((nboxes w s).alloc (.cells #[.bool false] 4)).heap.size = w.heap.size + 3:=by simp
 refine (readable_ok 220 _ (nboxes w s) (fun w1 => ∃ w2, Below ((nboxes w s).alloc (.cells #[.bool false] 4)).heap.size ((nboxes w s).alloc (.cells #[.bool false] 4)) w2 ∧ w1 = w2.setCell ⟨w.heap.size + 1, 0, none⟩ (.int .i64 n)) (fun _ => by simp [go_sem]) ?_).mono ?_
 ·refine (digClo_some w.heap.size s n _ _ (hE.below hbl) hr c0 c1 f1).mono ?_
  rintro e w' ⟨rfl, w2, b2, rfl⟩
  have hok : (⟨(nboxes w s).heap.size, 0, none⟩ : Addr).block < ((nboxes w s).alloc (.cells #[.bool false] 4)).heap.size:=by rw [hsz]; show (nboxes w s).heap.size < _; rw [hbs]; omega
  refine ⟨rfl, ⟨w2, b2, rfl⟩, ?_, ?_⟩
  ·rw [World.cell?_setCell_other _ _ _ _ (by simp)]
   exact (b2.cell hok).trans (new_cell _ _ _)
  rw [World.frozen?_setCell]
  exact (b2.frozen hok).trans (new_free _ _ _)
 rintro e w' ⟨rfl, w1, ⟨w2, b2, rfl⟩, rfl⟩
 refine ⟨rfl, ?_, ?_⟩
 ·rw [World.cell?_setCell_other _ _ _ _ (by simp)]
  exact World.cell?_setCell_same _ _ _ ((b2.cell (by rw [hsz]; show w.heap.size + 1 < _; omega)).trans c1)
 exact ((hbl.trans (b2.mono (by rw [hsz]; omega))).setCell (by simp) _).setCell (by rw [hbs]; simp) _

theorem rdDig_none (s : ByteArray) (hs : s.size ≤ 33554432) (w : World) (hE : Env w) (hr : Hid (numOf s.data.toList = none)) :
 Calls Tryz.prog 219 #[.func (.func 220) #[] #[.pointer (some ⟨w.heap.size, 0, none⟩),.pointer (some ⟨w.heap.size + 1, 0, none⟩)]] (nboxes w s) fun e w' =>
  e = .returned (.bool false) ∧ w'.cell? ⟨w.heap.size + 1, 0, none⟩ = some (.int .i64 0) ∧ Below w.heap.size w w' := by
 obtain ⟨c0, c1, f1⟩:=nboxes_ok w s (.cells #[.bool false] 4)
 have hbl : Below w.heap.size w ((nboxes w s).alloc (.cells #[.bool false] 4)):=(nboxes_below w s).alloc (by rw [nboxes_size]; omega) _
 have hbs:=nboxes_size w s
 have hsz : ((nboxes w s).alloc (.cells #[.bool false] 4)).heap.size = w.heap.size + 3:=by simp
 obtain ⟨u, pv, he⟩:=hE.no
 refine (readable_no 220 _ (nboxes w s) (fun w1 => Below ((nboxes w s).alloc (.cells #[.bool false] 4)).heap.size ((nboxes w s).alloc (.cells #[.bool false] 4)) w1) u pv (fun _ => by simp [go_sem]) ?_).mono ?_
 ·refine (digClo_none w.heap.size s hs u pv _ (hE.below hbl) ((hbl.cell (cell_lt he)).trans he) hr c0).mono ?_
  rintro e w' ⟨rfl, b2⟩
  have hok : (⟨(nboxes w s).heap.size, 0, none⟩ : Addr).block < ((nboxes w s).alloc (.cells #[.bool false] 4)).heap.size:=by rw [hsz]; show (nboxes w s).heap.size < _; rw [hbs]; omega
  exact ⟨rfl, b2, (b2.cell hok).trans (new_cell _ _ _), (b2.frozen hok).trans (new_free _ _ _)⟩
 rintro e w' ⟨rfl, w1, b2, rfl⟩
 refine ⟨rfl, ?_, ?_⟩
 ·rw [World.cell?_setCell_other _ _ _ _ (by simp)]
  exact (b2.cell (by rw [hsz]; show w.heap.size + 1 < _; omega)).trans c1
 exact (hbl.trans (b2.mono (by rw [hsz]; omega))).setCell (by rw [hbs]; simp) _

theorem number_some (s : ByteArray) (n : Nat) (w : World) (hE : Env w) (hr : Hid (numOf s.data.toList = some n)) :
 Calls Tryz.prog 207 #[.string s] w fun e w' => e = .returned (.tuple #[.int .i64 n,.bool true]) ∧ Below w.heap.size w w' := by
 have hmf : ∀ (fn : Fn) (first cap : Array Value) (w : World), (Instr.makeFunc fn first cap).run Tryz.prog w = .ok (.func fn first cap) w:=fun _ _ _ _ => rfl
 have HR:=hide (rdDig_some s n w hE hr)
 clear hE
 go_enter Tryz.func207, Tryz.ntmps207
 go_wp2_with fail
 refine HR.out.mono ?_
 rintro e w' ⟨rfl, c1, bel⟩
 go_wp2
 go_ret2
 exact ⟨rfl, bel⟩

theorem number_none (s : ByteArray) (hs : s.size ≤ 33554432) (w : World) (hE : Env w) (hr : Hid (numOf s.data.toList = none)) :
 Calls Tryz.prog 207 #[.string s] w fun e w' => e = .returned (.tuple #[.int .i64 0,.bool false]) ∧ Below w.heap.size w w' := by
 have hmf : ∀ (fn : Fn) (first cap : Array Value) (w : World), (Instr.makeFunc fn first cap).run Tryz.prog w = .ok (.func fn first cap) w:=fun _ _ _ _ => rfl
 have HR:=hide (rdDig_none s hs w hE hr)
 clear hE
 go_enter Tryz.func207, Tryz.ntmps207
 go_wp2_with fail
 refine HR.out.mono ?_
 rintro e w' ⟨rfl, c1, bel⟩
 go_wp2
 go_ret2
 exact ⟨rfl, bel⟩

theorem number_any (s : ByteArray) (hs : s.size ≤ 33554432) (w : World) (hE : Env w) :
 Calls Tryz.prog 207 #[.string s] w fun e w' => e = .returned (.tuple #[.int .i64 (nans (numOf s.data.toList)),.bool (numOf s.data.toList).isSome]) ∧ Below w.heap.size w w' := by
 cases hr : numOf s.data.toList with
 | none => exact number_none s hs w hE hr
 | some n => exact number_some s n w hE hr
end
end Go.Proofs.YtmpffkpilbbclaaGreatDoor
