/-
  Joined: Shelf, QNum, QEsc, QUtf, Grow.
-/
import Derived.Shelf.Strings.Trim
import Derived.Shelf.Small.Wraps
import Derived.Shelf.Strings.BuilderK
import Derived.Shelf.Strconv.Itoa3
import Derived.Shelf.Strconv.ToError
import Derived.Shelf.Strconv.Lower
import Derived.Shelf.Strconv.AtoiAll
import Derived.Shelf.Strings.Search1
import Derived.Shelf.Strings.Prefix
import Derived.Test.YtldioobbfkaebaaGreatDoorProg
import Derived.Test.YtldioobbfkaebaaGreatDoorEvalHoldsJ3
import Derived.Lib.ConvBytes
import Derived.Lib.Walk
import Derived.Lib.AtoiAllMem
import Derived.Laws.Strings3
import Derived.Shelf.Spec.SlicesGrow
namespace Go.Proofs
open Go.Shelf
def Tryz.lays169_ren : Go.Shelf.Ren := ⟨fun | 169 => 216 | n => n, fun | 70 => 223 | 9 => 9 | 0 => 0 | 72 => 225 | 37 => 84 | 127 => 255 | 3 => 3 | 5 => 5 | n => n, fun | n => n⟩
theorem Tryz.lays169 : Go.Proofs.Lays.n169 Tryz.prog Tryz.lays169_ren := {
 mixed := by kernel_rfl
 f169 := Tryz.func216.trans (congrArg some (by kernel_rfl))
 t0 := Tryz.underlying0
 a0 := Tryz.isAgg0
 z0 := Tryz.sizeOf0
 v0 := Tryz.zeroValue0
 t3 := Tryz.underlying3
 a3 := Tryz.isAgg3
 z3 := Tryz.sizeOf3
 v3 := Tryz.zeroValue3
 t9 := Tryz.underlying9
 a9 := Tryz.isAgg9
 z9 := Tryz.sizeOf9
 v9 := Tryz.zeroValue9
 t37 := Tryz.underlying84
 a37 := Tryz.isAgg84
 z37 := Tryz.sizeOf84
 v37 := Tryz.zeroValue84
 t70 := Tryz.underlying223
 a70 := Tryz.isAgg223
 z70 := Tryz.sizeOf223
 v70 := Tryz.zeroValue223
 t72 := Tryz.underlying225
 a72 := Tryz.isAgg225
 z72 := Tryz.sizeOf225
 v72 := Tryz.zeroValue225
 t127 := Tryz.underlying255
 a127 := Tryz.isAgg255
 z127 := Tryz.sizeOf255
 v127 := Tryz.zeroValue255 }
theorem Tryz.Builder_Extra_169 : Builder.Extra Tryz.prog Tryz.lays169_ren := {
 sizeBuilder := by kernel_rfl
 liesBuilder := by kernel_rfl
 t5 := Tryz.underlying5
 a5 := Tryz.isAgg5
 z5 := Tryz.sizeOf5
 v5 := Tryz.zeroValue5
 infoByte := by kernel_rfl
 cellsByte := by kernel_rfl
 sizeByte := by kernel_rfl
 neB5 := by decide }
def Tryz.lays103_ren : Go.Shelf.Ren := ⟨fun | 103 => 188 | 210 => 210 | 206 => 187 | n => n, fun | 9 => 9 | 4 => 4 | 24 => 201 | 3 => 3 | n => n, fun | n => n⟩
theorem Tryz.lays103 : Go.Proofs.Lays.n103 Tryz.prog Tryz.lays103_ren := {
 mixed := by kernel_rfl
 f103 := Tryz.func188.trans (congrArg some (by kernel_rfl))
 f206 := Tryz.func187.trans (congrArg some (by kernel_rfl))
 f210 := Tryz.func210.trans (congrArg some (by kernel_rfl))
 t3 := Tryz.underlying3
 a3 := Tryz.isAgg3
 z3 := Tryz.sizeOf3
 v3 := Tryz.zeroValue3
 t4 := Tryz.underlying4
 a4 := Tryz.isAgg4
 z4 := Tryz.sizeOf4
 v4 := Tryz.zeroValue4
 t9 := Tryz.underlying9
 a9 := Tryz.isAgg9
 z9 := Tryz.sizeOf9
 v9 := Tryz.zeroValue9
 t24 := Tryz.underlying201
 a24 := Tryz.isAgg201
 z24 := Tryz.sizeOf201
 v24 := Tryz.zeroValue201 }
open Go.RowKit in
theorem Tryz.strings_CutPrefix (s p : ByteArray) (w : World) :
  Calls Tryz.prog 188 #[.string s, .string p] w fun e w' => e = .returned (.tuple #[.string ⟨(Lib.trimPrefix s.data.toList p.data.toList).toArray⟩, .bool (Lib.hasPrefix s.data.toList p.data.toList)]) ∧ w' = w := Any.strings_CutPrefix Tryz.lays103 s p w
def Tryz.lays122_ren : Go.Shelf.Ren := ⟨fun | 122 => 159 | 215 => 180 | n => n, fun | 3 => 3 | 4 => 4 | n => n, fun | n => n⟩
theorem Tryz.lays122 : Go.Proofs.Lays.n122 Tryz.prog Tryz.lays122_ren := {
 mixed := by kernel_rfl
 f122 := Tryz.func159.trans (congrArg some (by kernel_rfl))
 f215 := Tryz.func180.trans (congrArg some (by kernel_rfl))
 t3 := Tryz.underlying3
 a3 := Tryz.isAgg3
 z3 := Tryz.sizeOf3
 v3 := Tryz.zeroValue3
 t4 := Tryz.underlying4
 a4 := Tryz.isAgg4
 z4 := Tryz.sizeOf4
 v4 := Tryz.zeroValue4 }
open Go.RowKit in
theorem Tryz.cmp_Compare_int (x y : Int) (w : World) :
  Calls Tryz.prog 159 #[.int .i64 x, .int .i64 y] w fun e w' => e = .returned (.int .i64 (Lib.compareInt x y)) ∧ w' = w := Any.cmp_Compare_int Tryz.lays122 x y w
open Go.RowKit in
theorem Tryz.Builder_String_any_k (B b : Nat) (l : List UInt8) (w : World) (h : Lib.IsBuilderF 225 5 B b (Lib.byteCells l) w) (hBw : B ≤ w.heap.size) :
  Calls Tryz.prog 216 #[.pointer (some ⟨b, 0, none⟩)] w fun e w' => e = .returned (.string ⟨l.toArray⟩) ∧ (Lib.IsBuilderF 225 5 B b (Lib.byteCells l) w' ∧ Below B w w' ∧ Lib.OthersKept 5 (some b) w w') := Any.Builder_String_any_k Tryz.lays169 Tryz.Builder_Extra_169 B b l w h hBw
def Tryz.laysM171_ren : Go.Shelf.Ren := ⟨fun | 171 => 153 | 243 => 176 | 246 => 209 | 283 => 233 | 284 => 234 | 285 => 235 | 286 => 236 | 129 => 253 | 317 => 252 | 318 => 254 | 319 => 255 | 320 => 256 | 337 => 269 | 338 => 270 | n => n, fun | 3 => 3 | 9 => 9 | 2 => 2 | 4 => 4 | 171 => 243 | 0 => 0 | 53 => 244 | 37 => 84 | 5 => 5 | 173 => 247 | 212 => 261 | 51 => 262 | 20 => 20 | 213 => 263 | 46 => 191 | 232 => 281 | 233 => 282 | n => n, fun | 17 => 2 | 18 => 6 | 19 => 7 | n => n⟩
theorem Tryz.laysM171 : Go.Proofs.LaysM.n171 Tryz.prog Tryz.laysM171_ren := {
 mixed := by kernel_rfl
 f129 := Tryz.func253.trans (congrArg some (by kernel_rfl))
 f171 := Tryz.func153.trans (congrArg some (by kernel_rfl))
 f243 := Tryz.func176.trans (congrArg some (by kernel_rfl))
 f246 := Tryz.func209.trans (congrArg some (by kernel_rfl))
 f283 := Tryz.func233.trans (congrArg some (by kernel_rfl))
 f284 := Tryz.func234.trans (congrArg some (by kernel_rfl))
 f285 := Tryz.func235.trans (congrArg some (by kernel_rfl))
 f286 := Tryz.func236.trans (congrArg some (by kernel_rfl))
 f317 := Tryz.func252.trans (congrArg some (by kernel_rfl))
 f318 := Tryz.func254.trans (congrArg some (by kernel_rfl))
 f319 := Tryz.func255.trans (congrArg some (by kernel_rfl))
 f320 := Tryz.func256.trans (congrArg some (by kernel_rfl))
 f337 := Tryz.func269.trans (congrArg some (by kernel_rfl))
 f338 := Tryz.func270.trans (congrArg some (by kernel_rfl))
 t0 := Tryz.underlying0
 a0 := Tryz.isAgg0
 z0 := Tryz.sizeOf0
 v0 := Tryz.zeroValue0
 t2 := Tryz.underlying2
 a2 := Tryz.isAgg2
 z2 := Tryz.sizeOf2
 v2 := Tryz.zeroValue2
 t3 := Tryz.underlying3
 a3 := Tryz.isAgg3
 z3 := Tryz.sizeOf3
 v3 := Tryz.zeroValue3
 t4 := Tryz.underlying4
 a4 := Tryz.isAgg4
 z4 := Tryz.sizeOf4
 v4 := Tryz.zeroValue4
 t5 := Tryz.underlying5
 a5 := Tryz.isAgg5
 z5 := Tryz.sizeOf5
 v5 := Tryz.zeroValue5
 t9 := Tryz.underlying9
 a9 := Tryz.isAgg9
 z9 := Tryz.sizeOf9
 v9 := Tryz.zeroValue9
 t20 := Tryz.underlying20
 a20 := Tryz.isAgg20
 z20 := Tryz.sizeOf20
 v20 := Tryz.zeroValue20
 t37 := Tryz.underlying84
 a37 := Tryz.isAgg84
 z37 := Tryz.sizeOf84
 v37 := Tryz.zeroValue84
 t46 := Tryz.underlying191
 a46 := Tryz.isAgg191
 z46 := Tryz.sizeOf191
 v46 := Tryz.zeroValue191
 t51 := Tryz.underlying262
 a51 := Tryz.isAgg262
 z51 := Tryz.sizeOf262
 v51 := Tryz.zeroValue262
 t53 := Tryz.underlying244
 a53 := Tryz.isAgg244
 z53 := Tryz.sizeOf244
 v53 := Tryz.zeroValue244
 t171 := Tryz.underlying243
 a171 := Tryz.isAgg243
 z171 := Tryz.sizeOf243
 v171 := Tryz.zeroValue243
 t173 := Tryz.underlying247
 a173 := Tryz.isAgg247
 z173 := Tryz.sizeOf247
 v173 := Tryz.zeroValue247
 t212 := Tryz.underlying261
 a212 := Tryz.isAgg261
 z212 := Tryz.sizeOf261
 v212 := Tryz.zeroValue261
 t213 := Tryz.underlying263
 a213 := Tryz.isAgg263
 z213 := Tryz.sizeOf263
 t232 := Tryz.underlying281
 a232 := Tryz.isAgg281
 z232 := Tryz.sizeOf281
 v232 := Tryz.zeroValue281
 t233 := Tryz.underlying282
 a233 := Tryz.isAgg282
 z233 := Tryz.sizeOf282
 v233 := Tryz.zeroValue282
 g17 := by kernel_rfl
 g18 := by kernel_rfl
 g19 := by kernel_rfl
 i0 := by kernel_rfl
 i2 := by kernel_rfl
 i3 := by kernel_rfl
 i4 := by kernel_rfl
 i5 := by kernel_rfl
 i9 := by kernel_rfl
 i20 := by kernel_rfl
 i37 := by kernel_rfl
 i46 := by kernel_rfl
 i51 := by kernel_rfl
 i53 := by kernel_rfl
 i171 := by kernel_rfl
 i173 := by kernel_rfl
 i212 := by kernel_rfl
 i232 := by kernel_rfl
 i233 := by kernel_rfl
 m17 := by kernel_rfl
 m18 := by kernel_rfl
 m19 := by kernel_rfl }
open Go.RowKit Go.Sort Go.Lib in
theorem Tryz.strconv_Itoa (n : Int) (h0 : -9223372036854775808 ≤ n) (h1 : n ≤ 9223372036854775807) (w : World) (htab : Lib.TabIs Tryz.prog w "internal/strconv.uint64pow10" .u64 Lib.pow10Tab) :
  Calls Tryz.prog 153 #[.int .i64 n] w fun e w' => e = .returned (.string ⟨(Lib.itoa n).toArray⟩) ∧ ∃ k os, w' = grow (w.drewN k) os := Any.strconv_Itoa Tryz.laysM171 n h0 h1 w htab
def Tryz.laysC245_ren : Go.Shelf.Ren := ⟨fun | 245 => 213 | 279 => 239 | 280 => 240 | 281 => 241 | 282 => 242 | 316 => 262 | 171 => 153 | 205 => 263 | 243 => 176 | 246 => 209 | 283 => 233 | 284 => 234 | 285 => 235 | 286 => 236 | 129 => 253 | 317 => 252 | 318 => 254 | 319 => 255 | 320 => 256 | 337 => 269 | 338 => 270 | n => n, fun | 9 => 9 | 3 => 3 | 75 => 206 | 167 => 249 | 4 => 4 | 168 => 252 | 210 => 269 | 37 => 84 | 0 => 0 | 127 => 255 | 145 => 280 | 143 => 278 | 2 => 2 | 171 => 243 | 53 => 244 | 5 => 5 | 173 => 247 | 212 => 261 | 51 => 262 | 20 => 20 | 213 => 263 | 46 => 191 | 232 => 281 | 233 => 282 | 80 => 227 | n => n, fun | 15 => 4 | 16 => 5 | 17 => 2 | 18 => 6 | 19 => 7 | n => n⟩
theorem Tryz.laysC245 : Go.Proofs.LaysC.n245 Tryz.prog Tryz.laysC245_ren := {
 mixed := by kernel_rfl
 f129 := Tryz.func253.trans (congrArg some (by kernel_rfl))
 f171 := Tryz.func153.trans (congrArg some (by kernel_rfl))
 f205 := Tryz.func263.trans (congrArg some (by kernel_rfl))
 f243 := Tryz.func176.trans (congrArg some (by kernel_rfl))
 f245 := Tryz.func213.trans (congrArg some (by kernel_rfl))
 f246 := Tryz.func209.trans (congrArg some (by kernel_rfl))
 f279 := Tryz.func239.trans (congrArg some (by kernel_rfl))
 f280 := Tryz.func240.trans (congrArg some (by kernel_rfl))
 f281 := Tryz.func241.trans (congrArg some (by kernel_rfl))
 f282 := Tryz.func242.trans (congrArg some (by kernel_rfl))
 f283 := Tryz.func233.trans (congrArg some (by kernel_rfl))
 f284 := Tryz.func234.trans (congrArg some (by kernel_rfl))
 f285 := Tryz.func235.trans (congrArg some (by kernel_rfl))
 f286 := Tryz.func236.trans (congrArg some (by kernel_rfl))
 f316 := Tryz.func262.trans (congrArg some (by kernel_rfl))
 f317 := Tryz.func252.trans (congrArg some (by kernel_rfl))
 f318 := Tryz.func254.trans (congrArg some (by kernel_rfl))
 f319 := Tryz.func255.trans (congrArg some (by kernel_rfl))
 f320 := Tryz.func256.trans (congrArg some (by kernel_rfl))
 f337 := Tryz.func269.trans (congrArg some (by kernel_rfl))
 f338 := Tryz.func270.trans (congrArg some (by kernel_rfl))
 t0 := Tryz.underlying0
 a0 := Tryz.isAgg0
 z0 := Tryz.sizeOf0
 v0 := Tryz.zeroValue0
 t2 := Tryz.underlying2
 a2 := Tryz.isAgg2
 z2 := Tryz.sizeOf2
 v2 := Tryz.zeroValue2
 t3 := Tryz.underlying3
 a3 := Tryz.isAgg3
 z3 := Tryz.sizeOf3
 v3 := Tryz.zeroValue3
 t4 := Tryz.underlying4
 a4 := Tryz.isAgg4
 z4 := Tryz.sizeOf4
 v4 := Tryz.zeroValue4
 t5 := Tryz.underlying5
 a5 := Tryz.isAgg5
 z5 := Tryz.sizeOf5
 v5 := Tryz.zeroValue5
 t9 := Tryz.underlying9
 a9 := Tryz.isAgg9
 z9 := Tryz.sizeOf9
 v9 := Tryz.zeroValue9
 t20 := Tryz.underlying20
 a20 := Tryz.isAgg20
 z20 := Tryz.sizeOf20
 v20 := Tryz.zeroValue20
 t37 := Tryz.underlying84
 a37 := Tryz.isAgg84
 z37 := Tryz.sizeOf84
 v37 := Tryz.zeroValue84
 t46 := Tryz.underlying191
 a46 := Tryz.isAgg191
 z46 := Tryz.sizeOf191
 v46 := Tryz.zeroValue191
 t51 := Tryz.underlying262
 a51 := Tryz.isAgg262
 z51 := Tryz.sizeOf262
 v51 := Tryz.zeroValue262
 t53 := Tryz.underlying244
 a53 := Tryz.isAgg244
 z53 := Tryz.sizeOf244
 v53 := Tryz.zeroValue244
 t75 := Tryz.underlying206
 a75 := Tryz.isAgg206
 z75 := Tryz.sizeOf206
 v75 := Tryz.zeroValue206
 t127 := Tryz.underlying255
 a127 := Tryz.isAgg255
 z127 := Tryz.sizeOf255
 v127 := Tryz.zeroValue255
 t143 := Tryz.underlying278
 a143 := Tryz.isAgg278
 z143 := Tryz.sizeOf278
 v143 := Tryz.zeroValue278
 t145 := Tryz.underlying280
 a145 := Tryz.isAgg280
 z145 := Tryz.sizeOf280
 v145 := Tryz.zeroValue280
 t167 := Tryz.underlying249
 a167 := Tryz.isAgg249
 z167 := Tryz.sizeOf249
 v167 := Tryz.zeroValue249
 t168 := Tryz.underlying252
 a168 := Tryz.isAgg252
 z168 := Tryz.sizeOf252
 v168 := Tryz.zeroValue252
 t171 := Tryz.underlying243
 a171 := Tryz.isAgg243
 z171 := Tryz.sizeOf243
 v171 := Tryz.zeroValue243
 t173 := Tryz.underlying247
 a173 := Tryz.isAgg247
 z173 := Tryz.sizeOf247
 v173 := Tryz.zeroValue247
 t210 := Tryz.underlying269
 a210 := Tryz.isAgg269
 z210 := Tryz.sizeOf269
 v210 := Tryz.zeroValue269
 t212 := Tryz.underlying261
 a212 := Tryz.isAgg261
 z212 := Tryz.sizeOf261
 v212 := Tryz.zeroValue261
 t213 := Tryz.underlying263
 a213 := Tryz.isAgg263
 z213 := Tryz.sizeOf263
 t232 := Tryz.underlying281
 a232 := Tryz.isAgg281
 z232 := Tryz.sizeOf281
 v232 := Tryz.zeroValue281
 t233 := Tryz.underlying282
 a233 := Tryz.isAgg282
 z233 := Tryz.sizeOf282
 v233 := Tryz.zeroValue282
 g15 := by kernel_rfl
 g16 := by kernel_rfl
 g17 := by kernel_rfl
 g18 := by kernel_rfl
 g19 := by kernel_rfl
 t80 := Tryz.underlying227
 a80 := Tryz.isAgg227
 z80 := Tryz.sizeOf227
 v80 := Tryz.zeroValue227
 i0 := by kernel_rfl
 i2 := by kernel_rfl
 i3 := by kernel_rfl
 i4 := by kernel_rfl
 i5 := by kernel_rfl
 i9 := by kernel_rfl
 i20 := by kernel_rfl
 i37 := by kernel_rfl
 i46 := by kernel_rfl
 i51 := by kernel_rfl
 i53 := by kernel_rfl
 i75 := by kernel_rfl
 i80 := by kernel_rfl
 i127 := by kernel_rfl
 i143 := by kernel_rfl
 i145 := by kernel_rfl
 i167 := by kernel_rfl
 i168 := by kernel_rfl
 i171 := by kernel_rfl
 i173 := by kernel_rfl
 i210 := by kernel_rfl
 i212 := by kernel_rfl
 i232 := by kernel_rfl
 i233 := by kernel_rfl
 m15 := by kernel_rfl
 m16 := by kernel_rfl
 m17 := by kernel_rfl
 m18 := by kernel_rfl
 m19 := by kernel_rfl
 c0 := by kernel_rfl
 c2 := by kernel_rfl
 c3 := by kernel_rfl
 c4 := by kernel_rfl
 c5 := by kernel_rfl
 c9 := by kernel_rfl
 c20 := by kernel_rfl
 c37 := by kernel_rfl
 c46 := by kernel_rfl
 c51 := by kernel_rfl
 c53 := by kernel_rfl
 c75 := by kernel_rfl
 c80 := by kernel_rfl
 c127 := by kernel_rfl
 c143 := by kernel_rfl
 c145 := by kernel_rfl
 c167 := by kernel_rfl
 c168 := by kernel_rfl
 c171 := by kernel_rfl
 c173 := by kernel_rfl
 c210 := by kernel_rfl
 c212 := by kernel_rfl
 c213 := by kernel_rfl
 c232 := by kernel_rfl
 c233 := by kernel_rfl }
open Go.RowKit in
theorem Tryz.strconv_toError_syntax (fn s : ByteArray) (base bits : Int) (ev : Value) (w : World) (hlim : s.size ≤ 281474976710656) (hv : w.cell? ⟨4, 0, none⟩ = some ev) (hev : ev = .nilIface ∨ ∃ te pe, ev = .iface te pe) :
  Calls Tryz.prog 213 #[.string fn, .string s, .int .i64 base, .int .i64 bits, .iface 249 (.int .i64 2)] w fun e w' => ∃ N, e = .returned (.iface 252 (.pointer (some ⟨N, 0, none⟩))) ∧ w.heap.size ≤ N ∧ w'.heap[N]? = some (.cells #[.string fn, .string s, ev] 269 (0, 0)) ∧ Below w.heap.size w w' := Any.strconv_toError_syntax Tryz.laysC245 fn s base bits ev w hlim hv hev
def Tryz.lays321_ren : Go.Shelf.Ren := ⟨fun | 321 => 273 | n => n, fun | 5 => 5 | n => n, fun | n => n⟩
theorem Tryz.lays321 : Go.Proofs.Lays.n321 Tryz.prog Tryz.lays321_ren := {
 mixed := by kernel_rfl
 f321 := Tryz.func273.trans (congrArg some (by kernel_rfl))
 t5 := Tryz.underlying5
 a5 := Tryz.isAgg5
 z5 := Tryz.sizeOf5
 v5 := Tryz.zeroValue5 }
open Go.RowKit in
theorem Tryz.internal_strconv_lower (c : Int) (w : World) :
  Calls Tryz.prog 273 #[.int .u8 c] w fun e w' => e = .returned (.int .u8 (bits .or .u8 c 32)) ∧ w' = w := Any.internal_strconv_lower Tryz.lays321 c w
def Tryz.laysC172_ren : Go.Shelf.Ren := ⟨fun | 172 => 190 | 244 => 212 | 245 => 213 | 247 => 238 | 279 => 239 | 280 => 240 | 281 => 241 | 282 => 242 | 287 => 261 | 316 => 262 | 171 => 153 | 205 => 263 | 321 => 273 | 322 => 274 | 243 => 176 | 246 => 209 | 283 => 233 | 284 => 234 | 285 => 235 | 286 => 236 | 129 => 253 | 317 => 252 | 318 => 254 | 319 => 255 | 320 => 256 | 337 => 269 | 338 => 270 | n => n, fun | 9 => 9 | 3 => 3 | 75 => 206 | 76 => 207 | 4 => 4 | 5 => 5 | 167 => 249 | 37 => 84 | 0 => 0 | 85 => 250 | 2 => 2 | 168 => 252 | 53 => 244 | 175 => 266 | 46 => 191 | 210 => 269 | 127 => 255 | 145 => 280 | 143 => 278 | 21 => 21 | 171 => 243 | 173 => 247 | 212 => 261 | 51 => 262 | 20 => 20 | 213 => 263 | 232 => 281 | 233 => 282 | 80 => 227 | n => n, fun | 15 => 4 | 16 => 5 | 17 => 2 | 18 => 6 | 19 => 7 | n => n⟩
theorem Tryz.laysC172 : Go.Proofs.LaysC.n172 Tryz.prog Tryz.laysC172_ren := {
 mixed := by kernel_rfl
 f129 := Tryz.func253.trans (congrArg some (by kernel_rfl))
 f171 := Tryz.func153.trans (congrArg some (by kernel_rfl))
 f172 := Tryz.func190.trans (congrArg some (by kernel_rfl))
 f205 := Tryz.func263.trans (congrArg some (by kernel_rfl))
 f243 := Tryz.func176.trans (congrArg some (by kernel_rfl))
 f244 := Tryz.func212.trans (congrArg some (by kernel_rfl))
 f245 := Tryz.func213.trans (congrArg some (by kernel_rfl))
 f246 := Tryz.func209.trans (congrArg some (by kernel_rfl))
 f247 := Tryz.func238.trans (congrArg some (by kernel_rfl))
 f279 := Tryz.func239.trans (congrArg some (by kernel_rfl))
 f280 := Tryz.func240.trans (congrArg some (by kernel_rfl))
 f281 := Tryz.func241.trans (congrArg some (by kernel_rfl))
 f282 := Tryz.func242.trans (congrArg some (by kernel_rfl))
 f283 := Tryz.func233.trans (congrArg some (by kernel_rfl))
 f284 := Tryz.func234.trans (congrArg some (by kernel_rfl))
 f285 := Tryz.func235.trans (congrArg some (by kernel_rfl))
 f286 := Tryz.func236.trans (congrArg some (by kernel_rfl))
 f287 := Tryz.func261.trans (congrArg some (by kernel_rfl))
 f316 := Tryz.func262.trans (congrArg some (by kernel_rfl))
 f317 := Tryz.func252.trans (congrArg some (by kernel_rfl))
 f318 := Tryz.func254.trans (congrArg some (by kernel_rfl))
 f319 := Tryz.func255.trans (congrArg some (by kernel_rfl))
 f320 := Tryz.func256.trans (congrArg some (by kernel_rfl))
 f321 := Tryz.func273.trans (congrArg some (by kernel_rfl))
 f322 := Tryz.func274.trans (congrArg some (by kernel_rfl))
 f337 := Tryz.func269.trans (congrArg some (by kernel_rfl))
 f338 := Tryz.func270.trans (congrArg some (by kernel_rfl))
 t0 := Tryz.underlying0
 a0 := Tryz.isAgg0
 z0 := Tryz.sizeOf0
 v0 := Tryz.zeroValue0
 t2 := Tryz.underlying2
 a2 := Tryz.isAgg2
 z2 := Tryz.sizeOf2
 v2 := Tryz.zeroValue2
 t3 := Tryz.underlying3
 a3 := Tryz.isAgg3
 z3 := Tryz.sizeOf3
 v3 := Tryz.zeroValue3
 t4 := Tryz.underlying4
 a4 := Tryz.isAgg4
 z4 := Tryz.sizeOf4
 v4 := Tryz.zeroValue4
 t5 := Tryz.underlying5
 a5 := Tryz.isAgg5
 z5 := Tryz.sizeOf5
 v5 := Tryz.zeroValue5
 t9 := Tryz.underlying9
 a9 := Tryz.isAgg9
 z9 := Tryz.sizeOf9
 v9 := Tryz.zeroValue9
 t20 := Tryz.underlying20
 a20 := Tryz.isAgg20
 z20 := Tryz.sizeOf20
 v20 := Tryz.zeroValue20
 t21 := Tryz.underlying21
 a21 := Tryz.isAgg21
 z21 := Tryz.sizeOf21
 v21 := Tryz.zeroValue21
 t37 := Tryz.underlying84
 a37 := Tryz.isAgg84
 z37 := Tryz.sizeOf84
 v37 := Tryz.zeroValue84
 t46 := Tryz.underlying191
 a46 := Tryz.isAgg191
 z46 := Tryz.sizeOf191
 v46 := Tryz.zeroValue191
 t51 := Tryz.underlying262
 a51 := Tryz.isAgg262
 z51 := Tryz.sizeOf262
 v51 := Tryz.zeroValue262
 t53 := Tryz.underlying244
 a53 := Tryz.isAgg244
 z53 := Tryz.sizeOf244
 v53 := Tryz.zeroValue244
 t75 := Tryz.underlying206
 a75 := Tryz.isAgg206
 z75 := Tryz.sizeOf206
 v75 := Tryz.zeroValue206
 t76 := Tryz.underlying207
 a76 := Tryz.isAgg207
 z76 := Tryz.sizeOf207
 v76 := Tryz.zeroValue207
 t85 := Tryz.underlying250
 a85 := Tryz.isAgg250
 z85 := Tryz.sizeOf250
 v85 := Tryz.zeroValue250
 t127 := Tryz.underlying255
 a127 := Tryz.isAgg255
 z127 := Tryz.sizeOf255
 v127 := Tryz.zeroValue255
 t143 := Tryz.underlying278
 a143 := Tryz.isAgg278
 z143 := Tryz.sizeOf278
 v143 := Tryz.zeroValue278
 t145 := Tryz.underlying280
 a145 := Tryz.isAgg280
 z145 := Tryz.sizeOf280
 v145 := Tryz.zeroValue280
 t167 := Tryz.underlying249
 a167 := Tryz.isAgg249
 z167 := Tryz.sizeOf249
 v167 := Tryz.zeroValue249
 t168 := Tryz.underlying252
 a168 := Tryz.isAgg252
 z168 := Tryz.sizeOf252
 v168 := Tryz.zeroValue252
 t171 := Tryz.underlying243
 a171 := Tryz.isAgg243
 z171 := Tryz.sizeOf243
 v171 := Tryz.zeroValue243
 t173 := Tryz.underlying247
 a173 := Tryz.isAgg247
 z173 := Tryz.sizeOf247
 v173 := Tryz.zeroValue247
 t175 := Tryz.underlying266
 a175 := Tryz.isAgg266
 z175 := Tryz.sizeOf266
 v175 := Tryz.zeroValue266
 t210 := Tryz.underlying269
 a210 := Tryz.isAgg269
 z210 := Tryz.sizeOf269
 v210 := Tryz.zeroValue269
 t212 := Tryz.underlying261
 a212 := Tryz.isAgg261
 z212 := Tryz.sizeOf261
 v212 := Tryz.zeroValue261
 t213 := Tryz.underlying263
 a213 := Tryz.isAgg263
 z213 := Tryz.sizeOf263
 t232 := Tryz.underlying281
 a232 := Tryz.isAgg281
 z232 := Tryz.sizeOf281
 v232 := Tryz.zeroValue281
 t233 := Tryz.underlying282
 a233 := Tryz.isAgg282
 z233 := Tryz.sizeOf282
 v233 := Tryz.zeroValue282
 g15 := by kernel_rfl
 g16 := by kernel_rfl
 g17 := by kernel_rfl
 g18 := by kernel_rfl
 g19 := by kernel_rfl
 t80 := Tryz.underlying227
 a80 := Tryz.isAgg227
 z80 := Tryz.sizeOf227
 v80 := Tryz.zeroValue227
 i0 := by kernel_rfl
 i2 := by kernel_rfl
 i3 := by kernel_rfl
 i4 := by kernel_rfl
 i5 := by kernel_rfl
 i9 := by kernel_rfl
 i20 := by kernel_rfl
 i21 := by kernel_rfl
 i37 := by kernel_rfl
 i46 := by kernel_rfl
 i51 := by kernel_rfl
 i53 := by kernel_rfl
 i75 := by kernel_rfl
 i76 := by kernel_rfl
 i80 := by kernel_rfl
 i85 := by kernel_rfl
 i127 := by kernel_rfl
 i143 := by kernel_rfl
 i145 := by kernel_rfl
 i167 := by kernel_rfl
 i168 := by kernel_rfl
 i171 := by kernel_rfl
 i173 := by kernel_rfl
 i175 := by kernel_rfl
 i210 := by kernel_rfl
 i212 := by kernel_rfl
 i232 := by kernel_rfl
 i233 := by kernel_rfl
 m15 := by kernel_rfl
 m16 := by kernel_rfl
 m17 := by kernel_rfl
 m18 := by kernel_rfl
 m19 := by kernel_rfl
 c0 := by kernel_rfl
 c2 := by kernel_rfl
 c3 := by kernel_rfl
 c4 := by kernel_rfl
 c5 := by kernel_rfl
 c9 := by kernel_rfl
 c20 := by kernel_rfl
 c21 := by kernel_rfl
 c37 := by kernel_rfl
 c46 := by kernel_rfl
 c51 := by kernel_rfl
 c53 := by kernel_rfl
 c75 := by kernel_rfl
 c76 := by kernel_rfl
 c80 := by kernel_rfl
 c85 := by kernel_rfl
 c127 := by kernel_rfl
 c143 := by kernel_rfl
 c145 := by kernel_rfl
 c167 := by kernel_rfl
 c168 := by kernel_rfl
 c171 := by kernel_rfl
 c173 := by kernel_rfl
 c175 := by kernel_rfl
 c210 := by kernel_rfl
 c212 := by kernel_rfl
 c213 := by kernel_rfl
 c232 := by kernel_rfl
 c233 := by kernel_rfl }
open Go.RowKit in
theorem Tryz.strconv_Atoi_ok (s : ByteArray) (hmax : s.size ≤ 9223372036854775806) (v : Int) (h : Lib.atoiAll s.data.toList = .ok v) (w : World) :
  Calls Tryz.prog 190 #[.string s] w fun e w' => e = .returned (.tuple #[.int .i64 v, .nilIface]) ∧ (w' = w ∨ ∃ t, w' = Lib.bytesWorld w 5 t) := Any.strconv_Atoi_ok Tryz.laysC172 s hmax v h w
open Go.RowKit in
theorem Tryz.strconv_Atoi_syntax (s : ByteArray) (hlim : s.size ≤ 281474976710656) (h : Lib.atoiAll s.data.toList = Lib.NumEnd.syntax) (ev : Value) (w : World) (hv : w.cell? ⟨4, 0, none⟩ = some ev) (hev : ev = .nilIface ∨ ∃ te pe, ev = .iface te pe) :
  Calls Tryz.prog 190 #[.string s] w fun e w' => ∃ N, e = .returned (.tuple #[.int .i64 (0), .iface 252 (.pointer (some ⟨N, 0, none⟩))]) ∧ w.heap.size ≤ N ∧ w'.heap[N]? = some (.cells #[.string ⟨#[65, 116, 111, 105]⟩, .string s, ev] 269 (0, 0)) ∧ Below w.heap.size w w' := Any.strconv_Atoi_syntax Tryz.laysC172 s hlim h ev w hv hev
open Go.RowKit in
theorem Tryz.strconv_Atoi_range (s : ByteArray) (hlim : s.size ≤ 281474976710656) (h : Lib.atoiAll s.data.toList = .range) (ev : Value) (w : World) (hv : w.cell? ⟨5, 0, none⟩ = some ev) (hev : ev = .nilIface ∨ ∃ te pe, ev = .iface te pe) :
  Calls Tryz.prog 190 #[.string s] w fun e w' => ∃ N, e = .returned (.tuple #[.int .i64 (Lib.atoiSat s.data.toList), .iface 252 (.pointer (some ⟨N, 0, none⟩))]) ∧ w.heap.size ≤ N ∧ w'.heap[N]? = some (.cells #[.string ⟨#[65, 116, 111, 105]⟩, .string s, ev] 269 (0, 0)) ∧ Below w.heap.size w w' := Any.strconv_Atoi_range Tryz.laysC172 s hlim h ev w hv hev
def Tryz.lays217_ren : Go.Shelf.Ren := ⟨fun | 217 => 257 | 266 => 271 | n => n, fun | 9 => 9 | 5 => 5 | 3 => 3 | n => n, fun | n => n⟩
theorem Tryz.lays217 : Go.Proofs.Lays.n217 Tryz.prog Tryz.lays217_ren := {
 mixed := by kernel_rfl
 f217 := Tryz.func257.trans (congrArg some (by kernel_rfl))
 f266 := Tryz.func271.trans (congrArg some (by kernel_rfl))
 t3 := Tryz.underlying3
 a3 := Tryz.isAgg3
 z3 := Tryz.sizeOf3
 v3 := Tryz.zeroValue3
 t5 := Tryz.underlying5
 a5 := Tryz.isAgg5
 z5 := Tryz.sizeOf5
 v5 := Tryz.zeroValue5
 t9 := Tryz.underlying9
 a9 := Tryz.isAgg9
 z9 := Tryz.sizeOf9
 v9 := Tryz.zeroValue9 }
open Go.RowKit Go.Lib in
theorem Tryz.stringslite_IndexByte (s : ByteArray) (c : Int) (w : World) :
  Calls Tryz.prog 257 #[.string s, .int .u8 c] w fun e w' => e = .returned (.int .i64 (Lib.indexByte s.data.toList c.toNat.toUInt8)) ∧ w' = w := Any.stringslite_IndexByte Tryz.lays217 s c w
def Tryz.lays99_ren : Go.Shelf.Ren := ⟨fun | 99 => 165 | 206 => 187 | n => n, fun | 9 => 9 | 4 => 4 | 3 => 3 | n => n, fun | n => n⟩
theorem Tryz.lays99 : Go.Proofs.Lays.n99 Tryz.prog Tryz.lays99_ren := {
 mixed := by kernel_rfl
 f99 := Tryz.func165.trans (congrArg some (by kernel_rfl))
 f206 := Tryz.func187.trans (congrArg some (by kernel_rfl))
 t3 := Tryz.underlying3
 a3 := Tryz.isAgg3
 z3 := Tryz.sizeOf3
 v3 := Tryz.zeroValue3
 t4 := Tryz.underlying4
 a4 := Tryz.isAgg4
 z4 := Tryz.sizeOf4
 v4 := Tryz.zeroValue4
 t9 := Tryz.underlying9
 a9 := Tryz.isAgg9
 z9 := Tryz.sizeOf9
 v9 := Tryz.zeroValue9 }
open Go.RowKit Go.Lib in
theorem Tryz.strings_HasPrefix (s p : ByteArray) (w : World) :
  Calls Tryz.prog 165 #[.string s, .string p] w fun e w' => e = .returned (.bool (Lib.hasPrefix s.data.toList p.data.toList)) ∧ w' = w := Any.strings_HasPrefix Tryz.lays99 s p w
def Tryz.lays101_ren : Go.Shelf.Ren := ⟨fun | 101 => 191 | 208 => 214 | 206 => 187 | n => n, fun | 9 => 9 | 4 => 4 | 3 => 3 | n => n, fun | n => n⟩
theorem Tryz.lays101 : Go.Proofs.Lays.n101 Tryz.prog Tryz.lays101_ren := {
 mixed := by kernel_rfl
 f101 := Tryz.func191.trans (congrArg some (by kernel_rfl))
 f206 := Tryz.func187.trans (congrArg some (by kernel_rfl))
 f208 := Tryz.func214.trans (congrArg some (by kernel_rfl))
 t3 := Tryz.underlying3
 a3 := Tryz.isAgg3
 z3 := Tryz.sizeOf3
 v3 := Tryz.zeroValue3
 t4 := Tryz.underlying4
 a4 := Tryz.isAgg4
 z4 := Tryz.sizeOf4
 v4 := Tryz.zeroValue4
 t9 := Tryz.underlying9
 a9 := Tryz.isAgg9
 z9 := Tryz.sizeOf9
 v9 := Tryz.zeroValue9 }
open Go.RowKit Go.Lib in
theorem Tryz.strings_TrimPrefix (s p : ByteArray) (w : World) :
  Calls Tryz.prog 191 #[.string s, .string p] w fun e w' => e = .returned (.string ⟨(Lib.trimPrefix s.data.toList p.data.toList).toArray⟩) ∧ w' = w := Any.strings_TrimPrefix Tryz.lays101 s p w
end Go.Proofs
set_option maxHeartbeats 8000000
set_option maxRecDepth 100000
namespace Go.Proofs.YtldioobbfkaebaaGreatDoor
section
open Go.RowKit Np Up Qp
def puV : Option Nat → Value
 | some n => .tuple #[.int .u64 n, .nilIface]
 | none => .tuple #[.int .u64 0, .iface 249 (.int .i64 2)]
theorem bytesWorld_below (w : World) (e : TypeId) (s : ByteArray) : Below w.heap.size w (Lib.bytesWorld w e s) := by
 refine ⟨?_, ?_, ?_, by rw [Lib.bytesWorld_size]; omega, fun i hi => Lib.bytesWorld_at_old w e s i hi⟩
 all_goals (unfold Lib.bytesWorld World.freeze; split <;> rfl)
theorem lower_all : ∀ c : Fin 256, (97 ≤ bits .or .u8 (c.val : Int) 32 → bits .or .u8 (c.val : Int) 32 ≤ 102 → (97 ≤ c.val ∧ c.val ≤ 102 ∧ bits .or .u8 (c.val : Int) 32 = c.val) ∨ (65 ≤ c.val ∧ c.val ≤ 70 ∧ bits .or .u8 (c.val : Int) 32 = c.val + 32)) ∧
  (¬ (97 ≤ bits .or .u8 (c.val : Int) 32 ∧ bits .or .u8 (c.val : Int) 32 ≤ 102) → ¬ (97 ≤ c.val ∧ c.val ≤ 102) ∧ ¬ (65 ≤ c.val ∧ c.val ≤ 70)) := by decide +kernel
theorem hv_of_lower {c : UInt8} {L : Int} (hL : L = bits .or .u8 (c.toNat : Int) 32) (hr : 97 ≤ L ∧ L ≤ 102) : hv c = some (L - 87).toNat := by
 subst hL
 have h := (lower_all ⟨c.toNat, c.toNat_lt⟩).1 hr.1 hr.2
 simp only at h
 unfold hv
 rcases h with ⟨h1, h2, h3⟩ | ⟨h1, h2, h3⟩
 ·rw [if_neg (by omega), if_pos ⟨h1, h2⟩, h3]; congr 1; omega
 ·rw [if_neg (by omega), if_neg (by omega), if_pos ⟨h1, h2⟩, h3]; congr 1; omega
theorem hv_of_not {c : UInt8} {L : Int} (hL : L = bits .or .u8 (c.toNat : Int) 32) (hd : ¬ (48 ≤ c.toNat ∧ c.toNat ≤ 57)) (hr : ¬ (97 ≤ L ∧ L ≤ 102)) : hv c = none := by
 subst hL
 have h := (lower_all ⟨c.toNat, c.toNat_lt⟩).2 hr
 simp only at h
 rw [hv, if_neg hd, if_neg h.1, if_neg h.2]
theorem parseI_any (t : ByteArray) (h4 : t.size = 4) (w : World) :
  Calls Tryz.prog 261 #[.string t, .int .i64 16, .int .i64 16] w fun e w' => e = .returned (puV (hvs t.data.toList 0)) ∧ Below w.heap.size w w' := by
 have hemp : t.toList.isEmpty = false := by
  rw [ByteArray.toList_eq, List.isEmpty_eq_false_iff]; intro h; have h' := congrArg List.length h; rw [size_toList, List.length_nil] at h'; omega
 have hcv := Lib.run_convert_string_bytes (P := Tryz.prog) w 9 84 5 t (u := .string) Tryz.underlying9 Tryz.underlying84 Tryz.underlying5
 have hB : ∀ j, j < t.size → (Lib.bytesWorld w 5 t).cell? ⟨w.heap.size, j, none⟩ = some (.int .u8 (t.data.toList.getD j 0).toNat) := fun j hj => Lib.bytesWorld_cell w 5 t j hj
 have hbel : Below w.heap.size w (Lib.bytesWorld w 5 t) := bytesWorld_below w _ t
 obtain ⟨W1, hW1⟩ : ∃ W1, W1 = Lib.bytesWorld w 5 t := ⟨_, rfl⟩
 rw [← hW1] at hcv hB hbel
 clear hW1
 obtain ⟨bs, hL⟩ : ∃ bs, bs = t.data.toList := ⟨_, rfl⟩
 have hLn : bs.length = t.size := by rw [hL, size_toList]
 rw [← hL] at hB ⊢
 clear hL
 go_enter Tryz.func261, Tryz.ntmps261
 go_wp2
 go_loop [12, 13, 101] (fun vu vn vi => ∃ (k acc : Nat) (a : Int), vu = .bool false ∧ vn = .int .u64 a ∧ vi = .int .i64 k ∧ k ≤ 4 ∧ 0 ≤ a ∧ a < 65536 ∧ Hid (a = (acc : Int) ∧ Bd k acc ∧ hvs (bs.drop k) acc = hvs bs 0))
  (fun _ _ vi => 4 - (intOf vi).toNat)
 case atStart => exact ⟨0, 0, 0, rfl, rfl, rfl, by omega, by omega, by omega, Lib.hid ⟨rfl, .inl ⟨rfl, rfl⟩, rfl⟩⟩
 case round =>
  obtain ⟨k, acc, a, rfl, rfl, rfl, hk, ha0, ha1, hh⟩ := hrel
  by_cases hk4 : k < 4
  ·obtain ⟨ha, hbd, hdec⟩ := hh.out
   have hc := hB k (by omega)
   have hdrop : bs.drop k = bs[k]'(by omega) :: bs.drop (k + 1) := List.drop_eq_getElem_cons (by omega)
   have hget : bs.getD k 0 = bs[k]'(by omega) := by simp [List.getD, List.getElem?_eq_getElem (show k < bs.length by omega)]
   rw [hdrop] at hdec
   rw [hget] at hc
   generalize bs[k]'(by omega) = c at hc hdec
   have hc256 : c.toNat < 256 := c.toNat_lt
   have hlt16 : k < 4 := hk4
   clear hB hdrop hget hh
   by_cases hdig : 48 ≤ c.toNat ∧ c.toNat ≤ 57
   ·have hv' : hv c = some (c.toNat - 48) := by rw [hv, if_pos hdig]
    rw [hvs_step hv'] at hdec
    have hb' := hbd.step hk4 (show c.toNat - 48 < 16 by omega)
    have hle := hb'.le
    have HN : Hid (a * 16 + ((c.toNat : Int) - 48) = ((acc * 16 + (c.toNat - 48) : Nat) : Int) ∧ Bd (k + 1) (acc * 16 + (c.toNat - 48)) ∧ hvs (bs.drop (k + 1)) (acc * 16 + (c.toNat - 48)) = hvs bs 0) := Lib.hid ⟨by omega, hb', hdec⟩
    have iov : a * 16 + ((c.toNat : Int) - 48) < 65536 := by omega
    obtain ⟨hd0, hd1⟩ := hdig
    clear hv' hdec hb' hbd ha hle
    go_wp2
    refine ⟨⟨k + 1, acc * 16 + (c.toNat - 48), a * 16 + ((c.toNat : Int) - 48), rfl, (by first | rfl | (congr 1; omega)), (by first | rfl | (congr 1; omega)), by omega, by omega, by omega, HN⟩, by simp [intOf]; omega⟩
   ·obtain ⟨L, hL⟩ : ∃ L, L = bits .or .u8 (c.toNat : Int) 32 := ⟨_, rfl⟩
    have hL0 : 0 ≤ L := by rw [hL]; exact bits_lo_u8 .or (c.toNat : Int) 32
    have hL1 : L ≤ 255 := by rw [hL]; exact bits_hi_u8 .or (c.toNat : Int) 32
    have HL := Lib.hid hL
    have hd' : ¬ (48 ≤ (c.toNat : Int) ∧ (c.toNat : Int) ≤ 57) := by omega
    by_cases hr : 97 ≤ L ∧ L ≤ 102
    ·have hv' : hv c = some (L - 87).toNat := hv_of_lower hL hr
     rw [hvs_step hv'] at hdec
     have hb' := hbd.step hk4 (show (L - 87).toNat < 16 by omega)
     have hle := hb'.le
     have HN : Hid (a * 16 + (L - 87) = ((acc * 16 + (L - 87).toNat : Nat) : Int) ∧ Bd (k + 1) (acc * 16 + (L - 87).toNat) ∧ hvs (bs.drop (k + 1)) (acc * 16 + (L - 87).toNat) = hvs bs 0) := Lib.hid ⟨by omega, hb', hdec⟩
     have iov : a * 16 + (L - 87) < 65536 := by omega
     obtain ⟨hr0, hr1⟩ := hr
     have h95 : ((c.toNat : Int) == 95) = false := by
      rw [beq_eq_false_iff_ne]; intro h; rw [hL, h] at hr0; exact absurd hr1 (by rw [hL, h]; decide)
     clear hv' hdec hb' hbd ha hle hL hdig
     go_wp2_with (go_at_call 273; refine (Tryz.internal_strconv_lower _ _).mono ?_; rintro e w' ⟨rfl, rfl⟩; rw [← HL.out])
     all_goals (refine ⟨⟨k + 1, acc * 16 + (L - 87).toNat, a * 16 + (L - 87), rfl, (by congr 1; omega), (by first | rfl | (congr 1; omega)), by omega, by omega, by omega, HN⟩, by simp [intOf]; omega⟩)
    ·have hv' : hv c = none := hv_of_not hL hdig hr
     rw [hvs_none hv'] at hdec
     have HN := Lib.hid hdec
     have hr' : ¬ (97 ≤ L ∧ L ≤ 102) := hr
     by_cases h95 : c.toNat = 95
     ·have hcc : (c.toNat : Int) = 95 := by omega
      rw [hcc] at hc HL hd'
      have HL2 : Hid (bits .or .u8 95 32 = 127) := Lib.hid (by decide)
      clear hv' hdec hbd ha hL hdig hcc h95 hL0 hL1 hr hr' HL
      go_wp2_with (go_at_call 273; refine (Tryz.internal_strconv_lower _ _).mono ?_; rintro e w' ⟨rfl, rfl⟩; rw [HL2.out])
      all_goals go_ret2
      all_goals exact ⟨by rw [← HN.out]; rfl, hbel⟩
     ·have h95' : ((c.toNat : Int) == 95) = false := by rw [beq_eq_false_iff_ne]; omega
      clear hv' hdec hbd ha hL hdig h95
      go_wp2_with (go_at_call 273; refine (Tryz.internal_strconv_lower _ _).mono ?_; rintro e w' ⟨rfl, rfl⟩; rw [← HL.out])
      all_goals go_ret2
      all_goals exact ⟨by rw [← HN.out]; rfl, hbel⟩
  ·have hkk : k = 4 := by omega
   subst hkk
   obtain ⟨ha, hbd, hdec⟩ := hh.out
   rw [List.drop_eq_nil_of_le (by omega)] at hdec
   have HN : Hid (hvs bs 0 = some acc) := Lib.hid hdec.symm
   subst ha
   clear hbd hdec hh
   go_wp2
   go_ret2
   exact ⟨by rw [HN.out]; rfl, hbel⟩
end
section
open Go.RowKit Np Up Qp
theorem parseUint_yes (t : ByteArray) (n : Nat) (h4 : t.size = 4) (w : World) (hn : hvs t.data.toList 0 = some n) :
  Calls Tryz.prog 265 #[.string t, .int .i64 16, .int .i64 16] w fun e w' => e = .returned (.tuple #[.int .u64 n, .nilIface]) ∧ Below w.heap.size w w' := by
 have HN := Lib.hid hn
 clear hn
 go_enter Tryz.func265, Tryz.ntmps265
 go_wp2_with fail
 refine (parseI_any t h4 _).mono ?_
 rintro e w1 ⟨rfl, hb⟩
 rw [HN.out, puV]
 go_wp2_with fail
 all_goals go_ret2
 all_goals exact ⟨rfl, hb⟩
theorem parseUint_no (t : ByteArray) (h4 : t.size = 4) (w : World) (hE : Er w) (hn : hvs t.data.toList 0 = none) :
  Calls Tryz.prog 265 #[.string t, .int .i64 16, .int .i64 16] w fun e w' => (∃ N, e = .returned (.tuple #[.int .u64 0, .iface 252 (.pointer (some ⟨N, 0, none⟩))])) ∧ Below w.heap.size w w' := by
 have HN := Lib.hid hn
 clear hn
 go_enter Tryz.func265, Tryz.ntmps265
 go_wp2_with fail
 refine (parseI_any t h4 _).mono ?_
 rintro e w1 ⟨rfl, hb⟩
 rw [HN.out, puV]
 obtain ⟨ev, hv, hev⟩ := hE.below hb
 go_wp2_with (go_at_call 213; refine (Tryz.strconv_toError_syntax _ _ _ _ ev _ (by omega) hv hev).mono ?_; rintro e w2 ⟨N, rfl, -, -, hb2⟩)
 all_goals go_ret2
 all_goals exact ⟨⟨_, rfl⟩, hb.trans (hb2.mono hb.size)⟩
theorem pre_eq (s : ByteArray) (h : 2 ≤ s.size) : ((s.extract 0 2).toList == [92, 117]) = decide (bt s.data.toList 0 = 92 ∧ bt s.data.toList 1 = 117) := by
 rw [Lib.extract_toList s 0 2, List.drop_zero]
 have hl : 2 ≤ s.data.toList.length := by rw [size_toList]; exact h
 generalize s.data.toList = l at hl ⊢
 match l, hl with
 | a :: b :: r, _ =>
  show ([a, b] == [92, 117]) = decide (a.toNat = 92 ∧ b.toNat = 117)
  rw [Bool.eq_iff_iff]
  simp [← UInt8.toNat_inj]
def numV : Option Nat → Value
 | some n => .tuple #[.int .i32 n, .bool true]
 | none => .tuple #[.int .i32 0, .bool false]
theorem number_any (s : ByteArray) (w : World) (hs : s.size ≤ 1073741824) (hE : Er w) :
  Calls Tryz.prog 244 #[.string s] w fun e w' => e = .returned (numV (un s.data.toList)) ∧ Below w.heap.size w w' := by
 by_cases h6 : 6 ≤ s.size
 ·have hpre := pre_eq s (by omega)
  have h4 : (s.extract 2 6).size = 4 := by rw [ByteArray.size_extract]; omega
  have hd4 : (s.extract 2 6).data.toList = (s.data.toList.drop 2).take 4 := by
   have h := Lib.extract_toList s 2 6
   rw [ByteArray.toList_eq] at h
   exact h
  by_cases hc : bt s.data.toList 0 = 92 ∧ bt s.data.toList 1 = 117
  ·have hx : ((s.extract 0 2).toList == [92, 117]) = true := by rw [hpre, decide_eq_true hc]
   have HU : Hid (un s.data.toList = hvs (s.extract 2 6).data.toList 0) := Lib.hid (by rw [un, if_pos ⟨by rw [size_toList]; exact h6, hc⟩, hd4])
   clear hpre hc hd4
   cases hn : hvs (s.extract 2 6).data.toList 0 with
   | none =>
    have HN := Lib.hid hn
    clear hn
    go_enter Tryz.func244, Tryz.ntmps244
    go_wp2_with (go_at_call 265; refine (parseUint_no _ h4 _ hE HN.out).mono ?_; rintro e w1 ⟨⟨N, rfl⟩, hb⟩)
    all_goals go_ret2
    all_goals exact ⟨by rw [HU.out, HN.out]; rfl, hb⟩
   | some n =>
    have HN := Lib.hid hn
    have hlt : n < 65536 := by
     have h1 := (hvs_lt _ _ _ hn).1
     rw [size_toList, h4] at h1
     simpa using h1
    clear hn
    go_enter Tryz.func244, Tryz.ntmps244
    go_wp2_with (go_at_call 265; refine (parseUint_yes _ n h4 _ HN.out).mono ?_; rintro e w1 ⟨rfl, hb⟩)
    all_goals go_ret2
    all_goals exact ⟨by rw [HU.out, HN.out]; rfl, hb⟩
  ·have hx : ((s.extract 0 2).toList == [92, 117]) = false := by rw [hpre, decide_eq_false hc]
   have HU : Hid (un s.data.toList = none) := Lib.hid (by rw [un, if_neg]; exact fun h => hc h.2)
   clear hpre hc hd4 h4
   go_enter Tryz.func244, Tryz.ntmps244
   go_wp2
   all_goals go_ret2
   all_goals exact ⟨by rw [HU.out]; rfl, Below.refl _ _⟩
 ·have HU : Hid (un s.data.toList = none) := Lib.hid (by rw [un, if_neg]; rw [size_toList]; exact fun h => h6 h.1)
  go_enter Tryz.func244, Tryz.ntmps244
  go_wp2
  all_goals go_ret2
  all_goals exact ⟨by rw [HU.out]; rfl, Below.refl _ _⟩
theorem fffd : (ByteArray.mk #[239, 191, 189]).data.toList = [239, 191, 189] := rfl
theorem stray_iff (l : List UInt8) (hl : l ≠ []) : ((Lib.decodeL l).1 = 65533 ∧ Lib.hasPrefix l [239, 191, 189] = false) ↔ runeN l = 0 := by
 rcases decode_rune l with ⟨h0, h1⟩ | ⟨h0, h1, h2⟩
 ·refine ⟨fun _ => h0, fun _ => ⟨by rw [h1], ?_⟩⟩
  cases hp : Lib.hasPrefix l [239, 191, 189] with
  | false => rfl
  | true =>
   obtain ⟨t, rfl⟩ := List.isPrefixOf_iff_prefix.1 hp
   exfalso
   have h3 : runeN ([239, 191, 189] ++ t) = runeN [239, 191, 189] := runeN_append t (by simp) (by decide)
   rw [h3] at h0
   exact absurd h0 (by decide)
 ·refine ⟨fun ⟨h3, h4⟩ => ?_, fun h => absurd h h0⟩
  exfalso
  have h5 := Lib.encode_decode l hl h2
  rw [h3, h1] at h5
  have h6 : [239, 191, 189] <+: l := by
   have h7 : Lib.encodeRune ((65533 : Nat) : Int) = [239, 191, 189] := by decide
   rw [← h7, h5]
   exact List.take_prefix _ _
  have h8 : Lib.hasPrefix l [239, 191, 189] = true := List.isPrefixOf_iff_prefix.2 h6
  rw [h8] at h4
  cases h4
theorem stray_any (r : Nat) (s : ByteArray) (w : World) (hs : s.data.toList ≠ []) (hr : r = (Lib.decodeL s.data.toList).1) :
  Calls Tryz.prog 220 #[.int .i32 r, .string s] w fun e w' => e = .returned (.bool (decide (runeN s.data.toList = 0))) ∧ w = w' := by
 have hst := stray_iff s.data.toList hs
 rw [← hr] at hst
 by_cases h1 : r = 65533
 ·subst h1
  have hq : Lib.hasPrefix s.data.toList [239, 191, 189] = !decide (runeN s.data.toList = 0) := by
   rw [Bool.eq_iff_iff, Bool.not_eq_true', decide_eq_false_iff_not, ← hst]
   cases Lib.hasPrefix s.data.toList [239, 191, 189] <;> simp
  have HQ := Lib.hid hq
  clear hq hst hr
  go_enter Tryz.func220, Tryz.ntmps220
  go_wp2_with (go_at_call 165; refine (Tryz.strings_HasPrefix _ _ _).mono ?_; rintro e w' ⟨rfl, rfl⟩; rw [fffd, HQ.out])
  all_goals go_ret
  all_goals exact ⟨ret_bool (by simp), rfl⟩
 ·have HQ : Hid (decide (runeN s.data.toList = 0) = false) := Lib.hid (decide_eq_false fun h => h1 (hst.2 h).1)
  have hne : ((r : Int) == 65533) = false := by rw [beq_eq_false_iff_ne]; omega
  clear hst hr h1
  go_enter Tryz.func220, Tryz.ntmps220
  go_wp2_with fail
  all_goals go_ret
  all_goals exact ⟨ret_bool HQ.out.symm, rfl⟩
def tab16 : ByteArray := ⟨#[48, 49, 50, 51, 52, 53, 54, 55, 56, 57, 97, 98, 99, 100, 101, 102]⟩
theorem enc16 : ∀ k : Fin 16, Utf8.encode ((tab16[k.val]'k.2).toNat : Int) = ⟨#[hx k.val]⟩ := by decide +kernel
theorem enc16' (k : Nat) (h : k < (ByteArray.mk #[48, 49, 50, 51, 52, 53, 54, 55, 56, 57, 97, 98, 99, 100, 101, 102]).size) : Utf8.encode (((ByteArray.mk #[48, 49, 50, 51, 52, 53, 54, 55, 56, 57, 97, 98, 99, 100, 101, 102])[k]'h).toNat : Int) = ⟨#[hx k]⟩ := enc16 ⟨k, h⟩
theorem long_any (r : Nat) (w : World) (hr : r < 32) :
  Calls Tryz.prog 225 #[.int .i32 r] w fun e w' => e = .returned (.string ⟨[92, 117, 48, 48, hx (r / 16), hx (r % 16)].toArray⟩) ∧ Below w.heap.size w w' := by
 have hE := enc16'
 rcases (show r = 0 ∨ r = 1 ∨ r = 2 ∨ r = 3 ∨ r = 4 ∨ r = 5 ∨ r = 6 ∨ r = 7 ∨ r = 8 ∨ r = 9 ∨ r = 10 ∨ r = 11 ∨ r = 12 ∨ r = 13 ∨ r = 14 ∨ r = 15 ∨ r = 16 ∨ r = 17 ∨ r = 18 ∨ r = 19 ∨ r = 20 ∨ r = 21 ∨ r = 22 ∨ r = 23 ∨ r = 24 ∨ r = 25 ∨ r = 26 ∨ r = 27 ∨ r = 28 ∨ r = 29 ∨ r = 30 ∨ r = 31 by omega) with rfl | rfl | rfl | rfl | rfl | rfl | rfl | rfl | rfl | rfl | rfl | rfl | rfl | rfl | rfl | rfl | rfl | rfl | rfl | rfl | rfl | rfl | rfl | rfl | rfl | rfl | rfl | rfl | rfl | rfl | rfl | rfl
 ·have hb : bits .and .i32 0 15 = 0 := by decide
  go_enter Tryz.func225, Tryz.ntmps225
  go_wp2_with fail
  go_quiet (fail)
  go_wp2_with fail
  go_ret
  exact ⟨rfl, below_quiet ⟨_, rfl⟩⟩
 ·have hb : bits .and .i32 1 15 = 1 := by decide
  go_enter Tryz.func225, Tryz.ntmps225
  go_wp2_with fail
  go_quiet (fail)
  go_wp2_with fail
  go_ret
  exact ⟨rfl, below_quiet ⟨_, rfl⟩⟩
 ·have hb : bits .and .i32 2 15 = 2 := by decide
  go_enter Tryz.func225, Tryz.ntmps225
  go_wp2_with fail
  go_quiet (fail)
  go_wp2_with fail
  go_ret
  exact ⟨rfl, below_quiet ⟨_, rfl⟩⟩
 ·have hb : bits .and .i32 3 15 = 3 := by decide
  go_enter Tryz.func225, Tryz.ntmps225
  go_wp2_with fail
  go_quiet (fail)
  go_wp2_with fail
  go_ret
  exact ⟨rfl, below_quiet ⟨_, rfl⟩⟩
 ·have hb : bits .and .i32 4 15 = 4 := by decide
  go_enter Tryz.func225, Tryz.ntmps225
  go_wp2_with fail
  go_quiet (fail)
  go_wp2_with fail
  go_ret
  exact ⟨rfl, below_quiet ⟨_, rfl⟩⟩
 ·have hb : bits .and .i32 5 15 = 5 := by decide
  go_enter Tryz.func225, Tryz.ntmps225
  go_wp2_with fail
  go_quiet (fail)
  go_wp2_with fail
  go_ret
  exact ⟨rfl, below_quiet ⟨_, rfl⟩⟩
 ·have hb : bits .and .i32 6 15 = 6 := by decide
  go_enter Tryz.func225, Tryz.ntmps225
  go_wp2_with fail
  go_quiet (fail)
  go_wp2_with fail
  go_ret
  exact ⟨rfl, below_quiet ⟨_, rfl⟩⟩
 ·have hb : bits .and .i32 7 15 = 7 := by decide
  go_enter Tryz.func225, Tryz.ntmps225
  go_wp2_with fail
  go_quiet (fail)
  go_wp2_with fail
  go_ret
  exact ⟨rfl, below_quiet ⟨_, rfl⟩⟩
 ·have hb : bits .and .i32 8 15 = 8 := by decide
  go_enter Tryz.func225, Tryz.ntmps225
  go_wp2_with fail
  go_quiet (fail)
  go_wp2_with fail
  go_ret
  exact ⟨rfl, below_quiet ⟨_, rfl⟩⟩
 ·have hb : bits .and .i32 9 15 = 9 := by decide
  go_enter Tryz.func225, Tryz.ntmps225
  go_wp2_with fail
  go_quiet (fail)
  go_wp2_with fail
  go_ret
  exact ⟨rfl, below_quiet ⟨_, rfl⟩⟩
 ·have hb : bits .and .i32 10 15 = 10 := by decide
  go_enter Tryz.func225, Tryz.ntmps225
  go_wp2_with fail
  go_quiet (fail)
  go_wp2_with fail
  go_ret
  exact ⟨rfl, below_quiet ⟨_, rfl⟩⟩
 ·have hb : bits .and .i32 11 15 = 11 := by decide
  go_enter Tryz.func225, Tryz.ntmps225
  go_wp2_with fail
  go_quiet (fail)
  go_wp2_with fail
  go_ret
  exact ⟨rfl, below_quiet ⟨_, rfl⟩⟩
 ·have hb : bits .and .i32 12 15 = 12 := by decide
  go_enter Tryz.func225, Tryz.ntmps225
  go_wp2_with fail
  go_quiet (fail)
  go_wp2_with fail
  go_ret
  exact ⟨rfl, below_quiet ⟨_, rfl⟩⟩
 ·have hb : bits .and .i32 13 15 = 13 := by decide
  go_enter Tryz.func225, Tryz.ntmps225
  go_wp2_with fail
  go_quiet (fail)
  go_wp2_with fail
  go_ret
  exact ⟨rfl, below_quiet ⟨_, rfl⟩⟩
 ·have hb : bits .and .i32 14 15 = 14 := by decide
  go_enter Tryz.func225, Tryz.ntmps225
  go_wp2_with fail
  go_quiet (fail)
  go_wp2_with fail
  go_ret
  exact ⟨rfl, below_quiet ⟨_, rfl⟩⟩
 ·have hb : bits .and .i32 15 15 = 15 := by decide
  go_enter Tryz.func225, Tryz.ntmps225
  go_wp2_with fail
  go_quiet (fail)
  go_wp2_with fail
  go_ret
  exact ⟨rfl, below_quiet ⟨_, rfl⟩⟩
 ·have hb : bits .and .i32 16 15 = 0 := by decide
  go_enter Tryz.func225, Tryz.ntmps225
  go_wp2_with fail
  go_quiet (fail)
  go_wp2_with fail
  go_ret
  exact ⟨rfl, below_quiet ⟨_, rfl⟩⟩
 ·have hb : bits .and .i32 17 15 = 1 := by decide
  go_enter Tryz.func225, Tryz.ntmps225
  go_wp2_with fail
  go_quiet (fail)
  go_wp2_with fail
  go_ret
  exact ⟨rfl, below_quiet ⟨_, rfl⟩⟩
 ·have hb : bits .and .i32 18 15 = 2 := by decide
  go_enter Tryz.func225, Tryz.ntmps225
  go_wp2_with fail
  go_quiet (fail)
  go_wp2_with fail
  go_ret
  exact ⟨rfl, below_quiet ⟨_, rfl⟩⟩
 ·have hb : bits .and .i32 19 15 = 3 := by decide
  go_enter Tryz.func225, Tryz.ntmps225
  go_wp2_with fail
  go_quiet (fail)
  go_wp2_with fail
  go_ret
  exact ⟨rfl, below_quiet ⟨_, rfl⟩⟩
 ·have hb : bits .and .i32 20 15 = 4 := by decide
  go_enter Tryz.func225, Tryz.ntmps225
  go_wp2_with fail
  go_quiet (fail)
  go_wp2_with fail
  go_ret
  exact ⟨rfl, below_quiet ⟨_, rfl⟩⟩
 ·have hb : bits .and .i32 21 15 = 5 := by decide
  go_enter Tryz.func225, Tryz.ntmps225
  go_wp2_with fail
  go_quiet (fail)
  go_wp2_with fail
  go_ret
  exact ⟨rfl, below_quiet ⟨_, rfl⟩⟩
 ·have hb : bits .and .i32 22 15 = 6 := by decide
  go_enter Tryz.func225, Tryz.ntmps225
  go_wp2_with fail
  go_quiet (fail)
  go_wp2_with fail
  go_ret
  exact ⟨rfl, below_quiet ⟨_, rfl⟩⟩
 ·have hb : bits .and .i32 23 15 = 7 := by decide
  go_enter Tryz.func225, Tryz.ntmps225
  go_wp2_with fail
  go_quiet (fail)
  go_wp2_with fail
  go_ret
  exact ⟨rfl, below_quiet ⟨_, rfl⟩⟩
 ·have hb : bits .and .i32 24 15 = 8 := by decide
  go_enter Tryz.func225, Tryz.ntmps225
  go_wp2_with fail
  go_quiet (fail)
  go_wp2_with fail
  go_ret
  exact ⟨rfl, below_quiet ⟨_, rfl⟩⟩
 ·have hb : bits .and .i32 25 15 = 9 := by decide
  go_enter Tryz.func225, Tryz.ntmps225
  go_wp2_with fail
  go_quiet (fail)
  go_wp2_with fail
  go_ret
  exact ⟨rfl, below_quiet ⟨_, rfl⟩⟩
 ·have hb : bits .and .i32 26 15 = 10 := by decide
  go_enter Tryz.func225, Tryz.ntmps225
  go_wp2_with fail
  go_quiet (fail)
  go_wp2_with fail
  go_ret
  exact ⟨rfl, below_quiet ⟨_, rfl⟩⟩
 ·have hb : bits .and .i32 27 15 = 11 := by decide
  go_enter Tryz.func225, Tryz.ntmps225
  go_wp2_with fail
  go_quiet (fail)
  go_wp2_with fail
  go_ret
  exact ⟨rfl, below_quiet ⟨_, rfl⟩⟩
 ·have hb : bits .and .i32 28 15 = 12 := by decide
  go_enter Tryz.func225, Tryz.ntmps225
  go_wp2_with fail
  go_quiet (fail)
  go_wp2_with fail
  go_ret
  exact ⟨rfl, below_quiet ⟨_, rfl⟩⟩
 ·have hb : bits .and .i32 29 15 = 13 := by decide
  go_enter Tryz.func225, Tryz.ntmps225
  go_wp2_with fail
  go_quiet (fail)
  go_wp2_with fail
  go_ret
  exact ⟨rfl, below_quiet ⟨_, rfl⟩⟩
 ·have hb : bits .and .i32 30 15 = 14 := by decide
  go_enter Tryz.func225, Tryz.ntmps225
  go_wp2_with fail
  go_quiet (fail)
  go_wp2_with fail
  go_ret
  exact ⟨rfl, below_quiet ⟨_, rfl⟩⟩
 ·have hb : bits .and .i32 31 15 = 15 := by decide
  go_enter Tryz.func225, Tryz.ntmps225
  go_wp2_with fail
  go_quiet (fail)
  go_wp2_with fail
  go_ret
  exact ⟨rfl, below_quiet ⟨_, rfl⟩⟩
end
section
open Go.RowKit Np Up Qp
theorem ext_end (s : ByteArray) (k : Nat) : (s.extract k s.size).data.toList = s.data.toList.drop k := by
 have h := Lib.extract_toList s k s.size
 rw [ByteArray.toList_eq] at h
 rw [h, List.take_of_length_le (by simp)]
theorem drop_ne (s : ByteArray) (k : Nat) (h : k < s.size) : s.data.toList.drop k ≠ [] := by
 intro h'; have := congrArg List.length h'; rw [List.length_drop, size_toList, List.length_nil] at this; omega
theorem dec_at (s : ByteArray) (k : Nat) : Utf8.decode s k = Lib.decodeL (s.data.toList.drop k) := (Lib.decodeL_drop s k).symm
theorem dec_width (l : List UInt8) (hl : l ≠ []) : 1 ≤ (Lib.decodeL l).2 ∧ (Lib.decodeL l).2 ≤ l.length := ⟨Lib.decodeL_width l, Lib.decodeL_le l hl⟩
theorem dec_good {l : List UInt8} (h : runeN l ≠ 0) : (Lib.decodeL l).2 = runeN l := by
 rcases decode_rune l with ⟨h0, _⟩ | ⟨_, h1, _⟩
 ·exact absurd h0 h
 ·exact h1
end
end Go.Proofs.YtldioobbfkaebaaGreatDoor
namespace Go.Proofs
open Go.Shelf
def Tryz.growT_ren : Go.Shelf.Ren := ⟨fun | 4 => 145 | n => n, fun | 22 => 122 | 25 => 61 | 3 => 3 | 4 => 4 | 9 => 9 | 20 => 20 | 0 => 0 | n => n, fun | n => n⟩
theorem Tryz.growT : Go.Proofs.Lays8.n4 Tryz.prog Tryz.growT_ren := {
 mixed := by kernel_rfl
 f4 := ⟨Tryz.f145.name, by decide, Tryz.func145.trans (congrArg some (by kernel_rfl))⟩
 t0 := Tryz.underlying0
 a0 := Tryz.isAgg0
 z0 := Tryz.sizeOf0
 v0 := Tryz.zeroValue0
 t3 := Tryz.underlying3
 a3 := Tryz.isAgg3
 z3 := Tryz.sizeOf3
 v3 := Tryz.zeroValue3
 t4 := Tryz.underlying4
 a4 := Tryz.isAgg4
 z4 := Tryz.sizeOf4
 v4 := Tryz.zeroValue4
 t9 := Tryz.underlying9
 a9 := Tryz.isAgg9
 z9 := Tryz.sizeOf9
 v9 := Tryz.zeroValue9
 t20 := Tryz.underlying20
 a20 := Tryz.isAgg20
 z20 := Tryz.sizeOf20
 v20 := Tryz.zeroValue20
 t22 := Tryz.underlying122
 a22 := Tryz.isAgg122
 z22 := Tryz.sizeOf122
 v22 := Tryz.zeroValue122 }
end Go.Proofs
