/-
  Joined: LenP, ShelfV, Shelf, NumW2, Kb, RefW2, NumPlain6.
-/
import Derived.Test.YtbhgmfddjnkglaaGreatDoorBase
import Derived.Shelf.Unicode.ValidAny
import Derived.Test.YtbhgmfddjnkglaaGreatDoorProg
import Derived.Shelf.Strings.Trim
import Derived.Shelf.Small.Wraps
import Derived.Shelf.Strings.Repeat
import Derived.Test.YtbhgmfddjnkglaaGreatDoorNumW1
import Derived.Laws.Pointers
import Derived.Test.YtbhgmfddjnkglaaGreatDoorMem
import Derived.Outline
import Derived.Test.YtbhgmfddjnkglaaGreatDoorNumPlain5
import Derived.Lib.Strings

/-
  How long a slice is. Of no function.
-/
namespace Go.Proofs.YtbhgmfddjnkglaaGreatDoor
open Go.RowKit
/-- How long a slice is. -/
def lenOf : Value → Nat
  | .slice _ n _ => n
  | _ => 0
end Go.Proofs.YtbhgmfddjnkglaaGreatDoor

/-
  Contracts of library functions, at this translation.
-/
namespace Go.Proofs
open Go.Shelf
def Tryz.laysValid_ren : Go.Shelf.Ren := ⟨fun | 196 => 69 | 259 => 103 | n => n, fun | 9 => 9 | 4 => 4 | 3 => 3 | 5 => 5 | 12 => 12 | 119 => 133 | 0 => 0 | 46 => 92 | 139 => 136 | 138 => 135 | 53 => 131 | n => n, fun | 3 => 1 | 4 => 2 | n => n⟩
theorem Tryz.laysValid : Go.Proofs.Lays.n196 Tryz.prog Tryz.laysValid_ren := {
  mixed := by kernel_rfl
  f196 := Tryz.func69.trans (congrArg some (by kernel_rfl))
  f259 := Tryz.func103.trans (congrArg some (by kernel_rfl))
  t0 := Tryz.underlying0
  a0 := Tryz.isAgg0
  z0 := Tryz.sizeOf0
  v0 := Tryz.zeroValue0
  t3 := Tryz.underlying3
  a3 := Tryz.isAgg3
  z3 := Tryz.sizeOf3
  v3 := Tryz.zeroValue3
  t4 := Tryz.underlying4
  a4 := Tryz.isAgg4
  z4 := Tryz.sizeOf4
  v4 := Tryz.zeroValue4
  t5 := Tryz.underlying5
  a5 := Tryz.isAgg5
  z5 := Tryz.sizeOf5
  v5 := Tryz.zeroValue5
  t9 := Tryz.underlying9
  a9 := Tryz.isAgg9
  z9 := Tryz.sizeOf9
  v9 := Tryz.zeroValue9
  t12 := Tryz.underlying12
  a12 := Tryz.isAgg12
  z12 := Tryz.sizeOf12
  v12 := Tryz.zeroValue12
  t46 := Tryz.underlying92
  a46 := Tryz.isAgg92
  z46 := Tryz.sizeOf92
  v46 := Tryz.zeroValue92
  t53 := Tryz.underlying131
  a53 := Tryz.isAgg131
  z53 := Tryz.sizeOf131
  v53 := Tryz.zeroValue131
  t119 := Tryz.underlying133
  a119 := Tryz.isAgg133
  z119 := Tryz.sizeOf133
  t138 := Tryz.underlying135
  a138 := Tryz.isAgg135
  z138 := Tryz.sizeOf135
  v138 := Tryz.zeroValue135
  t139 := Tryz.underlying136
  a139 := Tryz.isAgg136
  z139 := Tryz.sizeOf136
  v139 := Tryz.zeroValue136
  g3 := by kernel_rfl
  g4 := by kernel_rfl }
end Go.Proofs

/-
  Contracts of library functions, at this translation: strings_TrimLeft_one, strings_TrimRight_one, cmp_Compare_int, strings_Repeat.
-/
namespace Go.Proofs
open Go.Shelf
def Tryz.lays161_ren : Go.Shelf.Ren := ⟨fun | 161 => 62 | 231 => 80 | 227 => 81 | 233 => 82 | 235 => 83 | 228 => 114 | 197 => 115 | 151 => 116 | 260 => 129 | 152 => 130 | 137 => 135 | 119 => 136 | 224 => 137 | 225 => 138 | 217 => 139 | 266 => 140 | n => n, fun | 9 => 9 | 4 => 4 | 3 => 3 | 5 => 5 | 117 => 104 | 116 => 103 | 0 => 0 | 124 => 107 | 105 => 144 | 21 => 21 | 119 => 133 | 46 => 92 | 139 => 136 | 138 => 135 | n => n, fun | 3 => 1 | 4 => 2 | n => n⟩
theorem Tryz.lays161 : Go.Proofs.Lays.n161 Tryz.prog Tryz.lays161_ren := {
  mixed := by kernel_rfl
  f119 := Tryz.func136.trans (congrArg some (by kernel_rfl))
  f137 := Tryz.func135.trans (congrArg some (by kernel_rfl))
  f151 := Tryz.func116.trans (congrArg some (by kernel_rfl))
  f152 := Tryz.func130.trans (congrArg some (by kernel_rfl))
  f161 := Tryz.func62.trans (congrArg some (by kernel_rfl))
  f197 := Tryz.func115.trans (congrArg some (by kernel_rfl))
  f217 := Tryz.func139.trans (congrArg some (by kernel_rfl))
  f224 := Tryz.func137.trans (congrArg some (by kernel_rfl))
  f225 := Tryz.func138.trans (congrArg some (by kernel_rfl))
  f227 := Tryz.func81.trans (congrArg some (by kernel_rfl))
  f228 := Tryz.func114.trans (congrArg some (by kernel_rfl))
  f231 := Tryz.func80.trans (congrArg some (by kernel_rfl))
  f233 := Tryz.func82.trans (congrArg some (by kernel_rfl))
  f235 := Tryz.func83.trans (congrArg some (by kernel_rfl))
  f260 := Tryz.func129.trans (congrArg some (by kernel_rfl))
  f266 := Tryz.func140.trans (congrArg some (by kernel_rfl))
  t0 := Tryz.underlying0
  a0 := Tryz.isAgg0
  z0 := Tryz.sizeOf0
  v0 := Tryz.zeroValue0
  t3 := Tryz.underlying3
  a3 := Tryz.isAgg3
  z3 := Tryz.sizeOf3
  v3 := Tryz.zeroValue3
  t4 := Tryz.underlying4
  a4 := Tryz.isAgg4
  z4 := Tryz.sizeOf4
  v4 := Tryz.zeroValue4
  t5 := Tryz.underlying5
  a5 := Tryz.isAgg5
  z5 := Tryz.sizeOf5
  v5 := Tryz.zeroValue5
  t9 := Tryz.underlying9
  a9 := Tryz.isAgg9
  z9 := Tryz.sizeOf9
  v9 := Tryz.zeroValue9
  t21 := Tryz.underlying21
  a21 := Tryz.isAgg21
  z21 := Tryz.sizeOf21
  v21 := Tryz.zeroValue21
  t46 := Tryz.underlying92
  a46 := Tryz.isAgg92
  z46 := Tryz.sizeOf92
  v46 := Tryz.zeroValue92
  t105 := Tryz.underlying144
  a105 := Tryz.isAgg144
  z105 := Tryz.sizeOf144
  v105 := Tryz.zeroValue144
  t116 := Tryz.underlying103
  a116 := Tryz.isAgg103
  z116 := Tryz.sizeOf103
  t117 := Tryz.underlying104
  a117 := Tryz.isAgg104
  z117 := Tryz.sizeOf104
  v117 := Tryz.zeroValue104
  t119 := Tryz.underlying133
  a119 := Tryz.isAgg133
  z119 := Tryz.sizeOf133
  t124 := Tryz.underlying107
  a124 := Tryz.isAgg107
  z124 := Tryz.sizeOf107
  v124 := Tryz.zeroValue107
  t138 := Tryz.underlying135
  a138 := Tryz.isAgg135
  z138 := Tryz.sizeOf135
  v138 := Tryz.zeroValue135
  t139 := Tryz.underlying136
  a139 := Tryz.isAgg136
  z139 := Tryz.sizeOf136
  v139 := Tryz.zeroValue136
  g3 := by kernel_rfl
  g4 := by kernel_rfl }
open Go.RowKit in
theorem Tryz.strings_TrimLeft_one (s : ByteArray) (c : UInt8) (hc : c.toNat < 128) (w : World) :
    Calls Tryz.prog 62 #[.string s, .string ⟨#[c]⟩] w fun e w' => e = .returned (.string ⟨(Lib.trimLeftB s.data.toList c).toArray⟩) ∧ w' = w := Any.strings_TrimLeft_one Tryz.lays161 s c hc w
def Tryz.lays162_ren : Go.Shelf.Ren := ⟨fun | 162 => 63 | 232 => 84 | 227 => 81 | 234 => 85 | 236 => 86 | 228 => 114 | 271 => 117 | 151 => 116 | 120 => 131 | 197 => 115 | 152 => 130 | 260 => 129 | 137 => 135 | 119 => 136 | 224 => 137 | 225 => 138 | 217 => 139 | 266 => 140 | n => n, fun | 9 => 9 | 4 => 4 | 3 => 3 | 5 => 5 | 117 => 104 | 116 => 103 | 0 => 0 | 124 => 107 | 21 => 21 | 105 => 144 | 46 => 92 | 119 => 133 | 139 => 136 | 138 => 135 | n => n, fun | 3 => 1 | 4 => 2 | n => n⟩
theorem Tryz.lays162 : Go.Proofs.Lays.n162 Tryz.prog Tryz.lays162_ren := {
  mixed := by kernel_rfl
  f119 := Tryz.func136.trans (congrArg some (by kernel_rfl))
  f120 := Tryz.func131.trans (congrArg some (by kernel_rfl))
  f137 := Tryz.func135.trans (congrArg some (by kernel_rfl))
  f151 := Tryz.func116.trans (congrArg some (by kernel_rfl))
  f152 := Tryz.func130.trans (congrArg some (by kernel_rfl))
  f162 := Tryz.func63.trans (congrArg some (by kernel_rfl))
  f197 := Tryz.func115.trans (congrArg some (by kernel_rfl))
  f217 := Tryz.func139.trans (congrArg some (by kernel_rfl))
  f224 := Tryz.func137.trans (congrArg some (by kernel_rfl))
  f225 := Tryz.func138.trans (congrArg some (by kernel_rfl))
  f227 := Tryz.func81.trans (congrArg some (by kernel_rfl))
  f228 := Tryz.func114.trans (congrArg some (by kernel_rfl))
  f232 := Tryz.func84.trans (congrArg some (by kernel_rfl))
  f234 := Tryz.func85.trans (congrArg some (by kernel_rfl))
  f236 := Tryz.func86.trans (congrArg some (by kernel_rfl))
  f260 := Tryz.func129.trans (congrArg some (by kernel_rfl))
  f266 := Tryz.func140.trans (congrArg some (by kernel_rfl))
  f271 := Tryz.func117.trans (congrArg some (by kernel_rfl))
  t0 := Tryz.underlying0
  a0 := Tryz.isAgg0
  z0 := Tryz.sizeOf0
  v0 := Tryz.zeroValue0
  t3 := Tryz.underlying3
  a3 := Tryz.isAgg3
  z3 := Tryz.sizeOf3
  v3 := Tryz.zeroValue3
  t4 := Tryz.underlying4
  a4 := Tryz.isAgg4
  z4 := Tryz.sizeOf4
  v4 := Tryz.zeroValue4
  t5 := Tryz.underlying5
  a5 := Tryz.isAgg5
  z5 := Tryz.sizeOf5
  v5 := Tryz.zeroValue5
  t9 := Tryz.underlying9
  a9 := Tryz.isAgg9
  z9 := Tryz.sizeOf9
  v9 := Tryz.zeroValue9
  t21 := Tryz.underlying21
  a21 := Tryz.isAgg21
  z21 := Tryz.sizeOf21
  v21 := Tryz.zeroValue21
  t46 := Tryz.underlying92
  a46 := Tryz.isAgg92
  z46 := Tryz.sizeOf92
  v46 := Tryz.zeroValue92
  t105 := Tryz.underlying144
  a105 := Tryz.isAgg144
  z105 := Tryz.sizeOf144
  v105 := Tryz.zeroValue144
  t116 := Tryz.underlying103
  a116 := Tryz.isAgg103
  z116 := Tryz.sizeOf103
  t117 := Tryz.underlying104
  a117 := Tryz.isAgg104
  z117 := Tryz.sizeOf104
  v117 := Tryz.zeroValue104
  t119 := Tryz.underlying133
  a119 := Tryz.isAgg133
  z119 := Tryz.sizeOf133
  t124 := Tryz.underlying107
  a124 := Tryz.isAgg107
  z124 := Tryz.sizeOf107
  v124 := Tryz.zeroValue107
  t138 := Tryz.underlying135
  a138 := Tryz.isAgg135
  z138 := Tryz.sizeOf135
  v138 := Tryz.zeroValue135
  t139 := Tryz.underlying136
  a139 := Tryz.isAgg136
  z139 := Tryz.sizeOf136
  v139 := Tryz.zeroValue136
  g3 := by kernel_rfl
  g4 := by kernel_rfl }
open Go.RowKit in
theorem Tryz.strings_TrimRight_one (s : ByteArray) (c : UInt8) (hc : c.toNat < 128) (w : World) (hs : s.size ≤ 9223372036854775807) :
    Calls Tryz.prog 63 #[.string s, .string ⟨#[c]⟩] w fun e w' => e = .returned (.string ⟨(Lib.trimRightB s.data.toList c).toArray⟩) ∧ w' = w := Any.strings_TrimRight_one Tryz.lays162 s c hc w hs
def Tryz.lays122_ren : Go.Shelf.Ren := ⟨fun | 122 => 73 | 215 => 107 | n => n, fun | 3 => 3 | 4 => 4 | n => n, fun | n => n⟩
theorem Tryz.lays122 : Go.Proofs.Lays.n122 Tryz.prog Tryz.lays122_ren := {
  mixed := by kernel_rfl
  f122 := Tryz.func73.trans (congrArg some (by kernel_rfl))
  f215 := Tryz.func107.trans (congrArg some (by kernel_rfl))
  t3 := Tryz.underlying3
  a3 := Tryz.isAgg3
  z3 := Tryz.sizeOf3
  v3 := Tryz.zeroValue3
  t4 := Tryz.underlying4
  a4 := Tryz.isAgg4
  z4 := Tryz.sizeOf4
  v4 := Tryz.zeroValue4 }
open Go.RowKit in
theorem Tryz.cmp_Compare_int (x y : Int) (w : World) :
    Calls Tryz.prog 73 #[.int .i64 x, .int .i64 y] w fun e w' => e = .returned (.int .i64 (Lib.compareInt x y)) ∧ w' = w := Any.cmp_Compare_int Tryz.lays122 x y w
def Tryz.lays105_ren : Go.Shelf.Ren := ⟨fun | 105 => 66 | 212 => 87 | 99 => 88 | 165 => 89 | 166 => 90 | 170 => 91 | 169 => 92 | 263 => 118 | 264 => 119 | 206 => 120 | 240 => 121 | 241 => 122 | 276 => 132 | 277 => 133 | n => n, fun | 9 => 9 | 3 => 3 | 4 => 4 | 20 => 20 | 0 => 0 | 46 => 92 | 109 => 108 | 5 => 5 | 72 => 114 | 76 => 118 | 51 => 129 | 146 => 147 | 53 => 131 | 148 => 149 | 70 => 111 | 37 => 112 | 75 => 117 | 127 => 151 | 164 => 160 | 80 => 120 | n => n, fun | n => n⟩
theorem Tryz.lays105 : Go.Proofs.Lays.n105 Tryz.prog Tryz.lays105_ren := {
  mixed := by kernel_rfl
  f99 := Tryz.func88.trans (congrArg some (by kernel_rfl))
  f105 := Tryz.func66.trans (congrArg some (by kernel_rfl))
  f165 := Tryz.func89.trans (congrArg some (by kernel_rfl))
  f166 := Tryz.func90.trans (congrArg some (by kernel_rfl))
  f169 := Tryz.func92.trans (congrArg some (by kernel_rfl))
  f170 := Tryz.func91.trans (congrArg some (by kernel_rfl))
  f206 := Tryz.func120.trans (congrArg some (by kernel_rfl))
  f212 := Tryz.func87.trans (congrArg some (by kernel_rfl))
  f240 := Tryz.func121.trans (congrArg some (by kernel_rfl))
  f241 := Tryz.func122.trans (congrArg some (by kernel_rfl))
  f263 := Tryz.func118.trans (congrArg some (by kernel_rfl))
  f264 := Tryz.func119.trans (congrArg some (by kernel_rfl))
  f276 := Tryz.func132.trans (congrArg some (by kernel_rfl))
  f277 := Tryz.func133.trans (congrArg some (by kernel_rfl))
  t0 := Tryz.underlying0
  a0 := Tryz.isAgg0
  z0 := Tryz.sizeOf0
  v0 := Tryz.zeroValue0
  t3 := Tryz.underlying3
  a3 := Tryz.isAgg3
  z3 := Tryz.sizeOf3
  v3 := Tryz.zeroValue3
  t4 := Tryz.underlying4
  a4 := Tryz.isAgg4
  z4 := Tryz.sizeOf4
  v4 := Tryz.zeroValue4
  t5 := Tryz.underlying5
  a5 := Tryz.isAgg5
  z5 := Tryz.sizeOf5
  v5 := Tryz.zeroValue5
  t9 := Tryz.underlying9
  a9 := Tryz.isAgg9
  z9 := Tryz.sizeOf9
  v9 := Tryz.zeroValue9
  t20 := Tryz.underlying20
  a20 := Tryz.isAgg20
  z20 := Tryz.sizeOf20
  v20 := Tryz.zeroValue20
  t37 := Tryz.underlying112
  a37 := Tryz.isAgg112
  z37 := Tryz.sizeOf112
  v37 := Tryz.zeroValue112
  t46 := Tryz.underlying92
  a46 := Tryz.isAgg92
  z46 := Tryz.sizeOf92
  v46 := Tryz.zeroValue92
  t51 := Tryz.underlying129
  a51 := Tryz.isAgg129
  z51 := Tryz.sizeOf129
  v51 := Tryz.zeroValue129
  t53 := Tryz.underlying131
  a53 := Tryz.isAgg131
  z53 := Tryz.sizeOf131
  v53 := Tryz.zeroValue131
  t70 := Tryz.underlying111
  a70 := Tryz.isAgg111
  z70 := Tryz.sizeOf111
  v70 := Tryz.zeroValue111
  t72 := Tryz.underlying114
  a72 := Tryz.isAgg114
  z72 := Tryz.sizeOf114
  v72 := Tryz.zeroValue114
  t75 := Tryz.underlying117
  a75 := Tryz.isAgg117
  z75 := Tryz.sizeOf117
  v75 := Tryz.zeroValue117
  t76 := Tryz.underlying118
  a76 := Tryz.isAgg118
  z76 := Tryz.sizeOf118
  v76 := Tryz.zeroValue118
  t109 := Tryz.underlying108
  a109 := Tryz.isAgg108
  z109 := Tryz.sizeOf108
  v109 := Tryz.zeroValue108
  t127 := Tryz.underlying151
  a127 := Tryz.isAgg151
  z127 := Tryz.sizeOf151
  v127 := Tryz.zeroValue151
  t146 := Tryz.underlying147
  a146 := Tryz.isAgg147
  z146 := Tryz.sizeOf147
  v146 := Tryz.zeroValue147
  t148 := Tryz.underlying149
  a148 := Tryz.isAgg149
  z148 := Tryz.sizeOf149
  v148 := Tryz.zeroValue149
  t164 := Tryz.underlying160
  a164 := Tryz.isAgg160
  z164 := Tryz.sizeOf160
  v164 := Tryz.zeroValue160 }
theorem Tryz.Builder_Extra_105 : Builder.Extra Tryz.prog Tryz.lays105_ren := {
  sizeBuilder := by kernel_rfl
  liesBuilder := by kernel_rfl
  t5 := Tryz.underlying5
  a5 := Tryz.isAgg5
  z5 := Tryz.sizeOf5
  v5 := Tryz.zeroValue5
  infoByte := by kernel_rfl
  cellsByte := by kernel_rfl
  sizeByte := by kernel_rfl
  neB5 := by decide }
open Go.RowKit Go.Lib in
theorem Tryz.strings_Repeat (s : ByteArray) (c : Nat) (w : World) (hc : c ≤ 9223372036854775807) (hlen : s.size * c ≤ 140737488355328) :
    Calls Tryz.prog 66 #[.string s, .int .i64 c] w fun e w' => e = .returned (.string ⟨(Lib.repeatL s.data.toList c).toArray⟩) ∧ Below w.heap.size w w' := Any.strings_Repeat Tryz.lays105 Tryz.Builder_Extra_105 s c w hc hlen
end Go.Proofs

/-
  What num's comparing functions answer: sign, cmpSize, Cmp; and the library's Compare of two strings.
-/
namespace Go.Proofs.YtbhgmfddjnkglaaGreatDoor
open Go.RowKit Np



set_option maxHeartbeats 400000 in
theorem isNaNStr_any (s : ByteArray) (w : World) :
    Calls Tryz.prog 111 #[.string s] w fun e w' => e = .returned (.bool false) ∧ w = w' := by
  go_enter Tryz.func111, Tryz.ntmps111
  go_wp2
  go_ret
  exact ⟨ret_bool (by simp), rfl⟩

set_option maxHeartbeats 400000 in
theorem cmpStr_any (s t : ByteArray) (w : World) :
    Calls Tryz.prog 76 #[.string s, .string t] w fun e w' => e = .returned (.int .i64 (cmpB s.data.toList t.data.toList)) ∧ w = w' := by
  go_enter Tryz.func76, Tryz.ntmps76
  go_wp2_with (go_at_call 111; refine (isNaNStr_any _ _).mono ?_; rintro e w' ⟨rfl, rfl⟩)
  · have h : Op.bytesLess s.toList t.toList = true := by assumption
    rw [ByteArray.toList_eq, ByteArray.toList_eq] at h
    go_ret
    exact ⟨ret_i64 (by rw [cmpB, if_pos h]), rfl⟩
  · have h : Op.bytesLess s.toList t.toList = false := by assumption
    have h2 : (!s.toList == t.toList) = true := by assumption
    rw [ByteArray.toList_eq, ByteArray.toList_eq] at h h2
    go_ret
    exact ⟨ret_i64 (by rw [cmpB, if_neg (by rw [h]; decide), if_neg (by simpa using h2)]), rfl⟩
  · have h : Op.bytesLess s.toList t.toList = false := by assumption
    have h2 : (!s.toList == t.toList) = false := by assumption
    rw [ByteArray.toList_eq, ByteArray.toList_eq] at h h2
    go_ret
    exact ⟨ret_i64 (by rw [cmpB, if_neg (by rw [h]; decide), if_pos (by simpa using h2)]), rfl⟩

set_option maxHeartbeats 400000 in
theorem sign_any (k m : Int) (nm s : ByteArray) (g : Bool) (x : Int) (w : World) :
    Calls Tryz.prog 109 #[.agg #[.int .i64 k, .int .i64 m, .string nm, .string s, .bool g, .int .i64 x]] w fun e w' => e = .returned (.int .i64 (sgn s.data.toList g)) ∧ Below w.heap.size w w' := by
  have hB : Below w.heap.size w w := Below.refl _ _
  go_enter Tryz.func109, Tryz.ntmps109
  go_wp2_with fail
  · have h : s.toList.isEmpty = true := by assumption
    rw [ByteArray.toList_eq] at h
    go_ret
    exact ⟨ret_i64 (by rw [sgn, if_pos h]), hB.alloc (Nat.le_refl _) _⟩
  · have h : s.toList.isEmpty = false := by assumption
    have h2 : g = true := by assumption
    rw [ByteArray.toList_eq] at h
    go_ret
    exact ⟨ret_i64 (by rw [sgn, if_neg (by rw [h]; decide), if_pos h2]), hB.alloc (Nat.le_refl _) _⟩
  · have h : s.toList.isEmpty = false := by assumption
    have h2 : g = false := by assumption
    rw [ByteArray.toList_eq] at h
    go_ret
    exact ⟨ret_i64 (by rw [sgn, if_neg (by rw [h]; decide), if_neg (by rw [h2]; decide)]), hB.alloc (Nat.le_refl _) _⟩

set_option maxHeartbeats 400000 in
theorem cmpSize_any (k m : Int) (nm s : ByteArray) (g : Bool) (x : Int) (k2 m2 : Int) (nm2 s2 : ByteArray) (g2 : Bool) (x2 : Int) (w : World)
    (hs : s.size ≤ 1000000) (hs2 : s2.size ≤ 1000000) (hx : -1000000 ≤ x) (hx' : x ≤ 1000000) (hx2 : -1000000 ≤ x2) (hx2' : x2 ≤ 1000000) :
    Calls Tryz.prog 110 #[.agg #[.int .i64 k, .int .i64 m, .string nm, .string s, .bool g, .int .i64 x], .agg #[.int .i64 k2, .int .i64 m2, .string nm2, .string s2, .bool g2, .int .i64 x2]] w
      fun e w' => e = .returned (.int .i64 (cmpSz s.data.toList x s2.data.toList x2)) ∧ Below w.heap.size w w' := by
  have hB : Below w.heap.size w w := Below.refl _ _
  go_enter Tryz.func110, Tryz.ntmps110
  go_wp2_with fail
  refine (Tryz.cmp_Compare_int _ _ _).mono ?_
  rintro e w' ⟨rfl, rfl⟩
  have HV : Hid (cmpSz s.data.toList x s2.data.toList x2 = if Lib.compareInt (s.size + x) (s2.size + x2) = 0 then cmpB s.data.toList s2.data.toList else Lib.compareInt (s.size + x) (s2.size + x2)) :=
    Lib.hid (by rw [cmpSz, size_toList, size_toList])
  generalize Lib.compareInt (s.size + x) (s2.size + x2) = c at HV ⊢
  by_cases hc : c = 0
  · subst hc
    go_wp2_with (go_at_call 76; refine (cmpStr_any _ _ _).mono ?_; rintro e w' ⟨rfl, rfl⟩)
    go_ret
    exact ⟨ret_i64 (by rw [HV.out, if_pos trivial]), (hB.alloc (Nat.le_refl _) _).alloc (by simp) _⟩
  · go_wp2_with fail
    go_ret
    exact ⟨ret_i64 (by rw [HV.out, if_neg hc]), (hB.alloc (Nat.le_refl _) _).alloc (by simp) _⟩

set_option maxHeartbeats 400000 in
theorem cmp_any (k m : Int) (nm s : ByteArray) (g : Bool) (x : Int) (k2 m2 : Int) (nm2 s2 : ByteArray) (g2 : Bool) (x2 : Int) (w : World)
    (hs : s.size ≤ 1000000) (hs2 : s2.size ≤ 1000000) (hx : -1000000 ≤ x) (hx' : x ≤ 1000000) (hx2 : -1000000 ≤ x2) (hx2' : x2 ≤ 1000000) :
    Calls Tryz.prog 75 #[.agg #[.int .i64 k, .int .i64 m, .string nm, .string s, .bool g, .int .i64 x], .agg #[.int .i64 k2, .int .i64 m2, .string nm2, .string s2, .bool g2, .int .i64 x2]] w
      fun e w' => e = .returned (.int .i64 (cmpN s.data.toList g x s2.data.toList g2 x2)) ∧ Below w.heap.size w w' := by
  have hB : Below w.heap.size w w := Below.refl _ _
  go_enter Tryz.func75, Tryz.ntmps75
  go_wp2_with fail
  refine (sign_any _ _ _ _ _ _ _).mono ?_
  rintro e w1 ⟨rfl, hb1⟩
  obtain ⟨hc1, hf1⟩ := kept_cells hb1
  have hz1 : w.heap.size + 2 ≤ w1.heap.size := by have := hb1.size; simp at this; omega
  have hB1 : Below w.heap.size w w1 := ((hB.alloc (Nat.le_refl _) _).alloc (by simp) _).trans (hb1.mono (by simp; omega))
  clear hb1
  go_wp2_with fail
  refine (sign_any _ _ _ _ _ _ _).mono ?_
  rintro e w2 ⟨rfl, hb2⟩
  have hB2 : Below w.heap.size w w2 := hB1.trans (hb2.mono (by omega))
  have hz2 : w.heap.size + 2 ≤ w2.heap.size := by have := hb2.size; omega
  have hc2 : ∀ b o, b < w.heap.size + 2 → w2.cell? ⟨b, o, none⟩ = w1.cell? ⟨b, o, none⟩ := fun b o h => (kept_cells hb2).1 b o (by omega)
  clear hb2
  go_wp2_with fail
  refine (Tryz.cmp_Compare_int _ _ _).mono ?_
  rintro e w' ⟨rfl, rfl⟩
  have HV : Hid (cmpN s.data.toList g x s2.data.toList g2 x2 = if Lib.compareInt (sgn s.data.toList g) (sgn s2.data.toList g2) = 0 then sgn s.data.toList g * cmpSz s.data.toList x s2.data.toList x2 else Lib.compareInt (sgn s.data.toList g) (sgn s2.data.toList g2)) :=
    Lib.hid (by rw [cmpN])
  generalize Lib.compareInt (sgn s.data.toList g) (sgn s2.data.toList g2) = c at HV ⊢
  by_cases hc : c = 0
  · have hS := sgn_cases s.data.toList g
    generalize sgn s.data.toList g = d at HV hS ⊢
    subst hc
    go_wp2_with fail
    refine (cmpSize_any _ _ _ _ _ _ _ _ _ _ _ _ _ hs hs2 hx hx' hx2 hx2').mono ?_
    rintro e w3 ⟨rfl, hb3⟩
    have hB3 : Below w.heap.size w w3 := hB2.trans (hb3.mono (by omega))
    have hT := cmpSz_cases s.data.toList x s2.data.toList x2
    generalize cmpSz s.data.toList x s2.data.toList x2 = t at HV hT ⊢
    clear hb3 hc1 hf1 hc2
    rcases hS with rfl | rfl | rfl <;> rcases hT with rfl | rfl | rfl
    all_goals
      go_wp2_with fail
      go_ret
      exact ⟨ret_i64 (by rw [HV.out]; rfl), hB3⟩
  · go_wp2_with fail
    go_ret
    exact ⟨ret_i64 (by rw [HV.out, if_neg hc]), hB2⟩

end Go.Proofs.YtbhgmfddjnkglaaGreatDoor

/-
  Words for memory: all but one block is kept. Of no function.
-/
namespace Go.Proofs.YtbhgmfddjnkglaaGreatDoor
open Go.RowKit

/-- Below B all but one block is as it was. -/
structure Kb (B rb : Nat) (w w' : World) : Prop where
  os : w'.os = w.os
  tape : w'.tape = w.tape
  output : w'.output = w.output
  size : w.heap.size ≤ w'.heap.size
  block : ∀ k, k < B → k ≠ rb → w'.heap[k]? = w.heap[k]?
theorem Kb.refl (B rb : Nat) (w : World) : Kb B rb w w := ⟨rfl, rfl, rfl, Nat.le_refl _, fun _ _ _ => rfl⟩
theorem Kb.trans {B rb : Nat} {a b c : World} (h : Kb B rb a b) (k : Kb B rb b c) : Kb B rb a c :=
  ⟨k.os.trans h.os, k.tape.trans h.tape, k.output.trans h.output, Nat.le_trans h.size k.size, fun i hi hr => (k.block i hi hr).trans (h.block i hi hr)⟩
theorem Kb.mono {B B' rb : Nat} {w w' : World} (h : Kb B rb w w') (hB : B' ≤ B) : Kb B' rb w w' := ⟨h.os, h.tape, h.output, h.size, fun k hk hr => h.block k (Nat.lt_of_lt_of_le hk hB) hr⟩
/-- One call behind another. -/
theorem Kb.after {rb : Nat} {a b c : World} (h : Kb a.heap.size rb a b) (k : Kb b.heap.size rb b c) : Kb a.heap.size rb a c := h.trans (k.mono h.size)
theorem Kb.of {B rb : Nat} {w w' : World} (h : Below B w w') : Kb B rb w w' := ⟨h.os, h.tape, h.output, h.size, fun k hk _ => h.block k hk⟩
theorem Kb.below {B C rb : Nat} {w w' : World} (h : Kb B rb w w') (h1 : C ≤ B) (h2 : C ≤ rb) : Below C w w' := ⟨h.os, h.tape, h.output, h.size, fun k hk => h.block k (by omega) (by omega)⟩
theorem Kb.drewN {B rb : Nat} {a w : World} (h : Kb B rb a w) (n : Nat) : Kb B rb a (w.drewN n) := ⟨h.os, h.tape, h.output, h.size, h.block⟩
theorem Kb.drew {B rb : Nat} {a w : World} (h : Kb B rb a w) : Kb B rb a w.drew := ⟨h.os, h.tape, h.output, h.size, h.block⟩
theorem Kb.set {B rb : Nat} {a w : World} (h : Kb B rb a w) (o : Nat) (u : Value) : Kb B rb a (w.setCell ⟨rb, o, none⟩ u) :=
  h.trans ⟨rfl, rfl, rfl, by simp [World.setCell], fun k _ hr => Below.heap_setCell _ _ _ _ hr⟩
theorem Kb.setHigh {B rb : Nat} {a w : World} (h : Kb B rb a w) {p : Addr} (hp : B ≤ p.block) (u : Value) : Kb B rb a (w.setCell p u) :=
  h.trans ⟨rfl, rfl, rfl, by simp [World.setCell], fun k hk _ => Below.heap_setCell _ _ _ _ (by omega)⟩
theorem Kb.alloc {B rb : Nat} {a w : World} (h : Kb B rb a w) (hB : B ≤ w.heap.size) (o : Obj) : Kb B rb a (w.alloc o) :=
  h.trans ⟨rfl, rfl, rfl, by simp, fun k hk _ => Below.heap_alloc _ _ _ (by omega)⟩
theorem Kb.grown {B rb : Nat} {a w w' : World} {row : Option Nat} (h : Kb B rb a w) (hg : w.grownBy w' row) (hB : B ≤ w.heap.size) (hr : ∀ k, row = some k → B ≤ k) : Kb B rb a w' :=
  h.trans ⟨hg.os, hg.tape, hg.output, hg.size, fun k hk _ => hg.block k (by omega) (fun e => by have := hr k e.symm; omega)⟩
theorem Kb.cell {B rb : Nat} {w w' : World} (h : Kb B rb w w') {p : Addr} (hp : p.block < B) (hr : p.block ≠ rb) : w'.cell? p = w.cell? p := World.cell?_of_block (w := w) (h.block p.block hp hr)
theorem Kb.frozen {B rb : Nat} {w w' : World} (h : Kb B rb w w') {p : Addr} (hp : p.block < B) (hr : p.block ≠ rb) : w'.frozen? p = w.frozen? p := World.frozen?_of_block (w := w) (h.block p.block hp hr)
end Go.Proofs.YtbhgmfddjnkglaaGreatDoor

/-
  What the document's own answers are: Same, Texts, Lists; the library's Equal and val's Same.
-/
namespace Go.Proofs.YtbhgmfddjnkglaaGreatDoor
open Go.RowKit Np

theorem take_eq_succ {α : Type} {a b : List α} {k : Nat} {x y : α} (h : a.take k = b.take k) (hx : a[k]? = some x) (hy : b[k]? = some y) (he : x = y) : a.take (k + 1) = b.take (k + 1) := by
  rw [List.take_add_one, List.take_add_one, h, hx, hy, he]
theorem ne_of_at {α : Type} {a b : List α} {k : Nat} {x y : α} (hx : a[k]? = some x) (hy : b[k]? = some y) (he : x ≠ y) : a ≠ b := by
  rintro rfl
  rw [hx] at hy
  exact he (Option.some.inj hy)
theorem eq_of_take {α : Type} {a b : List α} {k : Nat} (h : a.take k = b.take k) (ha : a.length ≤ k) (hb : b.length ≤ k) : a = b := by
  rwa [List.take_of_length_le ha, List.take_of_length_le hb] at h


end Go.Proofs.YtbhgmfddjnkglaaGreatDoor

/-
  Plain words: noughts are taken off figures one by one; what a power comes to. No program stands here.
-/
namespace Go.Proofs.YtbhgmfddjnkglaaGreatDoor
namespace Np
open Go.RowKit

theorem extract_len (s : ByteArray) (a b : Nat) (h : a ≤ b) (h2 : b ≤ s.size) : (s.extract a b).size = b - a := by
  rw [← size_toList, Lib.extract_data]; simp; omega
theorem first_split (s : ByteArray) (h : 0 < s.size) : s.data.toList = s[0] :: s.data.toList.drop 1 := by
  have h2 : 0 < s.data.toList.length := by rw [size_toList]; exact h
  have e := List.drop_eq_getElem_cons h2
  rw [List.drop_zero, get_toList s 0 h] at e
  exact e
theorem trimLeft_step (s : ByteArray) (h : 0 < s.size) (h48 : s[0] = 48) : Lib.trimLeftB (s.extract 1 s.size).data.toList 48 = Lib.trimLeftB s.data.toList 48 := by
  rw [Lib.extract_data]
  have e := first_split s h
  rw [List.take_of_length_le (by simp)]
  conv => rhs; rw [e]
  simp [Lib.trimLeftB, h48]
theorem trimLeft_stop (s : ByteArray) (h : ∀ h : 0 < s.size, s[0] ≠ 48) : Lib.trimLeftB s.data.toList 48 = s.data.toList := by
  unfold Lib.trimLeftB
  by_cases h0 : 0 < s.size
  · have e := first_split s h0
    rw [e, List.dropWhile_cons_of_neg (by simpa using h h0)]
  · have : s.data.toList = [] := by rw [← List.length_eq_zero_iff, size_toList]; omega
    rw [this]; rfl
theorem last_split (s : ByteArray) (h : 0 < s.size) : s.data.toList = (s.extract 0 (s.size - 1)).data.toList ++ [s[s.size - 1]] := by
  have h2 : s.size - 1 < s.data.toList.length := by rw [size_toList]; omega
  have e := List.take_append_getElem h2
  rw [show s.size - 1 + 1 = s.data.toList.length by rw [size_toList]; omega, List.take_length] at e
  rw [Lib.extract_data, List.drop_zero, Nat.sub_zero, ← get_toList s (s.size - 1) (by omega)]
  exact e.symm
theorem trimRight_step (s : ByteArray) (h : 0 < s.size) (h48 : s[s.size - 1] = 48) : Lib.trimRightB (s.extract 0 (s.size - 1)).data.toList 48 = Lib.trimRightB s.data.toList 48 := by
  conv => rhs; rw [last_split s h]
  simp [Lib.trimRightB, h48]
theorem trimRight_snoc (l : List UInt8) (c : UInt8) (h : c ≠ 48) : Lib.trimRightB (l ++ [c]) 48 = l ++ [c] := by simp [Lib.trimRightB, h]
theorem trimRight_stop (s : ByteArray) (h : 0 < s.size) (h48 : s[s.size - 1] ≠ 48) : Lib.trimRightB s.data.toList 48 = s.data.toList := by
  have e := last_split s h
  have e2 := trimRight_snoc (s.extract 0 (s.size - 1)).data.toList s[s.size - 1] h48
  rw [← e] at e2
  exact e2
theorem dropWhile_nil (p : UInt8 → Bool) : ∀ l : List UInt8, l.dropWhile p = [] → ∀ x ∈ l, p x = true
  | [], _, _, hx => by cases hx
  | a :: t, h, x, hx => by
    rw [List.dropWhile_cons] at h
    cases ha : p a
    · rw [ha] at h; simp at h
    · rw [ha] at h
      simp only [if_true] at h
      rcases List.mem_cons.1 hx with e | e
      · rw [e]; exact ha
      · exact dropWhile_nil p t h x e
theorem trimRight_ne {c : UInt8} {t : List UInt8} (h : c ≠ 48) : Lib.trimRightB (c :: t) 48 ≠ [] := by
  intro e
  unfold Lib.trimRightB at e
  rw [List.reverse_eq_nil_iff] at e
  have := dropWhile_nil _ _ e c (by simp)
  simp at this
  exact h this
theorem trimRight_head {c : UInt8} {t : List UInt8} (h : c ≠ 48) : (Lib.trimRightB (c :: t) 48).headD 0 = c := by
  have hp : Lib.trimRightB (c :: t) 48 <+: c :: t := by
    unfold Lib.trimRightB
    have := List.dropWhile_suffix (· == (48 : UInt8)) (l := (c :: t).reverse)
    rw [← List.reverse_prefix] at this
    simpa using this
  cases hl : Lib.trimRightB (c :: t) 48 with
  | nil => exact absurd hl (trimRight_ne h)
  | cons a b =>
    rw [hl] at hp
    rw [List.cons_prefix_cons] at hp
    exact hp.1
theorem trimRight_last (l : List UInt8) (h : Lib.trimRightB l 48 ≠ []) : (Lib.trimRightB l 48).getLastD 0 ≠ 48 := by
  unfold Lib.trimRightB at h ⊢
  rw [ne_eq, List.reverse_eq_nil_iff] at h
  cases hd : l.reverse.dropWhile (· == 48) with
  | nil => exact absurd hd h
  | cons a b =>
    have := List.head?_dropWhile_not (· == (48 : UInt8)) l.reverse
    rw [hd] at this
    simp at this
    simp
    exact this
theorem trimLeft_head (l : List UInt8) (h : Lib.trimLeftB l 48 ≠ []) : ∃ c t, Lib.trimLeftB l 48 = c :: t ∧ c ≠ 48 := by
  cases hd : Lib.trimLeftB l 48 with
  | nil => exact absurd hd h
  | cons a b =>
    refine ⟨a, b, rfl, ?_⟩
    have := List.head?_dropWhile_not (· == (48 : UInt8)) l
    unfold Lib.trimLeftB at hd
    rw [hd] at this
    simpa using this
theorem figs_trimRight {l : List UInt8} (h : figs l = true) : figs (Lib.trimRightB l 48) = true := by
  rw [figs, List.all_eq_true] at h ⊢
  intro x hx
  unfold Lib.trimRightB at hx
  rw [List.mem_reverse] at hx
  have := (List.dropWhile_suffix _).subset hx
  rw [List.mem_reverse] at this
  exact h x this
theorem figs_trimLeft' {l : List UInt8} (h : figs l = true) : figs (Lib.trimLeftB l 48) = true := by
  rw [figs, List.all_eq_true] at h ⊢
  exact fun x hx => h x ((List.dropWhile_suffix _).subset hx)
/-- What the number of figures is, once noughts ahead and behind are off. -/
theorem mkN_right (g : Bool) (f : List UInt8) (e : Int) (hf : figs f = true) (h : Lib.trimLeftB f 48 ≠ []) :
    right (mkN g f e) = (decide ((Lib.trimRightB (Lib.trimLeftB f 48) 48).length ≤ 100) && decide (-1000 ≤ (mkN g f e).e) && decide ((mkN g f e).e ≤ 1000 - (Lib.trimRightB (Lib.trimLeftB f 48) 48).length)) := by
  obtain ⟨c, t, e1, hc⟩ := trimLeft_head f h
  have h1 : Lib.trimRightB (Lib.trimLeftB f 48) 48 ≠ [] := by rw [e1]; exact trimRight_ne hc
  have h2 := trimRight_last _ h1
  have h3 : (Lib.trimRightB (Lib.trimLeftB f 48) 48).headD 0 ≠ 48 := by rw [e1, trimRight_head hc]; exact hc
  have h4 := figs_trimRight (figs_trimLeft' hf)
  rw [right_some rfl rfl rfl (by show List.isEmpty (Lib.trimRightB (Lib.trimLeftB f 48) 48) = false; simpa using h1)]
  show (rfigs (Lib.trimRightB (Lib.trimLeftB f 48) 48) && rpow (Lib.trimRightB (Lib.trimLeftB f 48) 48).length (mkN g f e).e) = _
  unfold rfigs rpow
  rw [bne_iff_ne.2 h2, bne_iff_ne.2 h3, h4]
  simp [Bool.and_assoc]
theorem trim_len (f : List UInt8) : (Lib.trimRightB (Lib.trimLeftB f 48) 48).length ≤ (Lib.trimLeftB f 48).length ∧ (Lib.trimLeftB f 48).length ≤ f.length := by
  refine ⟨?_, (List.dropWhile_suffix _).length_le⟩
  rw [Lib.trimRightB, List.length_reverse]
  exact Nat.le_trans (List.dropWhile_suffix _).length_le (by simp)
theorem mkN_e (g : Bool) (f : List UInt8) (e : Int) (hl : f.length ≤ 1000000) (h1 : -100000000 ≤ e) (h2 : e ≤ 100000000) :
    (mkN g f e).e = e + ((Lib.trimLeftB f 48).length - (Lib.trimRightB (Lib.trimLeftB f 48) 48).length : Nat) := by
  obtain ⟨a, b⟩ := trim_len f
  unfold mkN
  simp only
  unfold wrap64
  omega
theorem mkN_far (g : Bool) (f : List UInt8) (e : Int) (hf : figs f = true) (h : Lib.trimLeftB f 48 ≠ []) (hl : f.length ≤ 1000000) (h0 : -9223372036854775808 ≤ e) (h1 : e ≤ 9223372036854775807) (h2 : e < -100000000 ∨ 100000000 < e) : right (mkN g f e) = false := by
  obtain ⟨a, b⟩ := trim_len f
  rw [mkN_right g f e hf h]
  have h3 : ¬ (-1000 ≤ (mkN g f e).e ∧ (mkN g f e).e ≤ 1000) := by
    unfold mkN
    simp only
    unfold wrap64
    omega
  rw [← Bool.not_eq_true]
  simp only [Bool.and_eq_true, decide_eq_true_eq]
  omega

end Np
end Go.Proofs.YtbhgmfddjnkglaaGreatDoor
