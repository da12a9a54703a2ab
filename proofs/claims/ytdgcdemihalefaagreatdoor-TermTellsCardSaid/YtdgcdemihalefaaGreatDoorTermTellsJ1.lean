/-
  Joined: Build, Emb, FwN, NumOrdP, ObjP, FindP, TreeP, PaP, FwO, ObjP2, Own, Own2, FwM, Pa1, QVal, IntW, CmpW, SortW, Round, RowT, SMap, QRef4, QRef5, Take, TmS, BackP.
-/
import Derived.Shelf.Strings.BuilderK
import Derived.Shelf.Strings.BuilderRune
import Derived.Test.YtdgcdemihalefaaGreatDoorProg
import Derived.Test.YtdgcdemihalefaaGreatDoorBase
import Derived.Test.YtdgcdemihalefaaGreatDoorNumPlain5
import Derived.Sort.Walk0
import Derived.Test.YtdgcdemihalefaaGreatDoorValP2
import Derived.Test.YtdgcdemihalefaaGreatDoorMem
import Derived.WalkSmall
import Derived.Laws.AppendOwnNone
import Derived.Deep.DeepCutAuto
import Derived.ChangeAlike
import Derived.Deep.MidRow
import Derived.Deep.OwnRows
import Derived.Test.YtdgcdemihalefaaGreatDoorQm
import Derived.Test.YtdgcdemihalefaaGreatDoorQuoP
import Derived.Deep.QuietTactic
import Derived.BigQuiet
import Derived.RangeFuncNested
import Derived.RangeFuncBound
import Derived.RangeFuncCalls
import Derived.RangeFuncLeaves
import Derived.RangeFuncBox
import Derived.OrdersHeld
import Derived.OrdersIn
import Derived.StillTail
import Derived.Shelf.Abstract
import Derived.Shelf.RegionOpen
import Derived.OwnWalkIn
import Derived.TacticsInMore
import Derived.LoopNIn
import Derived.LoopIn
import Derived.Maps.OwnSet
import Derived.Maps.Views
import Derived.StringKeys
import Derived.Test.YtdgcdemihalefaaGreatDoorQRef3
import Derived.Deep.AppendLies
namespace Go.Proofs
open Go.Shelf
def Tryz.bld_ren : Go.Shelf.Ren := ⟨fun | 166 => 63 | 167 => 100 | 168 => 220 | 240 => 98 | 242 => 256 | 276 => 142 | 278 => 288 | n => n, fun | 0 => 0 | 3 => 3 | 4 => 4 | 5 => 5 | 9 => 9 | 20 => 20 | 21 => 21 | 37 => 63 | 46 => 173 | 51 => 271 | 70 => 62 | 72 => 65 | 75 => 104 | 80 => 68 | 164 => 179 | n => n, fun | n => n⟩
theorem Tryz.bld166 : Go.Proofs.Lays.n166 Tryz.prog Tryz.bld_ren := {
  mixed := by kernel_rfl
  f166 := Tryz.func63.trans (congrArg some (by kernel_rfl))
  f240 := Tryz.func98.trans (congrArg some (by kernel_rfl))
  f276 := Tryz.func142.trans (congrArg some (by kernel_rfl))
  t0 := Tryz.underlying0
  a0 := Tryz.isAgg0
  z0 := Tryz.sizeOf0
  v0 := Tryz.zeroValue0
  t3 := Tryz.underlying3
  a3 := Tryz.isAgg3
  z3 := Tryz.sizeOf3
  v3 := Tryz.zeroValue3
  t4 := Tryz.underlying4
  a4 := Tryz.isAgg4
  z4 := Tryz.sizeOf4
  v4 := Tryz.zeroValue4
  t20 := Tryz.underlying20
  a20 := Tryz.isAgg20
  z20 := Tryz.sizeOf20
  v20 := Tryz.zeroValue20
  t9 := Tryz.underlying9
  a9 := Tryz.isAgg9
  z9 := Tryz.sizeOf9
  v9 := Tryz.zeroValue9
  t37 := Tryz.underlying63
  a37 := Tryz.isAgg63
  z37 := Tryz.sizeOf63
  v37 := Tryz.zeroValue63
  t70 := Tryz.underlying62
  a70 := Tryz.isAgg62
  z70 := Tryz.sizeOf62
  v70 := Tryz.zeroValue62
  t72 := Tryz.underlying65
  a72 := Tryz.isAgg65
  z72 := Tryz.sizeOf65
  v72 := Tryz.zeroValue65
  t75 := Tryz.underlying104
  a75 := Tryz.isAgg104
  z75 := Tryz.sizeOf104
  v75 := Tryz.zeroValue104
  t164 := Tryz.underlying179
  a164 := Tryz.isAgg179
  z164 := Tryz.sizeOf179
  v164 := Tryz.zeroValue179 }
theorem Tryz.bld167 : Go.Proofs.Lays.n167 Tryz.prog Tryz.bld_ren := {
  mixed := by kernel_rfl
  f167 := Tryz.func100.trans (congrArg some (by kernel_rfl))
  f240 := Tryz.func98.trans (congrArg some (by kernel_rfl))
  f276 := Tryz.func142.trans (congrArg some (by kernel_rfl))
  t0 := Tryz.underlying0
  a0 := Tryz.isAgg0
  z0 := Tryz.sizeOf0
  v0 := Tryz.zeroValue0
  t4 := Tryz.underlying4
  a4 := Tryz.isAgg4
  z4 := Tryz.sizeOf4
  v4 := Tryz.zeroValue4
  t5 := Tryz.underlying5
  a5 := Tryz.isAgg5
  z5 := Tryz.sizeOf5
  v5 := Tryz.zeroValue5
  t9 := Tryz.underlying9
  a9 := Tryz.isAgg9
  z9 := Tryz.sizeOf9
  v9 := Tryz.zeroValue9
  t20 := Tryz.underlying20
  a20 := Tryz.isAgg20
  z20 := Tryz.sizeOf20
  v20 := Tryz.zeroValue20
  t37 := Tryz.underlying63
  a37 := Tryz.isAgg63
  z37 := Tryz.sizeOf63
  v37 := Tryz.zeroValue63
  t70 := Tryz.underlying62
  a70 := Tryz.isAgg62
  z70 := Tryz.sizeOf62
  v70 := Tryz.zeroValue62
  t72 := Tryz.underlying65
  a72 := Tryz.isAgg65
  z72 := Tryz.sizeOf65
  v72 := Tryz.zeroValue65
  t75 := Tryz.underlying104
  a75 := Tryz.isAgg104
  z75 := Tryz.sizeOf104
  v75 := Tryz.zeroValue104
  t164 := Tryz.underlying179
  a164 := Tryz.isAgg179
  z164 := Tryz.sizeOf179
  v164 := Tryz.zeroValue179 }
theorem Tryz.bld168 : Go.Proofs.Lays.n168 Tryz.prog Tryz.bld_ren := {
  mixed := by kernel_rfl
  f168 := Tryz.func220.trans (congrArg some (by kernel_rfl))
  f240 := Tryz.func98.trans (congrArg some (by kernel_rfl))
  f242 := Tryz.func256.trans (congrArg some (by kernel_rfl))
  f276 := Tryz.func142.trans (congrArg some (by kernel_rfl))
  f278 := Tryz.func288.trans (congrArg some (by kernel_rfl))
  t0 := Tryz.underlying0
  a0 := Tryz.isAgg0
  z0 := Tryz.sizeOf0
  v0 := Tryz.zeroValue0
  t3 := Tryz.underlying3
  a3 := Tryz.isAgg3
  z3 := Tryz.sizeOf3
  v3 := Tryz.zeroValue3
  t4 := Tryz.underlying4
  a4 := Tryz.isAgg4
  z4 := Tryz.sizeOf4
  v4 := Tryz.zeroValue4
  t5 := Tryz.underlying5
  a5 := Tryz.isAgg5
  z5 := Tryz.sizeOf5
  v5 := Tryz.zeroValue5
  t9 := Tryz.underlying9
  a9 := Tryz.isAgg9
  z9 := Tryz.sizeOf9
  v9 := Tryz.zeroValue9
  t20 := Tryz.underlying20
  a20 := Tryz.isAgg20
  z20 := Tryz.sizeOf20
  v20 := Tryz.zeroValue20
  t21 := Tryz.underlying21
  a21 := Tryz.isAgg21
  z21 := Tryz.sizeOf21
  v21 := Tryz.zeroValue21
  t37 := Tryz.underlying63
  a37 := Tryz.isAgg63
  z37 := Tryz.sizeOf63
  v37 := Tryz.zeroValue63
  t46 := Tryz.underlying173
  a46 := Tryz.isAgg173
  z46 := Tryz.sizeOf173
  v46 := Tryz.zeroValue173
  t51 := Tryz.underlying271
  a51 := Tryz.isAgg271
  z51 := Tryz.sizeOf271
  v51 := Tryz.zeroValue271
  t70 := Tryz.underlying62
  a70 := Tryz.isAgg62
  z70 := Tryz.sizeOf62
  v70 := Tryz.zeroValue62
  t72 := Tryz.underlying65
  a72 := Tryz.isAgg65
  z72 := Tryz.sizeOf65
  v72 := Tryz.zeroValue65
  t75 := Tryz.underlying104
  a75 := Tryz.isAgg104
  z75 := Tryz.sizeOf104
  v75 := Tryz.zeroValue104
  t164 := Tryz.underlying179
  a164 := Tryz.isAgg179
  z164 := Tryz.sizeOf179
  v164 := Tryz.zeroValue179 }
theorem Tryz.bldExtra : Builder.Extra Tryz.prog Tryz.bld_ren := {
  sizeBuilder := by kernel_rfl
  liesBuilder := by kernel_rfl
  t5 := Tryz.underlying5
  a5 := Tryz.isAgg5
  z5 := Tryz.sizeOf5
  v5 := Tryz.zeroValue5
  infoByte := by kernel_rfl
  cellsByte := by kernel_rfl
  sizeByte := by kernel_rfl
  neB5 := by decide }
open Go.RowKit in
theorem Tryz.writeByte (B b : Nat) (bs : List Value) (c : Int) (w : World) (h : Lib.IsBuilderF 65 5 B b bs w) (hlen : bs.length + 1 ≤ 140737488355328) (hBw : B ≤ w.heap.size) :
    Calls Tryz.prog 100 #[.pointer (some ⟨b, 0, none⟩), .int .u8 c] w fun e w' => e = .returned .nilIface ∧ (Lib.BuilderAtF 65 5 B b (.pointer (some ⟨b, 0, none⟩)) (bs ++ [.int .u8 c]) w' ∧ Below B w w' ∧ Lib.OthersKept 5 (some b) w w') := Any.Builder_WriteByte_k Tryz.bld167 Tryz.bldExtra B b bs c w h hlen hBw
open Go.RowKit in
theorem Tryz.writeString (B b : Nat) (bs : List Value) (s : ByteArray) (w : World) (h : Lib.IsBuilderF 65 5 B b bs w) (hlen : bs.length + s.size ≤ 140737488355328) (hBw : B ≤ w.heap.size) :
    Calls Tryz.prog 63 #[.pointer (some ⟨b, 0, none⟩), .string s] w fun e w' => e = .returned (.tuple #[.int .i64 s.size, .nilIface]) ∧ (Lib.BuilderAtF 65 5 B b (.pointer (some ⟨b, 0, none⟩)) (bs ++ Lib.strCells s) w' ∧ Below B w w' ∧ Lib.OthersKept 5 (some b) w w') := Any.Builder_WriteString_k Tryz.bld166 Tryz.bldExtra B b bs s w h hlen hBw
open Go.RowKit in
theorem Tryz.writeRune (B b : Nat) (bs : List Value) (r : Int) (hr0 : -2147483648 ≤ r) (hr1 : r ≤ 2147483647) (w : World) (h : Lib.IsBuilderF 65 5 B b bs w) (hlen : bs.length + 4 ≤ 140737488355328) (hBw : B ≤ w.heap.size) :
    Calls Tryz.prog 220 #[.pointer (some ⟨b, 0, none⟩), .int .i32 r] w fun e w' => e = .returned (.tuple #[.int .i64 (Lib.runeCells r).length, .nilIface]) ∧ (Lib.BuilderAtF 65 5 B b (.pointer (some ⟨b, 0, none⟩)) (bs ++ Lib.runeCells r) w' ∧ Below B w w' ∧ Lib.OthersKept 5 (some b) w w') := Any.Builder_WriteRune_k Tryz.bld168 Tryz.bldExtra B b bs r hr0 hr1 w h hlen hBw
end Go.Proofs
namespace Go.Proofs.YtdgcdemihalefaaGreatDoor
open Go.Shelf Go.RowKit
def EmbV (b : Nat) (p : Value) (ln : Bool) (n : Int) (l : List UInt8) (w : World) : Prop :=
  ∃ v, w.heap[b]? = some (.cells #[p, v, .bool ln, .int .i64 n] 177 (0, 0)) ∧ w.ownsRowF b 5 1 v l.length (Lib.byteCells l) ∧ v.ownBlock ≠ some b
def Emb (b : Nat) (ln : Bool) (n : Int) (l : List UInt8) (w : World) : Prop := EmbV b (.pointer none) ln n l w ∨ EmbV b (.pointer (some ⟨b, 0, none⟩)) ln n l w
def Pk (b : Nat) (w w' : World) : Prop := Below b w w' ∧ Lib.OthersKept 5 (some b) w w'
theorem Pk.refl (b : Nat) (w : World) : Pk b w w := ⟨Below.refl _ _, Lib.OthersKept.refl _ _ _⟩
theorem Pk.trans {b : Nat} {x y z : World} (h : Pk b x y) (k : Pk b y z) : Pk b x z := ⟨h.1.trans k.1, h.2.trans k.2⟩
theorem Pk.drew {b : Nat} {x y : World} (h : Pk b x y) : Pk b x y.drew := ⟨h.1.drew, h.2.drew⟩
theorem Pk.drewN {b : Nat} {x y : World} (h : Pk b x y) (n : Nat) : Pk b x (y.drewN n) := ⟨drewN_below h.1 n, fun k o hk hb ho => h.2 k o hk hb ho⟩
theorem Pk.alloc {b : Nat} {x y : World} (h : Pk b x y) (hb : b ≤ y.heap.size) (o : Obj) : Pk b x (y.alloc o) := ⟨h.1.alloc hb o, h.2.alloc o⟩
theorem Pk.setCell {b : Nat} {x y : World} (h : Pk b x y) (o : Nat) (v : Value) : Pk b x (y.setCell ⟨b, o, none⟩ v) := ⟨h.1.setCell (p := ⟨b, o, none⟩) (Nat.le_refl _) v, h.2.setCell ⟨b, o, none⟩ rfl v⟩
theorem Pk.size {b : Nat} {x y : World} (h : Pk b x y) : x.heap.size ≤ y.heap.size := h.1.size
section
variable {b : Nat} {p : Value} {ln : Bool} {n : Int} {l : List UInt8} {w w' : World}
theorem EmbV.lt (h : EmbV b p ln n l w) : b < w.heap.size := by
  obtain ⟨v, hb, -⟩ := h
  exact (Array.getElem?_eq_some_iff.1 hb).1
theorem Emb.lt (h : Emb b ln n l w) : b < w.heap.size := h.elim EmbV.lt EmbV.lt
theorem EmbV.c0 (h : EmbV b p ln n l w) : w.cell? ⟨b, 0, none⟩ = some p := by obtain ⟨v, hb, -⟩ := h; rw [Lib.cell_of_heap hb]; rfl
theorem EmbV.c2 (h : EmbV b p ln n l w) : w.cell? ⟨b, 2, none⟩ = some (.bool ln) := by obtain ⟨v, hb, -⟩ := h; rw [Lib.cell_of_heap hb]; rfl
theorem EmbV.c3 (h : EmbV b p ln n l w) : w.cell? ⟨b, 3, none⟩ = some (.int .i64 n) := by obtain ⟨v, hb, -⟩ := h; rw [Lib.cell_of_heap hb]; rfl
theorem Emb.c2 (h : Emb b ln n l w) : w.cell? ⟨b, 2, none⟩ = some (.bool ln) := h.elim EmbV.c2 EmbV.c2
theorem Emb.c3 (h : Emb b ln n l w) : w.cell? ⟨b, 3, none⟩ = some (.int .i64 n) := h.elim EmbV.c3 EmbV.c3
theorem EmbV.fz (h : EmbV b p ln n l w) (o : Nat) : w.frozen? ⟨b, o, none⟩ = false := by obtain ⟨v, hb, -⟩ := h; exact Lib.frozen_of_heap hb o
theorem Emb.fz (h : Emb b ln n l w) (o : Nat) : w.frozen? ⟨b, o, none⟩ = false := h.elim (fun h => h.fz o) (fun h => h.fz o)
theorem EmbV.shape (h : EmbV b p ln n l w) : w.shape? b = some (177, 4) := by obtain ⟨v, hb, -⟩ := h; simp [World.shape?, hb]
theorem EmbV.grown {row : Option Nat} (h : EmbV b p ln n l w) (hg : w.grownBy w' row) (hr : row = none) : EmbV b p ln n l w' := by
  have hlt := h.lt
  obtain ⟨v, hb, hown, hne⟩ := h
  subst hr
  exact ⟨v, (hg.block b hlt (by simp)).trans hb, hown.kept hg (by cases hv : v.ownBlock <;> simp), hne⟩
theorem EmbV.alloc (h : EmbV b p ln n l w) (o : Obj) : EmbV b p ln n l (w.alloc o) := h.grown (World.grownBy_alloc w o none) rfl
theorem Emb.alloc (h : Emb b ln n l w) (o : Obj) : Emb b ln n l (w.alloc o) := h.elim (fun h => .inl (h.alloc o)) (fun h => .inr (h.alloc o))
theorem EmbV.below (h : EmbV b p ln n l w) (hb : Below w.heap.size w w') : EmbV b p ln n l w' :=
  h.grown (row := none) ⟨hb.os, hb.tape, hb.output, hb.size, fun k hk _ => hb.block k hk⟩ rfl
theorem Emb.below (h : Emb b ln n l w) (hb : Below w.heap.size w w') : Emb b ln n l w' := h.elim (fun h => .inl (h.below hb)) (fun h => .inr (h.below hb))
theorem EmbV.drewN (h : EmbV b p ln n l w) (k : Nat) : EmbV b p ln n l (w.drewN k) := h
theorem Emb.drewN (h : Emb b ln n l w) (k : Nat) : Emb b ln n l (w.drewN k) := h
theorem Emb.drew (h : Emb b ln n l w) : Emb b ln n l w.drew := h
theorem EmbV.deep (h : EmbV b p ln n l w) (m : Int) : EmbV b p ln m l (w.setCell ⟨b, 3, none⟩ (.int .i64 m)) := by
  obtain ⟨v, hb, hown, hne⟩ := h
  refine ⟨v, by simp [World.setCell, Array.getElem?_modify, hb], ?_, hne⟩
  exact hown.kept (row := some b) ⟨rfl, rfl, rfl, by simp [World.setCell], fun k _ hk => Below.heap_setCell _ _ _ _ (fun e => hk (by simp [e]))⟩ (Or.inr hne)
theorem Emb.deep (h : Emb b ln n l w) (m : Int) : Emb b ln m l (w.setCell ⟨b, 3, none⟩ (.int .i64 m)) := h.elim (fun h => .inl (h.deep m)) (fun h => .inr (h.deep m))
theorem EmbV.used (h : EmbV b p ln n l w) : EmbV b (.pointer (some ⟨b, 0, none⟩)) ln n l (w.setCell ⟨b, 0, none⟩ (.pointer (some ⟨b, 0, none⟩))) := by
  obtain ⟨v, hb, hown, hne⟩ := h
  refine ⟨v, by simp [World.setCell, Array.getElem?_modify, hb], ?_, hne⟩
  exact hown.kept (row := some b) ⟨rfl, rfl, rfl, by simp [World.setCell], fun k _ hk => Below.heap_setCell _ _ _ _ (fun e => hk (by simp [e]))⟩ (Or.inr hne)
theorem Pk.other (h : Pk b w w') {k : Nat} {cs : Array Value} {T : TypeId} {fz : Nat × Nat} (hk : w.heap[k]? = some (.cells cs T fz)) (hkb : k ≠ b) (hT : T ≠ 5) : w'.heap[k]? = some (.cells cs T fz) :=
  h.2 k _ hk (fun e => hkb (Option.some.inj e)) (fun c f e => hT (by injection e))
end
theorem lies_emb : (liesAt Tryz.prog Tryz.prog.depth 177 (4 / Tryz.prog.cellsOf 177) 0 65 1) = true := by kernel_rfl
set_option maxHeartbeats 1000000 in
set_option maxRecDepth 100000 in
theorem embCheck_used (b : Nat) (w : World) (h0 : w.cell? ⟨b, 0, none⟩ = some (.pointer (some ⟨b, 0, none⟩))) :
    Calls Tryz.prog 98 #[.pointer (some ⟨b, 0, none⟩)] w fun e w' => e = .returned (.tuple #[]) ∧ w' = w :=
  Any.Builder_copyCheck_used { Tryz.bld166 with } Tryz.bldExtra.toX72 b w h0
set_option maxHeartbeats 1000000 in
set_option maxRecDepth 100000 in
theorem embCheck_fresh (b : Nat) (w : World) (h0 : w.cell? ⟨b, 0, none⟩ = some (.pointer none)) (hsh : w.shape? b = some (177, 4)) (hfz : w.frozen? ⟨b, 0, none⟩ = false) :
    Calls Tryz.prog 98 #[.pointer (some ⟨b, 0, none⟩)] w fun e w' => e = .returned (.tuple #[]) ∧ w' = w.setCell ⟨b, 0, none⟩ (.pointer (some ⟨b, 0, none⟩)) := by
  obtain ⟨j, hj, hjs⟩ := Option.map_eq_some_iff.1 Tryz.bldExtra.sizeBuilder
  replace hj : Tryz.prog.info? 65 = some j := hj
  go_enter Tryz.func98, Tryz.ntmps98
  go_wp2
  rw [Lib.run_to_unsafe w ⟨b, 0, none⟩ Tryz.underlying62 Tryz.underlying179 hj (by rw [hjs]; decide) hsh (Nat.zero_lt_succ 3)]
  simp only [Result.andThen]
  rw [Oper.upon_value]
  go_wp2
  rw [run_callFunc_extern Tryz.func142 (by kernel_rfl) (by kernel_rfl) (by kernel_rfl) (e := Extern.AbiNoEscape.same) (by kernel_rfl)]
  rw [Lib.run_noEscape]
  simp only [Result.andThen]
  rw [Oper.upon_value]
  go_wp2
  rw [Lib.run_from_unsafe w ⟨b, 0, none⟩ Tryz.underlying179 Tryz.underlying62 hj hsh lies_emb]
  simp only [Result.andThen]
  rw [Oper.upon_value]
  go_wp2
  go_end0
  exact ⟨rfl, rfl⟩
theorem embCheck (b : Nat) (ln : Bool) (n : Int) (l : List UInt8) (w : World) (h : Emb b ln n l w) :
    Calls Tryz.prog 98 #[.pointer (some ⟨b, 0, none⟩)] w fun e w' => e = .returned (.tuple #[]) ∧ EmbV b (.pointer (some ⟨b, 0, none⟩)) ln n l w' ∧ Pk b w w' := by
  rcases h with h | h
  · refine (embCheck_fresh b w h.c0 h.shape (h.fz 0)).mono ?_
    rintro e w' ⟨rfl, rfl⟩
    exact ⟨rfl, h.used, (Pk.refl b w).setCell 0 _⟩
  · refine (embCheck_used b w h.c0).mono ?_
    rintro e w' ⟨rfl, rfl⟩
    exact ⟨rfl, h, Pk.refl _ _⟩
theorem EmbV.put {b : Nat} {p v v' : Value} {ln : Bool} {n : Int} {l : List UInt8} {w : World} (hb : w.heap[b]? = some (.cells #[p, v, .bool ln, .int .i64 n] 177 (0, 0))) (hown : w.ownsRowF b 5 1 v' l.length (Lib.byteCells l)) :
    EmbV b p ln n l (w.setCell ⟨b, 1, none⟩ v') := by
  have hne := Lib.ownBlock_neF hown hb (by decide)
  refine ⟨v', by simp [World.setCell, Array.getElem?_modify, hb], ?_, hne⟩
  exact hown.kept (row := some b) ⟨rfl, rfl, rfl, by simp [World.setCell], fun k _ hk => Below.heap_setCell _ _ _ _ (fun e => hk (by simp [e]))⟩ (Or.inr hne)
set_option maxHeartbeats 2000000 in
set_option maxRecDepth 100000 in
theorem embByte (b : Nat) (ln : Bool) (n : Int) (l : List UInt8) (c : UInt8) (w : World) (h : Emb b ln n l w) (hlen : l.length + 1 ≤ 140737488355328) :
    Calls Tryz.prog 100 #[.pointer (some ⟨b, 0, none⟩), .int .u8 c.toNat] w fun e w' => e = .returned .nilIface ∧ Emb b ln n (l ++ [c]) w' ∧ Pk b w w' := by
  obtain ⟨i0, hi, hz0, hz1, hz2⟩ := info_parts Tryz.bldExtra.infoByte
  replace hi : Tryz.prog.info? 5 = some i0 := hi
  have hbc : Lib.byteCells (l ++ [c]) = Lib.byteCells l ++ [.int .u8 c.toNat] := by rw [Lib.byteCells_append]; rfl
  go_enter Tryz.func100, Tryz.ntmps100
  go_wp2_with (go_at_call 98; refine (embCheck b ln n l _ h).mono ?_)
  rintro e w1 ⟨rfl, h1, hk1⟩
  obtain ⟨v, hbk, hown, hne⟩ := h1
  have hlt : b < w1.heap.size := (Array.getElem?_eq_some_iff.1 hbk).1
  have c0 : w1.cell? ⟨b, 0, none⟩ = some (.pointer (some ⟨b, 0, none⟩)) := by rw [Lib.cell_of_heap hbk]; rfl
  have c1 : w1.cell? ⟨b, 1, none⟩ = some v := by rw [Lib.cell_of_heap hbk]; rfl
  go_wp2_with (at_builtin; refine wpList_append_ownF _ rfl _ _ 63 rfl b 5 i0 (.int .u8 0) 1 1 Tryz.underlying63 hi hz0 hz1 hz2 rfl (by decide) _ _ _ rfl (hown.alloc _) ⟨w1.heap.size, 0, none⟩ 1 1 [.int .u8 c.toNat] rfl rfl ?c1 ?c2 ?c3 ?c4 ?c5 ?_)
  case c1 =>
    intro j u hj
    match j, hj with
    | 0, hj => simp at hj; subst hj; simp [Addr.add]
  case c2 => intro u hu; simp at hu; subst hu; rfl
  case c3 => unfold maxLen; omega
  case c4 => omega
  case c5 => simp; omega
  intro v' w2 hown' hgrow _
  have hb2 : w2.heap[b]? = some (.cells #[.pointer (some ⟨b, 0, none⟩), v, .bool ln, .int .i64 n] 177 (0, 0)) := by
    rw [hgrow.block b (by simp; omega) (fun e => hne e.symm), Lib.alloc_old w1 _ b hlt]
    exact hbk
  have d0 : w2.cell? ⟨b, 0, none⟩ = some (.pointer (some ⟨b, 0, none⟩)) := by rw [Lib.cell_of_heap hb2]; rfl
  have d1 : w2.cell? ⟨b, 1, none⟩ = some v := by rw [Lib.cell_of_heap hb2]; rfl
  have f1 : w2.frozen? ⟨b, 1, none⟩ = false := Lib.frozen_of_heap hb2 1
  obtain ⟨g, cap, rfl⟩ : ∃ g cap, v' = .slice (some ⟨g, 0, none⟩) (l.length + 1) cap := by
    rcases hown'.2 with ⟨_, h0⟩ | ⟨g, cap, cur, fz, hv, _⟩
    · omega
    · exact ⟨g, cap, hv⟩
  rw [← hbc] at hown'
  have HE : Hid (EmbV b (.pointer (some ⟨b, 0, none⟩)) ln n (l ++ [c]) (w2.setCell ⟨b, 1, none⟩ (.slice (some ⟨g, 0, none⟩) (l.length + 1) cap))) := Lib.hid (EmbV.put hb2 (by simpa using hown'))
  have HK : Hid (Pk b w (w2.setCell ⟨b, 1, none⟩ (.slice (some ⟨g, 0, none⟩) (l.length + 1) cap))) := Lib.hid (by
    refine Pk.setCell (hk1.trans ⟨?_, ?_⟩) 1 _
    · exact ((Below.refl b w1).alloc (Nat.le_of_lt hlt) _).grown hgrow (by simp; omega) (fun k hk => (hown.lt k hk).1)
    · exact ((Lib.OthersKept.refl _ _ w1).alloc _).grown hgrow (Lib.ownsRowF_kind (hown.alloc _)))
  clear hown' hgrow
  go_wp2
  go_ret
  exact ⟨rfl, .inr HE.out, HK.out⟩
set_option maxHeartbeats 2000000 in
set_option maxRecDepth 100000 in
theorem embString (b : Nat) (ln : Bool) (n : Int) (l : List UInt8) (s : ByteArray) (w : World) (h : Emb b ln n l w) (hlen : l.length + s.size ≤ 140737488355328) :
    Calls Tryz.prog 63 #[.pointer (some ⟨b, 0, none⟩), .string s] w fun e w' => e = .returned (.tuple #[.int .i64 s.size, .nilIface]) ∧ Emb b ln n (l ++ s.data.toList) w' ∧ Pk b w w' := by
  obtain ⟨i0, hi, hz0, hz1, hz2⟩ := info_parts Tryz.bldExtra.infoByte
  replace hi : Tryz.prog.info? 5 = some i0 := hi
  have hbc : Lib.byteCells (l ++ s.data.toList) = Lib.byteCells l ++ Lib.strCells s := by rw [Lib.byteCells_append, Lib.strCells_eq]
  have hbl : (l ++ s.data.toList).length = l.length + s.size := by rw [List.length_append]; rfl
  go_enter Tryz.func63, Tryz.ntmps63
  go_wp2_with (go_at_call 98; refine (embCheck b ln n l _ h).mono ?_)
  rintro e w1 ⟨rfl, h1, hk1⟩
  obtain ⟨v, hbk, hown, hne⟩ := h1
  have hlt : b < w1.heap.size := (Array.getElem?_eq_some_iff.1 hbk).1
  have c0 : w1.cell? ⟨b, 0, none⟩ = some (.pointer (some ⟨b, 0, none⟩)) := by rw [Lib.cell_of_heap hbk]; rfl
  have c1 : w1.cell? ⟨b, 1, none⟩ = some v := by rw [Lib.cell_of_heap hbk]; rfl
  go_wp2_with (at_builtin; refine Lib.wpList_append_own_stringF _ rfl _ _ 63 9 rfl b 5 i0 Tryz.underlying63 Tryz.underlying9 hi hz0 hz1 hz2 _ _ _ rfl hown s rfl ?c3 ?c4 ?c5 ?_)
  case c3 => unfold maxLen; omega
  case c4 => omega
  case c5 => omega
  intro v' w2 hown' hgrow _
  have hb2 : w2.heap[b]? = some (.cells #[.pointer (some ⟨b, 0, none⟩), v, .bool ln, .int .i64 n] 177 (0, 0)) := by
    rw [hgrow.block b hlt (fun e => hne e.symm)]
    exact hbk
  have d0 : w2.cell? ⟨b, 0, none⟩ = some (.pointer (some ⟨b, 0, none⟩)) := by rw [Lib.cell_of_heap hb2]; rfl
  have d1 : w2.cell? ⟨b, 1, none⟩ = some v := by rw [Lib.cell_of_heap hb2]; rfl
  have f1 : w2.frozen? ⟨b, 1, none⟩ = false := Lib.frozen_of_heap hb2 1
  obtain ⟨ao, n', cap, rfl⟩ : ∃ ao n' cap, v' = .slice ao n' cap := by
    rcases hown'.2 with ⟨hv, _⟩ | ⟨g, cap, cur, fz, hv, _⟩
    · exact ⟨_, _, _, hv⟩
    · exact ⟨_, _, _, hv⟩
  rw [← hbc, ← hbl] at hown'
  have HE : Hid (EmbV b (.pointer (some ⟨b, 0, none⟩)) ln n (l ++ s.data.toList) (w2.setCell ⟨b, 1, none⟩ (.slice ao n' cap))) := Lib.hid (EmbV.put hb2 hown')
  have HK : Hid (Pk b w (w2.setCell ⟨b, 1, none⟩ (.slice ao n' cap))) := Lib.hid (by
    refine Pk.setCell (hk1.trans ⟨?_, ?_⟩) 1 _
    · exact (Below.refl b w1).grown hgrow (Nat.le_of_lt hlt) (fun k hk => (hown.lt k hk).1)
    · exact (Lib.OthersKept.refl _ _ w1).grown hgrow (Lib.ownsRowF_kind hown))
  clear hown' hgrow
  go_wp2
  go_ret2
  exact ⟨rfl, .inr HE.out, HK.out⟩
set_option maxHeartbeats 1000000 in
set_option maxRecDepth 100000 in
theorem embText (b : Nat) (ln : Bool) (n : Int) (l : List UInt8) (w : World) (h : Emb b ln n l w) (h0 : l ≠ []) :
    Calls Tryz.prog 35 #[.pointer (some ⟨b, 0, none⟩)] w fun e w' => e = .returned (.string ⟨l.toArray⟩) ∧ Below b w w' := by
  obtain ⟨p, hAt⟩ : ∃ p, EmbV b p ln n l w := h.elim (fun h => ⟨_, h⟩) (fun h => ⟨_, h⟩)
  obtain ⟨v, hbk, hown, hne⟩ := hAt
  have hl0 : l.length ≠ 0 := by simpa using h0
  obtain ⟨g, cap, cur, fz, rfl, hbg, hg, hfz, hnc, hcm, hcs, htake⟩ : ∃ g cap cur fz, v = .slice (some ⟨g, 0, none⟩) l.length cap ∧ b ≤ g ∧ w.heap[g]? = some (.cells cur 5 fz) ∧ fz.2 ≤ l.length * 1 ∧ l.length ≤ cap ∧ cap ≤ maxLen ∧ cur.size = cap * 1 ∧ cur.toList.take (l.length * 1) = Lib.byteCells l := by
    rcases hown.2 with ⟨_, hz⟩ | ⟨g, cap, cur, fz, hv, r⟩
    · exact absurd hz hl0
    · exact ⟨g, cap, cur, fz, hv, r⟩
  have c1 : w.drew.cell? ⟨b, 1, none⟩ = some (.slice (some ⟨g, 0, none⟩) l.length cap) := by
    have : w.drew.heap[b]? = some (.cells #[p, .slice (some ⟨g, 0, none⟩) l.length cap, .bool ln, .int .i64 n] 177 (0, 0)) := hbk
    rw [Lib.cell_of_heap this]; rfl
  have hSD : (Builtin.unsafeSliceData_ #[63] 109 #[.slice (some ⟨g, 0, none⟩) l.length cap]).run Tryz.prog w.drew = .ok (.pointer (some ⟨g, 0, none⟩)) w.drew :=
    Lib.run_unsafeSliceData_row _ _ _ _ _ _ (by omega)
  have hUS : (Builtin.unsafeString_ #[109, 3] 9 #[.pointer (some ⟨g, 0, none⟩), .int .i64 l.length]).run Tryz.prog w.drew = .ok (.string ⟨l.toArray⟩) (w.drew.freeze ⟨g, 0, none⟩ l.length) := by
    refine Lib.run_unsafeString_row w.drew 109 3 9 5 Tryz.underlying109 Tryz.bldExtra.cellsByte g cur.size (by have hg' : w.drew.heap[g]? = some (.cells cur 5 fz) := hg; simp [World.shape?, hg']) l h0 (by omega) (by unfold maxLen at hcm; omega) ?_
    intro j x hx
    exact hown.cells (g := g) rfl j (.int .u8 x.toNat) (by simp [Lib.byteCells, hx])
  have HB : Hid (Below b w (w.drew.freeze ⟨g, 0, none⟩ l.length)) := Lib.hid (Lib.below_freeze (Below.drew (Below.refl b w)) (p := ⟨g, 0, none⟩) hbg _)
  have mixed := Tryz.bld166.mixed
  go_enter Tryz.func35, Tryz.ntmps35
  go_wp2
  go_region_o
  all_goals (go_wp2; go_ret; exact ⟨rfl, HB.out⟩)
end Go.Proofs.YtdgcdemihalefaaGreatDoor
namespace Go.Proofs.YtdgcdemihalefaaGreatDoor
open Go.Shelf Go.RowKit
def EmbVF (b : Nat) (p : Value) (l : List UInt8) (w : World) : Prop :=
  ∃ v, w.heap[b]? = some (.cells #[p, v] 67 (0, 0)) ∧ w.ownsRowF b 5 1 v l.length (Lib.byteCells l) ∧ v.ownBlock ≠ some b
def EmbF (b : Nat) (l : List UInt8) (w : World) : Prop := EmbVF b (.pointer none) l w ∨ EmbVF b (.pointer (some ⟨b, 0, none⟩)) l w
section
variable {b : Nat} {p : Value} {l : List UInt8} {w w' : World}
theorem EmbVF.lt (h : EmbVF b p l w) : b < w.heap.size := by
  obtain ⟨v, hb, -⟩ := h
  exact (Array.getElem?_eq_some_iff.1 hb).1
theorem EmbF.lt (h : EmbF b l w) : b < w.heap.size := h.elim EmbVF.lt EmbVF.lt
theorem EmbVF.c0 (h : EmbVF b p l w) : w.cell? ⟨b, 0, none⟩ = some p := by obtain ⟨v, hb, -⟩ := h; rw [Lib.cell_of_heap hb]; rfl
theorem EmbVF.fz (h : EmbVF b p l w) (o : Nat) : w.frozen? ⟨b, o, none⟩ = false := by obtain ⟨v, hb, -⟩ := h; exact Lib.frozen_of_heap hb o
theorem EmbF.fz (h : EmbF b l w) (o : Nat) : w.frozen? ⟨b, o, none⟩ = false := h.elim (fun h => h.fz o) (fun h => h.fz o)
theorem EmbVF.shape (h : EmbVF b p l w) : w.shape? b = some (67, 2) := by obtain ⟨v, hb, -⟩ := h; simp [World.shape?, hb]
theorem EmbVF.grown {row : Option Nat} (h : EmbVF b p l w) (hg : w.grownBy w' row) (hr : row = none) : EmbVF b p l w' := by
  have hlt := h.lt
  obtain ⟨v, hb, hown, hne⟩ := h
  subst hr
  exact ⟨v, (hg.block b hlt (by simp)).trans hb, hown.kept hg (by cases hv : v.ownBlock <;> simp), hne⟩
theorem EmbVF.alloc (h : EmbVF b p l w) (o : Obj) : EmbVF b p l (w.alloc o) := h.grown (World.grownBy_alloc w o none) rfl
theorem EmbF.alloc (h : EmbF b l w) (o : Obj) : EmbF b l (w.alloc o) := h.elim (fun h => .inl (h.alloc o)) (fun h => .inr (h.alloc o))
theorem EmbVF.below (h : EmbVF b p l w) (hb : Below w.heap.size w w') : EmbVF b p l w' :=
  h.grown (row := none) ⟨hb.os, hb.tape, hb.output, hb.size, fun k hk _ => hb.block k hk⟩ rfl
theorem EmbF.below (h : EmbF b l w) (hb : Below w.heap.size w w') : EmbF b l w' := h.elim (fun h => .inl (h.below hb)) (fun h => .inr (h.below hb))
theorem EmbVF.drewN (h : EmbVF b p l w) (k : Nat) : EmbVF b p l (w.drewN k) := h
theorem EmbF.drewN (h : EmbF b l w) (k : Nat) : EmbF b l (w.drewN k) := h
theorem EmbF.drew (h : EmbF b l w) : EmbF b l w.drew := h
theorem EmbVF.used (h : EmbVF b p l w) : EmbVF b (.pointer (some ⟨b, 0, none⟩)) l (w.setCell ⟨b, 0, none⟩ (.pointer (some ⟨b, 0, none⟩))) := by
  obtain ⟨v, hb, hown, hne⟩ := h
  refine ⟨v, by simp [World.setCell, Array.getElem?_modify, hb], ?_, hne⟩
  exact hown.kept (row := some b) ⟨rfl, rfl, rfl, by simp [World.setCell], fun k _ hk => Below.heap_setCell _ _ _ _ (fun e => hk (by simp [e]))⟩ (Or.inr hne)
end
theorem lies_embF : (liesAt Tryz.prog Tryz.prog.depth 67 (2 / Tryz.prog.cellsOf 67) 0 65 1) = true := by kernel_rfl
set_option maxHeartbeats 1000000 in
set_option maxRecDepth 100000 in
theorem fembCheck_fresh (b : Nat) (w : World) (h0 : w.cell? ⟨b, 0, none⟩ = some (.pointer none)) (hsh : w.shape? b = some (67, 2)) (hfz : w.frozen? ⟨b, 0, none⟩ = false) :
    Calls Tryz.prog 98 #[.pointer (some ⟨b, 0, none⟩)] w fun e w' => e = .returned (.tuple #[]) ∧ w' = w.setCell ⟨b, 0, none⟩ (.pointer (some ⟨b, 0, none⟩)) := by
  obtain ⟨j, hj, hjs⟩ := Option.map_eq_some_iff.1 Tryz.bldExtra.sizeBuilder
  replace hj : Tryz.prog.info? 65 = some j := hj
  go_enter Tryz.func98, Tryz.ntmps98
  go_wp2
  rw [Lib.run_to_unsafe w ⟨b, 0, none⟩ Tryz.underlying62 Tryz.underlying179 hj (by rw [hjs]; decide) hsh (Nat.zero_lt_succ 1)]
  simp only [Result.andThen]
  rw [Oper.upon_value]
  go_wp2
  rw [run_callFunc_extern Tryz.func142 (by kernel_rfl) (by kernel_rfl) (by kernel_rfl) (e := Extern.AbiNoEscape.same) (by kernel_rfl)]
  rw [Lib.run_noEscape]
  simp only [Result.andThen]
  rw [Oper.upon_value]
  go_wp2
  rw [Lib.run_from_unsafe w ⟨b, 0, none⟩ Tryz.underlying179 Tryz.underlying62 hj hsh lies_embF]
  simp only [Result.andThen]
  rw [Oper.upon_value]
  go_wp2
  go_end0
  exact ⟨rfl, rfl⟩
theorem fembCheck (b : Nat) (l : List UInt8) (w : World) (h : EmbF b l w) :
    Calls Tryz.prog 98 #[.pointer (some ⟨b, 0, none⟩)] w fun e w' => e = .returned (.tuple #[]) ∧ EmbVF b (.pointer (some ⟨b, 0, none⟩)) l w' ∧ Pk b w w' := by
  rcases h with h | h
  · refine (fembCheck_fresh b w h.c0 h.shape (h.fz 0)).mono ?_
    rintro e w' ⟨rfl, rfl⟩
    exact ⟨rfl, h.used, (Pk.refl b w).setCell 0 _⟩
  · refine (embCheck_used b w h.c0).mono ?_
    rintro e w' ⟨rfl, rfl⟩
    exact ⟨rfl, h, Pk.refl _ _⟩
theorem EmbVF.put {b : Nat} {p v v' : Value} {l : List UInt8} {w : World} (hb : w.heap[b]? = some (.cells #[p, v] 67 (0, 0))) (hown : w.ownsRowF b 5 1 v' l.length (Lib.byteCells l)) :
    EmbVF b p l (w.setCell ⟨b, 1, none⟩ v') := by
  have hne := Lib.ownBlock_neF hown hb (by decide)
  refine ⟨v', by simp [World.setCell, Array.getElem?_modify, hb], ?_, hne⟩
  exact hown.kept (row := some b) ⟨rfl, rfl, rfl, by simp [World.setCell], fun k _ hk => Below.heap_setCell _ _ _ _ (fun e => hk (by simp [e]))⟩ (Or.inr hne)
set_option maxHeartbeats 2000000 in
set_option maxRecDepth 100000 in
theorem fembByte (b : Nat) (l : List UInt8) (c : UInt8) (w : World) (h : EmbF b l w) (hlen : l.length + 1 ≤ 140737488355328) :
    Calls Tryz.prog 100 #[.pointer (some ⟨b, 0, none⟩), .int .u8 c.toNat] w fun e w' => e = .returned .nilIface ∧ EmbF b (l ++ [c]) w' ∧ Pk b w w' := by
  obtain ⟨i0, hi, hz0, hz1, hz2⟩ := info_parts Tryz.bldExtra.infoByte
  replace hi : Tryz.prog.info? 5 = some i0 := hi
  have hbc : Lib.byteCells (l ++ [c]) = Lib.byteCells l ++ [.int .u8 c.toNat] := by rw [Lib.byteCells_append]; rfl
  go_enter Tryz.func100, Tryz.ntmps100
  go_wp2_with (go_at_call 98; refine (fembCheck b l _ h).mono ?_)
  rintro e w1 ⟨rfl, h1, hk1⟩
  obtain ⟨v, hbk, hown, hne⟩ := h1
  have hlt : b < w1.heap.size := (Array.getElem?_eq_some_iff.1 hbk).1
  have c0 : w1.cell? ⟨b, 0, none⟩ = some (.pointer (some ⟨b, 0, none⟩)) := by rw [Lib.cell_of_heap hbk]; rfl
  have c1 : w1.cell? ⟨b, 1, none⟩ = some v := by rw [Lib.cell_of_heap hbk]; rfl
  go_wp2_with (at_builtin; refine wpList_append_ownF _ rfl _ _ 63 rfl b 5 i0 (.int .u8 0) 1 1 Tryz.underlying63 hi hz0 hz1 hz2 rfl (by decide) _ _ _ rfl (hown.alloc _) ⟨w1.heap.size, 0, none⟩ 1 1 [.int .u8 c.toNat] rfl rfl ?c1 ?c2 ?c3 ?c4 ?c5 ?_)
  case c1 =>
    intro j u hj
    match j, hj with
    | 0, hj => simp at hj; subst hj; simp [Addr.add]
  case c2 => intro u hu; simp at hu; subst hu; rfl
  case c3 => unfold maxLen; omega
  case c4 => omega
  case c5 => simp; omega
  intro v' w2 hown' hgrow _
  have hb2 : w2.heap[b]? = some (.cells #[.pointer (some ⟨b, 0, none⟩), v] 67 (0, 0)) := by
    rw [hgrow.block b (by simp; omega) (fun e => hne e.symm), Lib.alloc_old w1 _ b hlt]
    exact hbk
  have d0 : w2.cell? ⟨b, 0, none⟩ = some (.pointer (some ⟨b, 0, none⟩)) := by rw [Lib.cell_of_heap hb2]; rfl
  have d1 : w2.cell? ⟨b, 1, none⟩ = some v := by rw [Lib.cell_of_heap hb2]; rfl
  have f1 : w2.frozen? ⟨b, 1, none⟩ = false := Lib.frozen_of_heap hb2 1
  obtain ⟨g, cap, rfl⟩ : ∃ g cap, v' = .slice (some ⟨g, 0, none⟩) (l.length + 1) cap := by
    rcases hown'.2 with ⟨_, h0⟩ | ⟨g, cap, cur, fz, hv, _⟩
    · omega
    · exact ⟨g, cap, hv⟩
  rw [← hbc] at hown'
  have HE : Hid (EmbVF b (.pointer (some ⟨b, 0, none⟩)) (l ++ [c]) (w2.setCell ⟨b, 1, none⟩ (.slice (some ⟨g, 0, none⟩) (l.length + 1) cap))) := Lib.hid (EmbVF.put hb2 (by simpa using hown'))
  have HK : Hid (Pk b w (w2.setCell ⟨b, 1, none⟩ (.slice (some ⟨g, 0, none⟩) (l.length + 1) cap))) := Lib.hid (by
    refine Pk.setCell (hk1.trans ⟨?_, ?_⟩) 1 _
    · exact ((Below.refl b w1).alloc (Nat.le_of_lt hlt) _).grown hgrow (by simp; omega) (fun k hk => (hown.lt k hk).1)
    · exact ((Lib.OthersKept.refl _ _ w1).alloc _).grown hgrow (Lib.ownsRowF_kind (hown.alloc _)))
  clear hown' hgrow
  go_wp2
  go_ret
  exact ⟨rfl, .inr HE.out, HK.out⟩
set_option maxHeartbeats 2000000 in
set_option maxRecDepth 100000 in
theorem fembString (b : Nat) (l : List UInt8) (s : ByteArray) (w : World) (h : EmbF b l w) (hlen : l.length + s.size ≤ 140737488355328) :
    Calls Tryz.prog 63 #[.pointer (some ⟨b, 0, none⟩), .string s] w fun e w' => e = .returned (.tuple #[.int .i64 s.size, .nilIface]) ∧ EmbF b (l ++ s.data.toList) w' ∧ Pk b w w' := by
  obtain ⟨i0, hi, hz0, hz1, hz2⟩ := info_parts Tryz.bldExtra.infoByte
  replace hi : Tryz.prog.info? 5 = some i0 := hi
  have hbc : Lib.byteCells (l ++ s.data.toList) = Lib.byteCells l ++ Lib.strCells s := by rw [Lib.byteCells_append, Lib.strCells_eq]
  have hbl : (l ++ s.data.toList).length = l.length + s.size := by rw [List.length_append]; rfl
  go_enter Tryz.func63, Tryz.ntmps63
  go_wp2_with (go_at_call 98; refine (fembCheck b l _ h).mono ?_)
  rintro e w1 ⟨rfl, h1, hk1⟩
  obtain ⟨v, hbk, hown, hne⟩ := h1
  have hlt : b < w1.heap.size := (Array.getElem?_eq_some_iff.1 hbk).1
  have c0 : w1.cell? ⟨b, 0, none⟩ = some (.pointer (some ⟨b, 0, none⟩)) := by rw [Lib.cell_of_heap hbk]; rfl
  have c1 : w1.cell? ⟨b, 1, none⟩ = some v := by rw [Lib.cell_of_heap hbk]; rfl
  go_wp2_with (at_builtin; refine Lib.wpList_append_own_stringF _ rfl _ _ 63 9 rfl b 5 i0 Tryz.underlying63 Tryz.underlying9 hi hz0 hz1 hz2 _ _ _ rfl hown s rfl ?c3 ?c4 ?c5 ?_)
  case c3 => unfold maxLen; omega
  case c4 => omega
  case c5 => omega
  intro v' w2 hown' hgrow _
  have hb2 : w2.heap[b]? = some (.cells #[.pointer (some ⟨b, 0, none⟩), v] 67 (0, 0)) := by
    rw [hgrow.block b hlt (fun e => hne e.symm)]
    exact hbk
  have d0 : w2.cell? ⟨b, 0, none⟩ = some (.pointer (some ⟨b, 0, none⟩)) := by rw [Lib.cell_of_heap hb2]; rfl
  have d1 : w2.cell? ⟨b, 1, none⟩ = some v := by rw [Lib.cell_of_heap hb2]; rfl
  have f1 : w2.frozen? ⟨b, 1, none⟩ = false := Lib.frozen_of_heap hb2 1
  obtain ⟨ao, n', cap, rfl⟩ : ∃ ao n' cap, v' = .slice ao n' cap := by
    rcases hown'.2 with ⟨hv, _⟩ | ⟨g, cap, cur, fz, hv, _⟩
    · exact ⟨_, _, _, hv⟩
    · exact ⟨_, _, _, hv⟩
  rw [← hbc, ← hbl] at hown'
  have HE : Hid (EmbVF b (.pointer (some ⟨b, 0, none⟩)) (l ++ s.data.toList) (w2.setCell ⟨b, 1, none⟩ (.slice ao n' cap))) := Lib.hid (EmbVF.put hb2 hown')
  have HK : Hid (Pk b w (w2.setCell ⟨b, 1, none⟩ (.slice ao n' cap))) := Lib.hid (by
    refine Pk.setCell (hk1.trans ⟨?_, ?_⟩) 1 _
    · exact (Below.refl b w1).grown hgrow (Nat.le_of_lt hlt) (fun k hk => (hown.lt k hk).1)
    · exact (Lib.OthersKept.refl _ _ w1).grown hgrow (Lib.ownsRowF_kind hown))
  clear hown' hgrow
  go_wp2
  go_ret2
  exact ⟨rfl, .inr HE.out, HK.out⟩
set_option maxHeartbeats 1000000 in
set_option maxRecDepth 100000 in
theorem fembText (b : Nat) (l : List UInt8) (w : World) (h : EmbF b l w) (h0 : l ≠ []) :
    Calls Tryz.prog 35 #[.pointer (some ⟨b, 0, none⟩)] w fun e w' => e = .returned (.string ⟨l.toArray⟩) ∧ Below b w w' := by
  obtain ⟨p, hAt⟩ : ∃ p, EmbVF b p l w := h.elim (fun h => ⟨_, h⟩) (fun h => ⟨_, h⟩)
  obtain ⟨v, hbk, hown, hne⟩ := hAt
  have hl0 : l.length ≠ 0 := by simpa using h0
  obtain ⟨g, cap, cur, fz, rfl, hbg, hg, hfz, hnc, hcm, hcs, htake⟩ : ∃ g cap cur fz, v = .slice (some ⟨g, 0, none⟩) l.length cap ∧ b ≤ g ∧ w.heap[g]? = some (.cells cur 5 fz) ∧ fz.2 ≤ l.length * 1 ∧ l.length ≤ cap ∧ cap ≤ maxLen ∧ cur.size = cap * 1 ∧ cur.toList.take (l.length * 1) = Lib.byteCells l := by
    rcases hown.2 with ⟨_, hz⟩ | ⟨g, cap, cur, fz, hv, r⟩
    · exact absurd hz hl0
    · exact ⟨g, cap, cur, fz, hv, r⟩
  have c1 : w.drew.cell? ⟨b, 1, none⟩ = some (.slice (some ⟨g, 0, none⟩) l.length cap) := by
    have : w.drew.heap[b]? = some (.cells #[p, .slice (some ⟨g, 0, none⟩) l.length cap] 67 (0, 0)) := hbk
    rw [Lib.cell_of_heap this]; rfl
  have hSD : (Builtin.unsafeSliceData_ #[63] 109 #[.slice (some ⟨g, 0, none⟩) l.length cap]).run Tryz.prog w.drew = .ok (.pointer (some ⟨g, 0, none⟩)) w.drew :=
    Lib.run_unsafeSliceData_row _ _ _ _ _ _ (by omega)
  have hUS : (Builtin.unsafeString_ #[109, 3] 9 #[.pointer (some ⟨g, 0, none⟩), .int .i64 l.length]).run Tryz.prog w.drew = .ok (.string ⟨l.toArray⟩) (w.drew.freeze ⟨g, 0, none⟩ l.length) := by
    refine Lib.run_unsafeString_row w.drew 109 3 9 5 Tryz.underlying109 Tryz.bldExtra.cellsByte g cur.size (by have hg' : w.drew.heap[g]? = some (.cells cur 5 fz) := hg; simp [World.shape?, hg']) l h0 (by omega) (by unfold maxLen at hcm; omega) ?_
    intro j x hx
    exact hown.cells (g := g) rfl j (.int .u8 x.toNat) (by simp [Lib.byteCells, hx])
  have HB : Hid (Below b w (w.drew.freeze ⟨g, 0, none⟩ l.length)) := Lib.hid (Lib.below_freeze (Below.drew (Below.refl b w)) (p := ⟨g, 0, none⟩) hbg _)
  have mixed := Tryz.bld166.mixed
  go_enter Tryz.func35, Tryz.ntmps35
  go_wp2
  go_region_o
  all_goals (go_wp2; go_ret; exact ⟨rfl, HB.out⟩)
end Go.Proofs.YtdgcdemihalefaaGreatDoor
namespace Go.Proofs.YtdgcdemihalefaaGreatDoor
namespace Np
open Go.RowKit
end Np
end Go.Proofs.YtdgcdemihalefaaGreatDoor
namespace Go.Proofs.YtdgcdemihalefaaGreatDoor
open Go.RowKit Np Rw Vp
def hdN (kind : Int) (m : Nat) : Nd := ⟨kind, m, [], [], false, 0⟩
def setNm (nm : List UInt8) : List Nd → List Nd
  | [] => []
  | n :: l => { n with name := nm } :: l
abbrev Pr := List UInt8 × List Nd
def laid (ps : List Pr) : List Nd := (ps.map fun p => setNm p.1 p.2).flatten
def srt (ps : List Pr) : List Pr := ps.mergeSort (fun a b => decide (a.1 ≤ b.1))
def okNames (names : List (List UInt8)) : Bool := decide names.Nodup && names.all vld
def objB (names : List (List UInt8)) (L : List (List Nd)) : Bool := decide (names.length = L.length) && okNames names
def objV (names : List (List UInt8)) (L : List (List Nd)) : List Nd := if objB names L = true then hdN 6 L.length :: laid (srt (names.zip L)) else []
def objE (names : List (List UInt8)) (L : List (List Nd)) : Int := if objB names L = true then 0 else 4
abbrev atN (names : List (List UInt8)) (j : Nat) : List UInt8 := names.getD j []
abbrev atL (L : List (List Nd)) (j : Nat) : List Nd := L.getD j []
theorem range_names (names : List (List UInt8)) : (List.range names.length).map (atN names) = names := by
  apply List.ext_getElem
  · simp
  · intro i h1 h2
    simp [atN, List.getD_eq_getElem?_getD, h2]
structure Places (names : List (List UInt8)) (p : List Nat) : Prop where
  perm : p.Perm (List.range names.length)
  rise : p.Pairwise (fun i j => ¬ atN names j < atN names i)
theorem Places.length {names : List (List UInt8)} {p : List Nat} (h : Places names p) : p.length = names.length := by rw [h.perm.length_eq]; simp
theorem Places.lt {names : List (List UInt8)} {p : List Nat} (h : Places names p) {j : Nat} (hj : j ∈ p) : j < names.length := by simpa using h.perm.mem_iff.1 hj
theorem Places.names {names : List (List UInt8)} {p : List Nat} (h : Places names p) : (p.map (atN names)).Perm names := by
  have := h.perm.map (atN names)
  rwa [range_names] at this
theorem Places.same {names : List (List UInt8)} {p : List Nat} (h : Places names p) {k i j : Nat} (hi : p[k]? = some i) (hj : p[k + 1]? = some j) (he : atN names i = atN names j) : okNames names = false := by
  have : ¬ names.Nodup := fun hn => by
    have h2 := h.names.nodup_iff.2 hn
    have h3 : (p.map (atN names))[k]? = some (atN names i) := by rw [List.getElem?_map, hi]; rfl
    have h4 : (p.map (atN names))[k + 1]? = some (atN names j) := by rw [List.getElem?_map, hj]; rfl
    obtain ⟨l3, e3⟩ := List.getElem?_eq_some_iff.1 h3
    obtain ⟨l4, e4⟩ := List.getElem?_eq_some_iff.1 h4
    have h5 := List.pairwise_iff_getElem.1 h2 k (k + 1) l3 l4 (by omega)
    rw [e3, e4] at h5
    exact h5 he
  unfold okNames
  simp [this]
theorem Places.sum {names : List (List UInt8)} {L : List (List Nd)} {p : List Nat} (h : Places names p) (hl : names.length = L.length) : (p.map fun x => (atL L x).length).sum = (L.map List.length).sum := by
  rw [(h.perm.map (fun x => (atL L x).length)).sum_nat, hl]
  congr 1
  apply List.ext_getElem
  · simp
  · intro i h1 h2
    simp at h1
    simp [atL, List.getD_eq_getElem?_getD, h1]
end Go.Proofs.YtdgcdemihalefaaGreatDoor
namespace Go.Proofs.YtdgcdemihalefaaGreatDoor
namespace Vp
open Go.RowKit Np Rw
end Vp
end Go.Proofs.YtdgcdemihalefaaGreatDoor
namespace Go.Proofs.YtdgcdemihalefaaGreatDoor
namespace Vp
open Go.RowKit Np Rw
def nmN (nm : List UInt8) (n : Nd) : Nd := { n with name := nm }
def nmd (nm : List UInt8) (t : Tr Nd) : Tr Nd := .mk (nmN nm t.nd) t.ks
theorem nmd_ks (nm : List UInt8) (t : Tr Nd) : (nmd nm t).ks = t.ks := rfl
theorem plainN_nm (nm : List UInt8) (n : Nd) : plainN (nmN nm n) = plainN n := by unfold plainN nmN; rfl
theorem okT_nmd {nm : List UInt8} {t : Tr Nd} (h : okT many t) : okT many (nmd nm t) := okT_mk.2 (okT_eq.1 h)
theorem rightT_nmd (nm : List UInt8) (t : Tr Nd) : rightT (nmd nm t) = rightT t := by rw [nmd, rightT_mk, rightT_eq, plainN_nm]; rfl
theorem Val.clr {u : Tr Nd} (h1 : okT many u) (h2 : rightT u = true) : Val (nmd [] u) := ⟨okT_nmd h1, by rw [rightT_nmd]; exact h2, rfl⟩
theorem Val.plain {t : Tr Nd} (h : Val t) : plainN t.nd = true := by
  have := h.rt; rw [rightT_eq, Bool.and_eq_true] at this; exact this.1
end Vp
end Go.Proofs.YtdgcdemihalefaaGreatDoor
namespace Go.Proofs.YtdgcdemihalefaaGreatDoor
namespace Pw
open Go.RowKit Np Rw Vp
structure St where
  part : Bool
  name : List UInt8
  n : Int
deriving DecidableEq
def rightS (s : St) : Bool := if s.part then decide (s.name = []) && decide (0 ≤ s.n) && decide (s.n ≤ 1000000) else decide (s.n = 0) && vld s.name
def stKind (s : St) : Int := if s.part then 5 else 6
def lead (s : St) (k : Nat) (name : List UInt8) : Bool := if s.part then decide ((k : Int) = s.n) else decide (name = s.name)
def seekN (s : St) : List (List UInt8) → Nat → Option Nat
  | [], _ => none
  | a :: l, k => if lead s k a then some k else seekN s l (k + 1)
theorem seekN_ge (s : St) : ∀ (l : List (List UInt8)) (k j : Nat), seekN s l k = some j → k ≤ j ∧ j < k + l.length ∧ ∃ a, l[j - k]? = some a ∧ lead s j a = true
  | [], k, j, h => by simp [seekN] at h
  | a :: l, k, j, h => by
    rw [seekN] at h
    split at h
    · injection h with h
      subst h
      exact ⟨Nat.le_refl _, by simp, a, by simp, by assumption⟩
    · obtain ⟨h1, h2, b, h3, h4⟩ := seekN_ge s l (k + 1) j h
      refine ⟨by omega, by rw [List.length_cons]; omega, b, ?_, h4⟩
      rw [show j - k = (j - (k + 1)) + 1 by omega, List.getElem?_cons_succ]
      exact h3
def names (ts : List (Tr Nd)) : List (List UInt8) := ts.map fun t => t.nd.name
def kid (s : St) (t : Tr Nd) : Option Nat := if t.nd.kind = stKind s then seekN s (names t.ks) 0 else none
theorem kid_lt {s : St} {t : Tr Nd} {k : Nat} (h : kid s t = some k) : k < t.ks.length ∧ t.nd.kind = stKind s ∧ ∃ u, t.ks[k]? = some u ∧ lead s k u.nd.name = true := by
  unfold kid at h
  split at h
  · rename_i hk
    obtain ⟨-, h2, a, h3, h4⟩ := seekN_ge s _ 0 k h
    have h5 : k < t.ks.length := by simpa [names] using h2
    refine ⟨h5, hk, t.ks[k], List.getElem?_eq_getElem h5, ?_⟩
    rw [Nat.sub_zero, names, List.getElem?_map, List.getElem?_eq_getElem h5] at h3
    injection h3 with h3
    have h6 : t.ks[k].nd.name = a := h3
    rw [h6]; exact h4
  · cases h
end Pw
end Go.Proofs.YtdgcdemihalefaaGreatDoor
namespace Go.Proofs.YtdgcdemihalefaaGreatDoor
namespace Fw
open Go.RowKit Np Rw Vp Pw
structure Tm where
  op : Int
  many : Int
  name : List UInt8
  s : List UInt8
  n : Int
  c : Nd
deriving DecidableEq
abbrev tmany (t : Tm) : Int := t.many
def zeroC : Nd := ⟨0, 0, [], [], false, 0⟩
def noNm (t : Tm) : Tm := { t with name := [] }
def pipeTm : Tm := ⟨4, 2, [], [], 0, zeroC⟩
end Fw
end Go.Proofs.YtdgcdemihalefaaGreatDoor
namespace Go.Proofs.YtdgcdemihalefaaGreatDoor
open Go.RowKit Np Rw Vp
namespace Vp
end Vp
end Go.Proofs.YtdgcdemihalefaaGreatDoor
namespace Go.Proofs.YtdgcdemihalefaaGreatDoor
open Go.RowKit Np
theorem flat_len {α : Type} {enc : α → List Value} {sz : Nat} (h : ∀ x, (enc x).length = sz) (l : List α) : (l.flatMap enc).length = l.length * sz := by
  induction l with
  | nil => simp
  | cons x l ih => simp [h x, ih, Nat.add_mul, Nat.add_comm]
theorem flat_at {α : Type} {enc : α → List Value} {sz : Nat} (h : ∀ x, (enc x).length = sz) : ∀ (l : List α) (k : Nat) (x : α) (j : Nat), l[k]? = some x → j < sz → (l.flatMap enc)[k * sz + j]? = (enc x)[j]?
  | [], _, _, _, hk, _ => by simp at hk
  | a :: l, 0, x, j, hk, hj => by
    simp at hk; subst hk
    rw [List.flatMap_cons, Nat.zero_mul, Nat.zero_add, List.getElem?_append_left (by rw [h]; exact hj)]
  | a :: l, k + 1, x, j, hk, hj => by
    rw [List.flatMap_cons, List.getElem?_append_right (by rw [h, Nat.add_mul]; omega), h, show (k + 1) * sz + j - sz = k * sz + j by rw [Nat.add_mul]; omega]
    exact flat_at h l k x j (by simpa using hk) hj
theorem flat_split {α : Type} {enc : α → List Value} {sz : Nat} (h : ∀ x, (enc x).length = sz) (hp : 0 < sz) (l : List α) (i : Nat) (u : Value) (hi : (l.flatMap enc)[i]? = some u) : ∃ x, l[i / sz]? = some x ∧ (enc x)[i % sz]? = some u := by
  have hlt : i < l.length * sz := by
    have := (List.getElem?_eq_some_iff.1 hi).1
    rwa [flat_len h] at this
  have hk : i / sz < l.length := (Nat.div_lt_iff_lt_mul hp).2 hlt
  refine ⟨l[i / sz], List.getElem?_eq_getElem hk, ?_⟩
  rw [← flat_at h l (i / sz) l[i / sz] (i % sz) (List.getElem?_eq_getElem hk) (Nat.mod_lt _ hp), Nat.div_add_mod' i sz]
  exact hi
theorem flat_put {α : Type} {enc : α → List Value} {sz : Nat} (h : ∀ x, (enc x).length = sz) : ∀ (l : List α) (k : Nat) (x y : α) (j : Nat) (u : Value), l[k]? = some x → j < sz → (enc x).set j u = enc y →
    (l.flatMap enc).set (k * sz + j) u = (l.set k y).flatMap enc
  | [], _, _, _, _, _, hk, _, _ => by simp at hk
  | a :: l, 0, x, y, j, u, hk, hj, hy => by
    simp at hk; subst hk
    rw [List.flatMap_cons, Nat.zero_mul, Nat.zero_add, List.set_append_left _ _ (by rw [h]; exact hj), hy]; rfl
  | a :: l, k + 1, x, y, j, u, hk, hj, hy => by
    rw [List.flatMap_cons, List.set_append_right _ _ (by rw [h, Nat.add_mul]; omega), h, show (k + 1) * sz + j - sz = k * sz + j by rw [Nat.add_mul]; omega, flat_put h l k x y j u (by simpa using hk) hj hy]; rfl
def Own {α : Type} (enc : α → List Value) (sz : Nat) (E : TypeId) (base : Nat) (w : World) (v : Value) (l : List α) : Prop := w.ownsRow base E sz v l.length (l.flatMap enc)
structure Elem {α : Type} (P : Program) (T E : TypeId) (enc : α → List Value) (sz bys : Nat) : Prop where
  und : P.underlying T = some (.slice E)
  inf : ∃ i z, P.info? E = some i ∧ i.zero = some z ∧ i.size = sz ∧ i.bytes = bys ∧ z.cells.size = sz
  pos : 0 < sz
  len : ∀ x, (enc x).length = sz
  one : ∀ x, ∀ u ∈ enc x, u.oneCell' = true
section
variable {α : Type} {enc : α → List Value} {sz E base : Nat} {w w' : World} {v : Value} {l : List α}
theorem Own.nil (w : World) : Own enc sz E base w (.slice none 0 0) ([] : List α) := World.ownsRow_nil w base E sz
theorem Own.opened (h : Own enc sz E base w v l) (h0 : 0 < l.length) : ∃ g cap, v = .slice (some ⟨g, 0, none⟩) l.length cap ∧ base ≤ g ∧ g < w.heap.size := World.ownsRow.form h h0
theorem Own.form (h : Own enc sz E base w v l) : ∃ (A : Option Addr) (c : Nat), v = .slice A l.length c ∧ l.length ≤ c ∧ c ≤ maxLen ∧ (A = none → c = 0) := by
  rcases h.2 with ⟨rfl, h0⟩ | ⟨g, cap, cur, rfl, _, _, h1, h2, _⟩
  · exact ⟨none, 0, by rw [h0], by omega, Nat.zero_le _, fun _ => rfl⟩
  · exact ⟨_, cap, rfl, h1, h2, fun h => (by cases h)⟩
theorem Own.cap {A : Option Addr} {n c : Nat} (h : Own enc sz E base w (.slice A n c) l) : n = l.length ∧ n ≤ c ∧ c ≤ maxLen := by
  obtain ⟨B, d, hv, h1, h2, _⟩ := h.form
  injection hv with _ e2 e3
  subst e2 e3
  exact ⟨rfl, h1, h2⟩
theorem Own.row (hl : ∀ x, (enc x).length = sz) (h : Own enc sz E base w v l) : Row enc sz w v l := by
  obtain ⟨A, c, hv, h1, h2, h3⟩ := h.form
  refine ⟨A, c, hv, h1, h2, h3, fun h0 => ?_⟩
  obtain ⟨g, cap, hv', hg, hlt⟩ := h.opened h0
  rw [hv] at hv'
  injection hv' with e1 _ e3
  subst e1 e3
  refine ⟨g, 0, rfl, hlt, fun k x hk j u hu => ?_⟩
  have hj : j < sz := by rw [← hl x]; exact (List.getElem?_eq_some_iff.1 hu).1
  have hkl : k < l.length := (List.getElem?_eq_some_iff.1 hk).1
  subst hv
  have := World.ownsRow.cellAt h (k * sz + j) (by
    have : (k + 1) * sz ≤ l.length * sz := Nat.mul_le_mul_right _ hkl
    rw [Nat.add_mul] at this; omega)
  rw [flat_at hl l k x j hk hj, hu] at this
  rw [Nat.zero_add]
  exact this
theorem Own.kept (h : Own enc sz E base w v l) (hg : w.grownBy w' v.ownBlock) (hb : base ≤ w.heap.size) : Below base w w' :=
  (Below.refl base w).grown hg hb (fun k e => (World.ownsRow.lt h k e).1)
theorem Own.mono {base' : Nat} (h : Own enc sz E base w v l) (hb : base' ≤ base) : Own enc sz E base' w v l := by
  obtain ⟨h1, h2⟩ := h
  rcases h2 with h2 | ⟨g, cap, cur, a, b, c⟩
  · exact ⟨h1, .inl h2⟩
  · exact ⟨h1, .inr ⟨g, cap, cur, a, Nat.le_trans hb b, c⟩⟩
theorem Own.alloc (h : Own enc sz E base w v l) (o : Obj) : Own enc sz E base (w.alloc o) v l := World.ownsRow.alloc h o
theorem Own.drewN (h : Own enc sz E base w v l) (n : Nat) : Own enc sz E base (w.drewN n) v l := h
theorem Own.drew (h : Own enc sz E base w v l) : Own enc sz E base w.drew v l := h
theorem Own.below (h : Own enc sz E base w v l) (hb : Below w.heap.size w w') : Own enc sz E base w' v l := by
  refine World.ownsRow.kept h (row := none) ⟨hb.os, hb.tape, hb.output, hb.size, fun k hk _ => hb.block k hk⟩ ?_
  cases hv : v.ownBlock with
  | none => exact .inl rfl
  | some k => exact .inr (by simp)
theorem Own.put (hl : ∀ x, (enc x).length = sz) {g cap k j : Nat} {x y : α} {u : Value} (h : Own enc sz E base w (.slice (some ⟨g, 0, none⟩) l.length cap) l) (hk : l[k]? = some x) (hj : j < sz) (hy : (enc x).set j u = enc y) :
    Own enc sz E base (w.setCell ⟨g, k * sz + j, none⟩ u) (.slice (some ⟨g, 0, none⟩) l.length cap) (l.set k y) := by
  have h1 := (World.ownsRow.stored h (k * sz + j) u).1
  rw [flat_put hl l k x y j u hk hj hy] at h1
  unfold Own
  rw [List.length_set]
  exact h1
theorem Own.cell (hl : ∀ x, (enc x).length = sz) {g cap k j : Nat} {x : α} {u : Value} (h : Own enc sz E base w (.slice (some ⟨g, 0, none⟩) l.length cap) l) (hk : l[k]? = some x) (hu : (enc x)[j]? = some u) : w.cell? ⟨g, k * sz + j, none⟩ = some u := by
  have hj : j < sz := by rw [← hl x]; exact (List.getElem?_eq_some_iff.1 hu).1
  have hkl : k < l.length := (List.getElem?_eq_some_iff.1 hk).1
  rw [World.ownsRow.cellAt h (k * sz + j) (by
    have : (k + 1) * sz ≤ l.length * sz := Nat.mul_le_mul_right _ hkl
    rw [Nat.add_mul] at this; omega), flat_at hl l k x j hk hj, hu]
theorem Own.free {g cap : Nat} (h : Own enc sz E base w (.slice (some ⟨g, 0, none⟩) l.length cap) l) (j : Nat) : w.frozen? ⟨g, j, none⟩ = false := World.ownsRow.frozenAt h j
theorem Own.lt {g cap : Nat} (h : Own enc sz E base w (.slice (some ⟨g, 0, none⟩) l.length cap) l) : base ≤ g ∧ g < w.heap.size := World.ownsRow.lt h g rfl
theorem Own.pop (hl : ∀ x, (enc x).length = sz) {g cap : Nat} {x : α} (h : Own enc sz E base w (.slice (some ⟨g, 0, none⟩) (l.length + 1) cap) (l ++ [x])) : Own enc sz E base w (.slice (some ⟨g, 0, none⟩) l.length cap) l := by
  unfold Own at h ⊢
  rw [List.length_append, List.length_singleton, List.flatMap_append] at h
  exact ownsRow_pop (flat_len hl l) h
theorem Own.lit (hl : ∀ x, (enc x).length = sz) (w : World) (cs : Array Value) (l : List α) (hb : base ≤ w.heap.size) (hm : l.length ≤ maxLen) (hcs : cs.toList = l.flatMap enc) : Own enc sz E base (w.alloc (.cells cs E)) (.slice (some ⟨w.heap.size, 0, none⟩) l.length l.length) l := by
  unfold Own
  rw [← hcs]
  exact World.ownsRow_lit w cs l.length hb hm (by rw [← Array.length_toList, hcs, flat_len hl])
theorem Row.lit (hl : ∀ x, (enc x).length = sz) (w : World) (E : TypeId) (cs : Array Value) (l : List α) (hm : l.length ≤ maxLen) (hcs : cs.toList = l.flatMap enc) : Row enc sz (w.alloc (.cells cs E)) (.slice (some ⟨w.heap.size, 0, none⟩) l.length l.length) l :=
  (Own.lit (base := 0) hl w cs l (Nat.zero_le _) hm hcs).row hl
end
section
variable {α : Type} {P : Program} {enc : α → List Value} {T E sz bys base : Nat} {w : World}
theorem wpList_append_row (el : Elem P T E enc sz bys) {ops : Array Oper} {rest : List Oper} {o : Oper} {a : Act} {Q : Exit → Act → World → Prop} (hgd : o.guard = none) (s x : Operand)
    (ho : o.op = .call { callee := .builtin .append, args := #[s, x], argTypes := #[T, T] }) {v r : Value} {l l2 : List α} (hs : a.eval s = v) (hown : Own enc sz E base w v l) (hx : a.eval x = r) (hr : Row enc sz w r l2)
    (h63 : l.length + l2.length ≤ maxLen) (hby : (l.length + l2.length) * bys ≤ 140737488355328) (hbase : base ≤ w.heap.size)
    (h : ∀ (A : Option Addr) (c : Nat) (w' : World), Own enc sz E base w' (.slice A (l ++ l2).length c) (l ++ l2) → w.grownBy w' v.ownBlock → ((Value.slice A (l ++ l2).length c).ownBlock = v.ownBlock ∨ (Value.slice A (l ++ l2).length c).ownBlock = some w.heap.size) →
      wpList P ops Q rest (a.put o.dst (.slice A (l ++ l2).length c)) w') : wpList P ops Q (o :: rest) a w := by
  obtain ⟨i, z, hi, hz, hsize, hbytes, hzs⟩ := el.inf
  obtain ⟨A, c, rfl, hc, hcm, hnil, hcell⟩ := hr
  cases A with
  | none =>
    have h0 := hnil rfl
    have hl0 : l2.length = 0 := by omega
    have := List.eq_nil_of_length_eq_zero hl0
    subst this
    subst h0
    obtain ⟨B, d, hv, -, -, -⟩ := hown.form
    have h2 := h B d w (by rw [List.append_nil, ← hv]; exact hown) (World.grownBy.refl w _) (.inl (by rw [List.append_nil, hv]))
    rw [List.append_nil, ← hv] at h2
    exact wpList_append_own_none hgd s x T ho base E i sz el.und hi v l.length _ hs hown hx h2
  | some ad =>
    refine wpList_append_own_at w hgd s x T ho base E i z sz bys el.und hi hz hsize hbytes hzs el.pos v l.length _ hs hown ad l2.length c (l2.flatMap enc) hx (flat_len el.len l2) ?_ ?_ h63 hby hbase ?_
    · intro j u hu
      obtain ⟨y, hy, hyu⟩ := flat_split el.len el.pos l2 j u hu
      have h0 : 0 < l2.length := by
        rcases Nat.eq_zero_or_pos l2.length with h0 | h0
        · rw [List.eq_nil_of_length_eq_zero h0] at hu; simp at hu
        · exact h0
      obtain ⟨g, q, hA, _, hx'⟩ := hcell h0
      injection hA with hA
      subst hA
      have := hx' _ y hy _ u hyu
      rw [Nat.add_assoc, Nat.div_add_mod' j sz] at this
      unfold Addr.add
      split
      · rename_i h; subst h; exact this
      · exact this
    · intro u hu
      obtain ⟨y, _, hyu⟩ := List.mem_flatMap.1 hu
      exact el.one y u hyu
    · intro v' w' h1 h2 _ h4
      have h5 : Own enc sz E base w' v' (l ++ l2) := by unfold Own; rw [List.length_append, List.flatMap_append]; exact h1
      obtain ⟨B, d, hv, -, -, -⟩ := h5.form
      subst hv
      exact h B d w' h5 h2 h4
end
theorem ndc_len (n : Nd) : (ndc n).length = 6 := rfl
theorem stc_len (s : List UInt8) : (stc s).length = 1 := rfl
theorem vac_len (x : Value) : [x].length = 1 := rfl
theorem node_info : (Tryz.prog.info? 43).map (fun i => (i.zero, i.size, i.bytes)) = some (some (.agg #[.int .i64 0, .int .i64 0, .string ⟨#[]⟩, .string ⟨#[]⟩, .bool false, .int .i64 0]), 6, 64) := by kernel_rfl
theorem string_info : (Tryz.prog.info? 9).map (fun i => (i.zero, i.size, i.bytes)) = some (some (.string ⟨#[]⟩), 1, 16) := by kernel_rfl
theorem elNode : Elem Tryz.prog 35 43 ndc 6 64 := by
  obtain ⟨i, hi, hz0, hz1, hz2⟩ := info_parts node_info
  refine ⟨Tryz.underlying35, ⟨i, _, hi, hz0, hz1, hz2, rfl⟩, by decide, ndc_len, fun n u hu => ?_⟩
  simp only [ndc, List.mem_cons, List.not_mem_nil, or_false] at hu
  rcases hu with rfl | rfl | rfl | rfl | rfl | rfl <;> rfl
theorem elText : Elem Tryz.prog 74 9 stc 1 16 := by
  obtain ⟨i, hi, hz0, hz1, hz2⟩ := info_parts string_info
  refine ⟨Tryz.underlying74, ⟨i, _, hi, hz0, hz1, hz2, rfl⟩, by decide, stc_len, fun n u hu => ?_⟩
  simp only [stc, List.mem_cons, List.not_mem_nil, or_false] at hu
  subst hu; rfl
def slc (x : Option Addr × Nat × Nat) : List Value := [.slice x.1 x.2.1 x.2.2]
theorem slc_len (x : Option Addr × Nat × Nat) : (slc x).length = 1 := rfl
end Go.Proofs.YtdgcdemihalefaaGreatDoor
namespace Go.Proofs.YtdgcdemihalefaaGreatDoor
open Go.RowKit Np
section
variable {α : Type} {enc : α → List Value} {sz E base : Nat} {w : World} {l : List α}
theorem set_row (xs : List Value) : ∀ (vs : List Value) (a : List Value) (o : Nat), a.length = o → ∀ (x b : List Value), x.length = vs.length → xs = a ++ x ++ b →
    ∀ {w : World} {g cap n : Nat}, w.ownsRow base E sz (.slice (some ⟨g, 0, none⟩) n cap) n xs → (w.setCells g o vs).ownsRow base E sz (.slice (some ⟨g, 0, none⟩) n cap) n (a ++ vs ++ b)
  | [], a, o, _, x, b, hx, hxs, w, g, cap, n, h => by
    have := List.eq_nil_of_length_eq_zero hx
    subst this
    rw [← hxs]; exact h
  | v :: vs, a, o, ho, [], b, hx, _, w, g, cap, n, h => by simp at hx
  | v :: vs, a, o, ho, c :: x, b, hx, hxs, w, g, cap, n, h => by
    have h1 := (World.ownsRow.stored h o v).1
    have e1 : xs.set o v = (a ++ [v]) ++ x ++ b := by
      rw [hxs, ← ho, List.append_assoc, List.set_append_right _ _ (Nat.le_refl _)]; simp
    have := set_row (xs.set o v) vs (a ++ [v]) (o + 1) (by simp [ho]) x b (by simpa using hx) e1 h1
    rw [World.setCells]
    simpa using this
theorem flat_split_at {k : Nat} {x : α} (hk : l[k]? = some x) : l = l.take k ++ x :: l.drop (k + 1) := by
  obtain ⟨h1, h2⟩ := List.getElem?_eq_some_iff.1 hk
  rw [← h2, List.getElem_cons_drop h1, List.take_append_drop]
theorem Own.puts (hl : ∀ x, (enc x).length = sz) {g cap k : Nat} {x y : α} (h : Own enc sz E base w (.slice (some ⟨g, 0, none⟩) l.length cap) l) (hk : l[k]? = some x) :
    Own enc sz E base (w.setCells g (k * sz) (enc y)) (.slice (some ⟨g, 0, none⟩) l.length cap) (l.set k y) := by
  have hkl : k < l.length := (List.getElem?_eq_some_iff.1 hk).1
  have e1 : l.flatMap enc = (l.take k).flatMap enc ++ enc x ++ (l.drop (k + 1)).flatMap enc := by
    conv => lhs; rw [flat_split_at hk]
    simp
  have e2 : (l.set k y).flatMap enc = (l.take k).flatMap enc ++ enc y ++ (l.drop (k + 1)).flatMap enc := by
    rw [List.set_eq_take_append_cons_drop, if_pos hkl]; simp
  unfold Own
  rw [e2, List.length_set]
  exact set_row _ (enc y) _ _ (by rw [flat_len hl, List.length_take]; congr 1; omega) (enc x) _ (by rw [hl, hl]) e1 h
theorem Own.there (hl : ∀ x, (enc x).length = sz) {g cap k : Nat} {x : α} (h : Own enc sz E base w (.slice (some ⟨g, 0, none⟩) l.length cap) l) (hk : l[k]? = some x) : w.there g (k * sz) sz := by
  intro j hj
  have hj' : j < (enc x).length := by rw [hl]; exact hj
  refine ⟨?_, h.free _⟩
  rw [Own.cell hl h hk (List.getElem?_eq_getElem hj')]
  rfl
end
theorem Below.setCells {B : Nat} {a : World} {g : Nat} (hg : B ≤ g) : ∀ (vs : List Value) (o : Nat) {w : World}, Below B a w → Below B a (w.setCells g o vs)
  | [], _, _, h => h
  | v :: vs, o, _, h => Below.setCells hg vs (o + 1) (h.setCell (p := ⟨g, o, none⟩) hg v)
theorem wpList_store_node {ops : Array Oper} {rest : List Oper} {op : Oper} {a : Act} {w : World} {Q : Exit → Act → World → Prop} (hgd : op.guard = none) (x y : Operand) (ho : op.op = .store 43 x y)
    (g o : Nat) (n : Nd) (hx : a.eval x = .pointer (some ⟨g, o, none⟩)) (hy : a.eval y = nda n) (ht : w.there g o 6) (h : wpList Tryz.prog ops Q rest (a.put op.dst undef) (w.setCells g o (ndc n))) : wpList Tryz.prog ops Q (op :: rest) a w := by
  refine wpList_store_mid hgd 43 x y ho g o _ hx hy ht ?_ (all_oneCell_toArray (cs := ndc n) (elNode.one n)) h
  have := node_info
  cases h : Tryz.prog.info? 43 with
  | none => rw [h] at this; cases this
  | some i => rw [h] at this; simp at this; simp [this.2.1]
end Go.Proofs.YtdgcdemihalefaaGreatDoor
namespace Go.Proofs.YtdgcdemihalefaaGreatDoor
open Go.RowKit Np Rw Vp Pw Fw
abbrev tma (t : Tm) : Value := .agg #[.int .i64 t.op, .int .i64 t.many, .string ⟨t.name.toArray⟩, .string ⟨t.s.toArray⟩, .int .i64 t.n, .int .i64 t.c.kind, .int .i64 t.c.many, .string ⟨t.c.name.toArray⟩, .string ⟨t.c.s.toArray⟩, .bool t.c.neg, .int .i64 t.c.e]
def tmc (t : Tm) : List Value := [.int .i64 t.op, .int .i64 t.many, .string ⟨t.name.toArray⟩, .string ⟨t.s.toArray⟩, .int .i64 t.n, .int .i64 t.c.kind, .int .i64 t.c.many, .string ⟨t.c.name.toArray⟩, .string ⟨t.c.s.toArray⟩, .bool t.c.neg, .int .i64 t.c.e]
theorem tmc_len (t : Tm) : (tmc t).length = 11 := rfl
abbrev Tms (w : World) (v : Value) (l : List Tm) : Prop := Row tmc 11 w v l
abbrev Fls (w : World) (v : Value) (L : List (List Tm)) : Prop := Rowz tmc 11 w v L
structure Tm11 (w : World) (g o : Nat) (t : Tm) : Prop where
  c0 : w.cell? ⟨g, o, none⟩ = some (.int .i64 t.op)
  c1 : w.cell? ⟨g, o + 1, none⟩ = some (.int .i64 t.many)
  c2 : w.cell? ⟨g, o + 2, none⟩ = some (.string ⟨t.name.toArray⟩)
  c3 : w.cell? ⟨g, o + 3, none⟩ = some (.string ⟨t.s.toArray⟩)
  c4 : w.cell? ⟨g, o + 4, none⟩ = some (.int .i64 t.n)
  c5 : w.cell? ⟨g, o + 5, none⟩ = some (.int .i64 t.c.kind)
  c6 : w.cell? ⟨g, o + 6, none⟩ = some (.int .i64 t.c.many)
  c7 : w.cell? ⟨g, o + 7, none⟩ = some (.string ⟨t.c.name.toArray⟩)
  c8 : w.cell? ⟨g, o + 8, none⟩ = some (.string ⟨t.c.s.toArray⟩)
  c9 : w.cell? ⟨g, o + 9, none⟩ = some (.bool t.c.neg)
  c10 : w.cell? ⟨g, o + 10, none⟩ = some (.int .i64 t.c.e)
theorem CellsAt.tm {w : World} {g o : Nat} {t : Tm} (h : CellsAt w g o (tmc t)) : Tm11 w g o t := ⟨h 0 _ rfl, h 1 _ rfl, h 2 _ rfl, h 3 _ rfl, h 4 _ rfl, h 5 _ rfl, h 6 _ rfl, h 7 _ rfl, h 8 _ rfl, h 9 _ rfl, h 10 _ rfl⟩
theorem Tm11.below {w w' : World} {g o : Nat} {t : Tm} (h : Tm11 w g o t) (hg : g < w.heap.size) (hb : Below w.heap.size w w') : Tm11 w' g o t :=
  ⟨(hb.cell hg).trans h.c0, (hb.cell hg).trans h.c1, (hb.cell hg).trans h.c2, (hb.cell hg).trans h.c3, (hb.cell hg).trans h.c4, (hb.cell hg).trans h.c5, (hb.cell hg).trans h.c6, (hb.cell hg).trans h.c7, (hb.cell hg).trans h.c8, (hb.cell hg).trans h.c9, (hb.cell hg).trans h.c10⟩
theorem Tm11.low {B : Nat} {w w' : World} {g o : Nat} {t : Tm} (h : Tm11 w g o t) (hg : g < B) (hb : Below B w w') : Tm11 w' g o t :=
  ⟨(hb.cell (p := ⟨g, o, none⟩) hg).trans h.c0, (hb.cell (p := ⟨g, o + 1, none⟩) hg).trans h.c1, (hb.cell (p := ⟨g, o + 2, none⟩) hg).trans h.c2, (hb.cell (p := ⟨g, o + 3, none⟩) hg).trans h.c3, (hb.cell (p := ⟨g, o + 4, none⟩) hg).trans h.c4, (hb.cell (p := ⟨g, o + 5, none⟩) hg).trans h.c5, (hb.cell (p := ⟨g, o + 6, none⟩) hg).trans h.c6, (hb.cell (p := ⟨g, o + 7, none⟩) hg).trans h.c7, (hb.cell (p := ⟨g, o + 8, none⟩) hg).trans h.c8, (hb.cell (p := ⟨g, o + 9, none⟩) hg).trans h.c9, (hb.cell (p := ⟨g, o + 10, none⟩) hg).trans h.c10⟩
theorem Tm11.quiet {w w' : World} {g o : Nat} {t : Tm} (h : Tm11 w g o t) (hq : ∃ m, w' = w.drewN m) : Tm11 w' g o t := by
  obtain ⟨m, rfl⟩ := hq
  exact ⟨h.c0, h.c1, h.c2, h.c3, h.c4, h.c5, h.c6, h.c7, h.c8, h.c9, h.c10⟩
abbrev OwnT (base : Nat) (w : World) (v : Value) (l : List Tm) : Prop := Own tmc 11 47 base w v l
def OwnsT (w : World) (l : List Tm) (e : Ending) (w' : World) : Prop := ∃ v', e = .returned v' ∧ OwnT w.heap.size w' v' l ∧ Below w.heap.size w w'
theorem term_info : (Tryz.prog.info? 47).map (fun i => (i.zero, i.size, i.bytes)) = some (some (.agg #[.int .i64 0, .int .i64 0, .string ⟨#[]⟩, .string ⟨#[]⟩, .int .i64 0, .int .i64 0, .int .i64 0, .string ⟨#[]⟩, .string ⟨#[]⟩, .bool false, .int .i64 0]), 11, 120) := by kernel_rfl
theorem filter_info : (Tryz.prog.info? 23).map (fun i => (i.zero, i.size, i.bytes)) = some (some (.slice none 0 0), 1, 24) := by kernel_rfl
theorem elTerm : Elem Tryz.prog 23 47 tmc 11 120 := by
  obtain ⟨i, hi, hz0, hz1, hz2⟩ := info_parts term_info
  refine ⟨Tryz.underlying23, ⟨i, _, hi, hz0, hz1, hz2, rfl⟩, by decide, tmc_len, fun n u hu => ?_⟩
  simp only [tmc, List.mem_cons, List.not_mem_nil, or_false] at hu
  rcases hu with rfl | rfl | rfl | rfl | rfl | rfl | rfl | rfl | rfl | rfl | rfl <;> rfl
theorem elFilter : Elem Tryz.prog 28 23 slc 1 24 := by
  obtain ⟨i, hi, hz0, hz1, hz2⟩ := info_parts filter_info
  refine ⟨Tryz.underlying28, ⟨i, _, hi, hz0, hz1, hz2, rfl⟩, by decide, slc_len, fun n u hu => ?_⟩
  simp only [slc, List.mem_cons, List.not_mem_nil, or_false] at hu
  subst hu; rfl
set_option maxHeartbeats 4000000 in
theorem eql_tm (a b : Tm) (w : World) : (binOp .eql 47 (tma a) (tma b)).run Tryz.prog w = .ok (.bool (decide (a = b))) w := by
  obtain ⟨o, m, nm, s, n, k, y, z, u, g, e⟩ := a
  obtain ⟨o2, m2, nm2, s2, n2, k2, y2, z2, u2, g2, e2⟩ := b
  simp only [Tm.mk.injEq, Nd.mk.injEq]
  by_cases h0 : o = o2
  · by_cases h1 : m = m2
    · by_cases h2 : nm = nm2
      · by_cases h3 : s = s2
        · by_cases h4 : n = n2
          · by_cases h5 : k = k2
            · by_cases h6 : y = y2
              · by_cases h7 : z = z2
                · by_cases h8 : u = u2
                  · by_cases h9 : g = g2
                    · by_cases h10 : e = e2
                      · subst h0 h1 h2 h3 h4 h5 h6 h7 h8 h9 h10; simp [go_sem]
                      · subst h0 h1 h2 h3 h4 h5 h6 h7 h8 h9; simp [go_sem, h10]
                    · subst h0 h1 h2 h3 h4 h5 h6 h7 h8; simp [go_sem, h9]
                  · subst h0 h1 h2 h3 h4 h5 h6 h7; simp [go_sem, h8]
                · subst h0 h1 h2 h3 h4 h5 h6; simp [go_sem, h7]
              · subst h0 h1 h2 h3 h4 h5; simp [go_sem, h6]
            · subst h0 h1 h2 h3 h4; simp [go_sem, h5]
          · subst h0 h1 h2 h3; simp [go_sem, h4]
        · subst h0 h1 h2; simp [go_sem, h3]
      · subst h0 h1; simp [go_sem, h2]
    · subst h0; simp [go_sem, h1]
  · simp [go_sem, h0]
set_option maxHeartbeats 4000000 in
theorem neq_tm (a b : Tm) (w : World) : (binOp .neq 47 (tma a) (tma b)).run Tryz.prog w = .ok (.bool (!decide (a = b))) w := by
  obtain ⟨o, m, nm, s, n, k, y, z, u, g, e⟩ := a
  obtain ⟨o2, m2, nm2, s2, n2, k2, y2, z2, u2, g2, e2⟩ := b
  simp only [Tm.mk.injEq, Nd.mk.injEq]
  by_cases h0 : o = o2
  · by_cases h1 : m = m2
    · by_cases h2 : nm = nm2
      · by_cases h3 : s = s2
        · by_cases h4 : n = n2
          · by_cases h5 : k = k2
            · by_cases h6 : y = y2
              · by_cases h7 : z = z2
                · by_cases h8 : u = u2
                  · by_cases h9 : g = g2
                    · by_cases h10 : e = e2
                      · subst h0 h1 h2 h3 h4 h5 h6 h7 h8 h9 h10; simp [go_sem]
                      · subst h0 h1 h2 h3 h4 h5 h6 h7 h8 h9; simp [go_sem, h10]
                    · subst h0 h1 h2 h3 h4 h5 h6 h7 h8; simp [go_sem, h9]
                  · subst h0 h1 h2 h3 h4 h5 h6 h7; simp [go_sem, h8]
                · subst h0 h1 h2 h3 h4 h5 h6; simp [go_sem, h7]
              · subst h0 h1 h2 h3 h4 h5; simp [go_sem, h6]
            · subst h0 h1 h2 h3 h4; simp [go_sem, h5]
          · subst h0 h1 h2 h3; simp [go_sem, h4]
        · subst h0 h1 h2; simp [go_sem, h3]
      · subst h0 h1; simp [go_sem, h2]
    · subst h0; simp [go_sem, h1]
  · simp [go_sem, h0]
end Go.Proofs.YtdgcdemihalefaaGreatDoor
namespace Go.Proofs.YtdgcdemihalefaaGreatDoor
open Go.RowKit Np Rw Vp Pw
abbrev sta (s : St) : Value := .agg #[.bool s.part, .string ⟨s.name.toArray⟩, .int .i64 s.n]
def spc (s : St) : List Value := [.bool s.part, .string ⟨s.name.toArray⟩, .int .i64 s.n]
theorem spc_len (s : St) : (spc s).length = 3 := rfl
abbrev Sps (w : World) (v : Value) (l : List St) : Prop := Row spc 3 w v l
structure Sp3 (w : World) (g o : Nat) (s : St) : Prop where
  c0 : w.cell? ⟨g, o, none⟩ = some (.bool s.part)
  c1 : w.cell? ⟨g, o + 1, none⟩ = some (.string ⟨s.name.toArray⟩)
  c2 : w.cell? ⟨g, o + 2, none⟩ = some (.int .i64 s.n)
theorem CellsAt.sp {w : World} {g o : Nat} {s : St} (h : CellsAt w g o (spc s)) : Sp3 w g o s := ⟨h 0 _ rfl, h 1 _ rfl, h 2 _ rfl⟩
end Go.Proofs.YtdgcdemihalefaaGreatDoor
namespace Go.Proofs.YtdgcdemihalefaaGreatDoor
abbrev uqv (x : List UInt8 × Nat × Int) : Value := .tuple #[.string ⟨x.1.toArray⟩, .int .i64 x.2.1, .int .i64 x.2.2]
end Go.Proofs.YtdgcdemihalefaaGreatDoor
namespace Go.Proofs.YtdgcdemihalefaaGreatDoor
open Go.RowKit Np
end Go.Proofs.YtdgcdemihalefaaGreatDoor
namespace Go.Proofs.YtdgcdemihalefaaGreatDoor
open Go.RowKit Np
end Go.Proofs.YtdgcdemihalefaaGreatDoor
namespace Go.Proofs.YtdgcdemihalefaaGreatDoor
end Go.Proofs.YtdgcdemihalefaaGreatDoor
namespace Go.Proofs.YtdgcdemihalefaaGreatDoor
open Go.RowKit
theorem rowsIn_of {P : Program} {r n : Nat} {row : String} {args : Array Value} {w : World} {R : Value → World → Prop} (h : Go.Rows P row args w R) : RowsIn (Fence.wide.inRound r) n P row args w R := by
  intro c cs _
  obtain ⟨v, w', hr, hs⟩ := h c cs
  exact ⟨v, w', hr, stepsIn_wide.2 hs⟩
theorem oper_round {P : Program} {r n : Nat} {o : Oper} {a : Act} {w : World} {K : Act → World → Prop} {Q : Exit → Act → World → Prop} (hd : ∀ c, o.op ≠ .defer c) (h : o.wp P a w K Q) : o.wpIn (Fence.wide.inRound r) n P a w K Q := by
  refine ⟨fun _ _ => trivial, ?_⟩
  rw [show o.semAt (Fence.wide.inRound r).round a.eval = execOp a.eval o from Oper.semAt_some r a.eval o hd]
  unfold Oper.wp at h
  generalize (execOp a.eval o).run P w = res at h ⊢
  match res, h with
  | .ok (.value v) w', h => exact h
  | .ok .skip w', h => exact h
  | .ok (.defer d) w', h => exact h
  | .ok (.enter f args) w', h => exact ⟨fun h' => (by cases h'), CallsIn.inRound r (callsIn_wide.2 h)⟩
  | .ok (.row row args) w', h => exact ⟨fun h' => (by cases h'), rowsIn_of h⟩
  | .halt (.panic v) w', h => exact h
theorem any_round {P : Program} {r n : Nat} {md : Region.Mode} {ops : Array Oper} {Q : Exit → Act → World → Prop} (hd : ∀ (i : Nat) (o : Oper), ops[i]? = some o → ∀ c, o.op ≠ .defer c) (hQ : ¬ LetsOut Q) :
    ∀ (fuel : Nat) (listed : Array Bool) (a : Act) (w : World), wpAny P md ops Q fuel listed a w → wpAnyIn (Fence.wide.inRound r) n P md ops Q fuel listed a w
  | 0, _, _, _, h => h
  | fuel + 1, listed, a, w, h => by
    refine ⟨h.1, fun i hi => ?_⟩
    have h1 := h.2 i hi
    unfold wpOp at h1
    unfold wpOpIn
    cases ho : ops[i]? with
    | none => rw [ho] at h1; exact any_round hd hQ fuel _ _ _ h1
    | some o =>
      rw [ho] at h1
      simp only at h1 ⊢
      by_cases hw : Region.wanted o (yielded ops a.tmps) = true
      · rw [if_pos hw] at h1 ⊢
        rcases h1 with h1 | ⟨_, h1⟩
        · exact Oper.wpIn_mono (fun a' w' h' => any_round hd hQ fuel _ a' w' h') (oper_round (hd i o ho) h1)
        · exact absurd h1 hQ
      · rw [if_neg hw] at h1 ⊢
        exact ⟨fun _ _ => trivial, any_round hd hQ fuel _ _ _ h1⟩
def noDefer (o : Oper) : Bool := match o.op with | .defer _ => false | _ => true
theorem region_round {P : Program} {r n id : Nat} {ops : Array Oper} {Q : Exit → Act → World → Prop} {a : Act} {w : World} (hm : P.follows .mixedOrders = true) (hd : ops.all noDefer = true) (hQ : ¬ LetsOut Q)
    (h : wpAny P .any ops Q ops.size (Array.replicate ops.size false) a w.drew) : (Code.region id ops true).wpIn (Fence.wide.inRound r) n P Q a w := by
  refine wpIn_region_any hm (any_round (fun i o ho c hc => ?_) hQ _ _ _ _ h)
  have h1 := Array.all_eq_true'.1 hd o (Array.mem_of_getElem? ho)
  unfold noDefer at h1
  rw [hc] at h1
  cases h1
theorem outgrown_no {α : Type} {B : Nat} {Kp : World → World → Prop} {I : List α → World → Prop} {Ix : Code → List α → World → Prop} {xs : List α} {W : World} : ¬ LetsOut (ownPostG B Kp I Ix xs W) := fun ⟨_, _, h⟩ => h
theorem any_tail {P : Program} {md : Region.Mode} {ops : Array Oper} {Q : Exit → Act → World → Prop} {listed : Array Bool} {a : Act} {w : World} (n fuel : Nat) (hf : ops.size = n + fuel) (hB : Region.seqB md ops fuel n listed = true)
    (h : wpList P ops Q (ops.toList.drop n) a w) : wpAny P md ops Q fuel listed a w := by
  have hl : (ops.toList.drop n).length = fuel := by simp; omega
  have := wpAny_of_seq (md := md) (ops.toList.drop n) n listed a w (fun j => by simp [List.getElem?_drop]) (by rw [hl]; exact hB) h
  rwa [hl] at this
theorem take_read {P : Program} {md : Region.Mode} {l : List Oper} {Q : Exit → Act → World → Prop} {S : World → Prop} {T : List Value} {ds : List Deferred} (i d : Nat) (v : Value) {oi : Oper} {fuel : Nat} {listed : Array Bool} {w : World} (hi : l[i]? = some oi) (hd : oi.dst = some d)
    (hs : Region.noSelect l.toArray = true) (hf : Region.free md l.toArray listed i = true) (hr : (Region.ready md l.toArray listed).contains i = true) (hQ : ∀ c a w, Q (.panic c) (a.put oi.dst v) w → Q (.panic c) a w)
    (hw : Region.wanted oi (yielded l.toArray T.toArray) = true) (hrun : ∀ w, S w → (execOp (Act.eval { tmps := T.toArray, defers := ds }) oi).run P w = .ok (.value v) w) (hS : S w)
    (h : wpAnyH P md l.toArray Q S fuel (listed.setIfInBounds i true) { tmps := (T.set d v).toArray, defers := ds } w) : wpAnyH P md l.toArray Q S (fuel + 1) listed { tmps := T.toArray, defers := ds } w := by
  refine wpAnyH_take (i := i) (v := v) (by simpa using hi) hs hf hr hQ (.inl ⟨hw, hrun⟩) hS ?_
  rw [hd, Act.put]
  simpa using h
theorem block_no {id : Nat} {Q : Exit → Act → World → Prop} (h : ¬ LetsOut Q) : ¬ LetsOut (Exit.inBlock id Q) := fun ⟨a, w, hq⟩ => h ⟨a, w, hq⟩
end Go.Proofs.YtdgcdemihalefaaGreatDoor
namespace Go.Proofs.YtdgcdemihalefaaGreatDoor
open Go.RowKit Go.Shelf Np
attribute [local go_sem] Oper.semAt_some
section
variable {α : Type} {enc : α → List Value} {sz : Nat} {W W' : World} {v : Value} {l : List α}
theorem Row.turned {row : Option Nat} (h : Row enc sz W v l) (hg : W.grownBy W' row) (hr : ∀ r, row = some r → ∃ o : Obj, W.heap[r]? = some o ∧ o.isCells = false) : Row enc sz W' v l := by
  obtain ⟨A, c, hv, hc, hm, hz, H⟩ := h
  refine ⟨A, c, hv, hc, hm, hz, fun h0 => ?_⟩
  obtain ⟨g, o, hA, hlt, hx⟩ := H h0
  exact ⟨g, o, hA, Nat.lt_of_lt_of_le hlt hg.size, fun k x hk j u hu => cell_kept (hx k x hk j u hu) hg hr⟩
end
theorem keeps_below {W W' : World} (h : Below W.heap.size W W') : KeepsOthers W W' :=
  ⟨h.size, fun k o hk _ => by
    rw [h.block k (Array.getElem?_eq_some_iff.1 hk).1]; exact hk⟩
theorem Own.turned {α : Type} {enc : α → List Value} {sz E base : Nat} {W W' : World} {v : Value} {l : List α} {row : Option Nat} (h : Own enc sz E base W v l) (hg : W.grownBy W' row) (hr : ∀ r, row = some r → ∃ o : Obj, W.heap[r]? = some o ∧ o.isCells = false) : Own enc sz E base W' v l := by
  refine World.ownsRow.kept h hg ?_
  rcases h.2 with ⟨rfl, _⟩ | ⟨g, cap, cur, rfl, _, hh, _⟩
  · exact .inl rfl
  · refine .inr (fun e => ?_)
    obtain ⟨o, ho, hc⟩ := hr g e.symm
    rw [hh] at ho
    injection ho with ho
    subst ho
    cases hc
theorem boxed_turned {W W' : World} {B t : Nat} {v : Value} {row : Option Nat} (h : Boxed W B t v) (hg : W.grownBy W' row) (hr : ∀ r, row = some r → ∃ o : Obj, W.heap[r]? = some o ∧ o.isCells = false) : Boxed W' B t v := by
  refine h.kept hg (fun e => ?_)
  obtain ⟨o, ho, hc⟩ := hr B e.symm
  rw [show W.heap[B]? = _ from h] at ho
  injection ho with ho
  subst ho
  cases hc
theorem own_apart {W : World} {b1 b2 e1 e2 s1 s2 n1 n2 : Nat} {v1 v2 : Value} {x1 x2 : List Value} (h1 : W.ownsRow b1 e1 s1 v1 n1 x1) (h2 : W.ownsRow b2 e2 s2 v2 n2 x2) (he : e1 ≠ e2) : v1.ownBlock = none ∨ v1.ownBlock ≠ v2.ownBlock := by
  rcases h1.2 with ⟨rfl, _⟩ | ⟨g1, c1, u1, rfl, _, k1, _⟩
  · exact .inl rfl
  · refine .inr (fun e => ?_)
    rcases h2.2 with ⟨rfl, _⟩ | ⟨g2, c2, u2, rfl, _, k2, _⟩
    · cases e
    · cases e
      rw [k1] at k2
      injection k2 with k2
      injection k2 with _ k2
      exact he k2
end Go.Proofs.YtdgcdemihalefaaGreatDoor
namespace Go.Proofs.YtdgcdemihalefaaGreatDoor
open Go.RowKit Go.Maps Np
theorem Own.ne {α : Type} {enc : α → List Value} {sz E base b T : Nat} {cs : Array Value} {fz : Nat × Nat} {w : World} {x : Value} {l : List α} (ho : Own enc sz E base w x l) (h : w.heap[b]? = some (.cells cs T fz)) (hE : E ≠ T) : x.ownBlock ≠ some b := by
  rcases ho.2 with ⟨rfl, _⟩ | ⟨g, cap, cur, rfl, _, hh, _⟩
  · intro e; cases e
  · intro e
    have e1 : g = b := by simpa [Value.ownBlock] using e
    subst e1
    rw [h] at hh
    injection hh with hh
    injection hh with _ h2 _
    exact hE h2.symm
theorem lawS : Keyed Tryz.prog 9 := string_keyed Tryz.underlying9
theorem zeroS (w : World) : (zeroValue 3).run Tryz.prog w = .ok (.int .i64 0) w := by kernel_rfl
abbrev keyT (r : List UInt8) : Lit := .string r
theorem keyT_ne {a b : List UInt8} (h : a ≠ b) : keyT a ≠ keyT b := fun e => h (by injection e)
theorem keyT_ok (r : List UInt8) : WideAt.IsKeyLit (keyT r) := by unfold keyT WideAt.IsKeyLit; trivial
def SVw (D : DataW Unit) (f : List UInt8 → Option Int) : Prop := IsMap D ∧ ∀ r, Maps.has D (keyT r) = (f r).isSome ∧ ∀ v, f r = some v → D.atKey (keyT r) (.lit (.int .i64 0)) = .lit (.int .i64 v)
theorem SVw.hit {D : DataW Unit} {f : List UInt8 → Option Int} (h : SVw D f) {r : List UInt8} {v c : Int} (hf : f r = some v) (hat : D.atKey (keyT r) (.lit (.int .i64 0)) = .lit (.int .i64 c)) : c = v := by
  have := (h.2 r).2 v hf
  rw [this] at hat
  injection hat with hat
  injection hat with _ hat
  exact hat.symm
def upS (f : List UInt8 → Option Int) (k : List UInt8) (v : Int) (r : List UInt8) : Option Int := if r = k then some v else f r
theorem SVw.put {D : DataW Unit} {f : List UInt8 → Option Int} (h : SVw D f) (k : List UInt8) (v : Int) : SVw (D.put (keyT k) (.lit (.int .i64 v))) (upS f k v) := by
  refine ⟨h.1.put _ _, fun r => ?_⟩
  by_cases e : r = k
  · subst e
    unfold upS
    rw [if_pos rfl]
    refine ⟨by rw [has_put_same h.1 (keyT_ok _)]; rfl, fun x hx => ?_⟩
    injection hx with hx
    rw [atKey_put_same h.1 (keyT_ok _), hx]
  · unfold upS
    rw [if_neg e]
    refine ⟨by rw [has_put_other (keyT_ne e)]; exact (h.2 r).1, fun x hx => ?_⟩
    rw [atKey_put_other (keyT_ne e)]
    exact (h.2 r).2 x hx
def SMap (w : World) (b n : Nat) (f : List UInt8 → Option Int) : Prop := ∃ D : DataW Unit, w.ownsMap Tryz.prog 9 (plainElem Tryz.prog 3) b n D ∧ SVw D f
section
variable {α β : Type} {e1 : α → List Value} {e2 : β → List Value} {s1 s2 E1 E2 b1 b2 : Nat} {w w' : World} {v : Value} {l : List α}
theorem Own.ne_map (ho : Own e1 s1 E1 b1 w v l) {b : Nat} {es : Array MapEntry} {clock : Nat} (h : w.heap[b]? = some (.map es clock)) : v.ownBlock ≠ some b := by
  rcases ho.2 with ⟨rfl, _⟩ | ⟨g, cap, cur, rfl, _, hh, _⟩
  · intro e; cases e
  · intro e
    have e1 : g = b := by simpa [Value.ownBlock] using e
    subst e1
    rw [h] at hh
    cases hh
theorem SMap.aside {b n : Nat} {f : List UInt8 → Option Int} (h : SMap w b n f) (ho : Own e1 s1 E1 b1 w v l) (hg : w.grownBy w' v.ownBlock) : SMap w' b n f := by
  obtain ⟨D, hD, hV⟩ := h
  have hD0 := hD
  obtain ⟨es, clock, hb, _⟩ := hD0
  exact ⟨D, hD.kept hg (Ne.symm (ho.ne_map hb)), hV⟩
theorem SMap.alloc {b n : Nat} {f : List UInt8 → Option Int} (h : SMap w b n f) (o : Obj) : SMap (w.alloc o) b n f := by
  obtain ⟨D, hD, hV⟩ := h
  exact ⟨D, hD.alloc o, hV⟩
theorem SMap.blk {b n : Nat} {f : List UInt8 → Option Int} (h : SMap w b n f) : ∃ es clock, w.heap[b]? = some (.map es clock) := by
  obtain ⟨D, ⟨es, clock, hb, _⟩, _⟩ := h
  exact ⟨es, clock, hb⟩
theorem SMap.same {b n : Nat} {f : List UInt8 → Option Int} (h : SMap w b n f) (hk : w'.heap[b]? = w.heap[b]?) : SMap w' b n f := by
  obtain ⟨D, ⟨es, clock, hb, r⟩, hV⟩ := h
  exact ⟨D, ⟨es, clock, hk.trans hb, r⟩, hV⟩
theorem SMap.cell {b n : Nat} {f : List UInt8 → Option Int} (h : SMap w b n f) {p : Addr} (hp : p.block ≠ b) (u : Value) : SMap (w.setCell p u) b n f := h.same (Below.heap_setCell w p u b (Ne.symm hp))
theorem SMap.ne {b n k : Nat} {f : List UInt8 → Option Int} (h : SMap w b n f) {cs : Array Value} {T : Nat} {fz : Nat × Nat} (hb : w.heap[k]? = some (.cells cs T fz)) : k ≠ b := by
  obtain ⟨es, clock, h1⟩ := h.blk
  rintro rfl
  rw [h1] at hb; cases hb
theorem kept_map {b : Nat} {es : Array MapEntry} {clock : Nat} (hm : w.heap[b]? = some (.map es clock)) (hg : w.grownBy w' (some b)) {k T : Nat} {cs : Array Value} {fz : Nat × Nat} (hb : w.heap[k]? = some (.cells cs T fz)) : w'.heap[k]? = some (.cells cs T fz) :=
  (hg.block k (Array.getElem?_eq_some_iff.1 hb).1 (fun e => by injection e with e; subst e; rw [hm] at hb; cases hb)).trans hb
theorem Own.map {b : Nat} {es : Array MapEntry} {clock : Nat} (ho : Own e1 s1 E1 b1 w v l) (hm : w.heap[b]? = some (.map es clock)) (hg : w.grownBy w' (some b)) : Own e1 s1 E1 b1 w' v l :=
  World.ownsRow.kept ho hg (by
    rcases hv : v.ownBlock with _ | g
    · exact .inl rfl
    · exact .inr (by rw [← hv]; exact ho.ne_map hm))
end
end Go.Proofs.YtdgcdemihalefaaGreatDoor
namespace Go.Proofs.YtdgcdemihalefaaGreatDoor
open Go.RowKit Np Up Qp
def esS : Option (Nat × Nat) → List UInt8
  | some x => Lib.encodeRune (x.1 : Int)
  | none => []
def esN : Option (Nat × Nat) → Int
  | some x => x.2
  | none => 0
theorem unI_none {x : Option Nat} (h : x = none) : unI x = -1 := by rw [h]; rfl
theorem unI_some {x : Option Nat} {a : Nat} (h : x = some a) : unI x = a := by rw [h]; rfl
def shF : ByteArray := ⟨#[34, 92, 47, 98, 102, 110, 114, 116]⟩
def shT : ByteArray := ⟨#[34, 92, 47, 8, 12, 10, 13, 9]⟩
theorem shF_size : shF.size = 8 := rfl
theorem shT_size : shT.size = 8 := rfl
theorem sh_hit : ∀ j : Fin 8, sh (shF[j.val]'(by rw [shF_size]; exact j.2)).toNat = some (shT[j.val]'(by rw [shT_size]; exact j.2)).toNat ∧ shT.extract j.val (j.val + 1) = ⟨(Lib.encodeRune ((shT[j.val]'(by rw [shT_size]; exact j.2)).toNat : Int)).toArray⟩ := by decide +kernel
theorem sh_miss (c : Nat) (h : ∀ j : Fin 8, c ≠ (shF[j.val]'(by rw [shF_size]; exact j.2)).toNat) : sh c = none := by
  have h0 : c ≠ 34 := h 0
  have h1 : c ≠ 92 := h 1
  have h2 : c ≠ 47 := h 2
  have h3 : c ≠ 98 := h 3
  have h4 : c ≠ 102 := h 4
  have h5 : c ≠ 110 := h 5
  have h6 : c ≠ 114 := h 6
  have h7 : c ≠ 116 := h 7
  simp [sh, h0, h1, h2, h3, h4, h5, h6, h7]
theorem sh_hit' (j : Nat) (h : j < shF.size) (h' : j < shT.size) : sh shF[j].toNat = some shT[j].toNat ∧ shT.extract j (j + 1) = ⟨(Lib.encodeRune (shT[j].toNat : Int)).toArray⟩ := sh_hit ⟨j, h⟩
theorem sh_miss' (c : Nat) (h : ∀ (j : Nat) (h : j < shF.size), c ≠ shF[j].toNat) : sh c = none := sh_miss c fun j => h j.val j.2
set_option maxRecDepth 100000 in
set_option maxHeartbeats 4000000 in
theorem refEscape_any (s : ByteArray) (i : Nat) (w : World) (hs : s.size ≤ 1073741824) (hi : i < s.size) :
    Calls Tryz.prog 294 #[.string s, .int .i64 i] w fun e w' => e = .returned (.tuple #[.string ⟨(esS (es (s.data.toList.drop i))).toArray⟩, .int .i64 (esN (es (s.data.toList.drop i)))]) ∧ Below w.heap.size w w' := by
  have hB : Below w.heap.size w w := Below.refl _ _
  by_cases h2 : i + 1 < s.size
  · have hb1 := bt_at' s i 1 (by omega)
    have hln : ¬ (s.data.toList.drop i).length < 2 := by rw [List.length_drop, size_toList]; omega
    have HES : Hid (∀ x, sh s[i + 1].toNat = some x → es (s.data.toList.drop i) = some (x, 2)) := Lib.hid (fun x hx => by rw [es, if_neg hln, hb1, hx])
    have HEN : Hid (sh s[i + 1].toNat = none → es (s.data.toList.drop i) = match un (s.data.toList.drop i) with
      | none => none
      | some a => if a < 55296 ∨ 57344 ≤ a then some (a, 6) else
        match un (s.data.toList.drop (i + 6)) with
        | none => none
        | some b => if a < 56320 ∧ 56320 ≤ b ∧ b < 57344 then some (pr a b, 12) else none) := Lib.hid (fun hx => by rw [es, if_neg hln, hb1, hx, List.drop_drop]; rfl)
    clear hb1 hln
    obtain ⟨F, T, hF8, hT8, HHIT, HMISS, hFd, hTd⟩ : ∃ F T : ByteArray, F.size = 8 ∧ T.size = 8 ∧ Hid (∀ (j : Nat) (h : j < F.size) (h' : j < T.size), sh F[j].toNat = some T[j].toNat ∧ T.extract j (j + 1) = ⟨(Lib.encodeRune (T[j].toNat : Int)).toArray⟩) ∧
      Hid (∀ c : Nat, (∀ (j : Nat) (h : j < F.size), c ≠ F[j].toNat) → sh c = none) ∧ F = ⟨#[34, 92, 47, 98, 102, 110, 114, 116]⟩ ∧ T = ⟨#[34, 92, 47, 8, 12, 10, 13, 9]⟩ := ⟨shF, shT, rfl, rfl, Lib.hid sh_hit', Lib.hid sh_miss', rfl, rfl⟩
    go_enter Tryz.func294, Tryz.ntmps294
    go_wp2
    rw [← hFd, ← hTd]
    clear hFd hTd
    go_loopw [8] (fun k wx => ∃ j : Nat, j ≤ 8 ∧ k = .int .i64 j ∧ Hid (∀ (m : Nat) (h : m < F.size), m < j → s[i + 1].toNat ≠ F[m].toNat) ∧ Below w.heap.size w wx) (fun k _ => 8 - (intOf k).toNat)
    case atStart => exact ⟨0, by omega, rfl, Lib.hid (fun m h hm => by omega), hB⟩
    case round =>
      obtain ⟨j, hj, rfl, HJ, hb⟩ := hrel
      by_cases hj8 : j < 8
      · have hwi : IntKind.i64.wrap ((i : Int) + 1) = (i : Int) + 1 := by rw [IntKind.wrap_i64]; omega
        have hjF : j < F.size := by omega
        have hjF' : (j : Int) < (F.size : Int) := by omega
        have hiS' : ((i : Int) + 1) < (s.size : Int) := by omega
        by_cases hm : s[i + 1].toNat = F[j].toNat
        · have hh := HHIT.out j hjF (by omega)
          rw [← hm] at hh
          obtain ⟨hh1, hh2⟩ := hh
          have HR := Lib.hid (HES.out _ hh1)
          have HT := Lib.hid hh2
          have hme : ((s[i + 1].toNat : Int) == (F[j].toNat : Int)) = true := by rw [beq_iff_eq]; omega
          clear hh1 hh2 hm
          go_wp2_with fail
          have h01 : (0 : Int) ≤ (i : Int) + 1 := by omega
          go_quiet (fail)
          go_wp2_with fail
          go_ret2
          refine ⟨?_, hb.trans (below_quiet ⟨_, rfl⟩ |>.mono hb.size)⟩
          rw [HR.out, HT.out]
          rfl
        · have hme : ((s[i + 1].toNat : Int) == (F[j].toNat : Int)) = false := by rw [beq_eq_false_iff_ne]; omega
          have HJ' : Hid (∀ (m : Nat) (h : m < F.size), m < j + 1 → s[i + 1].toNat ≠ F[m].toNat) := Lib.hid (fun m h hmj => by
            rcases Nat.lt_or_ge m j with h1 | h1
            · exact HJ.out m h h1
            · obtain rfl : m = j := by omega
              exact hm)
          clear hm HJ
          go_wp2_with fail
          have h01 : (0 : Int) ≤ (i : Int) + 1 := by omega
          go_quiet (fail)
          go_wp2_with fail
          go_roundw
          case rel => exact ⟨j + 1, by omega, by go_num, HJ', hb.trans (below_quiet ⟨_, rfl⟩ |>.mono hb.size)⟩
          case measure => simp [intOf]; omega
      · have hsh := HMISS.out s[i + 1].toNat (fun m h => HJ.out m h (by omega))
        have HE := Lib.hid (HEN.out hsh)
        clear hsh HEN HES HHIT HMISS HJ
        obtain rfl : j = 8 := by omega
        cases hu : un (s.data.toList.drop i) with
        | none =>
          have HU := Lib.hid (unI_none hu)
          have HE2 : Hid (es (s.data.toList.drop i) = none) := Lib.hid (by rw [HE.out, hu])
          clear hu HE
          go_wp2_with (go_at_call 309; refine (refUnit_any s i _ hs (by omega)).mono ?_; rintro e w' ⟨rfl, rfl⟩; rw [HU.out])
          all_goals go_ret2
          all_goals exact ⟨by rw [HE2.out]; rfl, hb⟩
        | some a =>
          obtain ⟨u1, u2, -, -, -⟩ := un_some hu
          have HU := Lib.hid (unI_some hu)
          have HE1 := HE.out
          rw [hu] at HE1
          clear hu HE
          have HU' := HU.out
          clear HU
          obtain ⟨x, hx⟩ : ∃ x : Int, x = (a : Int) := ⟨_, rfl⟩
          rw [← hx] at HU'
          have HU := Lib.hid HU'
          have hx0 : 0 ≤ x := by omega
          have hx1 : x < 65536 := by omega
          clear HU'
          by_cases hr : a < 55296 ∨ 57344 ≤ a
          · have HE2 : Hid (es (s.data.toList.drop i) = some (a, 6)) := Lib.hid (HE1.trans (if_pos hr))
            have hr' : x < 55296 ∨ 57343 < x := by omega
            have HR := Lib.hid hr'
            have HXA := Lib.hid hx
            have c0 : ¬ x < 0 := by omega
            have hsur : ((decide ((56320 : Int) ≤ x) && decide (x < 57344))) = false := by
              rw [Bool.and_eq_false_iff, decide_eq_false_iff_not, decide_eq_false_iff_not]; omega
            have hsur2 : (decide (x < 55296) || decide ((57344 : Int) ≤ x)) = true := by
              rw [Bool.or_eq_true, decide_eq_true_eq, decide_eq_true_eq]; omega
            clear HE1 hr hr' hx u2
            go_wp2_with fail
            refine (refUnit_any s i _ hs (by omega)).mono ?_
            rintro e w' ⟨rfl, rfl⟩
            rw [HU.out]
            go_wp2_with (go_at_call 310; refine (refUtf_code _ _ (by omega) (by omega) HR.out).mono ?_; rintro e w' ⟨rfl, hb2⟩)
            all_goals go_ret2
            all_goals first
              | (refine ⟨?_, hb.trans (hb2.mono hb.size)⟩
                 rw [HE2.out]
                 show _ = Ending.returned (.tuple #[.string ⟨(Lib.encodeRune (a : Int)).toArray⟩, .int .i64 6])
                 rw [← HXA.out]
                 rfl)
              | (exfalso; have := HR.out; go_light; simp at *; omega)
          · have hxr : 55296 ≤ x ∧ x < 57344 := by omega
            have HER := Lib.hid (HE1.trans (if_neg hr))
            have c0 : ¬ x < 0 := by omega
            obtain ⟨hx2, hx3⟩ := hxr
            clear HE1 hr u2 hx0 hx1
            by_cases hlo : 56320 ≤ x
            · have HE2 : Hid (es (s.data.toList.drop i) = none) := Lib.hid (by
                rw [HER.out]
                split
                · rfl
                · rw [if_neg (by omega)])
              have hsur : ((decide ((56320 : Int) ≤ x) && decide (x < 57344))) = true := by
                rw [Bool.and_eq_true, decide_eq_true_eq, decide_eq_true_eq]; omega
              clear HER hx
              go_wp2_with fail
              refine (refUnit_any s i _ hs (by omega)).mono ?_
              rintro e w' ⟨rfl, rfl⟩
              rw [HU.out]
              go_wp2_with fail
              go_ret2
              refine ⟨?_, hb⟩
              rw [HE2.out]
              rfl
            · have hsur : ((decide ((56320 : Int) ≤ x) && decide (x < 57344))) = false := by
                rw [Bool.and_eq_false_iff, decide_eq_false_iff_not, decide_eq_false_iff_not]; omega
              have hsur2 : (decide (x < 55296) || decide ((57344 : Int) ≤ x)) = false := by
                rw [Bool.or_eq_false_iff, decide_eq_false_iff_not, decide_eq_false_iff_not]; omega
              have HUB : Hid (∀ w : World, Calls Tryz.prog 309 #[.string s, .int .i64 ((i : Int) + 6)] w fun e w' => e = .returned (.int .i64 (unI (un (s.data.toList.drop (i + 6))))) ∧ w = w') := Lib.hid (fun w => refUnit_any s (i + 6) w hs (by omega))
              cases hu2 : un (s.data.toList.drop (i + 6)) with
              | none =>
                have HE2 : Hid (es (s.data.toList.drop i) = none) := Lib.hid (by rw [HER.out, hu2])
                have HU2 := Lib.hid (unI_none hu2)
                clear HER hu2 hx
                go_wp2_with fail
                refine (refUnit_any s i _ hs (by omega)).mono ?_
                rintro e w' ⟨rfl, rfl⟩
                rw [HU.out]
                go_wp2_with fail
                refine (HUB.out _).mono ?_
                rintro e w' ⟨rfl, rfl⟩
                rw [HU2.out]
                go_wp2_with fail
                all_goals go_ret2
                all_goals exact ⟨by rw [HE2.out]; rfl, hb⟩
              | some b =>
                obtain ⟨v1, v2, -, -, -⟩ := un_some hu2
                have HE3 := HER.out
                rw [hu2] at HE3
                have HU3 := unI_some hu2
                obtain ⟨y, hy⟩ : ∃ y : Int, y = (b : Int) := ⟨_, rfl⟩
                rw [← hy] at HU3
                have HU2 := Lib.hid HU3
                have hy0 : 0 ≤ y := by omega
                have hy1 : y < 65536 := by omega
                by_cases hyr : 56320 ≤ y ∧ y < 57344
                · have HE2 : Hid (es (s.data.toList.drop i) = some (pr a b, 12)) := Lib.hid (HE3.trans (if_pos (by omega)))
                  have HXA : Hid (((pr a b : Nat) : Int) = 65536 + 1024 * (x - 55296) + y - 56320) := Lib.hid (by unfold pr; omega)
                  obtain ⟨hyr1, hyr2⟩ := hyr
                  have hysur : ((decide (y < (56320 : Int)) || decide ((57344 : Int) ≤ y))) = false := by
                    rw [Bool.or_eq_false_iff, decide_eq_false_iff_not, decide_eq_false_iff_not]; omega
                  clear HER hu2 hx hy HE3 HU3 v2
                  go_wp2_with fail
                  refine (refUnit_any s i _ hs (by omega)).mono ?_
                  rintro e w' ⟨rfl, rfl⟩
                  rw [HU.out]
                  go_wp2_with fail
                  refine (HUB.out _).mono ?_
                  rintro e w' ⟨rfl, rfl⟩
                  rw [HU2.out]
                  go_wp2_with (go_at_call 310; refine (refUtf_code _ _ (by omega) (by omega) (by omega)).mono ?_; rintro e w' ⟨rfl, hb2⟩)
                  all_goals go_ret2
                  all_goals (refine ⟨?_, hb.trans (hb2.mono hb.size)⟩)
                  all_goals (rw [HE2.out])
                  all_goals (show _ = Ending.returned (.tuple #[.string ⟨(Lib.encodeRune (pr a b : Nat)).toArray⟩, .int .i64 12]))
                  all_goals (rw [HXA.out]; rfl)
                · have HE2 : Hid (es (s.data.toList.drop i) = none) := Lib.hid (HE3.trans (if_neg (by omega)))
                  have hysur : ((decide (y < (56320 : Int)) || decide ((57344 : Int) ≤ y))) = true := by
                    rw [Bool.or_eq_true, decide_eq_true_eq, decide_eq_true_eq]; omega
                  clear HER hu2 hx hy HE3 HU3 v2 hyr
                  go_wp2_with fail
                  refine (refUnit_any s i _ hs (by omega)).mono ?_
                  rintro e w' ⟨rfl, rfl⟩
                  rw [HU.out]
                  go_wp2_with fail
                  refine (HUB.out _).mono ?_
                  rintro e w' ⟨rfl, rfl⟩
                  rw [HU2.out]
                  go_wp2_with (go_at_call 310; exfalso; go_light; simp at *; omega)
                  all_goals go_ret2
                  all_goals exact ⟨by rw [HE2.out]; rfl, hb⟩
  · have HE : Hid (es (s.data.toList.drop i) = none) := Lib.hid (by
      rw [es, if_pos (by rw [List.length_drop, size_toList]; omega)])
    go_enter Tryz.func294, Tryz.ntmps294
    go_wp2
    go_ret2
    refine ⟨?_, hB⟩
    rw [HE.out]
    rfl
end Go.Proofs.YtdgcdemihalefaaGreatDoor
namespace Go.Proofs.YtdgcdemihalefaaGreatDoor
open Go.RowKit Np Up Qp
def tkS : Option (List UInt8 × Nat) → List UInt8
  | some x => x.1
  | none => []
def tkN : Option (List UInt8 × Nat) → Int
  | some x => x.2
  | none => 0
theorem ext_run (s : ByteArray) (i r : Nat) : s.extract i (i + r) = ⟨((s.data.toList.drop i).take r).toArray⟩ := by
  have h := Lib.extract_toList s i (i + r)
  rw [ByteArray.toList_eq, Nat.add_sub_cancel_left] at h
  rw [← h]
set_option maxRecDepth 100000 in
set_option maxHeartbeats 4000000 in
theorem refTaken_any (s : ByteArray) (i : Nat) (w : World) (hs : s.size ≤ 1073741824) (hi : i < s.size) (hlow : s[i].toNat = 92 ∨ 32 ≤ s[i].toNat) :
    Calls Tryz.prog 274 #[.string s, .int .i64 i] w fun e w' => e = .returned (.tuple #[.string ⟨(tkS (tk (s.data.toList.drop i))).toArray⟩, .int .i64 (tkN (tk (s.data.toList.drop i)))]) ∧ Below w.heap.size w w' := by
  have hB : Below w.heap.size w w := Below.refl _ _
  have hs' : s.size ≤ maxLen := by unfold maxLen; omega
  have hb0 : bt (s.data.toList.drop i) 0 = s[i].toNat := bt_at' s i 0 (by omega)
  by_cases h92 : s[i].toNat = 92
  · have HT : Hid (tk (s.data.toList.drop i) = (es (s.data.toList.drop i)).map fun x => (Lib.encodeRune (x.1 : Int), x.2)) := Lib.hid (by rw [tk, if_pos (by rw [hb0, h92])])
    have hq : ((s[i].toNat : Int) == 92) = true := by rw [beq_iff_eq]; omega
    clear hb0 h92 hlow
    go_enter Tryz.func274, Tryz.ntmps274
    go_wp2_with (go_at_call 294; refine (refEscape_any s i _ hs hi).mono ?_; rintro e w' ⟨rfl, hb2⟩)
    go_ret2
    refine ⟨?_, hb2⟩
    rw [HT.out]
    cases es (s.data.toList.drop i) <;> rfl
  · have hne : s.data.toList.drop i ≠ [] := by intro h; have := congrArg List.length h; simp at this; omega
    have hle := runeN_le _ hne
    rw [List.length_drop, size_toList] at hle
    have hl32 : ¬ bt (s.data.toList.drop i) 0 < 32 := by rw [hb0]; omega
    have hT0 : tk (s.data.toList.drop i) = if runeN (s.data.toList.drop i) = 0 then none else some ((s.data.toList.drop i).take (runeN (s.data.toList.drop i)), runeN (s.data.toList.drop i)) := by
      rw [tk, if_neg (by rw [hb0]; exact h92)]
      by_cases h0 : runeN (s.data.toList.drop i) = 0
      · rw [if_pos (.inr h0), if_pos h0]
      · rw [if_neg (fun h => h.elim hl32 h0), if_neg h0]
    have hq : ((s[i].toNat : Int) == 92) = false := by rw [beq_eq_false_iff_ne]; omega
    generalize hr : runeN (s.data.toList.drop i) = r at hT0 hle
    have HRN := Lib.hid hr
    have HT := Lib.hid hT0
    clear hb0 h92 hlow hr hT0 hl32 hne
    go_enter Tryz.func274, Tryz.ntmps274
    go_wp2_with (go_at_call 74; refine (refRune_any _ _ _ hs' hi).mono ?_; rintro e w' ⟨rfl, rfl⟩; rw [HRN.out])
    go_ret2
    refine ⟨?_, hB⟩
    rw [HT.out]
    show Ending.returned (.tuple #[.string (s.extract i (i + r)), .int .i64 (r : Int)]) = _
    rw [ext_run]
    by_cases h0 : r = 0
    · subst h0
      rw [if_pos rfl]
      rfl
    · rw [if_neg h0]
      rfl
theorem tk_len {l p : List UInt8} {n : Nat} (h : tk l = some (p, n)) : p.length ≤ n + 2 := by
  unfold tk at h
  split at h
  · cases he : es l with
    | none => rw [he] at h; cases h
    | some x =>
      obtain ⟨r, m⟩ := x
      rw [he] at h
      simp at h
      obtain ⟨h1, h2⟩ := h
      obtain ⟨_, _, h4, _⟩ := es_some he
      have h5 := (Lib.encodeRuneZ_length (r : Int)).2
      rw [← h1, ← h2, Lib.encodeRune, List.length_map]
      omega
  · split at h
    · cases h
    · injection h with h
      injection h with e1 e2
      rw [← e1, ← e2, List.length_take]
      omega
set_option maxRecDepth 100000 in
set_option maxHeartbeats 4000000 in
theorem refTaken_low (s : ByteArray) (i : Nat) (w : World) (hs : s.size ≤ 1073741824) (hi : i < s.size) (hlo : s[i].toNat < 32) :
    Calls Tryz.prog 274 #[.string s, .int .i64 i] w fun e w' => e = .returned (.tuple #[.string (s.extract i (i + 1)), .int .i64 1]) ∧ Below w.heap.size w w' := by
  have hB : Below w.heap.size w w := Below.refl _ _
  have hs' : s.size ≤ maxLen := by unfold maxLen; omega
  have hb0 : bt (s.data.toList.drop i) 0 = s[i].toNat := bt_at' s i 0 (by omega)
  have hq : ((s[i].toNat : Int) == 92) = false := by rw [beq_eq_false_iff_ne]; omega
  have HRN := Lib.hid (runeN_one (l := s.data.toList.drop i) (by omega))
  clear hb0
  go_enter Tryz.func274, Tryz.ntmps274
  go_wp2_with (go_at_call 74; refine (refRune_any _ _ _ hs' hi).mono ?_; rintro e w' ⟨rfl, rfl⟩; rw [HRN.out])
  all_goals go_ret2
  all_goals exact ⟨rfl, hB⟩
theorem tk_low {l : List UInt8} (h : bt l 0 < 32) : tk l = none := by
  rw [tk, if_neg (by omega), if_pos (.inl h)]
set_option maxRecDepth 100000 in
set_option maxHeartbeats 4000000 in
theorem refUnquote_any (s : ByteArray) (w : World) (hs : s.size ≤ 1073741824) :
    Calls Tryz.prog 237 #[.string s] w fun e w' => e = .returned (uqv (unqs s.data.toList)) ∧ Below w.heap.size w w' := by
  have hB : Below w.heap.size w w := Below.refl _ _
  by_cases h0 : 0 < s.size
  · have hb0 := bt_at s 0 h0
    by_cases h34 : s[0].toNat = 34
    · have HF : Hid (unqs s.data.toList = unq [] (s.data.toList.drop 1) 1) := Lib.hid (by rw [unqs, if_pos (by rw [hb0, h34])])
      have hq : ((s[0].toNat : Int) != 34) = false := by rw [bne_eq_false_iff_eq]; omega
      have hz : s.toList.isEmpty = false := by
        rw [ByteArray.toList_eq, List.isEmpty_eq_false_iff]; intro h; have h' := congrArg List.length h; rw [size_toList, List.length_nil] at h'; omega
      clear hb0 h34
      generalize unqs s.data.toList = R at HF ⊢
      go_enter Tryz.func237, Tryz.ntmps237
      go_wp2
      go_loopw [5, 6] (fun o i wx => ∃ (k : Nat) (out : List UInt8), k ≤ s.size ∧ i = .int .i64 k ∧ o = .string ⟨out.toArray⟩ ∧ out.length ≤ 4 * k ∧ Hid (unq out (s.data.toList.drop k) k = R) ∧ Below w.heap.size w wx) (fun _ i _ => s.size - (intOf i).toNat)
      case atStart => exact ⟨1, [], by omega, rfl, rfl, by simp, Lib.hid HF.out.symm, hB⟩
      case round =>
        obtain ⟨k, out, hk, rfl, rfl, hol, HR, hb⟩ := hrel
        by_cases hlt : k < s.size
        · have hbk := bt_at' s k 0 (by omega)
          simp only [Nat.add_zero] at hbk
          have hne : s.data.toList.drop k ≠ [] := by intro h; have h' := congrArg List.length h; simp at h'; omega
          by_cases h34 : s[k].toNat = 34
          · have HE : Hid (R = (out, k + 1, 0)) := Lib.hid (by rw [← HR.out, unq_mark _ _ (by rw [hbk, h34])])
            have hqk : ((s[k].toNat : Int) == 34) = true := by rw [beq_iff_eq]; omega
            clear hbk hne HR HF h34
            go_wp2
            all_goals go_ret3
            all_goals exact ⟨by rw [HE.out]; rfl, hb⟩
          have hqk : ((s[k].toNat : Int) == 34) = false := by rw [beq_eq_false_iff_ne]; omega
          by_cases hlo : s[k].toNat < 32
          · have HE : Hid (R = ([], k, 1)) := Lib.hid (by rw [← HR.out, unq_bad _ _ (by rw [hbk]; exact h34) (tk_low (by rw [hbk]; exact hlo))])
            clear hbk hne HR HF h34
            go_wp2_with (go_at_call 274; refine (refTaken_low s k _ hs hlt hlo).mono ?_; rintro e w' ⟨rfl, hb2⟩)
            all_goals go_ret3
            all_goals exact ⟨by rw [HE.out]; rfl, hb.trans (hb2.mono hb.size)⟩
          cases ht : tk (s.data.toList.drop k) with
          | none =>
            have HE : Hid (R = ([], k, 1)) := Lib.hid (by rw [← HR.out, unq_bad _ _ (by rw [hbk]; exact h34) ht])
            have HT := Lib.hid ht
            have hlow : Hid (s[k].toNat = 92 ∨ 32 ≤ s[k].toNat) := Lib.hid (by omega)
            clear hbk hne HR HF h34 ht
            go_wp2_with (go_at_call 274; refine (refTaken_any s k _ hs hlt hlow.out).mono ?_; rintro e w' ⟨rfl, hb2⟩; rw [HT.out, tkS, tkN])
            all_goals go_ret3
            all_goals exact ⟨by rw [HE.out]; rfl, hb.trans (hb2.mono hb.size)⟩
          | some x =>
            obtain ⟨p, n⟩ := x
            obtain ⟨hn1, hn2⟩ := tk_some hne ht
            rw [List.length_drop, size_toList] at hn2
            have hpl := tk_len ht
            have HE : Hid (unq (out ++ p) (s.data.toList.drop (k + n)) (k + n) = R) := Lib.hid (by rw [← HR.out, unq_step _ _ hne (by rw [hbk]; exact h34) ht, List.drop_drop])
            have HT := Lib.hid ht
            have hn0 : ((n : Int) == 0) = false := by rw [beq_eq_false_iff_ne]; omega
            have hlow : Hid (s[k].toNat = 92 ∨ 32 ≤ s[k].toNat) := Lib.hid (by omega)
            clear hbk hne HR HF h34 ht
            go_wp2_with (go_at_call 274; refine (refTaken_any s k _ hs hlt hlow.out).mono ?_; rintro e w' ⟨rfl, hb2⟩; rw [HT.out, tkS, tkN])
            go_roundw
            case rel => exact ⟨k + n, out ++ p, by omega, by go_num, rfl, by rw [List.length_append]; omega, HE, hb.trans (hb2.mono hb.size)⟩
            case measure => simp [intOf]; omega
        · have HE : Hid (R = ([], s.size, 1)) := Lib.hid (by
            rw [← HR.out, List.drop_of_length_le (by simp; omega), unq_nil, show k = s.size by omega])
          clear HR HF
          go_wp2
          all_goals go_ret3
          all_goals exact ⟨by rw [HE.out]; rfl, hb⟩
    · have HF : Hid (unqs s.data.toList = ([], 0, 1)) := Lib.hid (by rw [unqs, if_neg (by rw [hb0]; exact h34)])
      have hq : ((s[0].toNat : Int) != 34) = true := by rw [bne_iff_ne]; omega
      have hz : s.toList.isEmpty = false := by
        rw [ByteArray.toList_eq, List.isEmpty_eq_false_iff]; intro h; have h' := congrArg List.length h; rw [size_toList, List.length_nil] at h'; omega
      clear hb0 h34
      go_enter Tryz.func237, Tryz.ntmps237
      go_wp2
      all_goals go_ret3
      all_goals exact ⟨by rw [HF.out]; rfl, hB⟩
  · obtain rfl : s = ⟨#[]⟩ := by
      obtain ⟨⟨l⟩⟩ := s
      cases l with
      | nil => rfl
      | cons _ _ => simp [ByteArray.size] at h0
    have HF : Hid (unqs (ByteArray.mk #[]).data.toList = ([], 0, 1)) := Lib.hid rfl
    go_enter Tryz.func237, Tryz.ntmps237
    go_wp2
    all_goals go_ret3
    all_goals exact ⟨by rw [HF.out]; rfl, hB⟩
end Go.Proofs.YtdgcdemihalefaaGreatDoor
namespace Go.Proofs.YtdgcdemihalefaaGreatDoor
open Go.RowKit
section
variable {P : Program} {md : Region.Mode} {l : List Oper} {Q : Exit → Act → World → Prop} {S : World → Prop} {T : List Value} {ds : List Deferred} {d : Nat} {oi : Oper} {fuel : Nat} {listed : Array Bool} {w : World}
theorem rtk (i : Nat) (v : Value) (hrun : ∀ w', S w' → (execOp (Act.eval { tmps := T.toArray, defers := ds }) oi).run P w' = .ok (.value v) w')
    (h : wpAnyH P md l.toArray Q S fuel (listed.setIfInBounds i true) { tmps := (T.set d v).toArray, defers := ds } w)
    (hi : l[i]? = some oi := by rfl) (hd : oi.dst = some d := by rfl) (hs : Region.noSelect l.toArray = true := by kernel_rfl) (hf : Region.free md l.toArray listed i = true := by kernel_rfl)
    (hr : (Region.ready md l.toArray listed).contains i = true := by kernel_rfl) (hQ : ∀ c a w, Q (.panic c) (a.put oi.dst v) w → Q (.panic c) a w := by exact fun _ _ _ h => h)
    (hw : Region.wanted oi (yielded l.toArray T.toArray) = true := by kernel_rfl) (hS : S w := by assumption) :
    wpAnyH P md l.toArray Q S (fuel + 1) listed { tmps := T.toArray, defers := ds } w := take_read i d v hi hd hs hf hr hQ hw hrun hS h
theorem rtn (i : Nat) (h : wpAnyH P md l.toArray Q S fuel (listed.setIfInBounds i true) { tmps := (T.set d undef).toArray, defers := ds } w)
    (hi : l[i]? = some oi := by rfl) (hd : oi.dst = some d := by rfl) (hs : Region.noSelect l.toArray = true := by kernel_rfl) (hf : Region.free md l.toArray listed i = true := by kernel_rfl)
    (hr : (Region.ready md l.toArray listed).contains i = true := by kernel_rfl) (hQ : ∀ c a w, Q (.panic c) (a.put oi.dst undef) w → Q (.panic c) a w := by exact fun _ _ _ h => h)
    (hw : Region.wanted oi (yielded l.toArray T.toArray) = false := by kernel_rfl) (hS : S w := by assumption) :
    wpAnyH P md l.toArray Q S (fuel + 1) listed { tmps := T.toArray, defers := ds } w := by
  refine wpAnyH_take (i := i) (v := undef) (by simpa using hi) hs hf hr hQ (.inr ⟨hw, rfl⟩) hS ?_
  rw [hd, Act.put]
  simpa using h
end
end Go.Proofs.YtdgcdemihalefaaGreatDoor
namespace Go.Proofs.YtdgcdemihalefaaGreatDoor
open Go.RowKit Np Rw Vp Pw Fw
theorem wpList_store_term {ops : Array Oper} {rest : List Oper} {op : Oper} {a : Act} {w : World} {Q : Exit → Act → World → Prop} (hgd : op.guard = none) (x y : Operand) (ho : op.op = .store 47 x y)
    (g o : Nat) (n : Tm) (hx : a.eval x = .pointer (some ⟨g, o, none⟩)) (hy : a.eval y = tma n) (ht : w.there g o 11) (h : wpList Tryz.prog ops Q rest (a.put op.dst undef) (w.setCells g o (tmc n))) : wpList Tryz.prog ops Q (op :: rest) a w := by
  refine wpList_store_mid hgd 47 x y ho g o _ hx hy ht ?_ (all_oneCell_toArray (cs := tmc n) (elTerm.one n)) h
  have := term_info
  cases h : Tryz.prog.info? 47 with
  | none => rw [h] at this; cases this
  | some i => rw [h] at this; simp at this; simp [this.2.1]
section
variable {α : Type} {P : Program} {enc : α → List Value} {T E sz bys base : Nat} {w : World}
theorem Own.empty {W : World} {g : Nat} (h : W.heap[g]? = some (.cells #[] E)) (hb : base ≤ g) : Own enc sz E base W (.slice (some ⟨g, 0, none⟩) 0 0) ([] : List α) :=
  ⟨by simp, .inr ⟨g, 0, #[], rfl, hb, h, Nat.le_refl _, Nat.zero_le _, by simp, by simp⟩⟩
end
abbrev tmO' (t : Tm) : Obj := .cells #[.int .i64 t.op, .int .i64 t.many, .string ⟨t.name.toArray⟩, .string ⟨t.s.toArray⟩, .int .i64 t.n, .int .i64 t.c.kind, .int .i64 t.c.many, .string ⟨t.c.name.toArray⟩, .string ⟨t.c.s.toArray⟩, .bool t.c.neg, .int .i64 t.c.e] 47
theorem Tms.one {W : World} {g : Nat} {t : Tm} (h : W.heap[g]? = some (tmO' t)) : Tms W (.slice (some ⟨g, 0, none⟩) 1 1) [t] := by
  have hlt : g < W.heap.size := (Array.getElem?_eq_some_iff.1 h).1
  refine Row.mk (l := [t]) (c := 1) (Nat.le_refl _) (by decide) hlt (fun k x hk j u hu => ?_)
  have hk0 : k = 0 := by
    have := (List.getElem?_eq_some_iff.1 hk).1
    simp at this; omega
  subst hk0
  simp at hk; subst hk
  rw [Lib.cell_of_heap h]
  simpa [tmc] using hu
end Go.Proofs.YtdgcdemihalefaaGreatDoor
namespace Go.Proofs.YtdgcdemihalefaaGreatDoor
namespace Vp
open Go.RowKit Np Rw
theorem depths_le : ∀ {ts : List (Tr Nd)} {k : Tr Nd}, k ∈ ts → depth k ≤ depths ts
  | t :: ts, k, h => by
    rw [depths_cons]
    rcases List.mem_cons.1 h with rfl | h
    · omega
    · have := depths_le h; omega
end Vp
end Go.Proofs.YtdgcdemihalefaaGreatDoor
