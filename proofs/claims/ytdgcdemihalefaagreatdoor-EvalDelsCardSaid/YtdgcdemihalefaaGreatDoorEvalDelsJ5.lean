/-
  Joined: Build, QQuote, QuoP2, PaT, FwP, FwP2, FwA, FwB, FwC, PaB1.
-/
import Derived.Shelf.Strings.BuilderK
import Derived.Shelf.Strings.BuilderRune
import Derived.Test.YtdgcdemihalefaaGreatDoorProg
import Derived.Test.YtdgcdemihalefaaGreatDoorQEsc2
import Derived.Test.YtdgcdemihalefaaGreatDoorEvalDelsJ4
import Derived.Test.YtdgcdemihalefaaGreatDoorEvalDelsJ2
import Derived.Lib.ItoaNum
import Derived.Lib.AtoiAll
import Derived.Lib.IndexMore
import Derived.Lib.IndexBytes
import Derived.Test.YtdgcdemihalefaaGreatDoorEvalDelsJ3
import Derived.RangeFuncNested
import Derived.RangeFuncBound
import Derived.RangeFuncCalls
import Derived.RangeFuncLeaves
import Derived.RangeFuncBox
import Derived.Shelf.Abstract
import Derived.Shelf.RegionOpen
import Derived.OwnWalkIn
import Derived.TacticsInMore
import Derived.LoopNIn
import Derived.LoopIn
import Derived.Test.YtdgcdemihalefaaGreatDoorMem

/-
  Contracts of strings.Builder's writers, at this translation.
-/
namespace Go.Proofs
open Go.Shelf
def Tryz.bld_ren : Go.Shelf.Ren := ⟨fun | 166 => 63 | 167 => 100 | 168 => 220 | 240 => 98 | 242 => 256 | 276 => 142 | 278 => 288 | n => n, fun | 0 => 0 | 3 => 3 | 4 => 4 | 5 => 5 | 9 => 9 | 20 => 20 | 21 => 21 | 37 => 63 | 46 => 173 | 51 => 271 | 70 => 62 | 72 => 65 | 75 => 104 | 80 => 68 | 164 => 179 | n => n, fun | n => n⟩
theorem Tryz.bld166 : Go.Proofs.Lays.n166 Tryz.prog Tryz.bld_ren := {
  mixed := by kernel_rfl
  f166 := Tryz.func63.trans (congrArg some (by kernel_rfl))
  f240 := Tryz.func98.trans (congrArg some (by kernel_rfl))
  f276 := Tryz.func142.trans (congrArg some (by kernel_rfl))
  t0 := Tryz.underlying0
  a0 := Tryz.isAgg0
  z0 := Tryz.sizeOf0
  v0 := Tryz.zeroValue0
  t3 := Tryz.underlying3
  a3 := Tryz.isAgg3
  z3 := Tryz.sizeOf3
  v3 := Tryz.zeroValue3
  t4 := Tryz.underlying4
  a4 := Tryz.isAgg4
  z4 := Tryz.sizeOf4
  v4 := Tryz.zeroValue4
  t20 := Tryz.underlying20
  a20 := Tryz.isAgg20
  z20 := Tryz.sizeOf20
  v20 := Tryz.zeroValue20
  t9 := Tryz.underlying9
  a9 := Tryz.isAgg9
  z9 := Tryz.sizeOf9
  v9 := Tryz.zeroValue9
  t37 := Tryz.underlying63
  a37 := Tryz.isAgg63
  z37 := Tryz.sizeOf63
  v37 := Tryz.zeroValue63
  t70 := Tryz.underlying62
  a70 := Tryz.isAgg62
  z70 := Tryz.sizeOf62
  v70 := Tryz.zeroValue62
  t72 := Tryz.underlying65
  a72 := Tryz.isAgg65
  z72 := Tryz.sizeOf65
  v72 := Tryz.zeroValue65
  t75 := Tryz.underlying104
  a75 := Tryz.isAgg104
  z75 := Tryz.sizeOf104
  v75 := Tryz.zeroValue104
  t164 := Tryz.underlying179
  a164 := Tryz.isAgg179
  z164 := Tryz.sizeOf179
  v164 := Tryz.zeroValue179 }
theorem Tryz.bld167 : Go.Proofs.Lays.n167 Tryz.prog Tryz.bld_ren := {
  mixed := by kernel_rfl
  f167 := Tryz.func100.trans (congrArg some (by kernel_rfl))
  f240 := Tryz.func98.trans (congrArg some (by kernel_rfl))
  f276 := Tryz.func142.trans (congrArg some (by kernel_rfl))
  t0 := Tryz.underlying0
  a0 := Tryz.isAgg0
  z0 := Tryz.sizeOf0
  v0 := Tryz.zeroValue0
  t4 := Tryz.underlying4
  a4 := Tryz.isAgg4
  z4 := Tryz.sizeOf4
  v4 := Tryz.zeroValue4
  t5 := Tryz.underlying5
  a5 := Tryz.isAgg5
  z5 := Tryz.sizeOf5
  v5 := Tryz.zeroValue5
  t9 := Tryz.underlying9
  a9 := Tryz.isAgg9
  z9 := Tryz.sizeOf9
  v9 := Tryz.zeroValue9
  t20 := Tryz.underlying20
  a20 := Tryz.isAgg20
  z20 := Tryz.sizeOf20
  v20 := Tryz.zeroValue20
  t37 := Tryz.underlying63
  a37 := Tryz.isAgg63
  z37 := Tryz.sizeOf63
  v37 := Tryz.zeroValue63
  t70 := Tryz.underlying62
  a70 := Tryz.isAgg62
  z70 := Tryz.sizeOf62
  v70 := Tryz.zeroValue62
  t72 := Tryz.underlying65
  a72 := Tryz.isAgg65
  z72 := Tryz.sizeOf65
  v72 := Tryz.zeroValue65
  t75 := Tryz.underlying104
  a75 := Tryz.isAgg104
  z75 := Tryz.sizeOf104
  v75 := Tryz.zeroValue104
  t164 := Tryz.underlying179
  a164 := Tryz.isAgg179
  z164 := Tryz.sizeOf179
  v164 := Tryz.zeroValue179 }
theorem Tryz.bld168 : Go.Proofs.Lays.n168 Tryz.prog Tryz.bld_ren := {
  mixed := by kernel_rfl
  f168 := Tryz.func220.trans (congrArg some (by kernel_rfl))
  f240 := Tryz.func98.trans (congrArg some (by kernel_rfl))
  f242 := Tryz.func256.trans (congrArg some (by kernel_rfl))
  f276 := Tryz.func142.trans (congrArg some (by kernel_rfl))
  f278 := Tryz.func288.trans (congrArg some (by kernel_rfl))
  t0 := Tryz.underlying0
  a0 := Tryz.isAgg0
  z0 := Tryz.sizeOf0
  v0 := Tryz.zeroValue0
  t3 := Tryz.underlying3
  a3 := Tryz.isAgg3
  z3 := Tryz.sizeOf3
  v3 := Tryz.zeroValue3
  t4 := Tryz.underlying4
  a4 := Tryz.isAgg4
  z4 := Tryz.sizeOf4
  v4 := Tryz.zeroValue4
  t5 := Tryz.underlying5
  a5 := Tryz.isAgg5
  z5 := Tryz.sizeOf5
  v5 := Tryz.zeroValue5
  t9 := Tryz.underlying9
  a9 := Tryz.isAgg9
  z9 := Tryz.sizeOf9
  v9 := Tryz.zeroValue9
  t20 := Tryz.underlying20
  a20 := Tryz.isAgg20
  z20 := Tryz.sizeOf20
  v20 := Tryz.zeroValue20
  t21 := Tryz.underlying21
  a21 := Tryz.isAgg21
  z21 := Tryz.sizeOf21
  v21 := Tryz.zeroValue21
  t37 := Tryz.underlying63
  a37 := Tryz.isAgg63
  z37 := Tryz.sizeOf63
  v37 := Tryz.zeroValue63
  t46 := Tryz.underlying173
  a46 := Tryz.isAgg173
  z46 := Tryz.sizeOf173
  v46 := Tryz.zeroValue173
  t51 := Tryz.underlying271
  a51 := Tryz.isAgg271
  z51 := Tryz.sizeOf271
  v51 := Tryz.zeroValue271
  t70 := Tryz.underlying62
  a70 := Tryz.isAgg62
  z70 := Tryz.sizeOf62
  v70 := Tryz.zeroValue62
  t72 := Tryz.underlying65
  a72 := Tryz.isAgg65
  z72 := Tryz.sizeOf65
  v72 := Tryz.zeroValue65
  t75 := Tryz.underlying104
  a75 := Tryz.isAgg104
  z75 := Tryz.sizeOf104
  v75 := Tryz.zeroValue104
  t164 := Tryz.underlying179
  a164 := Tryz.isAgg179
  z164 := Tryz.sizeOf179
  v164 := Tryz.zeroValue179 }
theorem Tryz.bldExtra : Builder.Extra Tryz.prog Tryz.bld_ren := {
  sizeBuilder := by kernel_rfl
  liesBuilder := by kernel_rfl
  t5 := Tryz.underlying5
  a5 := Tryz.isAgg5
  z5 := Tryz.sizeOf5
  v5 := Tryz.zeroValue5
  infoByte := by kernel_rfl
  cellsByte := by kernel_rfl
  sizeByte := by kernel_rfl
  neB5 := by decide }
open Go.RowKit in
theorem Tryz.writeByte (B b : Nat) (bs : List Value) (c : Int) (w : World) (h : Lib.IsBuilderF 65 5 B b bs w) (hlen : bs.length + 1 ≤ 140737488355328) (hBw : B ≤ w.heap.size) :
    Calls Tryz.prog 100 #[.pointer (some ⟨b, 0, none⟩), .int .u8 c] w fun e w' => e = .returned .nilIface ∧ (Lib.BuilderAtF 65 5 B b (.pointer (some ⟨b, 0, none⟩)) (bs ++ [.int .u8 c]) w' ∧ Below B w w' ∧ Lib.OthersKept 5 (some b) w w') := Any.Builder_WriteByte_k Tryz.bld167 Tryz.bldExtra B b bs c w h hlen hBw
open Go.RowKit in
theorem Tryz.writeString (B b : Nat) (bs : List Value) (s : ByteArray) (w : World) (h : Lib.IsBuilderF 65 5 B b bs w) (hlen : bs.length + s.size ≤ 140737488355328) (hBw : B ≤ w.heap.size) :
    Calls Tryz.prog 63 #[.pointer (some ⟨b, 0, none⟩), .string s] w fun e w' => e = .returned (.tuple #[.int .i64 s.size, .nilIface]) ∧ (Lib.BuilderAtF 65 5 B b (.pointer (some ⟨b, 0, none⟩)) (bs ++ Lib.strCells s) w' ∧ Below B w w' ∧ Lib.OthersKept 5 (some b) w w') := Any.Builder_WriteString_k Tryz.bld166 Tryz.bldExtra B b bs s w h hlen hBw
open Go.RowKit in
theorem Tryz.writeRune (B b : Nat) (bs : List Value) (r : Int) (hr0 : -2147483648 ≤ r) (hr1 : r ≤ 2147483647) (w : World) (h : Lib.IsBuilderF 65 5 B b bs w) (hlen : bs.length + 4 ≤ 140737488355328) (hBw : B ≤ w.heap.size) :
    Calls Tryz.prog 220 #[.pointer (some ⟨b, 0, none⟩), .int .i32 r] w fun e w' => e = .returned (.tuple #[.int .i64 (Lib.runeCells r).length, .nilIface]) ∧ (Lib.BuilderAtF 65 5 B b (.pointer (some ⟨b, 0, none⟩)) (bs ++ Lib.runeCells r) w' ∧ Below B w w' ∧ Lib.OthersKept 5 (some b) w w') := Any.Builder_WriteRune_k Tryz.bld168 Tryz.bldExtra B b bs r hr0 hr1 w h hlen hBw
end Go.Proofs

/-
  What quote's Quote is.
-/
namespace Go.Proofs.YtdgcdemihalefaaGreatDoor
open Go.RowKit Go.Maps Np Up Qp

abbrev IsB (B b : Nat) (l : List UInt8) (w : World) : Prop := Lib.IsBuilderF 65 5 B b (Lib.byteCells l) w

theorem dec_low {l : List UInt8} (h : bt l 0 < 128) : Lib.decodeL l = (bt l 0, 1) := by rw [decode_eq, if_pos h]
theorem dec_high {l : List UInt8} (hl : l ≠ []) (h : 128 ≤ bt l 0) : 128 ≤ (Lib.decodeL l).1 ∧ ∀ j, j < (Lib.decodeL l).2 → 128 ≤ bt l j := by
  refine ⟨?_, fun j hj => ?_⟩
  · have hp : 0 < (ByteArray.mk l.toArray).size := by rw [mk_size]; exact List.length_pos_iff.2 hl
    have h1 := (decode_high ⟨l.toArray⟩ 0 hp (by have := bt_at ⟨l.toArray⟩ 0 hp; rw [mk_data] at this; omega)).1
    exact h1
  · rcases decode_rune l with ⟨h0, h1⟩ | ⟨h0, h1, _⟩
    · rw [h1] at hj
      rw [show j = 0 by simp at hj; exact hj]
      exact h
    · rw [h1] at hj
      exact runeN_high h j hj
theorem wrs_append (a b : List UInt8) : wrs (a ++ b) = wrs a ++ wrs b := by simp [wrs]
theorem wrs_high : ∀ {l : List UInt8}, (∀ c ∈ l, 128 ≤ c.toNat) → wrs l = l
  | [], _ => rfl
  | c :: r, h => by
    have e : wrs (c :: r) = wr c ++ wrs r := by simp [wrs]
    rw [e, wrs_high (fun x hx => h x (by simp [hx])), wr_plain (by have := h c (by simp); omega) (by have := h c (by simp); omega) (by have := h c (by simp); omega)]
    rfl
theorem take_high {l : List UInt8} {n : Nat} (h : ∀ j, j < n → 128 ≤ bt l j) : ∀ c ∈ l.take n, 128 ≤ c.toNat := by
  intro c hc
  obtain ⟨j, hj, rfl⟩ := List.getElem_of_mem hc
  rw [List.length_take] at hj
  have := h j (by omega)
  rw [bt, List.getD_eq_getElem?_getD, List.getElem?_eq_getElem (by omega)] at this
  simpa using this
/-- The letters that Quote asks for. -/
def qF : Int → Option Int := era letF 47
theorem qF_some {c : UInt8} {v : Int} (h : qF c.toNat = some v) : 0 ≤ v ∧ v ≤ 127 ∧ wr c = [92, v.toNat.toUInt8] := by
  unfold qF era letF at h
  unfold wr
  repeat' split at h
  all_goals (first | (cases h; done) | (injection h with h; subst h; refine ⟨by omega, by omega, ?_⟩))
  all_goals (first
    | (rw [if_pos (by omega)]; rfl)
    | (rw [if_neg (by omega), if_pos (by omega)]; rfl)
    | (rw [if_neg (by omega), if_neg (by omega), if_pos (by omega)]; rfl)
    | (rw [if_neg (by omega), if_neg (by omega), if_neg (by omega), if_pos (by omega)]; rfl)
    | (rw [if_neg (by omega), if_neg (by omega), if_neg (by omega), if_neg (by omega), if_pos (by omega)]; rfl)
    | (rw [if_neg (by omega), if_neg (by omega), if_neg (by omega), if_neg (by omega), if_neg (by omega), if_pos (by omega)]; rfl)
    | (rw [if_neg (by omega), if_neg (by omega), if_neg (by omega), if_neg (by omega), if_neg (by omega), if_neg (by omega), if_pos (by omega)]; rfl))
theorem qF_none {c : Nat} (h : qF c = none) : c ≠ 34 ∧ c ≠ 92 ∧ c ≠ 8 ∧ c ≠ 12 ∧ c ≠ 10 ∧ c ≠ 13 ∧ c ≠ 9 := by
  refine ⟨?_, ?_, ?_, ?_, ?_, ?_, ?_⟩ <;> (rintro rfl; revert h; decide)
theorem qF_high {r : Int} (h : 128 ≤ r) : qF r = none := by
  unfold qF era letF
  repeat' split
  all_goals first | rfl | omega
theorem wr_low {c : UInt8} (h : qF c.toNat = none) (hl : c.toNat < 32) : wr c = [92, 117, 48, 48, hx (c.toNat / 16), hx (c.toNat % 16)] := by
  obtain ⟨h0, h1, h2, h3, h4, h5, h6⟩ := qF_none h
  unfold wr
  rw [if_neg h0, if_neg h1, if_neg h2, if_neg h3, if_neg h4, if_neg h5, if_neg h6, if_pos hl]
/-- Where Quote stands: what has been written, and what is still to be written as it is. -/
def Qi (l out : List UInt8) (frm pos : Nat) : Prop := frm ≤ pos ∧ out = 34 :: wrs (l.take frm) ∧ wrs ((l.drop frm).take (pos - frm)) = (l.drop frm).take (pos - frm)
theorem cut_take (l : List UInt8) {a b : Nat} (h : a ≤ b) : l.take b = l.take a ++ (l.drop a).take (b - a) := by
  rw [← List.take_add]; congr 1; omega
theorem Qi.more {l out : List UInt8} {frm pos n : Nat} (h : Qi l out frm pos) (hn : wrs ((l.drop pos).take n) = (l.drop pos).take n) : Qi l out frm (pos + n) := by
  obtain ⟨h1, h2, h3⟩ := h
  refine ⟨by omega, h2, ?_⟩
  have e : (l.drop frm).take (pos + n - frm) = (l.drop frm).take (pos - frm) ++ (l.drop pos).take n := by
    rw [show pos + n - frm = (pos - frm) + n by omega, List.take_add, List.drop_drop, show frm + (pos - frm) = pos by omega]
  rw [e, wrs_append, h3, hn]
theorem Qi.esc {l out : List UInt8} {frm pos : Nat} (h : Qi l out frm pos) (hp : pos < l.length) : Qi l (out ++ (l.drop frm).take (pos - frm) ++ wr l[pos]) (pos + 1) (pos + 1) := by
  obtain ⟨h1, h2, h3⟩ := h
  refine ⟨Nat.le_refl _, ?_, by rw [Nat.sub_self]; rfl⟩
  rw [List.take_succ_eq_append_getElem hp, wrs_append, cut_take l h1, wrs_append, h3, h2]
  simp [wrs]
theorem Qi.done {l out : List UInt8} {frm pos : Nat} (h : Qi l out frm pos) (hp : l.length ≤ pos) : out ++ l.drop frm ++ [34] = quo l := by
  obtain ⟨h1, h2, h3⟩ := h
  have e : (l.drop frm).take (pos - frm) = l.drop frm := List.take_of_length_le (by rw [List.length_drop]; omega)
  rw [e] at h3
  have e2 : wrs l = wrs (l.take frm) ++ l.drop frm := by
    conv => lhs; rw [← List.take_append_drop frm l]
    rw [wrs_append, h3]
  rw [quo, e2, h2]
  simp
theorem Qi.len {l out : List UInt8} {frm pos : Nat} (h : Qi l out frm pos) : out.length ≤ 1 + 6 * frm := by
  rw [h.2.1, List.length_cons]
  have := (wrs_len (l.take frm)).2
  rw [List.length_take] at this
  omega

/-- A builder stays one where all that lay stays. -/
theorem BuilderAtF_kept {T e : TypeId} {B b : Nat} {p : Value} {bs : List Value} {w w' : World} (h : Lib.BuilderAtF T e B b p bs w) (hb : Below w.heap.size w w') : Lib.BuilderAtF T e B b p bs w' := by
  obtain ⟨hB, v, hbk, hown, hne⟩ := h
  have hlt : ∀ {k : Nat} {o : Obj}, w.heap[k]? = some o → w'.heap[k]? = some o := by
    intro k o hk
    exact (hb.block k (Array.getElem?_eq_some_iff.1 hk).1).trans hk
  refine ⟨hB, v, hlt hbk, ⟨hown.1, ?_⟩, hne⟩
  rcases hown.2 with hn | ⟨g, cap, cur, fz, hv, hbg, hg, rest⟩
  · exact .inl hn
  · exact .inr ⟨g, cap, cur, fz, hv, hbg, hlt hg, rest⟩
theorem IsB_kept {B b : Nat} {l : List UInt8} {w w' : World} (h : IsB B b l w) (hb : Below w.heap.size w w') : IsB B b l w' :=
  h.elim (fun x => .inl (BuilderAtF_kept x hb)) (fun x => .inr (BuilderAtF_kept x hb))
theorem iter_kept {k : Nat} {s : ByteArray} {pos : Nat} {w w' : World} (h : w.heap[k]? = some (.stringIter s pos)) (hb : Below w.heap.size w w') : w'.heap[k]? = some (.stringIter s pos) :=
  (hb.block k (Array.getElem?_eq_some_iff.1 h).1).trans h
theorem IsB_lt {B b : Nat} {l : List UInt8} {w : World} (h : IsB B b l w) : b < w.heap.size := by
  rcases h with ⟨_, v, hbk, _⟩ | ⟨_, v, hbk, _⟩ <;> exact (Array.getElem?_eq_some_iff.1 hbk).1

theorem ext_cells (s : ByteArray) (i j : Nat) : Lib.strCells (s.extract i j) = Lib.byteCells ((s.data.toList.drop i).take (j - i)) := by
  have h := Lib.extract_toList s i j
  rw [ByteArray.toList_eq] at h
  rw [Lib.strCells_eq, h]
theorem byteCells_one (n : Nat) (h : n < 256) : Lib.byteCells [n.toUInt8] = [.int .u8 n] := by
  simp [Lib.byteCells, Nat.mod_eq_of_lt h]
theorem rune_cells {v : Int} (h0 : 0 ≤ v) (h1 : v ≤ 127) : Lib.runeCells v = Lib.byteCells [v.toNat.toUInt8] := by
  rw [byteCells_one _ (by omega), Lib.runeCells, Lib.encodeRuneZ_one h0 h1]
  simp [Int.toNat_of_nonneg h0]

set_option maxRecDepth 100000 in
set_option maxHeartbeats 8000000 in
theorem quote_any (s : ByteArray) (w : World) (hs : s.size ≤ 1073741824) :
    Calls Tryz.prog 196 #[.string s] w fun e w' => e = .returned (.string ⟨(quo s.data.toList).toArray⟩) ∧ Below w.heap.size w w' := by
  go_enter Tryz.func196, Tryz.ntmps196
  go_wp2_with fail
  refine (letters_any _).mono ?_
  rintro e w1 ⟨rfl, ⟨D0, hM, hV⟩, hb1⟩
  go_wp2_with (at_delete; refine wpList_delete_own _ rfl _ _ 245 21 rfl 21 lawI Tryz.underlying245 _ w.heap.size 8 D0 rfl hM _ _ rfl (keyOf_int_mk Tryz.underlying21 (by decide)) ?_; intro w2 hM2 hturn)
  have hb2 : Below w.heap.size w w2 := hb1.grown hturn.grown hb1.size (fun j hj => by cases hj; exact Nat.le_refl _)
  have hV2 : Vw (D0.del (key 47)) qF := hV.del 47
  have hmb := hM2.lt
  clear hV hM hb1 hturn
  generalize D0.del (key 47) = D at hM2 hV2
  have hwb := hb2.size
  generalize hm : w.heap.size = m at *
  generalize hbk : w2.heap.size = b at *
  have hMB : ∀ W, Below b w2 W → W.ownsMap Tryz.prog 21 (plainElem Tryz.prog 21) m 8 D := by
    intro W hW
    obtain ⟨es, clock, h1, h2⟩ := hM2
    exact ⟨es, clock, (hW.block m hmb).trans h1, h2⟩
  have hfresh : IsB b b [] (w2.alloc (.cells #[.pointer none, .slice none 0 0] 65)) := by
    have := Lib.IsBuilderF.of (Lib.fresh_isBuilder 65 5 w2)
    rw [hbk] at this
    exact this
  have hba : Below b w2 (w2.alloc (.cells #[.pointer none, .slice none 0 0] 65)) := (Below.refl _ _).alloc (by omega) _
  refine (Tryz.writeByte b b _ 34 _ hfresh (by rw [Lib.byteCells_length]; decide) (by simp; omega)).mono ?_
  rintro e w3 ⟨rfl, hq1, hb3, hk3⟩
  have hI3 : IsB b b [34] w3 := .inr hq1
  have hB3 : Below b w2 w3 := hba.trans hb3
  have hs3 : b < w3.heap.size := by have := hb3.size; simp at this; omega
  clear hq1 hb3 hk3 hba hfresh
  go_wp2
  generalize hK : w3.heap.size = K at *
  go_loopw [5] (fun u wr => ∃ (frm pos : Nat) (out : List UInt8), u = .int .i64 frm ∧ IsB b b out wr ∧ wr.heap[K]? = some (.stringIter s pos) ∧ Below b w2 wr ∧ pos ≤ s.size ∧ frm ≤ pos ∧ out.length ≤ 1 + 6 * frm ∧ Hid (Qi s.data.toList out frm pos)) (fun _ wr => s.size - wr.iterPos K)
  case atStart =>
    refine ⟨0, 0, [34], rfl, hI3.alloc _, ?_, hB3.alloc (by omega) _, by omega, by omega, by simp, Lib.hid ⟨by omega, rfl, rfl⟩⟩
    have := World.iter_heap w3 s 0
    rw [hK] at this
    simpa using this
  case round =>
    obtain ⟨frm, pos, out, rfl, hI, hit, hbw, hpl, hfp, hol, HQ⟩ := hrel
    have hIlt := IsB_lt hI
    by_cases hp : pos < s.size
    · have hnx : ∀ ty, (Instr.next (.pointer (some ⟨K, 0, none⟩)) true ty).run Tryz.prog wr = _ := fun ty => Lib.run_next_any_at wr K s pos ty hit hp
      have hne := drop_ne s pos hp
      have hbp : bt (s.data.toList.drop pos) 0 = s[pos].toNat := by
        have := bt_at' s pos 0 (by omega); simpa using this
      by_cases hlo : s[pos].toNat < 128
      · have hdl := dec_low (l := s.data.toList.drop pos) (by omega)
        rw [hbp] at hdl
        rw [dec_at, hdl] at hnx
        simp only at hnx
        have hI2 := hI.iterAt hit (pos + 1)
        have hit2 := Lib.iterAt_heap wr K s pos (pos + 1) hit
        have hbw2 := Lib.below_iterAt hbw (k := K) (by omega) s (pos + 1)
        have hsz2 : b ≤ (wr.iterAt K s (pos + 1)).heap.size := by rw [Lib.iterAt_size]; omega
        have hM3 := hMB _ hbw2
        have hwf : (Lit.int .i32 (s[pos].toNat : Int)).wf = true := i32_wf (by omega) (by omega)
        have hhas := (hV2.2 (s[pos].toNat : Int)).1
        have hgp : s.data.toList[pos]'(by rw [size_toList]; exact hp) = s[pos] := rfl
        clear hne hbp hdl
        cases hq : qF (s[pos].toNat : Int) with
        | some v =>
          obtain ⟨v0, v1, hwr⟩ := qF_some hq
          rw [hq] at hhas
          have HH : Hid (has D (key (s[pos].toNat : Int)) = true) := Lib.hid hhas
          have HV := Lib.hid hV2
          have HBL := Lib.hid hq
          have HN : Hid (Qi s.data.toList (out ++ (s.data.toList.drop frm).take (pos - frm) ++ [92, v.toNat.toUInt8]) (pos + 1) (pos + 1)) := Lib.hid (by
            have := HQ.out.esc (by rw [size_toList]; exact hp)
            rw [hgp, hwr] at this
            exact this)
          have hln := HN.out.len
          clear hhas hq hwr HQ hgp
          go_wp2_with ((at_lookup; refine wpList_lookup_own_ok_int _ rfl _ _ 245 rfl 21 21 .i32 lawI Tryz.underlying245 Tryz.underlying21 (zeroI _) m 8 D rfl hM3 _ _ rfl (keyOf_int_mk Tryz.underlying21 hwf) ?_; intro c hat hwc; rw [HH.out]; obtain rfl := (HV.out.hit HBL.out hat).symm; clear hat hwc))
          refine (Tryz.writeString b b _ _ _ hI2 (by rw [Lib.byteCells_length, ByteArray.size_extract]; omega) hsz2).mono ?_
          rintro e w4 ⟨rfl, h4, b4, k4⟩
          rw [ext_cells, ← Lib.byteCells_append] at h4
          have hsz4 := Nat.le_trans hsz2 b4.size
          have hit4 := k4.iter hit2 (by omega)
          clear k4
          go_wp2_with fail
          refine (Tryz.writeByte b b _ 92 _ (.inr h4) (by rw [Lib.byteCells_length, List.length_append, List.length_take]; omega) hsz4).mono ?_
          rintro e w5 ⟨rfl, h5, b5, k5⟩
          have hsz5 := Nat.le_trans hsz4 b5.size
          have hit5 := k5.iter hit4 (by omega)
          rw [show ([.int .u8 92] : List Value) = Lib.byteCells [92] from rfl, ← Lib.byteCells_append] at h5
          clear k5
          go_wp2_with fail
          refine (Tryz.writeRune b b _ _ (by omega) (by omega) _ (.inr h5) (by rw [Lib.byteCells_length, List.length_append, List.length_append, List.length_take, List.length_singleton]; omega) hsz5).mono ?_
          rintro e w6 ⟨rfl, h6, b6, k6⟩
          have hit6 := k6.iter hit5 (by omega)
          rw [rune_cells v0 v1, ← Lib.byteCells_append] at h6
          clear k6
          go_wp2_with fail
          go_roundw
          case rel =>
            refine ⟨pos + 1, pos + 1, _, by go_num, .inr ?_, hit6, ((hbw2.trans b4).trans b5).trans b6, by omega, Nat.le_refl _, hln, HN⟩
            have e : out ++ (s.data.toList.drop frm).take (pos - frm) ++ [92, v.toNat.toUInt8] = out ++ (s.data.toList.drop frm).take (pos - frm) ++ [92] ++ [v.toNat.toUInt8] := by simp
            rw [e]
            exact h6
          case measure =>
            simp only [World.iterPos, hit6, hit]
            omega
        | none =>
          rw [hq] at hhas
          have HH : Hid (has D (key (s[pos].toNat : Int)) = false) := Lib.hid hhas
          by_cases h32 : s[pos].toNat < 32
          · have hwr := wr_low hq h32
            have HN : Hid (Qi s.data.toList (out ++ (s.data.toList.drop frm).take (pos - frm) ++ [92, 117, 48, 48, hx (s[pos].toNat / 16), hx (s[pos].toNat % 16)]) (pos + 1) (pos + 1)) := Lib.hid (by
              have := HQ.out.esc (by rw [size_toList]; exact hp)
              rw [hgp, hwr] at this
              exact this)
            have hln := HN.out.len
            clear hhas hq hwr HQ hgp
            go_wp2_with ((at_lookup; refine wpList_lookup_own_ok_int _ rfl _ _ 245 rfl 21 21 .i32 lawI Tryz.underlying245 Tryz.underlying21 (zeroI _) m 8 D rfl hM3 _ _ rfl (keyOf_int_mk Tryz.underlying21 hwf) ?_; intro c hat hwc; rw [HH.out]; clear hat hwc))
            refine (Tryz.writeString b b _ _ _ hI2 (by rw [Lib.byteCells_length, ByteArray.size_extract]; omega) hsz2).mono ?_
            rintro e w4 ⟨rfl, h4, b4, k4⟩
            rw [ext_cells, ← Lib.byteCells_append] at h4
            have hsz4 := Nat.le_trans hsz2 b4.size
            have hit4 := k4.iter hit2 (by omega)
            clear k4
            go_wp2_with fail
            refine (long_any _ _ h32).mono ?_
            rintro e w5 ⟨rfl, b5⟩
            have hI5 := IsB_kept (.inr h4) b5
            have hit5 := iter_kept hit4 b5
            have hb5 := (hbw2.trans b4).trans (b5.mono hsz4)
            have hsz5 := Nat.le_trans hsz4 b5.size
            go_wp2_with fail
            refine (Tryz.writeString b b _ _ _ hI5 (by rw [Lib.byteCells_length, List.length_append, List.length_take, mk_size]; simp; omega) hsz5).mono ?_
            rintro e w6 ⟨rfl, h6, b6, k6⟩
            have hit6 := k6.iter hit5 (by omega)
            rw [Lib.strCells_eq, mk_data, ← Lib.byteCells_append] at h6
            clear k6
            go_wp2_with fail
            go_roundw
            case rel =>
              exact ⟨pos + 1, pos + 1, _, by go_num, .inr h6, hit6, hb5.trans b6, by omega, Nat.le_refl _, hln, HN⟩
            case measure =>
              simp only [World.iterPos, hit6, hit]
              omega
          · have hge : (32 : Int) ≤ (s[pos].toNat : Int) := by omega
            have HN : Hid (Qi s.data.toList out frm (pos + 1)) := Lib.hid (HQ.out.more (by
              rw [List.drop_eq_getElem_cons (by rw [size_toList]; exact hp), hgp]
              obtain ⟨n0, n1, -⟩ := qF_none hq
              show wrs [s[pos]] = [s[pos]]
              simp only [wrs, List.flatMap_cons, List.flatMap_nil, List.append_nil]
              exact wr_plain n0 n1 (by omega)))
            clear hhas hq HQ hgp h32
            go_wp2_with ((at_lookup; refine wpList_lookup_own_ok_int _ rfl _ _ 245 rfl 21 21 .i32 lawI Tryz.underlying245 Tryz.underlying21 (zeroI _) m 8 D rfl hM3 _ _ rfl (keyOf_int_mk Tryz.underlying21 hwf) ?_; intro c hat hwc; rw [HH.out]; clear hat hwc))
            go_roundw
            case rel =>
              exact ⟨frm, pos + 1, out, rfl, hI2, hit2, hbw2, by omega, by omega, hol, HN⟩
            case measure =>
              simp only [World.iterPos, hit2, hit]
              omega
      · have hdh := dec_high hne (by rw [hbp]; omega)
        have hwd := dec_width _ hne
        rw [List.length_drop, size_toList] at hwd
        rw [dec_at] at hnx
        generalize hD : Lib.decodeL (s.data.toList.drop pos) = Dc at hnx hdh hwd
        obtain ⟨r, n⟩ := Dc
        simp only at hnx hdh hwd
        have hrl : r ≤ 1114111 := by have := Lib.decodeL_rune (s.data.toList.drop pos); rw [hD] at this; exact this
        have hI2 := hI.iterAt hit (pos + n)
        have hit2 := Lib.iterAt_heap wr K s pos (pos + n) hit
        have hbw2 := Lib.below_iterAt hbw (k := K) (by omega) s (pos + n)
        have hM3 := hMB _ hbw2
        have hwf : (Lit.int .i32 (r : Int)).wf = true := i32_wf (by omega) (by omega)
        have hhas := (hV2.2 (r : Int)).1
        rw [qF_high (by omega)] at hhas
        have HH : Hid (has D (key (r : Int)) = false) := Lib.hid hhas
        have hge : (32 : Int) ≤ (r : Int) := by omega
        have HN : Hid (Qi s.data.toList out frm (pos + n)) := Lib.hid (HQ.out.more (wrs_high (take_high hdh.2)))
        obtain ⟨hn1, hn2⟩ := hwd
        clear hdh hhas hne hbp hlo hD HQ hrl
        go_wp2_with ((at_lookup; refine wpList_lookup_own_ok_int _ rfl _ _ 245 rfl 21 21 .i32 lawI Tryz.underlying245 Tryz.underlying21 (zeroI _) m 8 D rfl hM3 _ _ rfl (keyOf_int_mk Tryz.underlying21 hwf) ?_; intro c hat hwc; rw [HH.out]; clear hat hwc))
        go_roundw
        case rel =>
          exact ⟨frm, pos + n, out, rfl, hI2, hit2, hbw2, by omega, by omega, hol, HN⟩
        case measure =>
          simp only [World.iterPos, hit2, hit]
          omega
    · have hnx : ∀ ty, (Instr.next (.pointer (some ⟨K, 0, none⟩)) true ty).run Tryz.prog wr = _ := fun ty => Lib.run_next_end_at wr K s pos ty hit hp
      have HN : Hid (out ++ s.data.toList.drop frm ++ [34] = quo s.data.toList) := Lib.hid (HQ.out.done (by rw [size_toList]; omega))
      have hszr : b ≤ wr.heap.size := by omega
      clear HQ
      go_wp2_with fail
      refine (Tryz.writeString b b _ _ _ hI (by rw [Lib.byteCells_length, ByteArray.size_extract]; omega) hszr).mono ?_
      rintro e w4 ⟨rfl, h4, b4, k4⟩
      rw [Lib.strCells_eq, ext_end, ← Lib.byteCells_append] at h4
      have hsz4 := Nat.le_trans hszr b4.size
      clear k4
      go_wp2_with fail
      refine (Tryz.writeByte b b _ 34 _ (.inr h4) (by rw [Lib.byteCells_length, List.length_append, List.length_drop, size_toList]; omega) hsz4).mono ?_
      rintro e w5 ⟨rfl, h5, b5, k5⟩
      have hsz5 := Nat.le_trans hsz4 b5.size
      rw [show ([.int .u8 34] : List Value) = Lib.byteCells [34] from rfl, ← Lib.byteCells_append, HN.out] at h5
      clear k5
      go_wp2_with fail
      refine (Tryz.Builder_String_any_k b b _ _ (.inr h5) hsz5).mono ?_
      rintro e w6 ⟨rfl, _, b6, _⟩
      go_wp2_with fail
      go_ret
      exact ⟨rfl, by rw [hm]; exact hb2.trans ((((hbw.trans b4).trans b5).trans b6).mono hwb)⟩
end Go.Proofs.YtdgcdemihalefaaGreatDoor

/-
  Plain words on strings that are written, further: what is quoted is read as it was; what is read is valid UTF-8, no longer than it was written. No program stands here.
-/
namespace Go.Proofs.YtdgcdemihalefaaGreatDoor
namespace Qp
open Go.RowKit Np Up

theorem valid_append : ∀ (n : Nat) (a b : List UInt8), a.length ≤ n → Lib.validD a = true → Lib.validD (a ++ b) = Lib.validD b
  | 0, a, b, hn, _ => by
    have : a = [] := List.eq_nil_of_length_eq_zero (by omega)
    subst this
    rfl
  | n + 1, a, b, hn, ha => by
    by_cases hl : a = []
    · subst hl; rfl
    have hp : 0 < a.length := List.length_pos_iff.2 hl
    have hs := valid_step a hl
    rw [ha] at hs
    by_cases h0 : runeN a = 0
    · rw [if_pos h0] at hs; cases hs
    rw [if_neg h0] at hs
    have hle := runeN_le a hl
    rw [valid_step (a ++ b) (by simp [hl]), runeN_append b hl h0, if_neg h0, List.drop_append_of_le_length hle]
    exact valid_append n _ b (by rw [List.length_drop]; omega) hs.symm
theorem valid_app {a : List UInt8} (b : List UInt8) (h : Lib.validD a = true) : Lib.validD (a ++ b) = Lib.validD b := valid_append _ a b (Nat.le_refl _) h
theorem valid_take {l : List UInt8} (hl : l ≠ []) (h : runeN l ≠ 0) : Lib.validD (l.take (runeN l)) = true := by
  have hle := runeN_le l hl
  have hne : l.take (runeN l) ≠ [] := by
    intro e
    have := congrArg List.length e
    rw [List.length_take, List.length_nil] at this
    omega
  rw [valid_step _ hne, runeN_take h, if_neg h, List.drop_of_length_le (by rw [List.length_take]; omega)]
  rfl

/-! ### a rune's bytes -/
theorem u8_nat {x : Nat} (h : x < 256) : x.toUInt8.toNat = x := by simp [Nat.mod_eq_of_lt h]
theorem enc_one {n : Nat} (h : n < 128) : Lib.encodeRune (n : Int) = [n.toUInt8] := by
  rw [Lib.encodeRune, Lib.encodeRuneZ_one (by omega) (by omega)]; rfl
theorem enc_two {n : Nat} (h : 128 ≤ n) (h1 : n < 2048) : Lib.encodeRune (n : Int) = [(192 + n / 64).toUInt8, (128 + n % 64).toUInt8] := by
  rw [Lib.encodeRune, Lib.encodeRuneZ_two (by omega) (by omega)]; rfl
theorem enc_three {n : Nat} (h : 2048 ≤ n) (h1 : n < 65536) (hr : n < 55296 ∨ 57344 ≤ n) : Lib.encodeRune (n : Int) = [(224 + n / 4096).toUInt8, (128 + n / 64 % 64).toUInt8, (128 + n % 64).toUInt8] := by
  rw [Lib.encodeRune, Lib.encodeRuneZ_three (by omega)]; rfl
theorem enc_four {n : Nat} (h : 65536 ≤ n) (h1 : n ≤ 1114111) : Lib.encodeRune (n : Int) = [(240 + n / 262144).toUInt8, (128 + n / 4096 % 64).toUInt8, (128 + n / 64 % 64).toUInt8, (128 + n % 64).toUInt8] := by
  rw [Lib.encodeRune, Lib.encodeRuneZ_four (by omega) (by omega)]; rfl
theorem ct_of {l : List UInt8} {k : Nat} (h : k < l.length) (h0 : 128 ≤ bt l k) (h1 : bt l k < 192) : ct l k = true := by
  rw [ct_iff]; exact ⟨h, by omega⟩
theorem enc_rune {n : Nat} (h : ru n) : runeN (Lib.encodeRune (n : Int)) = (Lib.encodeRune (n : Int)).length := by
  unfold ru at h
  by_cases c1 : n < 128
  · rw [enc_one c1]
    exact runeN_one (by rw [bt_cons, u8_nat (by omega)]; omega)
  by_cases c2 : n < 2048
  · rw [enc_two (by omega) c2]
    have e0 : bt [(192 + n / 64).toUInt8, (128 + n % 64).toUInt8] 0 = 192 + n / 64 := by rw [bt_cons, u8_nat (by omega)]
    have e1 : bt [(192 + n / 64).toUInt8, (128 + n % 64).toUInt8] 1 = 128 + n % 64 := by rw [bt_succ, bt_cons, u8_nat (by omega)]
    exact runeN_two (by omega) (by omega) (ct_of (by simp) (by omega) (by omega))
  by_cases c3 : n < 65536
  · rw [enc_three (by omega) c3 (by omega)]
    generalize hl : [(224 + n / 4096).toUInt8, (128 + n / 64 % 64).toUInt8, (128 + n % 64).toUInt8] = l
    have e0 : bt l 0 = 224 + n / 4096 := by rw [← hl, bt_cons, u8_nat (by omega)]
    have e1 : bt l 1 = 128 + n / 64 % 64 := by rw [← hl, bt_succ, bt_cons, u8_nat (by omega)]
    have e2 : bt l 2 = 128 + n % 64 := by rw [← hl, bt_succ, bt_succ, bt_cons, u8_nat (by omega)]
    have el : l.length = 3 := by rw [← hl]; rfl
    rw [el]
    exact runeN_three (by omega) (by omega) (ct_of (by omega) (by omega) (by omega)) (ct_of (by omega) (by omega) (by omega)) (by omega)
  · rw [enc_four (by omega) (by omega)]
    generalize hl : [(240 + n / 262144).toUInt8, (128 + n / 4096 % 64).toUInt8, (128 + n / 64 % 64).toUInt8, (128 + n % 64).toUInt8] = l
    have e0 : bt l 0 = 240 + n / 262144 := by rw [← hl, bt_cons, u8_nat (by omega)]
    have e1 : bt l 1 = 128 + n / 4096 % 64 := by rw [← hl, bt_succ, bt_cons, u8_nat (by omega)]
    have e2 : bt l 2 = 128 + n / 64 % 64 := by rw [← hl, bt_succ, bt_succ, bt_cons, u8_nat (by omega)]
    have e3 : bt l 3 = 128 + n % 64 := by rw [← hl, bt_succ, bt_succ, bt_succ, bt_cons, u8_nat (by omega)]
    have el : l.length = 4 := by rw [← hl]; rfl
    rw [el]
    exact runeN_four (by omega) (by omega) (ct_of (by omega) (by omega) (by omega)) (ct_of (by omega) (by omega) (by omega)) (ct_of (by omega) (by omega) (by omega)) (by omega)
theorem enc_ne (r : Int) : Lib.encodeRune r ≠ [] := by
  intro e
  have h := congrArg List.length e
  rw [Lib.encodeRune, List.length_map, List.length_nil] at h
  have := (Lib.encodeRuneZ_length r).1
  omega
theorem enc_valid {n : Nat} (h : ru n) : Lib.validD (Lib.encodeRune (n : Int)) = true := by
  have h1 := enc_rune h
  have h2 := List.length_pos_iff.2 (enc_ne (n : Int))
  rw [valid_step _ (enc_ne _), if_neg (by omega), h1, List.drop_of_length_le (Nat.le_refl _)]
  rfl
theorem enc_high {n : Nat} (h : ru n) (h1 : 128 ≤ n) : wrs (Lib.encodeRune (n : Int)) = Lib.encodeRune (n : Int) := by
  have hr := enc_rune h
  have hb : 128 ≤ bt (Lib.encodeRune (n : Int)) 0 := by
    rcases Nat.lt_or_ge (bt (Lib.encodeRune (n : Int)) 0) 128 with hb | hb
    · exfalso
      have h3 := runeN_one hb
      rw [hr] at h3
      unfold ru at h
      by_cases c2 : n < 2048
      · rw [enc_two h1 c2] at h3; cases h3
      by_cases c3 : n < 65536
      · rw [enc_three (by omega) c3 (by omega)] at h3; cases h3
      · rw [enc_four (by omega) (by omega)] at h3; cases h3
    · exact hb
  apply wrs_high
  have h4 := take_high (fun j hj => runeN_high hb j hj)
  rw [hr, List.take_length] at h4
  exact h4

theorem enc_max (r : Int) : (Lib.encodeRune r).length ≤ 4 := by
  rw [Lib.encodeRune, List.length_map]
  exact (Lib.encodeRuneZ_length r).2
/-! ### what has been read -/
theorem sh_wrs {c x : Nat} (h : sh c = some x) : (wrs (Lib.encodeRune (x : Int))).length ≤ 2 := by
  unfold sh at h
  repeat' split at h
  all_goals first
    | (cases h; done)
    | (injection h with h; subst h; decide +kernel)
theorem tk_good {l p : List UInt8} {m : Nat} (hl : l ≠ []) (hb : bt l 0 ≠ 34) (h : tk l = some (p, m)) : Lib.validD p = true ∧ p.length ≤ m ∧ (wrs p).length ≤ m := by
  unfold tk at h
  split at h
  · cases he : es l with
    | none => rw [he] at h; cases h
    | some x =>
      obtain ⟨r, k⟩ := x
      rw [he] at h
      simp at h
      obtain ⟨h1, h2⟩ := h
      subst h1 h2
      obtain ⟨_, hr, hk, _⟩ := es_some he
      have hv := enc_valid hr
      rcases hk with ⟨rfl, hs⟩ | ⟨rfl, hs⟩ | ⟨rfl, hs⟩
      · have h3 := sh_wrs hs
        have h4 := (wrs_len (Lib.encodeRune (r : Int))).1
        exact ⟨hv, by omega, h3⟩
      · by_cases c : r < 128
        · rw [enc_one c]
          have h5 := (wrs_len [r.toUInt8]).2
          exact ⟨by rw [← enc_one c]; exact hv, by simp, by simpa using h5⟩
        · have h4 := enc_max (r : Int)
          exact ⟨hv, by omega, by rw [enc_high hr (by omega)]; omega⟩
      · have h4 := enc_max (r : Int)
        exact ⟨hv, by omega, by rw [enc_high hr (by omega)]; omega⟩
  · rename_i h92
    split at h
    · cases h
    · rename_i h32
      injection h with h
      injection h with e1 e2
      subst e1
      have hn : runeN l ≠ 0 := fun e => h32 (.inr e)
      have hv := valid_take hl hn
      subst e2
      have hlen : (l.take (runeN l)).length ≤ runeN l := by rw [List.length_take]; omega
      refine ⟨hv, hlen, ?_⟩
      by_cases c : bt l 0 < 128
      · have h1 := runeN_one c
        obtain ⟨a, t, rfl⟩ : ∃ a t, l = a :: t := by
          cases l with
          | nil => exact absurd rfl hl
          | cons a t => exact ⟨a, t, rfl⟩
        rw [bt_cons] at c hb h92 h32
        have h5 : wrs [a] = [a] := by
          simp only [wrs, List.flatMap_cons, List.flatMap_nil, List.append_nil]
          exact wr_plain hb h92 (by omega)
        rw [h1]
        show (wrs [a]).length ≤ 1
        rw [h5]
        simp
      · rw [wrs_high (take_high (fun j hj => runeN_high (by omega) j hj))]
        exact hlen
/-- What has been read whole. -/
theorem unq_good : ∀ (f : Nat) (out l : List UInt8) (i n : Nat) (x : List UInt8), l.length ≤ f → unq out l i = (x, n, 0) →
    ∃ y, x = out ++ y ∧ Lib.validD y = true ∧ y.length + 1 + i ≤ n ∧ (wrs y).length + 1 + i ≤ n ∧ n ≤ i + l.length
  | 0, out, l, i, n, x, hf, h => by
    have : l = [] := List.eq_nil_of_length_eq_zero (by omega)
    subst this
    rw [unq_nil] at h
    injection h with _ h
    injection h with _ h
    cases h
  | f + 1, out, l, i, n, x, hf, h => by
    by_cases hl : l = []
    · subst hl
      rw [unq_nil] at h
      injection h with _ h
      injection h with _ h
      cases h
    have hp : 0 < l.length := List.length_pos_iff.2 hl
    by_cases hb : bt l 0 = 34
    · rw [unq_mark _ _ hb] at h
      injection h with h1 h
      injection h with h2 _
      subst h1 h2
      exact ⟨[], by simp, rfl, by simp; omega, by simp [wrs]; omega, by omega⟩
    cases ht : tk l with
    | none =>
      rw [unq_bad _ _ hb ht] at h
      injection h with _ h
      injection h with _ h
      cases h
    | some q =>
      obtain ⟨p, m⟩ := q
      rw [unq_step _ _ hl hb ht] at h
      obtain ⟨hm1, hm2⟩ := tk_some hl ht
      obtain ⟨g1, g2, g3⟩ := tk_good hl hb ht
      obtain ⟨y, y1, y2, y3, y4, y5⟩ := unq_good f _ _ _ _ _ (by rw [List.length_drop]; omega) h
      rw [List.length_drop] at y5
      refine ⟨p ++ y, by rw [y1, List.append_assoc], by rw [valid_app y g1]; exact y2, by rw [List.length_append]; omega, by rw [wrs_append, List.length_append]; omega, by omega⟩
/-! ### what is quoted -/
theorem quo_len (s : List UInt8) : (quo s).length = (wrs s).length + 2 := by simp [quo]
end Qp
end Go.Proofs.YtdgcdemihalefaaGreatDoor

/-
  Plain words on texts of paths: a word, a step's text and a path's; the step that a text begins with, and the path of a text; back and forth. No program stands here.
-/
namespace Go.Proofs.YtdgcdemihalefaaGreatDoor
namespace Pw
open Go.RowKit Np Rw Vp Up Qp

def isL (c : UInt8) : Bool := decide (97 ≤ c.toNat ∧ c.toNat ≤ 122) || decide (65 ≤ c.toNat ∧ c.toNat ≤ 90) || decide (c.toNat = 95)
def isF (c : UInt8) : Bool := decide (48 ≤ c.toNat ∧ c.toNat ≤ 57)
def isLF (c : UInt8) : Bool := isL c || isF c
/-- The word that a text begins with. -/
def wrd : List UInt8 → List UInt8
  | [] => []
  | c :: r => if isL c then c :: r.takeWhile isLF else []
/-- The place that a word goes on at. -/
def okAt (l : List UInt8) (k : Nat) : Bool := match l[k]? with
  | none => false
  | some c => isL c || (decide (0 < k) && isF c)
theorem takeWhile_len {α : Type} (p : α → Bool) : ∀ (l : List α) (n : Nat), n ≤ l.length → (∀ j, j < n → ∀ x, l[j]? = some x → p x = true) → (n = l.length ∨ ∃ x, l[n]? = some x ∧ p x = false) → l.takeWhile p = l.take n
  | [], n, hn, _, _ => by simp
  | a :: l, 0, _, _, h => by
    rcases h with h | ⟨x, hx, hp⟩
    · simp at h
    · simp at hx; subst hx
      rw [List.takeWhile_cons, hp]; simp
  | a :: l, n + 1, hn, h0, h => by
    have ha : p a = true := h0 0 (by omega) a (by simp)
    rw [List.takeWhile_cons, if_pos ha, List.take_succ_cons]
    congr 1
    refine takeWhile_len p l n (by simpa using hn) (fun j hj x hx => h0 (j + 1) (by omega) x (by simpa using hx)) ?_
    rcases h with h | ⟨x, hx, hp⟩
    · left; simpa using h
    · right; exact ⟨x, by simpa using hx, hp⟩
/-- What the walk finds is the word. -/
theorem wrd_of {l : List UInt8} {n : Nat} (hn : n ≤ l.length) (h0 : ∀ j, j < n → okAt l j = true) (h1 : okAt l n = false) : wrd l = l.take n := by
  cases l with
  | nil => simp [wrd]
  | cons c r =>
    cases n with
    | zero =>
      have : isL c = false := by simpa [okAt] using h1
      rw [wrd, this]; simp
    | succ n =>
      have hc : isL c = true := by simpa [okAt] using h0 0 (by omega)
      rw [wrd, if_pos hc, List.take_succ_cons]
      congr 1
      refine takeWhile_len isLF r n (by simpa using hn) (fun j hj x hx => ?_) ?_
      · have := h0 (j + 1) (by omega)
        rw [okAt, List.getElem?_cons_succ, hx] at this
        simpa [isLF] using this
      · rw [okAt, List.getElem?_cons_succ] at h1
        cases hr : r[n]? with
        | none =>
          left
          have := List.getElem?_eq_none_iff.1 hr
          simp at hn; omega
        | some x =>
          rw [hr] at h1
          exact Or.inr ⟨x, rfl, by simpa [isLF] using h1⟩
theorem wrd_le (l : List UInt8) : (wrd l).length ≤ l.length := by
  cases l with
  | nil => simp [wrd]
  | cons c r =>
    rw [wrd]; split
    · have := (List.takeWhile_sublist isLF (l := r)).length_le
      simp; omega
    · simp
/-- A step's text. -/
def isW (name : List UInt8) : Bool := decide (name ≠ []) && decide (wrd name = name)
def stT (s : St) : List UInt8 := if s.part then 91 :: (Lib.itoa s.n ++ [93]) else if isW s.name then 46 :: s.name else 46 :: quo s.name
/-- The number of a text of figures, or what is told in its place. -/
def atoiN (l : List UInt8) : Int := match Lib.atoiAll l with
  | .ok v => v
  | .range => Lib.atoiSat l
  | _ => 0
/-- The step that a text begins with, if it begins with one. -/
def gss (l : List UInt8) : St :=
  if Lib.hasPrefix l [91] then ⟨true, [], atoiN (Lib.cut (Lib.trimPrefix l [91]) [93]).1⟩
  else if (unqs (Lib.trimPrefix l [46])).2.2 = 0 then ⟨false, (unqs (Lib.trimPrefix l [46])).1, 0⟩
  else ⟨false, wrd (Lib.trimPrefix l [46]), 0⟩
def ahd (l : List UInt8) (first : Bool) : Nat := if first && Lib.hasPrefix l [46, 91] then 1 else 0
def bgn (l : List UInt8) (first : Bool) : Option (St × Nat) :=
  if first && !Lib.hasPrefix l [46, 91] && !Lib.hasPrefix l [46] then none
  else if rightS (gss (l.drop (ahd l first))) && Lib.hasPrefix (l.drop (ahd l first)) (stT (gss (l.drop (ahd l first)))) then some (gss (l.drop (ahd l first)), ahd l first + (stT (gss (l.drop (ahd l first)))).length) else none
def readF : Nat → List St → List UInt8 → Nat → List St × Nat × Int
  | 0, _, _, i => ([], i, 1)
  | f + 1, acc, l, i => match bgn (l.drop i) (i == 0) with
    | none => ([], i, 1)
    | some (g, n) => if acc.length = 20 then ([], i, 1) else if i + n = l.length then (acc ++ [g], 0, 0) else readF f (acc ++ [g]) l (i + n)
/-- The path of a text, or where it is none. -/
def readP (l : List UInt8) : List St × Nat × Int := if l = [46] then ([], 0, 0) else readF (l.length + 1) [] l 0

theorem pre_iff {l p : List UInt8} : Lib.hasPrefix l p = true ↔ ∃ t, l = p ++ t := by
  unfold Lib.hasPrefix
  rw [List.isPrefixOf_iff_prefix]
  constructor
  · rintro ⟨t, rfl⟩; exact ⟨t, rfl⟩
  · rintro ⟨t, rfl⟩; exact ⟨t, rfl⟩
theorem pre_len {l p : List UInt8} (h : Lib.hasPrefix l p = true) : p.length ≤ l.length := by
  obtain ⟨t, rfl⟩ := pre_iff.1 h; simp
theorem stT_pos (s : St) : 1 ≤ (stT s).length := by
  unfold stT; split
  · simp
  · split <;> simp
theorem bgn_some {l : List UInt8} {first : Bool} {g : St} {n : Nat} (h : bgn l first = some (g, n)) : rightS g = true ∧ g = gss (l.drop (ahd l first)) ∧ n = ahd l first + (stT g).length ∧ (∃ t, l.drop (ahd l first) = stT g ++ t) ∧ (first = true → Lib.hasPrefix l [46, 91] = true ∨ Lib.hasPrefix l [46] = true) := by
  unfold bgn at h
  split at h
  · cases h
  · rename_i h1
    split at h
    · rename_i h2
      injection h with h
      injection h with ha hb
      rw [Bool.and_eq_true] at h2
      subst ha
      refine ⟨h2.1, rfl, hb.symm, pre_iff.1 h2.2, fun hf => ?_⟩
      subst hf
      cases hp : Lib.hasPrefix l [46, 91] <;> cases hq : Lib.hasPrefix l [46] <;> simp_all
    · cases h
theorem ahd_le (l : List UInt8) (first : Bool) : ahd l first ≤ l.length := by
  unfold ahd; split
  · rename_i h
    rw [Bool.and_eq_true] at h
    have := pre_len h.2
    simp at this; omega
  · omega
theorem bgn_len {l : List UInt8} {first : Bool} {g : St} {n : Nat} (h : bgn l first = some (g, n)) : 1 ≤ n ∧ n ≤ l.length := by
  obtain ⟨-, -, hn, ⟨t, ht⟩, -⟩ := bgn_some h
  have h1 := stT_pos g
  have h2 := congrArg List.length ht
  have h3 := ahd_le l first
  rw [List.length_drop, List.length_append] at h2
  omega
end Pw
end Go.Proofs.YtdgcdemihalefaaGreatDoor

/-
  Plain words on filters: which terms are right, which rows are right filters (by a walk along the row; by its trees). No program stands here.
-/
namespace Go.Proofs.YtdgcdemihalefaaGreatDoor
namespace Fw
open Go.RowKit Np Rw Vp Pw

def isC (op : Int) : Bool := decide (16 ≤ op ∧ op ≤ 19)
/-- Are the parts of a term that does this conditions? -/
def ofC (op : Int) : Bool := decide (op = 7 ∨ op = 17 ∨ op = 18 ∨ op = 19)
def isPth (s : List UInt8) : Bool := decide ((readP s).2.2 = 0)
def flatN (c : Nd) : Bool := rightL [c] && !cont c.kind
/-- What text a term has: none, a name, or a path's. -/
def sOk (op : Int) (s : List UInt8) : Bool := if op = 1 then vld s else if op = 12 ∨ op = 13 ∨ op = 15 ∨ op = 16 then isPth s else decide (s = [])
def nOk (op n : Int) : Bool := if op = 2 ∨ op = 3 then decide (0 ≤ n) && decide (n ≤ 1000000) else if op = 16 then decide (0 ≤ n) && decide (n ≤ 5) else decide (n = 0)
def cOk (op : Int) (c : Nd) : Bool := if op = 16 then flatN c else decide (c = zeroC)
def manyOk (op many : Int) : Bool :=
  if op = 4 ∨ op = 17 ∨ op = 18 then decide (many = 2)
  else if op = 5 ∨ op = 6 ∨ op = 7 ∨ op = 19 then decide (many = 1)
  else if op = 8 ∨ op = 9 then decide (0 ≤ many)
  else decide (many = 0)
/-- Is a term right, whatever its name, but for what hangs on the one that it is a part of? -/
def plainT (t : Tm) : Bool := decide (0 ≤ t.op ∧ t.op ≤ 19) && manyOk t.op t.many && sOk t.op t.s && nOk t.op t.n && cOk t.op t.c

/-- A term within which a walk is: what it does, how many of its parts are still to come, the names of those ahead. -/
structure Hf where
  op : Int
  left : Int
  ahead : List (List UInt8)
deriving DecidableEq
def letsN (h : Hf) (name : List UInt8) : Bool := if h.op = 8 then !decide (name ∈ h.ahead) && vld name else decide (name = [])
def letsF (h : Hf) (t : Tm) : Bool := !(decide (h.op = 4) && decide (h.left = 2) && decide (t.op = 4)) && (isC t.op == ofC h.op) && letsN h t.name
def popF : List Hf → List Hf
  | [] => []
  | h :: st => if h.left = 0 then popF st else h :: st
def stepF (h : Hf) (t : Tm) : Hf := ⟨h.op, h.left - 1, h.ahead ++ [t.name]⟩
def passF : List Hf → Tm → List Hf
  | [], _ => []
  | h :: st, t => if 0 < t.many then ⟨t.op, t.many, []⟩ :: stepF h t :: st else popF (stepF h t :: st)
def runF : List Hf → List Tm → Bool
  | st, [] => st.isEmpty
  | [], _ :: _ => false
  | h :: st, t :: l => letsF h t && plainT t && runF (passF (h :: st) t) l
def startF : List Hf := [⟨9, 1, []⟩]
/-- Is a row a right filter? (By a walk along it.) -/
def rightF (l : List Tm) : Bool := runF startF l

theorem runF_cons (h : Hf) (st : List Hf) (t : Tm) (l : List Tm) : runF (h :: st) (t :: l) = (letsF h t && plainT t && runF (passF (h :: st) t) l) := by simp [runF]

mutual
/-- Is a tree a right filter's, whatever its name, and whether it is a condition? -/
def rightTF : Tr Tm → Bool
  | .mk t ks => plainT t && rightKF t.op t.many [] ks
def rightKF (op : Int) : Int → List (List UInt8) → List (Tr Tm) → Bool
  | _, _, [] => true
  | left, ahead, k :: ks => letsF ⟨op, left, ahead⟩ k.nd && rightTF k && rightKF op (left - 1) (ahead ++ [k.nd.name]) ks
end
@[simp] theorem rightKF_nil (op left : Int) (a : List (List UInt8)) : rightKF op left a [] = true := by simp [rightKF]
end Fw
end Go.Proofs.YtdgcdemihalefaaGreatDoor

/-
  Plain words on filters: by their terms, one by one; the place behind a filter in a row; one filter, then another; filters that are spoilt. No program stands here.
-/
namespace Go.Proofs.YtdgcdemihalefaaGreatDoor
namespace Fw
open Go.RowKit Np Rw Vp Pw

/-! By the terms, one by one. -/
/-- The place behind so many filters; below 0: there is none. -/
def nxtF (N : Nat) : List Tm → Nat → Nat → Int
  | _, 0, i => i
  | [], _ + 1, _ => -1
  | n :: l, o + 1, i => if n.many < 0 ∨ (N : Int) < n.many then -1 else nxtF N l (o + n.many.toNat) (i + 1)
@[simp] theorem nxtF_zero (N : Nat) (l : List Tm) (i : Nat) : nxtF N l 0 i = i := by cases l <;> simp [nxtF]
@[simp] theorem nxtF_nil (N o i : Nat) : nxtF N [] (o + 1) i = -1 := by simp [nxtF]
/-! One filter, then another one. -/
/-! Spoilt filters. -/
theorem right_name {x : Tm} {l : List Tm} (h : x.name ≠ []) : rightF (x :: l) = false := by
  rw [rightF, startF, runF_cons]
  simp [letsF, letsN, h]
end Fw
end Go.Proofs.YtdgcdemihalefaaGreatDoor

/-
  What term's lastPiped answers.
-/
namespace Go.Proofs.YtdgcdemihalefaaGreatDoor
open Go.RowKit Np Rw Vp Pw Fw

end Go.Proofs.YtdgcdemihalefaaGreatDoor

/-
  What the library's Grow (of nothing) and Concat answer for rows of terms; term's Pipe.
-/
namespace Go.Proofs.YtdgcdemihalefaaGreatDoor
open Go.RowKit Go.Shelf Np Rw Vp Pw Fw

/-- A piece of a slice. -/
theorem Row.pc {α : Type} {enc : α → List Value} {sz g o c : Nat} {w : World} {l : List α} (h : Row enc sz w (.slice (some ⟨g, o, none⟩) l.length c) l) (k m d : Nat) (hk : k + m ≤ l.length) (hd : m ≤ d) (hdc : d ≤ c) :
    Row enc sz w (.slice (some ⟨g, o + k * sz, none⟩) m d) ((l.drop k).take m) := by
  obtain ⟨A, c', hv, hc, hm, -, H⟩ := h
  injection hv with e1 _ e3
  subst e1 e3
  have hl : ((l.drop k).take m).length = m := by simp; omega
  refine ⟨_, d, by rw [hl], by rw [hl]; exact hd, by omega, fun h => (by cases h), fun h0 => ?_⟩
  rw [hl] at h0
  obtain ⟨g', o', hA, hg, hx⟩ := H (by omega)
  injection hA with hA
  injection hA with e1 e2
  subst e1 e2
  refine ⟨g, o + k * sz, rfl, hg, fun i x hi => ?_⟩
  rw [List.getElem?_take] at hi
  split at hi
  · rw [List.getElem?_drop] at hi
    have := hx _ x hi
    rwa [Nat.add_mul, ← Nat.add_assoc] at this
  · cases hi

end Go.Proofs.YtdgcdemihalefaaGreatDoor

/-
  What term's rows tells, one by one: a filter's parts, in order, each as it stands in the row.
-/
namespace Go.Proofs.YtdgcdemihalefaaGreatDoor
open Go.RowKit Go.Shelf Np Rw Vp Pw Fw
attribute [local go_sem] Oper.semAt_some

/-- What a round keeps: what lies below, and the box that the iterator reads. -/
def Kq (n₀ Bn : Nat) (W W' : World) : Prop := Below n₀ W W' ∧ W'.heap[Bn]? = W.heap[Bn]?
theorem Kq.refl (n₀ Bn : Nat) (W : World) : Kq n₀ Bn W W := ⟨Below.refl _ _, rfl⟩
theorem Kq.trans {n₀ Bn : Nat} {A B C : World} (h : Kq n₀ Bn A B) (k : Kq n₀ Bn B C) : Kq n₀ Bn A C := ⟨h.1.trans k.1, k.2.trans h.2⟩
theorem kq_b {n₀ Bn : Nat} {w : World} (hn : n₀ ≤ w.heap.size) (hB : Bn < w.heap.size) (W : World) (l : Nat) (o o' : Obj) (hl : w.heap.size ≤ l) (h : W.heap[l]? = some o) (_ : o.isCells = false) (_ : o.isWalk = false) : Kq n₀ Bn W (W.putObj l o') :=
  ⟨belowK_b hn W l o o' hl h (by assumption) (by assumption), (grownBy_putObj' W l o').block Bn (by have := (Array.getElem?_eq_some_iff.1 h).1; omega) (fun e => by cases e; omega)⟩
theorem box_same {Bn : Nat} {W W' : World} {v : Value} {T : TypeId} (hb : Boxed W Bn T v) (h : W'.heap[Bn]? = W.heap[Bn]?) : W'.cell? ⟨Bn, 0, none⟩ = some v := by
  have : Boxed W' Bn T v := h.trans hb
  exact this.cell
end Go.Proofs.YtdgcdemihalefaaGreatDoor

/-
  path's word: the word that a text begins with.
-/
namespace Go.Proofs.YtdgcdemihalefaaGreatDoor
open Go.RowKit Np Rw Vp Pw

set_option maxHeartbeats 1000000 in
theorem pletter_any (c : UInt8) (w : World) : Calls Tryz.prog 247 #[.int .u8 c.toNat] w fun e w' => e = .returned (.bool (isL c)) ∧ w' = w := by
  have h0 : c.toNat < 256 := c.toNat_lt
  have HL : Hid (isL c = (decide (97 ≤ c.toNat ∧ c.toNat ≤ 122) || decide (65 ≤ c.toNat ∧ c.toNat ≤ 90) || decide (c.toNat = 95))) := Lib.hid rfl
  generalize isL c = b at *
  generalize c.toNat = n at *
  by_cases h1 : 97 ≤ n
  · by_cases h2 : n ≤ 122
    · have HR : Hid (b = true) := Lib.hid (by rw [HL.out]; simp; omega)
      go_enter Tryz.func247, Tryz.ntmps247
      go_wp2_with fail
      go_ret
      exact ⟨ret_bool HR.out.symm, rfl⟩
    · have HR : Hid (b = false) := Lib.hid (by rw [HL.out]; simp; omega)
      go_enter Tryz.func247, Tryz.ntmps247
      go_wp2_with fail
      all_goals go_ret
      all_goals exact ⟨ret_bool (by rw [HR.out]; simp; omega), rfl⟩
  · by_cases h3 : 65 ≤ n
    · by_cases h4 : n ≤ 90
      · have HR : Hid (b = true) := Lib.hid (by rw [HL.out]; simp; omega)
        go_enter Tryz.func247, Tryz.ntmps247
        go_wp2_with fail
        go_ret
        exact ⟨ret_bool HR.out.symm, rfl⟩
      · have HR : Hid (b = decide (n = 95)) := Lib.hid (by rw [HL.out, Bool.eq_iff_iff]; simp; omega)
        go_enter Tryz.func247, Tryz.ntmps247
        go_wp2_with fail
        all_goals go_ret
        all_goals exact ⟨ret_bool (by rw [HR.out, Bool.eq_iff_iff]; simp; omega), rfl⟩
    · have HR : Hid (b = false) := Lib.hid (by rw [HL.out]; simp; omega)
      go_enter Tryz.func247, Tryz.ntmps247
      go_wp2_with fail
      all_goals go_ret
      all_goals exact ⟨ret_bool (by rw [HR.out]; simp; omega), rfl⟩
set_option maxHeartbeats 1000000 in
theorem pfigure_any (c : UInt8) (w : World) : Calls Tryz.prog 248 #[.int .u8 c.toNat] w fun e w' => e = .returned (.bool (isF c)) ∧ w' = w := by
  have h0 : c.toNat < 256 := c.toNat_lt
  have HL : Hid (isF c = decide (48 ≤ c.toNat ∧ c.toNat ≤ 57)) := Lib.hid rfl
  generalize isF c = b at *
  generalize c.toNat = n at *
  by_cases h1 : 48 ≤ n
  · go_enter Tryz.func248, Tryz.ntmps248
    go_wp2_with fail
    all_goals go_ret
    all_goals exact ⟨ret_bool (by rw [HL.out, Bool.eq_iff_iff]; simp; omega), rfl⟩
  · go_enter Tryz.func248, Tryz.ntmps248
    go_wp2_with fail
    all_goals go_ret
    all_goals exact ⟨ret_bool (by rw [HL.out, Bool.eq_iff_iff]; simp; omega), rfl⟩

set_option maxRecDepth 100000 in
set_option maxHeartbeats 2000000 in
theorem word_any (s : ByteArray) (w : World) (hs : s.size ≤ maxLen) : Calls Tryz.prog 213 #[.string s] w fun e w' => e = .returned (.string ⟨(wrd s.data.toList).toArray⟩) ∧ w' = w := by
  unfold maxLen at hs
  have HX : Hid (∀ k, (h : k < s.size) → okAt s.data.toList k = (isL s[k] || (decide (0 < k) && isF s[k]))) := Lib.hid fun k h => by
    have : s.data.toList[k]? = some s[k] := by
      rw [List.getElem?_eq_getElem (by rw [size_toList]; exact h)]; rfl
    rw [okAt, this]
  have HEND : Hid (∀ k, k ≤ s.size → (∀ j, j < k → okAt s.data.toList j = true) → okAt s.data.toList k = false → s.extract 0 k = ⟨(wrd s.data.toList).toArray⟩) := Lib.hid fun k hk h0 h1 => by
    rw [wrd_of (by rw [size_toList]; exact hk) h0 h1]
    have h := Lib.extract_toList s 0 k
    rw [ByteArray.toList_eq, List.drop_zero, Nat.sub_zero] at h
    rw [← h]
  go_enter Tryz.func213, Tryz.ntmps213
  go_wp2_with fail
  go_loopw [3] (fun av wr => ∃ k : Nat, k ≤ s.size ∧ av = .int .i64 k ∧ Hid (∀ j, j < k → okAt s.data.toList j = true) ∧ wr = w) (fun av _ => s.size - (intOf av).toNat)
  case atStart => exact ⟨0, Nat.zero_le _, rfl, Lib.hid (by intro j hj; omega), rfl⟩
  case round =>
    obtain ⟨k, hk, rfl, HA, rfl⟩ := hrel
    by_cases hlt : k < s.size
    · have HO := Lib.hid (HX.out k hlt)
      go_wp2_with fail
      refine (pletter_any s[k] _).mono ?_
      rintro e w1 ⟨rfl, rfl⟩
      cases hL : isL s[k] with
      | true =>
        have HA2 : Hid (∀ j, j < k + 1 → okAt s.data.toList j = true) := Lib.hid fun j hj => by
          by_cases hjk : j < k
          · exact HA.out j hjk
          · obtain rfl : j = k := by omega
            rw [HO.out, hL]; rfl
        clear hL
        go_wp2_with fail
        go_roundw
        case rel => exact ⟨k + 1, by omega, by go_num, HA2, by first | trivial | rfl⟩
        case measure => simp [intOf]; omega
      | false =>
        by_cases h0 : 0 < k
        · have h0' : (k : Int) > 0 := by omega
          go_wp2_with fail
          refine (pfigure_any s[k] _).mono ?_
          rintro e w1 ⟨rfl, rfl⟩
          cases hF : isF s[k] with
          | true =>
            have HA2 : Hid (∀ j, j < k + 1 → okAt s.data.toList j = true) := Lib.hid fun j hj => by
              by_cases hjk : j < k
              · exact HA.out j hjk
              · obtain rfl : j = k := by omega
                rw [HO.out, hL, hF]; simp [h0]
            clear hL hF
            go_wp2_with fail
            go_roundw
            case rel => exact ⟨k + 1, by omega, by go_num, HA2, by first | trivial | rfl⟩
            case measure => simp [intOf]; omega
          | false =>
            have HE := Lib.hid (HEND.out k hk HA.out (by rw [HO.out, hL, hF]; simp))
            clear hL hF
            go_wp2_with fail
            go_ret
            exact ⟨ret_str HE.out, rfl⟩
        · have HE := Lib.hid (HEND.out k hk HA.out (by rw [HO.out, hL]; simp [h0]))
          clear hL
          go_wp2_with fail
          go_ret
          exact ⟨ret_str HE.out, rfl⟩
    · obtain rfl : k = s.size := by omega
      have HE := Lib.hid (HEND.out s.size hk HA.out (by
        rw [okAt, List.getElem?_eq_none (by rw [size_toList]; omega)]))
      go_wp2_with fail
      go_ret
      exact ⟨ret_str (by have := HE.out; simpa using this), rfl⟩
end Go.Proofs.YtdgcdemihalefaaGreatDoor
