/-
  Joined: Build, QQuote, QuoP2, TxP2.
-/
import Derived.Shelf.Strings.BuilderK
import Derived.Shelf.Strings.BuilderRune
import Derived.Test.YtafbojiojeemoaaGreatDoorProg
import Derived.Test.YtafbojiojeemoaaGreatDoorQEsc2
import Derived.Test.YtafbojiojeemoaaGreatDoorTextCutJ2
import Derived.Test.YtafbojiojeemoaaGreatDoorTextCutJ1

/-
  Contracts of strings.Builder's writers, at this translation.
-/
namespace Go.Proofs
open Go.Shelf
def Tryz.bld_ren : Go.Shelf.Ren := ⟨fun | 166 => 49 | 167 => 48 | 168 => 104 | 240 => 86 | 242 => 148 | 276 => 121 | 278 => 174 | n => n, fun | 0 => 0 | 3 => 3 | 4 => 4 | 5 => 5 | 9 => 9 | 20 => 20 | 21 => 21 | 37 => 63 | 46 => 146 | 51 => 187 | 70 => 62 | 72 => 65 | 75 => 84 | 80 => 69 | 164 => 147 | n => n, fun | n => n⟩
theorem Tryz.bld166 : Go.Proofs.Lays.n166 Tryz.prog Tryz.bld_ren := {
  mixed := by kernel_rfl
  f166 := Tryz.func49.trans (congrArg some (by kernel_rfl))
  f240 := Tryz.func86.trans (congrArg some (by kernel_rfl))
  f276 := Tryz.func121.trans (congrArg some (by kernel_rfl))
  t0 := Tryz.underlying0
  a0 := Tryz.isAgg0
  z0 := Tryz.sizeOf0
  v0 := Tryz.zeroValue0
  t3 := Tryz.underlying3
  a3 := Tryz.isAgg3
  z3 := Tryz.sizeOf3
  v3 := Tryz.zeroValue3
  t4 := Tryz.underlying4
  a4 := Tryz.isAgg4
  z4 := Tryz.sizeOf4
  v4 := Tryz.zeroValue4
  t20 := Tryz.underlying20
  a20 := Tryz.isAgg20
  z20 := Tryz.sizeOf20
  v20 := Tryz.zeroValue20
  t9 := Tryz.underlying9
  a9 := Tryz.isAgg9
  z9 := Tryz.sizeOf9
  v9 := Tryz.zeroValue9
  t37 := Tryz.underlying63
  a37 := Tryz.isAgg63
  z37 := Tryz.sizeOf63
  v37 := Tryz.zeroValue63
  t70 := Tryz.underlying62
  a70 := Tryz.isAgg62
  z70 := Tryz.sizeOf62
  v70 := Tryz.zeroValue62
  t72 := Tryz.underlying65
  a72 := Tryz.isAgg65
  z72 := Tryz.sizeOf65
  v72 := Tryz.zeroValue65
  t75 := Tryz.underlying84
  a75 := Tryz.isAgg84
  z75 := Tryz.sizeOf84
  v75 := Tryz.zeroValue84
  t164 := Tryz.underlying147
  a164 := Tryz.isAgg147
  z164 := Tryz.sizeOf147
  v164 := Tryz.zeroValue147 }
theorem Tryz.bld167 : Go.Proofs.Lays.n167 Tryz.prog Tryz.bld_ren := {
  mixed := by kernel_rfl
  f167 := Tryz.func48.trans (congrArg some (by kernel_rfl))
  f240 := Tryz.func86.trans (congrArg some (by kernel_rfl))
  f276 := Tryz.func121.trans (congrArg some (by kernel_rfl))
  t0 := Tryz.underlying0
  a0 := Tryz.isAgg0
  z0 := Tryz.sizeOf0
  v0 := Tryz.zeroValue0
  t4 := Tryz.underlying4
  a4 := Tryz.isAgg4
  z4 := Tryz.sizeOf4
  v4 := Tryz.zeroValue4
  t5 := Tryz.underlying5
  a5 := Tryz.isAgg5
  z5 := Tryz.sizeOf5
  v5 := Tryz.zeroValue5
  t9 := Tryz.underlying9
  a9 := Tryz.isAgg9
  z9 := Tryz.sizeOf9
  v9 := Tryz.zeroValue9
  t20 := Tryz.underlying20
  a20 := Tryz.isAgg20
  z20 := Tryz.sizeOf20
  v20 := Tryz.zeroValue20
  t37 := Tryz.underlying63
  a37 := Tryz.isAgg63
  z37 := Tryz.sizeOf63
  v37 := Tryz.zeroValue63
  t70 := Tryz.underlying62
  a70 := Tryz.isAgg62
  z70 := Tryz.sizeOf62
  v70 := Tryz.zeroValue62
  t72 := Tryz.underlying65
  a72 := Tryz.isAgg65
  z72 := Tryz.sizeOf65
  v72 := Tryz.zeroValue65
  t75 := Tryz.underlying84
  a75 := Tryz.isAgg84
  z75 := Tryz.sizeOf84
  v75 := Tryz.zeroValue84
  t164 := Tryz.underlying147
  a164 := Tryz.isAgg147
  z164 := Tryz.sizeOf147
  v164 := Tryz.zeroValue147 }
theorem Tryz.bld168 : Go.Proofs.Lays.n168 Tryz.prog Tryz.bld_ren := {
  mixed := by kernel_rfl
  f168 := Tryz.func104.trans (congrArg some (by kernel_rfl))
  f240 := Tryz.func86.trans (congrArg some (by kernel_rfl))
  f242 := Tryz.func148.trans (congrArg some (by kernel_rfl))
  f276 := Tryz.func121.trans (congrArg some (by kernel_rfl))
  f278 := Tryz.func174.trans (congrArg some (by kernel_rfl))
  t0 := Tryz.underlying0
  a0 := Tryz.isAgg0
  z0 := Tryz.sizeOf0
  v0 := Tryz.zeroValue0
  t3 := Tryz.underlying3
  a3 := Tryz.isAgg3
  z3 := Tryz.sizeOf3
  v3 := Tryz.zeroValue3
  t4 := Tryz.underlying4
  a4 := Tryz.isAgg4
  z4 := Tryz.sizeOf4
  v4 := Tryz.zeroValue4
  t5 := Tryz.underlying5
  a5 := Tryz.isAgg5
  z5 := Tryz.sizeOf5
  v5 := Tryz.zeroValue5
  t9 := Tryz.underlying9
  a9 := Tryz.isAgg9
  z9 := Tryz.sizeOf9
  v9 := Tryz.zeroValue9
  t20 := Tryz.underlying20
  a20 := Tryz.isAgg20
  z20 := Tryz.sizeOf20
  v20 := Tryz.zeroValue20
  t21 := Tryz.underlying21
  a21 := Tryz.isAgg21
  z21 := Tryz.sizeOf21
  v21 := Tryz.zeroValue21
  t37 := Tryz.underlying63
  a37 := Tryz.isAgg63
  z37 := Tryz.sizeOf63
  v37 := Tryz.zeroValue63
  t46 := Tryz.underlying146
  a46 := Tryz.isAgg146
  z46 := Tryz.sizeOf146
  v46 := Tryz.zeroValue146
  t51 := Tryz.underlying187
  a51 := Tryz.isAgg187
  z51 := Tryz.sizeOf187
  v51 := Tryz.zeroValue187
  t70 := Tryz.underlying62
  a70 := Tryz.isAgg62
  z70 := Tryz.sizeOf62
  v70 := Tryz.zeroValue62
  t72 := Tryz.underlying65
  a72 := Tryz.isAgg65
  z72 := Tryz.sizeOf65
  v72 := Tryz.zeroValue65
  t75 := Tryz.underlying84
  a75 := Tryz.isAgg84
  z75 := Tryz.sizeOf84
  v75 := Tryz.zeroValue84
  t164 := Tryz.underlying147
  a164 := Tryz.isAgg147
  z164 := Tryz.sizeOf147
  v164 := Tryz.zeroValue147 }
theorem Tryz.bldExtra : Builder.Extra Tryz.prog Tryz.bld_ren := {
  sizeBuilder := by kernel_rfl
  liesBuilder := by kernel_rfl
  t5 := Tryz.underlying5
  a5 := Tryz.isAgg5
  z5 := Tryz.sizeOf5
  v5 := Tryz.zeroValue5
  infoByte := by kernel_rfl
  cellsByte := by kernel_rfl
  sizeByte := by kernel_rfl
  neB5 := by decide }
open Go.RowKit in
theorem Tryz.writeByte (B b : Nat) (bs : List Value) (c : Int) (w : World) (h : Lib.IsBuilderF 65 5 B b bs w) (hlen : bs.length + 1 ≤ 140737488355328) (hBw : B ≤ w.heap.size) :
    Calls Tryz.prog 48 #[.pointer (some ⟨b, 0, none⟩), .int .u8 c] w fun e w' => e = .returned .nilIface ∧ (Lib.BuilderAtF 65 5 B b (.pointer (some ⟨b, 0, none⟩)) (bs ++ [.int .u8 c]) w' ∧ Below B w w' ∧ Lib.OthersKept 5 (some b) w w') := Any.Builder_WriteByte_k Tryz.bld167 Tryz.bldExtra B b bs c w h hlen hBw
open Go.RowKit in
theorem Tryz.writeString (B b : Nat) (bs : List Value) (s : ByteArray) (w : World) (h : Lib.IsBuilderF 65 5 B b bs w) (hlen : bs.length + s.size ≤ 140737488355328) (hBw : B ≤ w.heap.size) :
    Calls Tryz.prog 49 #[.pointer (some ⟨b, 0, none⟩), .string s] w fun e w' => e = .returned (.tuple #[.int .i64 s.size, .nilIface]) ∧ (Lib.BuilderAtF 65 5 B b (.pointer (some ⟨b, 0, none⟩)) (bs ++ Lib.strCells s) w' ∧ Below B w w' ∧ Lib.OthersKept 5 (some b) w w') := Any.Builder_WriteString_k Tryz.bld166 Tryz.bldExtra B b bs s w h hlen hBw
open Go.RowKit in
theorem Tryz.writeRune (B b : Nat) (bs : List Value) (r : Int) (hr0 : -2147483648 ≤ r) (hr1 : r ≤ 2147483647) (w : World) (h : Lib.IsBuilderF 65 5 B b bs w) (hlen : bs.length + 4 ≤ 140737488355328) (hBw : B ≤ w.heap.size) :
    Calls Tryz.prog 104 #[.pointer (some ⟨b, 0, none⟩), .int .i32 r] w fun e w' => e = .returned (.tuple #[.int .i64 (Lib.runeCells r).length, .nilIface]) ∧ (Lib.BuilderAtF 65 5 B b (.pointer (some ⟨b, 0, none⟩)) (bs ++ Lib.runeCells r) w' ∧ Below B w w' ∧ Lib.OthersKept 5 (some b) w w') := Any.Builder_WriteRune_k Tryz.bld168 Tryz.bldExtra B b bs r hr0 hr1 w h hlen hBw
end Go.Proofs

/-
  What quote's Quote is.
-/
namespace Go.Proofs.YtafbojiojeemoaaGreatDoor
open Go.RowKit Go.Maps Np Up Qp

abbrev IsB (B b : Nat) (l : List UInt8) (w : World) : Prop := Lib.IsBuilderF 65 5 B b (Lib.byteCells l) w

theorem dec_low {l : List UInt8} (h : bt l 0 < 128) : Lib.decodeL l = (bt l 0, 1) := by rw [decode_eq, if_pos h]
theorem dec_high {l : List UInt8} (hl : l ≠ []) (h : 128 ≤ bt l 0) : 128 ≤ (Lib.decodeL l).1 ∧ ∀ j, j < (Lib.decodeL l).2 → 128 ≤ bt l j := by
  refine ⟨?_, fun j hj => ?_⟩
  · have hp : 0 < (ByteArray.mk l.toArray).size := by rw [mk_size]; exact List.length_pos_iff.2 hl
    have h1 := (decode_high ⟨l.toArray⟩ 0 hp (by have := bt_at ⟨l.toArray⟩ 0 hp; rw [mk_data] at this; omega)).1
    exact h1
  · rcases decode_rune l with ⟨h0, h1⟩ | ⟨h0, h1, _⟩
    · rw [h1] at hj
      rw [show j = 0 by simp at hj; exact hj]
      exact h
    · rw [h1] at hj
      exact runeN_high h j hj
theorem wrs_append (a b : List UInt8) : wrs (a ++ b) = wrs a ++ wrs b := by simp [wrs]
theorem wrs_high : ∀ {l : List UInt8}, (∀ c ∈ l, 128 ≤ c.toNat) → wrs l = l
  | [], _ => rfl
  | c :: r, h => by
    have e : wrs (c :: r) = wr c ++ wrs r := by simp [wrs]
    rw [e, wrs_high (fun x hx => h x (by simp [hx])), wr_plain (by have := h c (by simp); omega) (by have := h c (by simp); omega) (by have := h c (by simp); omega)]
    rfl
theorem take_high {l : List UInt8} {n : Nat} (h : ∀ j, j < n → 128 ≤ bt l j) : ∀ c ∈ l.take n, 128 ≤ c.toNat := by
  intro c hc
  obtain ⟨j, hj, rfl⟩ := List.getElem_of_mem hc
  rw [List.length_take] at hj
  have := h j (by omega)
  rw [bt, List.getD_eq_getElem?_getD, List.getElem?_eq_getElem (by omega)] at this
  simpa using this
/-- The letters that Quote asks for. -/
def qF : Int → Option Int := era letF 47
theorem qF_some {c : UInt8} {v : Int} (h : qF c.toNat = some v) : 0 ≤ v ∧ v ≤ 127 ∧ wr c = [92, v.toNat.toUInt8] := by
  unfold qF era letF at h
  unfold wr
  repeat' split at h
  all_goals (first | (cases h; done) | (injection h with h; subst h; refine ⟨by omega, by omega, ?_⟩))
  all_goals (first
    | (rw [if_pos (by omega)]; rfl)
    | (rw [if_neg (by omega), if_pos (by omega)]; rfl)
    | (rw [if_neg (by omega), if_neg (by omega), if_pos (by omega)]; rfl)
    | (rw [if_neg (by omega), if_neg (by omega), if_neg (by omega), if_pos (by omega)]; rfl)
    | (rw [if_neg (by omega), if_neg (by omega), if_neg (by omega), if_neg (by omega), if_pos (by omega)]; rfl)
    | (rw [if_neg (by omega), if_neg (by omega), if_neg (by omega), if_neg (by omega), if_neg (by omega), if_pos (by omega)]; rfl)
    | (rw [if_neg (by omega), if_neg (by omega), if_neg (by omega), if_neg (by omega), if_neg (by omega), if_neg (by omega), if_pos (by omega)]; rfl))
theorem qF_none {c : Nat} (h : qF c = none) : c ≠ 34 ∧ c ≠ 92 ∧ c ≠ 8 ∧ c ≠ 12 ∧ c ≠ 10 ∧ c ≠ 13 ∧ c ≠ 9 := by
  refine ⟨?_, ?_, ?_, ?_, ?_, ?_, ?_⟩ <;> (rintro rfl; revert h; decide)
theorem qF_high {r : Int} (h : 128 ≤ r) : qF r = none := by
  unfold qF era letF
  repeat' split
  all_goals first | rfl | omega
theorem wr_low {c : UInt8} (h : qF c.toNat = none) (hl : c.toNat < 32) : wr c = [92, 117, 48, 48, hx (c.toNat / 16), hx (c.toNat % 16)] := by
  obtain ⟨h0, h1, h2, h3, h4, h5, h6⟩ := qF_none h
  unfold wr
  rw [if_neg h0, if_neg h1, if_neg h2, if_neg h3, if_neg h4, if_neg h5, if_neg h6, if_pos hl]
/-- Where Quote stands: what has been written, and what is still to be written as it is. -/
def Qi (l out : List UInt8) (frm pos : Nat) : Prop := frm ≤ pos ∧ out = 34 :: wrs (l.take frm) ∧ wrs ((l.drop frm).take (pos - frm)) = (l.drop frm).take (pos - frm)
theorem cut_take (l : List UInt8) {a b : Nat} (h : a ≤ b) : l.take b = l.take a ++ (l.drop a).take (b - a) := by
  rw [← List.take_add]; congr 1; omega
theorem Qi.more {l out : List UInt8} {frm pos n : Nat} (h : Qi l out frm pos) (hn : wrs ((l.drop pos).take n) = (l.drop pos).take n) : Qi l out frm (pos + n) := by
  obtain ⟨h1, h2, h3⟩ := h
  refine ⟨by omega, h2, ?_⟩
  have e : (l.drop frm).take (pos + n - frm) = (l.drop frm).take (pos - frm) ++ (l.drop pos).take n := by
    rw [show pos + n - frm = (pos - frm) + n by omega, List.take_add, List.drop_drop, show frm + (pos - frm) = pos by omega]
  rw [e, wrs_append, h3, hn]
theorem Qi.esc {l out : List UInt8} {frm pos : Nat} (h : Qi l out frm pos) (hp : pos < l.length) : Qi l (out ++ (l.drop frm).take (pos - frm) ++ wr l[pos]) (pos + 1) (pos + 1) := by
  obtain ⟨h1, h2, h3⟩ := h
  refine ⟨Nat.le_refl _, ?_, by rw [Nat.sub_self]; rfl⟩
  rw [List.take_succ_eq_append_getElem hp, wrs_append, cut_take l h1, wrs_append, h3, h2]
  simp [wrs]
theorem Qi.done {l out : List UInt8} {frm pos : Nat} (h : Qi l out frm pos) (hp : l.length ≤ pos) : out ++ l.drop frm ++ [34] = quo l := by
  obtain ⟨h1, h2, h3⟩ := h
  have e : (l.drop frm).take (pos - frm) = l.drop frm := List.take_of_length_le (by rw [List.length_drop]; omega)
  rw [e] at h3
  have e2 : wrs l = wrs (l.take frm) ++ l.drop frm := by
    conv => lhs; rw [← List.take_append_drop frm l]
    rw [wrs_append, h3]
  rw [quo, e2, h2]
  simp
theorem Qi.len {l out : List UInt8} {frm pos : Nat} (h : Qi l out frm pos) : out.length ≤ 1 + 6 * frm := by
  rw [h.2.1, List.length_cons]
  have := (wrs_len (l.take frm)).2
  rw [List.length_take] at this
  omega

/-- A builder stays one where all that lay stays. -/
theorem BuilderAtF_kept {T e : TypeId} {B b : Nat} {p : Value} {bs : List Value} {w w' : World} (h : Lib.BuilderAtF T e B b p bs w) (hb : Below w.heap.size w w') : Lib.BuilderAtF T e B b p bs w' := by
  obtain ⟨hB, v, hbk, hown, hne⟩ := h
  have hlt : ∀ {k : Nat} {o : Obj}, w.heap[k]? = some o → w'.heap[k]? = some o := by
    intro k o hk
    exact (hb.block k (Array.getElem?_eq_some_iff.1 hk).1).trans hk
  refine ⟨hB, v, hlt hbk, ⟨hown.1, ?_⟩, hne⟩
  rcases hown.2 with hn | ⟨g, cap, cur, fz, hv, hbg, hg, rest⟩
  · exact .inl hn
  · exact .inr ⟨g, cap, cur, fz, hv, hbg, hlt hg, rest⟩
theorem IsB_kept {B b : Nat} {l : List UInt8} {w w' : World} (h : IsB B b l w) (hb : Below w.heap.size w w') : IsB B b l w' :=
  h.elim (fun x => .inl (BuilderAtF_kept x hb)) (fun x => .inr (BuilderAtF_kept x hb))
theorem iter_kept {k : Nat} {s : ByteArray} {pos : Nat} {w w' : World} (h : w.heap[k]? = some (.stringIter s pos)) (hb : Below w.heap.size w w') : w'.heap[k]? = some (.stringIter s pos) :=
  (hb.block k (Array.getElem?_eq_some_iff.1 h).1).trans h
theorem IsB_lt {B b : Nat} {l : List UInt8} {w : World} (h : IsB B b l w) : b < w.heap.size := by
  rcases h with ⟨_, v, hbk, _⟩ | ⟨_, v, hbk, _⟩ <;> exact (Array.getElem?_eq_some_iff.1 hbk).1

theorem ext_cells (s : ByteArray) (i j : Nat) : Lib.strCells (s.extract i j) = Lib.byteCells ((s.data.toList.drop i).take (j - i)) := by
  have h := Lib.extract_toList s i j
  rw [ByteArray.toList_eq] at h
  rw [Lib.strCells_eq, h]
theorem byteCells_one (n : Nat) (h : n < 256) : Lib.byteCells [n.toUInt8] = [.int .u8 n] := by
  simp [Lib.byteCells, Nat.mod_eq_of_lt h]
theorem rune_cells {v : Int} (h0 : 0 ≤ v) (h1 : v ≤ 127) : Lib.runeCells v = Lib.byteCells [v.toNat.toUInt8] := by
  rw [byteCells_one _ (by omega), Lib.runeCells, Lib.encodeRuneZ_one h0 h1]
  simp [Int.toNat_of_nonneg h0]

set_option maxRecDepth 100000 in
set_option maxHeartbeats 8000000 in
theorem quote_any (s : ByteArray) (w : World) (hs : s.size ≤ 1073741824) :
    Calls Tryz.prog 69 #[.string s] w fun e w' => e = .returned (.string ⟨(quo s.data.toList).toArray⟩) ∧ Below w.heap.size w w' := by
  go_enter Tryz.func69, Tryz.ntmps69
  go_wp2_with fail
  refine (letters_any _).mono ?_
  rintro e w1 ⟨rfl, ⟨D0, hM, hV⟩, hb1⟩
  go_wp2_with (at_delete; refine wpList_delete_own _ rfl _ _ 124 21 rfl 21 lawI Tryz.underlying124 _ w.heap.size 8 D0 rfl hM _ _ rfl (keyOf_int_mk Tryz.underlying21 (by decide)) ?_; intro w2 hM2 hturn)
  have hb2 : Below w.heap.size w w2 := hb1.grown hturn.grown hb1.size (fun j hj => by cases hj; exact Nat.le_refl _)
  have hV2 : Vw (D0.del (key 47)) qF := hV.del 47
  have hmb := hM2.lt
  clear hV hM hb1 hturn
  generalize D0.del (key 47) = D at hM2 hV2
  have hwb := hb2.size
  generalize hm : w.heap.size = m at *
  generalize hbk : w2.heap.size = b at *
  have hMB : ∀ W, Below b w2 W → W.ownsMap Tryz.prog 21 (plainElem Tryz.prog 21) m 8 D := by
    intro W hW
    obtain ⟨es, clock, h1, h2⟩ := hM2
    exact ⟨es, clock, (hW.block m hmb).trans h1, h2⟩
  have hfresh : IsB b b [] (w2.alloc (.cells #[.pointer none, .slice none 0 0] 65)) := by
    have := Lib.IsBuilderF.of (Lib.fresh_isBuilder 65 5 w2)
    rw [hbk] at this
    exact this
  have hba : Below b w2 (w2.alloc (.cells #[.pointer none, .slice none 0 0] 65)) := (Below.refl _ _).alloc (by omega) _
  refine (Tryz.writeByte b b _ 34 _ hfresh (by rw [Lib.byteCells_length]; decide) (by simp; omega)).mono ?_
  rintro e w3 ⟨rfl, hq1, hb3, hk3⟩
  have hI3 : IsB b b [34] w3 := .inr hq1
  have hB3 : Below b w2 w3 := hba.trans hb3
  have hs3 : b < w3.heap.size := by have := hb3.size; simp at this; omega
  clear hq1 hb3 hk3 hba hfresh
  go_wp2
  generalize hK : w3.heap.size = K at *
  go_loopw [5] (fun u wr => ∃ (frm pos : Nat) (out : List UInt8), u = .int .i64 frm ∧ IsB b b out wr ∧ wr.heap[K]? = some (.stringIter s pos) ∧ Below b w2 wr ∧ pos ≤ s.size ∧ frm ≤ pos ∧ out.length ≤ 1 + 6 * frm ∧ Hid (Qi s.data.toList out frm pos)) (fun _ wr => s.size - wr.iterPos K)
  case atStart =>
    refine ⟨0, 0, [34], rfl, hI3.alloc _, ?_, hB3.alloc (by omega) _, by omega, by omega, by simp, Lib.hid ⟨by omega, rfl, rfl⟩⟩
    have := World.iter_heap w3 s 0
    rw [hK] at this
    simpa using this
  case round =>
    obtain ⟨frm, pos, out, rfl, hI, hit, hbw, hpl, hfp, hol, HQ⟩ := hrel
    have hIlt := IsB_lt hI
    by_cases hp : pos < s.size
    · have hnx : ∀ ty, (Instr.next (.pointer (some ⟨K, 0, none⟩)) true ty).run Tryz.prog wr = _ := fun ty => Lib.run_next_any_at wr K s pos ty hit hp
      have hne := drop_ne s pos hp
      have hbp : bt (s.data.toList.drop pos) 0 = s[pos].toNat := by
        have := bt_at' s pos 0 (by omega); simpa using this
      by_cases hlo : s[pos].toNat < 128
      · have hdl := dec_low (l := s.data.toList.drop pos) (by omega)
        rw [hbp] at hdl
        rw [dec_at, hdl] at hnx
        simp only at hnx
        have hI2 := hI.iterAt hit (pos + 1)
        have hit2 := Lib.iterAt_heap wr K s pos (pos + 1) hit
        have hbw2 := Lib.below_iterAt hbw (k := K) (by omega) s (pos + 1)
        have hsz2 : b ≤ (wr.iterAt K s (pos + 1)).heap.size := by rw [Lib.iterAt_size]; omega
        have hM3 := hMB _ hbw2
        have hwf : (Lit.int .i32 (s[pos].toNat : Int)).wf = true := i32_wf (by omega) (by omega)
        have hhas := (hV2.2 (s[pos].toNat : Int)).1
        have hgp : s.data.toList[pos]'(by rw [size_toList]; exact hp) = s[pos] := rfl
        clear hne hbp hdl
        cases hq : qF (s[pos].toNat : Int) with
        | some v =>
          obtain ⟨v0, v1, hwr⟩ := qF_some hq
          rw [hq] at hhas
          have HH : Hid (has D (key (s[pos].toNat : Int)) = true) := Lib.hid hhas
          have HV := Lib.hid hV2
          have HBL := Lib.hid hq
          have HN : Hid (Qi s.data.toList (out ++ (s.data.toList.drop frm).take (pos - frm) ++ [92, v.toNat.toUInt8]) (pos + 1) (pos + 1)) := Lib.hid (by
            have := HQ.out.esc (by rw [size_toList]; exact hp)
            rw [hgp, hwr] at this
            exact this)
          have hln := HN.out.len
          clear hhas hq hwr HQ hgp
          go_wp2_with ((at_lookup; refine wpList_lookup_own_ok_int _ rfl _ _ 124 rfl 21 21 .i32 lawI Tryz.underlying124 Tryz.underlying21 (zeroI _) m 8 D rfl hM3 _ _ rfl (keyOf_int_mk Tryz.underlying21 hwf) ?_; intro c hat hwc; rw [HH.out]; obtain rfl := (HV.out.hit HBL.out hat).symm; clear hat hwc))
          refine (Tryz.writeString b b _ _ _ hI2 (by rw [Lib.byteCells_length, ByteArray.size_extract]; omega) hsz2).mono ?_
          rintro e w4 ⟨rfl, h4, b4, k4⟩
          rw [ext_cells, ← Lib.byteCells_append] at h4
          have hsz4 := Nat.le_trans hsz2 b4.size
          have hit4 := k4.iter hit2 (by omega)
          clear k4
          go_wp2_with fail
          refine (Tryz.writeByte b b _ 92 _ (.inr h4) (by rw [Lib.byteCells_length, List.length_append, List.length_take]; omega) hsz4).mono ?_
          rintro e w5 ⟨rfl, h5, b5, k5⟩
          have hsz5 := Nat.le_trans hsz4 b5.size
          have hit5 := k5.iter hit4 (by omega)
          rw [show ([.int .u8 92] : List Value) = Lib.byteCells [92] from rfl, ← Lib.byteCells_append] at h5
          clear k5
          go_wp2_with fail
          refine (Tryz.writeRune b b _ _ (by omega) (by omega) _ (.inr h5) (by rw [Lib.byteCells_length, List.length_append, List.length_append, List.length_take, List.length_singleton]; omega) hsz5).mono ?_
          rintro e w6 ⟨rfl, h6, b6, k6⟩
          have hit6 := k6.iter hit5 (by omega)
          rw [rune_cells v0 v1, ← Lib.byteCells_append] at h6
          clear k6
          go_wp2_with fail
          go_roundw
          case rel =>
            refine ⟨pos + 1, pos + 1, _, by go_num, .inr ?_, hit6, ((hbw2.trans b4).trans b5).trans b6, by omega, Nat.le_refl _, hln, HN⟩
            have e : out ++ (s.data.toList.drop frm).take (pos - frm) ++ [92, v.toNat.toUInt8] = out ++ (s.data.toList.drop frm).take (pos - frm) ++ [92] ++ [v.toNat.toUInt8] := by simp
            rw [e]
            exact h6
          case measure =>
            simp only [World.iterPos, hit6, hit]
            omega
        | none =>
          rw [hq] at hhas
          have HH : Hid (has D (key (s[pos].toNat : Int)) = false) := Lib.hid hhas
          by_cases h32 : s[pos].toNat < 32
          · have hwr := wr_low hq h32
            have HN : Hid (Qi s.data.toList (out ++ (s.data.toList.drop frm).take (pos - frm) ++ [92, 117, 48, 48, hx (s[pos].toNat / 16), hx (s[pos].toNat % 16)]) (pos + 1) (pos + 1)) := Lib.hid (by
              have := HQ.out.esc (by rw [size_toList]; exact hp)
              rw [hgp, hwr] at this
              exact this)
            have hln := HN.out.len
            clear hhas hq hwr HQ hgp
            go_wp2_with ((at_lookup; refine wpList_lookup_own_ok_int _ rfl _ _ 124 rfl 21 21 .i32 lawI Tryz.underlying124 Tryz.underlying21 (zeroI _) m 8 D rfl hM3 _ _ rfl (keyOf_int_mk Tryz.underlying21 hwf) ?_; intro c hat hwc; rw [HH.out]; clear hat hwc))
            refine (Tryz.writeString b b _ _ _ hI2 (by rw [Lib.byteCells_length, ByteArray.size_extract]; omega) hsz2).mono ?_
            rintro e w4 ⟨rfl, h4, b4, k4⟩
            rw [ext_cells, ← Lib.byteCells_append] at h4
            have hsz4 := Nat.le_trans hsz2 b4.size
            have hit4 := k4.iter hit2 (by omega)
            clear k4
            go_wp2_with fail
            refine (long_any _ _ h32).mono ?_
            rintro e w5 ⟨rfl, b5⟩
            have hI5 := IsB_kept (.inr h4) b5
            have hit5 := iter_kept hit4 b5
            have hb5 := (hbw2.trans b4).trans (b5.mono hsz4)
            have hsz5 := Nat.le_trans hsz4 b5.size
            go_wp2_with fail
            refine (Tryz.writeString b b _ _ _ hI5 (by rw [Lib.byteCells_length, List.length_append, List.length_take, mk_size]; simp; omega) hsz5).mono ?_
            rintro e w6 ⟨rfl, h6, b6, k6⟩
            have hit6 := k6.iter hit5 (by omega)
            rw [Lib.strCells_eq, mk_data, ← Lib.byteCells_append] at h6
            clear k6
            go_wp2_with fail
            go_roundw
            case rel =>
              exact ⟨pos + 1, pos + 1, _, by go_num, .inr h6, hit6, hb5.trans b6, by omega, Nat.le_refl _, hln, HN⟩
            case measure =>
              simp only [World.iterPos, hit6, hit]
              omega
          · have hge : (32 : Int) ≤ (s[pos].toNat : Int) := by omega
            have HN : Hid (Qi s.data.toList out frm (pos + 1)) := Lib.hid (HQ.out.more (by
              rw [List.drop_eq_getElem_cons (by rw [size_toList]; exact hp), hgp]
              obtain ⟨n0, n1, -⟩ := qF_none hq
              show wrs [s[pos]] = [s[pos]]
              simp only [wrs, List.flatMap_cons, List.flatMap_nil, List.append_nil]
              exact wr_plain n0 n1 (by omega)))
            clear hhas hq HQ hgp h32
            go_wp2_with ((at_lookup; refine wpList_lookup_own_ok_int _ rfl _ _ 124 rfl 21 21 .i32 lawI Tryz.underlying124 Tryz.underlying21 (zeroI _) m 8 D rfl hM3 _ _ rfl (keyOf_int_mk Tryz.underlying21 hwf) ?_; intro c hat hwc; rw [HH.out]; clear hat hwc))
            go_roundw
            case rel =>
              exact ⟨frm, pos + 1, out, rfl, hI2, hit2, hbw2, by omega, by omega, hol, HN⟩
            case measure =>
              simp only [World.iterPos, hit2, hit]
              omega
      · have hdh := dec_high hne (by rw [hbp]; omega)
        have hwd := dec_width _ hne
        rw [List.length_drop, size_toList] at hwd
        rw [dec_at] at hnx
        generalize hD : Lib.decodeL (s.data.toList.drop pos) = Dc at hnx hdh hwd
        obtain ⟨r, n⟩ := Dc
        simp only at hnx hdh hwd
        have hrl : r ≤ 1114111 := by have := Lib.decodeL_rune (s.data.toList.drop pos); rw [hD] at this; exact this
        have hI2 := hI.iterAt hit (pos + n)
        have hit2 := Lib.iterAt_heap wr K s pos (pos + n) hit
        have hbw2 := Lib.below_iterAt hbw (k := K) (by omega) s (pos + n)
        have hM3 := hMB _ hbw2
        have hwf : (Lit.int .i32 (r : Int)).wf = true := i32_wf (by omega) (by omega)
        have hhas := (hV2.2 (r : Int)).1
        rw [qF_high (by omega)] at hhas
        have HH : Hid (has D (key (r : Int)) = false) := Lib.hid hhas
        have hge : (32 : Int) ≤ (r : Int) := by omega
        have HN : Hid (Qi s.data.toList out frm (pos + n)) := Lib.hid (HQ.out.more (wrs_high (take_high hdh.2)))
        obtain ⟨hn1, hn2⟩ := hwd
        clear hdh hhas hne hbp hlo hD HQ hrl
        go_wp2_with ((at_lookup; refine wpList_lookup_own_ok_int _ rfl _ _ 124 rfl 21 21 .i32 lawI Tryz.underlying124 Tryz.underlying21 (zeroI _) m 8 D rfl hM3 _ _ rfl (keyOf_int_mk Tryz.underlying21 hwf) ?_; intro c hat hwc; rw [HH.out]; clear hat hwc))
        go_roundw
        case rel =>
          exact ⟨frm, pos + n, out, rfl, hI2, hit2, hbw2, by omega, by omega, hol, HN⟩
        case measure =>
          simp only [World.iterPos, hit2, hit]
          omega
    · have hnx : ∀ ty, (Instr.next (.pointer (some ⟨K, 0, none⟩)) true ty).run Tryz.prog wr = _ := fun ty => Lib.run_next_end_at wr K s pos ty hit hp
      have HN : Hid (out ++ s.data.toList.drop frm ++ [34] = quo s.data.toList) := Lib.hid (HQ.out.done (by rw [size_toList]; omega))
      have hszr : b ≤ wr.heap.size := by omega
      clear HQ
      go_wp2_with fail
      refine (Tryz.writeString b b _ _ _ hI (by rw [Lib.byteCells_length, ByteArray.size_extract]; omega) hszr).mono ?_
      rintro e w4 ⟨rfl, h4, b4, k4⟩
      rw [Lib.strCells_eq, ext_end, ← Lib.byteCells_append] at h4
      have hsz4 := Nat.le_trans hszr b4.size
      clear k4
      go_wp2_with fail
      refine (Tryz.writeByte b b _ 34 _ (.inr h4) (by rw [Lib.byteCells_length, List.length_append, List.length_drop, size_toList]; omega) hsz4).mono ?_
      rintro e w5 ⟨rfl, h5, b5, k5⟩
      have hsz5 := Nat.le_trans hsz4 b5.size
      rw [show ([.int .u8 34] : List Value) = Lib.byteCells [34] from rfl, ← Lib.byteCells_append, HN.out] at h5
      clear k5
      go_wp2_with fail
      refine (Tryz.Builder_String_any_k b b _ _ (.inr h5) hsz5).mono ?_
      rintro e w6 ⟨rfl, _, b6, _⟩
      go_wp2_with fail
      go_ret
      exact ⟨rfl, by rw [hm]; exact hb2.trans ((((hbw.trans b4).trans b5).trans b6).mono hwb)⟩
end Go.Proofs.YtafbojiojeemoaaGreatDoor

/-
  Plain words on strings that are written, further: what is quoted is read as it was; what is read is valid UTF-8, no longer than it was written. No program stands here.
-/
namespace Go.Proofs.YtafbojiojeemoaaGreatDoor
namespace Qp
open Go.RowKit Np Up

theorem validD_nil : Lib.validD [] = true := rfl
theorem valid_append : ∀ (n : Nat) (a b : List UInt8), a.length ≤ n → Lib.validD a = true → Lib.validD (a ++ b) = Lib.validD b
  | 0, a, b, hn, _ => by
    have : a = [] := List.eq_nil_of_length_eq_zero (by omega)
    subst this
    rfl
  | n + 1, a, b, hn, ha => by
    by_cases hl : a = []
    · subst hl; rfl
    have hp : 0 < a.length := List.length_pos_iff.2 hl
    have hs := valid_step a hl
    rw [ha] at hs
    by_cases h0 : runeN a = 0
    · rw [if_pos h0] at hs; cases hs
    rw [if_neg h0] at hs
    have hle := runeN_le a hl
    rw [valid_step (a ++ b) (by simp [hl]), runeN_append b hl h0, if_neg h0, List.drop_append_of_le_length hle]
    exact valid_append n _ b (by rw [List.length_drop]; omega) hs.symm
theorem valid_app {a : List UInt8} (b : List UInt8) (h : Lib.validD a = true) : Lib.validD (a ++ b) = Lib.validD b := valid_append _ a b (Nat.le_refl _) h
theorem valid_take {l : List UInt8} (hl : l ≠ []) (h : runeN l ≠ 0) : Lib.validD (l.take (runeN l)) = true := by
  have hle := runeN_le l hl
  have hne : l.take (runeN l) ≠ [] := by
    intro e
    have := congrArg List.length e
    rw [List.length_take, List.length_nil] at this
    omega
  rw [valid_step _ hne, runeN_take h, if_neg h, List.drop_of_length_le (by rw [List.length_take]; omega)]
  rfl

/-! ### a rune's bytes -/
theorem u8_nat {x : Nat} (h : x < 256) : x.toUInt8.toNat = x := by simp [Nat.mod_eq_of_lt h]
theorem enc_one {n : Nat} (h : n < 128) : Lib.encodeRune (n : Int) = [n.toUInt8] := by
  rw [Lib.encodeRune, Lib.encodeRuneZ_one (by omega) (by omega)]; rfl
theorem enc_two {n : Nat} (h : 128 ≤ n) (h1 : n < 2048) : Lib.encodeRune (n : Int) = [(192 + n / 64).toUInt8, (128 + n % 64).toUInt8] := by
  rw [Lib.encodeRune, Lib.encodeRuneZ_two (by omega) (by omega)]; rfl
theorem enc_three {n : Nat} (h : 2048 ≤ n) (h1 : n < 65536) (hr : n < 55296 ∨ 57344 ≤ n) : Lib.encodeRune (n : Int) = [(224 + n / 4096).toUInt8, (128 + n / 64 % 64).toUInt8, (128 + n % 64).toUInt8] := by
  rw [Lib.encodeRune, Lib.encodeRuneZ_three (by omega)]; rfl
theorem enc_four {n : Nat} (h : 65536 ≤ n) (h1 : n ≤ 1114111) : Lib.encodeRune (n : Int) = [(240 + n / 262144).toUInt8, (128 + n / 4096 % 64).toUInt8, (128 + n / 64 % 64).toUInt8, (128 + n % 64).toUInt8] := by
  rw [Lib.encodeRune, Lib.encodeRuneZ_four (by omega) (by omega)]; rfl
theorem ct_of {l : List UInt8} {k : Nat} (h : k < l.length) (h0 : 128 ≤ bt l k) (h1 : bt l k < 192) : ct l k = true := by
  rw [ct_iff]; exact ⟨h, by omega⟩
theorem enc_rune {n : Nat} (h : ru n) : runeN (Lib.encodeRune (n : Int)) = (Lib.encodeRune (n : Int)).length := by
  unfold ru at h
  by_cases c1 : n < 128
  · rw [enc_one c1]
    exact runeN_one (by rw [bt_cons, u8_nat (by omega)]; omega)
  by_cases c2 : n < 2048
  · rw [enc_two (by omega) c2]
    have e0 : bt [(192 + n / 64).toUInt8, (128 + n % 64).toUInt8] 0 = 192 + n / 64 := by rw [bt_cons, u8_nat (by omega)]
    have e1 : bt [(192 + n / 64).toUInt8, (128 + n % 64).toUInt8] 1 = 128 + n % 64 := by rw [bt_succ, bt_cons, u8_nat (by omega)]
    exact runeN_two (by omega) (by omega) (ct_of (by simp) (by omega) (by omega))
  by_cases c3 : n < 65536
  · rw [enc_three (by omega) c3 (by omega)]
    generalize hl : [(224 + n / 4096).toUInt8, (128 + n / 64 % 64).toUInt8, (128 + n % 64).toUInt8] = l
    have e0 : bt l 0 = 224 + n / 4096 := by rw [← hl, bt_cons, u8_nat (by omega)]
    have e1 : bt l 1 = 128 + n / 64 % 64 := by rw [← hl, bt_succ, bt_cons, u8_nat (by omega)]
    have e2 : bt l 2 = 128 + n % 64 := by rw [← hl, bt_succ, bt_succ, bt_cons, u8_nat (by omega)]
    have el : l.length = 3 := by rw [← hl]; rfl
    rw [el]
    exact runeN_three (by omega) (by omega) (ct_of (by omega) (by omega) (by omega)) (ct_of (by omega) (by omega) (by omega)) (by omega)
  · rw [enc_four (by omega) (by omega)]
    generalize hl : [(240 + n / 262144).toUInt8, (128 + n / 4096 % 64).toUInt8, (128 + n / 64 % 64).toUInt8, (128 + n % 64).toUInt8] = l
    have e0 : bt l 0 = 240 + n / 262144 := by rw [← hl, bt_cons, u8_nat (by omega)]
    have e1 : bt l 1 = 128 + n / 4096 % 64 := by rw [← hl, bt_succ, bt_cons, u8_nat (by omega)]
    have e2 : bt l 2 = 128 + n / 64 % 64 := by rw [← hl, bt_succ, bt_succ, bt_cons, u8_nat (by omega)]
    have e3 : bt l 3 = 128 + n % 64 := by rw [← hl, bt_succ, bt_succ, bt_succ, bt_cons, u8_nat (by omega)]
    have el : l.length = 4 := by rw [← hl]; rfl
    rw [el]
    exact runeN_four (by omega) (by omega) (ct_of (by omega) (by omega) (by omega)) (ct_of (by omega) (by omega) (by omega)) (ct_of (by omega) (by omega) (by omega)) (by omega)
theorem enc_ne (r : Int) : Lib.encodeRune r ≠ [] := by
  intro e
  have h := congrArg List.length e
  rw [Lib.encodeRune, List.length_map, List.length_nil] at h
  have := (Lib.encodeRuneZ_length r).1
  omega
theorem enc_valid {n : Nat} (h : ru n) : Lib.validD (Lib.encodeRune (n : Int)) = true := by
  have h1 := enc_rune h
  have h2 := List.length_pos_iff.2 (enc_ne (n : Int))
  rw [valid_step _ (enc_ne _), if_neg (by omega), h1, List.drop_of_length_le (Nat.le_refl _)]
  rfl
theorem enc_high {n : Nat} (h : ru n) (h1 : 128 ≤ n) : wrs (Lib.encodeRune (n : Int)) = Lib.encodeRune (n : Int) := by
  have hr := enc_rune h
  have hb : 128 ≤ bt (Lib.encodeRune (n : Int)) 0 := by
    rcases Nat.lt_or_ge (bt (Lib.encodeRune (n : Int)) 0) 128 with hb | hb
    · exfalso
      have h3 := runeN_one hb
      rw [hr] at h3
      unfold ru at h
      by_cases c2 : n < 2048
      · rw [enc_two h1 c2] at h3; cases h3
      by_cases c3 : n < 65536
      · rw [enc_three (by omega) c3 (by omega)] at h3; cases h3
      · rw [enc_four (by omega) (by omega)] at h3; cases h3
    · exact hb
  apply wrs_high
  have h4 := take_high (fun j hj => runeN_high hb j hj)
  rw [hr, List.take_length] at h4
  exact h4

theorem enc_max (r : Int) : (Lib.encodeRune r).length ≤ 4 := by
  rw [Lib.encodeRune, List.length_map]
  exact (Lib.encodeRuneZ_length r).2
/-! ### what has been read -/
theorem sh_wrs {c x : Nat} (h : sh c = some x) : (wrs (Lib.encodeRune (x : Int))).length ≤ 2 := by
  unfold sh at h
  repeat' split at h
  all_goals first
    | (cases h; done)
    | (injection h with h; subst h; decide +kernel)
theorem tk_good {l p : List UInt8} {m : Nat} (hl : l ≠ []) (hb : bt l 0 ≠ 34) (h : tk l = some (p, m)) : Lib.validD p = true ∧ p.length ≤ m ∧ (wrs p).length ≤ m := by
  unfold tk at h
  split at h
  · cases he : es l with
    | none => rw [he] at h; cases h
    | some x =>
      obtain ⟨r, k⟩ := x
      rw [he] at h
      simp at h
      obtain ⟨h1, h2⟩ := h
      subst h1 h2
      obtain ⟨_, hr, hk, _⟩ := es_some he
      have hv := enc_valid hr
      rcases hk with ⟨rfl, hs⟩ | ⟨rfl, hs⟩ | ⟨rfl, hs⟩
      · have h3 := sh_wrs hs
        have h4 := (wrs_len (Lib.encodeRune (r : Int))).1
        exact ⟨hv, by omega, h3⟩
      · by_cases c : r < 128
        · rw [enc_one c]
          have h5 := (wrs_len [r.toUInt8]).2
          exact ⟨by rw [← enc_one c]; exact hv, by simp, by simpa using h5⟩
        · have h4 := enc_max (r : Int)
          exact ⟨hv, by omega, by rw [enc_high hr (by omega)]; omega⟩
      · have h4 := enc_max (r : Int)
        exact ⟨hv, by omega, by rw [enc_high hr (by omega)]; omega⟩
  · rename_i h92
    split at h
    · cases h
    · rename_i h32
      injection h with h
      injection h with e1 e2
      subst e1
      have hn : runeN l ≠ 0 := fun e => h32 (.inr e)
      have hv := valid_take hl hn
      subst e2
      have hlen : (l.take (runeN l)).length ≤ runeN l := by rw [List.length_take]; omega
      refine ⟨hv, hlen, ?_⟩
      by_cases c : bt l 0 < 128
      · have h1 := runeN_one c
        obtain ⟨a, t, rfl⟩ : ∃ a t, l = a :: t := by
          cases l with
          | nil => exact absurd rfl hl
          | cons a t => exact ⟨a, t, rfl⟩
        rw [bt_cons] at c hb h92 h32
        have h5 : wrs [a] = [a] := by
          simp only [wrs, List.flatMap_cons, List.flatMap_nil, List.append_nil]
          exact wr_plain hb h92 (by omega)
        rw [h1]
        show (wrs [a]).length ≤ 1
        rw [h5]
        simp
      · rw [wrs_high (take_high (fun j hj => runeN_high (by omega) j hj))]
        exact hlen
/-- What has been read whole. -/
theorem unq_good : ∀ (f : Nat) (out l : List UInt8) (i n : Nat) (x : List UInt8), l.length ≤ f → unq out l i = (x, n, 0) →
    ∃ y, x = out ++ y ∧ Lib.validD y = true ∧ y.length + 1 + i ≤ n ∧ (wrs y).length + 1 + i ≤ n ∧ n ≤ i + l.length
  | 0, out, l, i, n, x, hf, h => by
    have : l = [] := List.eq_nil_of_length_eq_zero (by omega)
    subst this
    rw [unq_nil] at h
    injection h with _ h
    injection h with _ h
    cases h
  | f + 1, out, l, i, n, x, hf, h => by
    by_cases hl : l = []
    · subst hl
      rw [unq_nil] at h
      injection h with _ h
      injection h with _ h
      cases h
    have hp : 0 < l.length := List.length_pos_iff.2 hl
    by_cases hb : bt l 0 = 34
    · rw [unq_mark _ _ hb] at h
      injection h with h1 h
      injection h with h2 _
      subst h1 h2
      exact ⟨[], by simp, rfl, by simp; omega, by simp [wrs]; omega, by omega⟩
    cases ht : tk l with
    | none =>
      rw [unq_bad _ _ hb ht] at h
      injection h with _ h
      injection h with _ h
      cases h
    | some q =>
      obtain ⟨p, m⟩ := q
      rw [unq_step _ _ hl hb ht] at h
      obtain ⟨hm1, hm2⟩ := tk_some hl ht
      obtain ⟨g1, g2, g3⟩ := tk_good hl hb ht
      obtain ⟨y, y1, y2, y3, y4, y5⟩ := unq_good f _ _ _ _ _ (by rw [List.length_drop]; omega) h
      rw [List.length_drop] at y5
      refine ⟨p ++ y, by rw [y1, List.append_assoc], by rw [valid_app y g1]; exact y2, by rw [List.length_append]; omega, by rw [wrs_append, List.length_append]; omega, by omega⟩
theorem unq_shape : ∀ (f : Nat) (out l : List UInt8) (i : Nat), l.length ≤ f → (unq out l i).2.2 = 0 ∨ ((unq out l i).1 = [] ∧ (unq out l i).2.2 = 1 ∧ i ≤ (unq out l i).2.1 ∧ (unq out l i).2.1 ≤ i + l.length)
  | 0, out, l, i, hf => by
    have : l = [] := List.eq_nil_of_length_eq_zero (by omega)
    subst this
    exact .inr ⟨rfl, rfl, Nat.le_refl _, by rw [unq_nil]; simp⟩
  | f + 1, out, l, i, hf => by
    by_cases hl : l = []
    · subst hl
      exact .inr ⟨rfl, rfl, Nat.le_refl _, by rw [unq_nil]; simp⟩
    by_cases hb : bt l 0 = 34
    · rw [unq_mark _ _ hb]; exact .inl rfl
    cases ht : tk l with
    | none => rw [unq_bad _ _ hb ht]; exact .inr ⟨rfl, rfl, Nat.le_refl _, Nat.le_add_right _ _⟩
    | some q =>
      obtain ⟨p, m⟩ := q
      rw [unq_step _ _ hl hb ht]
      obtain ⟨hm1, hm2⟩ := tk_some hl ht
      rcases unq_shape f (out ++ p) (l.drop m) (i + m) (by rw [List.length_drop]; omega) with h | ⟨h1, h2, h3, h4⟩
      · exact .inl h
      · rw [List.length_drop] at h4
        exact .inr ⟨h1, h2, by omega, by omega⟩
/-- What has been read whole is read so with anything behind. -/
theorem unq_stable : ∀ (f : Nat) (out l t : List UInt8) (i n : Nat) (x : List UInt8), l.length ≤ f → unq out l i = (x, n, 0) → unq out (l ++ t) i = (x, n, 0)
  | 0, out, l, t, i, n, x, hf, h => by
    have : l = [] := List.eq_nil_of_length_eq_zero (by omega)
    subst this
    rw [unq_nil] at h
    injection h with _ h
    injection h with _ h
    cases h
  | f + 1, out, l, t, i, n, x, hf, h => by
    by_cases hl : l = []
    · subst hl
      rw [unq_nil] at h
      injection h with _ h
      injection h with _ h
      cases h
    have hp : 0 < l.length := List.length_pos_iff.2 hl
    by_cases hb : bt l 0 = 34
    · rw [unq_mark _ _ hb] at h
      rw [unq_mark _ _ (by rw [bt_append t hp]; exact hb)]
      exact h
    cases ht : tk l with
    | none =>
      rw [unq_bad _ _ hb ht] at h
      injection h with _ h
      injection h with _ h
      cases h
    | some q =>
      obtain ⟨p, m⟩ := q
      obtain ⟨hm1, hm2⟩ := tk_some hl ht
      rw [unq_step _ _ hl hb ht] at h
      rw [unq_step _ _ (by simp [hl]) (by rw [bt_append t hp]; exact hb) (tk_append t hl ht), List.drop_append_of_le_length hm2]
      exact unq_stable f _ _ t _ _ _ (by rw [List.length_drop]; omega) h

/-! ### what is quoted -/
theorem wr_all : ∀ c : Fin 128, tk (wr (UInt8.ofNat c.val)) = some ([UInt8.ofNat c.val], (wr (UInt8.ofNat c.val)).length) ∧ bt (wr (UInt8.ofNat c.val)) 0 ≠ 34 := by decide +kernel
theorem tk_wr {c : UInt8} (h : c.toNat < 128) (t : List UInt8) : tk (wr c ++ t) = some ([c], (wr c).length) ∧ bt (wr c ++ t) 0 ≠ 34 := by
  have h1 := wr_all ⟨c.toNat, h⟩
  simp only [UInt8.ofNat_toNat] at h1
  have hp := (wr_len c).1
  exact ⟨tk_append t (List.length_pos_iff.1 hp) h1.1, by rw [bt_append t hp]; exact h1.2⟩
theorem unq_quo : ∀ (f : Nat) (s out t : List UInt8) (i : Nat), s.length ≤ f → Lib.validD s = true → unq out (wrs s ++ 34 :: t) i = (out ++ s, i + (wrs s).length + 1, 0)
  | 0, s, out, t, i, hf, hv => by
    have : s = [] := List.eq_nil_of_length_eq_zero (by omega)
    subst this
    show unq out (34 :: t) i = _
    rw [unq_mark _ _ (by rw [bt_cons]; decide)]
    simp [wrs]
  | f + 1, s, out, t, i, hf, hv => by
    by_cases hl : s = []
    · subst hl
      show unq out (34 :: t) i = _
      rw [unq_mark _ _ (by rw [bt_cons]; decide)]
      simp [wrs]
    have hp : 0 < s.length := List.length_pos_iff.2 hl
    have hs := valid_step s hl
    rw [hv] at hs
    by_cases h0 : runeN s = 0
    · rw [if_pos h0] at hs; cases hs
    rw [if_neg h0] at hs
    have hle := runeN_le s hl
    by_cases c : bt s 0 < 128
    · obtain ⟨a, r, rfl⟩ : ∃ a r, s = a :: r := by
        cases s with
        | nil => exact absurd rfl hl
        | cons a r => exact ⟨a, r, rfl⟩
      rw [runeN_one c] at hs
      rw [bt_cons] at c
      obtain ⟨h1, h2⟩ := tk_wr c (wrs r ++ 34 :: t)
      have e : wrs (a :: r) = wr a ++ wrs r := by simp [wrs]
      have hw := (wr_len a).1
      rw [e, List.append_assoc, unq_step _ _ (by intro h; have := congrArg List.length h; rw [List.length_append, List.length_nil] at this; omega) h2 h1, List.drop_left]
      rw [unq_quo f r (out ++ [a]) t _ (by simpa using hf) hs.symm]
      simp
      omega
    · have e : wrs s = s.take (runeN s) ++ wrs (s.drop (runeN s)) := by
        conv => lhs; rw [← List.take_append_drop (runeN s) s]
        rw [wrs_append, wrs_high (take_high (fun j hj => runeN_high (by omega) j hj))]
      have hlen : (s.take (runeN s)).length = runeN s := by rw [List.length_take]; omega
      have hb0 : bt (s.take (runeN s)) 0 = bt s 0 := bt_take (by omega)
      have hne : s.take (runeN s) ≠ [] := List.length_pos_iff.1 (by omega)
      have ht : tk (s.take (runeN s)) = some (s.take (runeN s), runeN s) := by
        rw [tk, if_neg (by omega), runeN_take h0, if_neg (by omega), List.take_take, Nat.min_self]
      rw [e, List.append_assoc, unq_step _ _ (by simp [hne]) (by rw [bt_append _ (by omega), hb0]; omega) (tk_append _ hne ht)]
      rw [List.drop_append_of_le_length (by omega), List.drop_of_length_le (by omega), List.nil_append]
      rw [unq_quo f _ (out ++ s.take (runeN s)) t _ (by rw [List.length_drop]; omega) hs.symm]
      rw [List.append_assoc, List.take_append_drop, List.length_append, hlen]
      congr 2
      omega
theorem quo_len (s : List UInt8) : (quo s).length = (wrs s).length + 2 := by simp [quo]
theorem quo_back (s t : List UInt8) (h : Lib.validD s = true) : unqs (quo s ++ t) = (s, (quo s).length, 0) := by
  have e : quo s ++ t = 34 :: (wrs s ++ 34 :: t) := by simp [quo]
  have hb : bt (34 :: (wrs s ++ 34 :: t)) 0 = 34 := rfl
  rw [e, unqs, if_pos hb, List.drop_one, List.tail_cons, unq_quo _ s [] t 1 (Nat.le_refl _) h, quo_len, List.nil_append]
  congr 2
  omega
theorem quo_cut (s : List UInt8) (k : Nat) (hk : k < (quo s).length) (h : Lib.validD s = true) : (unqs ((quo s).take k)).1 = [] ∧ (unqs ((quo s).take k)).2.2 = 1 ∧ (unqs ((quo s).take k)).2.1 ≤ k := by
  rcases Nat.eq_zero_or_pos k with rfl | hp
  · exact ⟨rfl, rfl, Nat.le_refl _⟩
  have hb : bt ((quo s).take k) 0 = 34 := by rw [bt_take hp]; rfl
  rw [unqs, if_pos hb]
  rcases unq_shape _ [] (((quo s).take k).drop 1) 1 (Nat.le_refl _) with h1 | ⟨h1, h2, h3, h4⟩
  · exfalso
    generalize hr : unq [] (((quo s).take k).drop 1) 1 = r at h1
    obtain ⟨x, n, e⟩ := r
    simp only at h1
    subst h1
    obtain ⟨y, _, _, _, _, h5⟩ := unq_good _ _ _ _ _ _ (Nat.le_refl _) hr
    have h6 := unq_stable _ _ _ ((quo s).drop k) _ _ _ (Nat.le_refl _) hr
    have h7 : ((quo s).take k).drop 1 ++ (quo s).drop k = (quo s).drop 1 := by
      rw [← List.drop_append_of_le_length (by rw [List.length_take]; omega), List.take_append_drop]
    have h8 := quo_back s [] h
    have hb8 : bt (quo s) 0 = 34 := rfl
    rw [List.append_nil, unqs, if_pos hb8] at h8
    rw [h7, h8] at h6
    injection h6 with _ h6
    injection h6 with h6 _
    rw [List.length_drop, List.length_take] at h5
    omega
  · rw [List.length_drop, List.length_take] at h4
    exact ⟨h1, h2, by omega⟩
end Qp
end Go.Proofs.YtafbojiojeemoaaGreatDoor

/-
  Plain words: how far readings go, how many nodes they have. No program stands here.
-/
namespace Go.Proofs.YtafbojiojeemoaaGreatDoor
namespace Tp
open Go.RowKit Np Rw Vp Up Qp

theorem unqs_shape (l : List UInt8) : ((unqs l).2.2 = 0 ∧ Lib.validD (unqs l).1 = true ∧ 2 ≤ (unqs l).2.1 ∧ (unqs l).2.1 ≤ l.length ∧ bt l 0 = 34 ∧ (unqs l).1.length + 2 ≤ (unqs l).2.1 ∧ (wrs (unqs l).1).length + 2 ≤ (unqs l).2.1) ∨ ((unqs l).1 = [] ∧ (unqs l).2.2 = 1 ∧ (unqs l).2.1 ≤ l.length) := by
  unfold unqs
  split
  · rename_i h
    have hl : 1 ≤ l.length := by
      have := ne_of_bt (l := l) (k := 0) (by omega)
      omega
    have hd : (l.drop 1).length = l.length - 1 := by simp
    rcases unq_shape _ [] (l.drop 1) 1 (Nat.le_refl _) with h1 | ⟨h1, h2, h3, h4⟩
    · generalize hu : unq [] (l.drop 1) 1 = u at *
      obtain ⟨x, n, c⟩ := u
      simp only at h1
      subst h1
      obtain ⟨y, hxy, hy, h5, h6, h7⟩ := unq_good _ [] (l.drop 1) 1 n x (Nat.le_refl _) hu
      rw [List.nil_append] at hxy
      rw [← hxy] at hy h5 h6
      refine .inl ⟨rfl, hy, ?_, ?_, h, ?_, ?_⟩
      · show 2 ≤ n; omega
      · show n ≤ l.length; omega
      · show x.length + 2 ≤ n; omega
      · show (wrs x).length + 2 ≤ n; omega
    · exact .inr ⟨h1, h2, by omega⟩
  · exact .inr ⟨rfl, rfl, Nat.zero_le _⟩
theorem stR_ok {S : List UInt8} {i k : Nat} {v : List UInt8} (h : stR S i = .ok v k) : i + 2 ≤ k ∧ k ≤ S.length ∧ Lib.validD v = true ∧ bt S i = 34 ∧ v.length + 2 + i ≤ k := by
  unfold stR at h
  rcases unqs_shape (S.drop i) with ⟨h1, h2, h3, h4, h5, h6, -⟩ | ⟨-, h2, -⟩
  · rw [if_pos h1] at h
    injection h with h7 h8
    subst h7 h8
    rw [List.length_drop] at h4
    rw [bt_drop, Nat.add_zero] at h5
    exact ⟨by omega, by omega, h2, h5, by omega⟩
  · rw [if_neg (by omega)] at h; cases h
theorem stR_bad {S : List UInt8} {i p : Nat} {e : Int} (h : stR S i = .bad e p) (hi : i ≤ S.length) : e = 1 ∧ p ≤ S.length := by
  unfold stR at h
  rcases unqs_shape (S.drop i) with ⟨h1, -⟩ | ⟨-, h2, h3⟩
  · rw [if_pos h1] at h; cases h
  · rw [if_neg (by omega)] at h
    injection h with h4 h5
    rw [List.length_drop] at h3
    exact ⟨by omega, by omega⟩
theorem trim_take (l cs : List UInt8) : (Lib.trimLeftS l cs).length + (l.takeWhile (cs.contains ·)).length = l.length := by
  have h := congrArg List.length (List.takeWhile_append_dropWhile (p := (cs.contains ·)) (l := l))
  rw [List.length_append] at h
  unfold Lib.trimLeftS; omega
theorem take_len_takeWhile (p : UInt8 → Bool) : ∀ l : List UInt8, l.take (l.takeWhile p).length = l.takeWhile p
  | [] => rfl
  | c :: l => by
    rw [List.takeWhile_cons]
    split
    · rw [List.length_cons, List.take_succ_cons, take_len_takeWhile p l]
    · rfl
theorem run_le (l : List UInt8) (i : Nat) : i + (Np.run l i).length ≤ max i l.length := by
  have := (List.takeWhile_prefix (l := l.drop i) fig).length_le
  rw [List.length_drop] at this
  unfold Np.run; omega
theorem scanF_at (l : List UInt8) : (scanF l).2.1 ≤ l.length := by
  unfold scanF
  split
  · exact i0F_le l
  · split
    · rename_i h
      unfold bad2 at h
      rw [Bool.and_eq_true] at h
      exact stands_lt h.1
    · split
      · exact i5F_le l
      · show i6F l ≤ l.length
        unfold i6F powF
        split
        · exact Np.run_le _ _ (i5F_le l)
        · exact i5F_le l
theorem readF_at (l : List UInt8) : 0 ≤ (readF l).2.1 ∧ (readF l).2.1 ≤ l.length := by
  have := scanF_at l
  unfold readF
  split
  · simp only; omega
  · split <;> (simp only; omega)
end Tp
end Go.Proofs.YtafbojiojeemoaaGreatDoor
