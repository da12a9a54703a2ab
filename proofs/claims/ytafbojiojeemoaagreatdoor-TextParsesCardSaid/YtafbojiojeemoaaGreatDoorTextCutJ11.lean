/-
  Joined: Emb, TxG, TxT, TxZ.
-/
import Derived.Shelf.Strings.BuilderK
import Derived.Test.YtafbojiojeemoaaGreatDoorTextCutJ3
import Derived.Test.YtafbojiojeemoaaGreatDoorBase
import Derived.Test.YtafbojiojeemoaaGreatDoorTextCutJ4
import Derived.Test.YtafbojiojeemoaaGreatDoorTextCutJ14
import Derived.Test.YtafbojiojeemoaaGreatDoorQRef2

/-
  strings.Builder's writers at a builder that is embedded in a printer: what they leave.
-/
namespace Go.Proofs.YtafbojiojeemoaaGreatDoor
open Go.Shelf Go.RowKit

/-- A printer in block b, whose builder holds these bytes. -/
def EmbV (b : Nat) (p : Value) (ln : Bool) (n : Int) (l : List UInt8) (w : World) : Prop :=
  ∃ v, w.heap[b]? = some (.cells #[p, v, .bool ln, .int .i64 n] 67 (0, 0)) ∧ w.ownsRowF b 5 1 v l.length (Lib.byteCells l) ∧ v.ownBlock ≠ some b
def Emb (b : Nat) (ln : Bool) (n : Int) (l : List UInt8) (w : World) : Prop := EmbV b (.pointer none) ln n l w ∨ EmbV b (.pointer (some ⟨b, 0, none⟩)) ln n l w
/-- All but the printer and its bytes is as it was. -/
def Pk (b : Nat) (w w' : World) : Prop := Below b w w' ∧ Lib.OthersKept 5 (some b) w w'
theorem Pk.refl (b : Nat) (w : World) : Pk b w w := ⟨Below.refl _ _, Lib.OthersKept.refl _ _ _⟩
theorem Pk.trans {b : Nat} {x y z : World} (h : Pk b x y) (k : Pk b y z) : Pk b x z := ⟨h.1.trans k.1, h.2.trans k.2⟩
theorem Pk.drew {b : Nat} {x y : World} (h : Pk b x y) : Pk b x y.drew := ⟨h.1.drew, h.2.drew⟩
theorem Pk.drewN {b : Nat} {x y : World} (h : Pk b x y) (n : Nat) : Pk b x (y.drewN n) := ⟨drewN_below h.1 n, fun k o hk hb ho => h.2 k o hk hb ho⟩
theorem Pk.alloc {b : Nat} {x y : World} (h : Pk b x y) (hb : b ≤ y.heap.size) (o : Obj) : Pk b x (y.alloc o) := ⟨h.1.alloc hb o, h.2.alloc o⟩
theorem Pk.setCell {b : Nat} {x y : World} (h : Pk b x y) (o : Nat) (v : Value) : Pk b x (y.setCell ⟨b, o, none⟩ v) := ⟨h.1.setCell (p := ⟨b, o, none⟩) (Nat.le_refl _) v, h.2.setCell ⟨b, o, none⟩ rfl v⟩
theorem Pk.size {b : Nat} {x y : World} (h : Pk b x y) : x.heap.size ≤ y.heap.size := h.1.size

section
variable {b : Nat} {p : Value} {ln : Bool} {n : Int} {l : List UInt8} {w w' : World}
theorem EmbV.lt (h : EmbV b p ln n l w) : b < w.heap.size := by
  obtain ⟨v, hb, -⟩ := h
  exact (Array.getElem?_eq_some_iff.1 hb).1
theorem Emb.lt (h : Emb b ln n l w) : b < w.heap.size := h.elim EmbV.lt EmbV.lt
theorem EmbV.c0 (h : EmbV b p ln n l w) : w.cell? ⟨b, 0, none⟩ = some p := by obtain ⟨v, hb, -⟩ := h; rw [Lib.cell_of_heap hb]; rfl
theorem EmbV.c2 (h : EmbV b p ln n l w) : w.cell? ⟨b, 2, none⟩ = some (.bool ln) := by obtain ⟨v, hb, -⟩ := h; rw [Lib.cell_of_heap hb]; rfl
theorem EmbV.c3 (h : EmbV b p ln n l w) : w.cell? ⟨b, 3, none⟩ = some (.int .i64 n) := by obtain ⟨v, hb, -⟩ := h; rw [Lib.cell_of_heap hb]; rfl
theorem Emb.c2 (h : Emb b ln n l w) : w.cell? ⟨b, 2, none⟩ = some (.bool ln) := h.elim EmbV.c2 EmbV.c2
theorem Emb.c3 (h : Emb b ln n l w) : w.cell? ⟨b, 3, none⟩ = some (.int .i64 n) := h.elim EmbV.c3 EmbV.c3
theorem EmbV.fz (h : EmbV b p ln n l w) (o : Nat) : w.frozen? ⟨b, o, none⟩ = false := by obtain ⟨v, hb, -⟩ := h; exact Lib.frozen_of_heap hb o
theorem Emb.fz (h : Emb b ln n l w) (o : Nat) : w.frozen? ⟨b, o, none⟩ = false := h.elim (fun h => h.fz o) (fun h => h.fz o)
theorem EmbV.shape (h : EmbV b p ln n l w) : w.shape? b = some (67, 4) := by obtain ⟨v, hb, -⟩ := h; simp [World.shape?, hb]
/-- Kept, where its block and its buffer are. -/
theorem EmbV.grown {row : Option Nat} (h : EmbV b p ln n l w) (hg : w.grownBy w' row) (hr : row = none) : EmbV b p ln n l w' := by
  have hlt := h.lt
  obtain ⟨v, hb, hown, hne⟩ := h
  subst hr
  exact ⟨v, (hg.block b hlt (by simp)).trans hb, hown.kept hg (by cases hv : v.ownBlock <;> simp), hne⟩
theorem EmbV.alloc (h : EmbV b p ln n l w) (o : Obj) : EmbV b p ln n l (w.alloc o) := h.grown (World.grownBy_alloc w o none) rfl
theorem Emb.alloc (h : Emb b ln n l w) (o : Obj) : Emb b ln n l (w.alloc o) := h.elim (fun h => .inl (h.alloc o)) (fun h => .inr (h.alloc o))
theorem EmbV.below (h : EmbV b p ln n l w) (hb : Below w.heap.size w w') : EmbV b p ln n l w' :=
  h.grown (row := none) ⟨hb.os, hb.tape, hb.output, hb.size, fun k hk _ => hb.block k hk⟩ rfl
theorem Emb.below (h : Emb b ln n l w) (hb : Below w.heap.size w w') : Emb b ln n l w' := h.elim (fun h => .inl (h.below hb)) (fun h => .inr (h.below hb))
theorem EmbV.drewN (h : EmbV b p ln n l w) (k : Nat) : EmbV b p ln n l (w.drewN k) := h
theorem Emb.drewN (h : Emb b ln n l w) (k : Nat) : Emb b ln n l (w.drewN k) := h
theorem Emb.drew (h : Emb b ln n l w) : Emb b ln n l w.drew := h
/-- How deep it is. -/
theorem EmbV.deep (h : EmbV b p ln n l w) (m : Int) : EmbV b p ln m l (w.setCell ⟨b, 3, none⟩ (.int .i64 m)) := by
  obtain ⟨v, hb, hown, hne⟩ := h
  refine ⟨v, by simp [World.setCell, Array.getElem?_modify, hb], ?_, hne⟩
  exact hown.kept (row := some b) ⟨rfl, rfl, rfl, by simp [World.setCell], fun k _ hk => Below.heap_setCell _ _ _ _ (fun e => hk (by simp [e]))⟩ (Or.inr hne)
theorem Emb.deep (h : Emb b ln n l w) (m : Int) : Emb b ln m l (w.setCell ⟨b, 3, none⟩ (.int .i64 m)) := h.elim (fun h => .inl (h.deep m)) (fun h => .inr (h.deep m))
theorem EmbV.used (h : EmbV b p ln n l w) : EmbV b (.pointer (some ⟨b, 0, none⟩)) ln n l (w.setCell ⟨b, 0, none⟩ (.pointer (some ⟨b, 0, none⟩))) := by
  obtain ⟨v, hb, hown, hne⟩ := h
  refine ⟨v, by simp [World.setCell, Array.getElem?_modify, hb], ?_, hne⟩
  exact hown.kept (row := some b) ⟨rfl, rfl, rfl, by simp [World.setCell], fun k _ hk => Below.heap_setCell _ _ _ _ (fun e => hk (by simp [e]))⟩ (Or.inr hne)
/-- A cell of another block, that is no row of bytes. -/
theorem Pk.other (h : Pk b w w') {k : Nat} {cs : Array Value} {T : TypeId} {fz : Nat × Nat} (hk : w.heap[k]? = some (.cells cs T fz)) (hkb : k ≠ b) (hT : T ≠ 5) : w'.heap[k]? = some (.cells cs T fz) :=
  h.2 k _ hk (fun e => hkb (Option.some.inj e)) (fun c f e => hT (by injection e))
end

theorem lies_emb : (liesAt Tryz.prog Tryz.prog.depth 67 (4 / Tryz.prog.cellsOf 67) 0 65 1) = true := by kernel_rfl

set_option maxHeartbeats 1000000 in
set_option maxRecDepth 100000 in
theorem embCheck_used (b : Nat) (w : World) (h0 : w.cell? ⟨b, 0, none⟩ = some (.pointer (some ⟨b, 0, none⟩))) :
    Calls Tryz.prog 86 #[.pointer (some ⟨b, 0, none⟩)] w fun e w' => e = .returned (.tuple #[]) ∧ w' = w :=
  Any.Builder_copyCheck_used { Tryz.bld166 with } Tryz.bldExtra.toX72 b w h0

set_option maxHeartbeats 1000000 in
set_option maxRecDepth 100000 in
theorem embCheck_fresh (b : Nat) (w : World) (h0 : w.cell? ⟨b, 0, none⟩ = some (.pointer none)) (hsh : w.shape? b = some (67, 4)) (hfz : w.frozen? ⟨b, 0, none⟩ = false) :
    Calls Tryz.prog 86 #[.pointer (some ⟨b, 0, none⟩)] w fun e w' => e = .returned (.tuple #[]) ∧ w' = w.setCell ⟨b, 0, none⟩ (.pointer (some ⟨b, 0, none⟩)) := by
  obtain ⟨j, hj, hjs⟩ := Option.map_eq_some_iff.1 Tryz.bldExtra.sizeBuilder
  replace hj : Tryz.prog.info? 65 = some j := hj
  go_enter Tryz.func86, Tryz.ntmps86
  go_wp2
  rw [Lib.run_to_unsafe w ⟨b, 0, none⟩ Tryz.underlying62 Tryz.underlying147 hj (by rw [hjs]; decide) hsh (Nat.zero_lt_succ 3)]
  simp only [Result.andThen]
  rw [Oper.upon_value]
  go_wp2
  rw [run_callFunc_extern Tryz.func121 (by kernel_rfl) (by kernel_rfl) (by kernel_rfl) (e := Extern.AbiNoEscape.same) (by kernel_rfl)]
  rw [Lib.run_noEscape]
  simp only [Result.andThen]
  rw [Oper.upon_value]
  go_wp2
  rw [Lib.run_from_unsafe w ⟨b, 0, none⟩ Tryz.underlying147 Tryz.underlying62 hj hsh lies_emb]
  simp only [Result.andThen]
  rw [Oper.upon_value]
  go_wp2
  go_end0
  exact ⟨rfl, rfl⟩
theorem embCheck (b : Nat) (ln : Bool) (n : Int) (l : List UInt8) (w : World) (h : Emb b ln n l w) :
    Calls Tryz.prog 86 #[.pointer (some ⟨b, 0, none⟩)] w fun e w' => e = .returned (.tuple #[]) ∧ EmbV b (.pointer (some ⟨b, 0, none⟩)) ln n l w' ∧ Pk b w w' := by
  rcases h with h | h
  · refine (embCheck_fresh b w h.c0 h.shape (h.fz 0)).mono ?_
    rintro e w' ⟨rfl, rfl⟩
    exact ⟨rfl, h.used, (Pk.refl b w).setCell 0 _⟩
  · refine (embCheck_used b w h.c0).mono ?_
    rintro e w' ⟨rfl, rfl⟩
    exact ⟨rfl, h, Pk.refl _ _⟩
theorem EmbV.put {b : Nat} {p v v' : Value} {ln : Bool} {n : Int} {l : List UInt8} {w : World} (hb : w.heap[b]? = some (.cells #[p, v, .bool ln, .int .i64 n] 67 (0, 0))) (hown : w.ownsRowF b 5 1 v' l.length (Lib.byteCells l)) :
    EmbV b p ln n l (w.setCell ⟨b, 1, none⟩ v') := by
  have hne := Lib.ownBlock_neF hown hb (by decide)
  refine ⟨v', by simp [World.setCell, Array.getElem?_modify, hb], ?_, hne⟩
  exact hown.kept (row := some b) ⟨rfl, rfl, rfl, by simp [World.setCell], fun k _ hk => Below.heap_setCell _ _ _ _ (fun e => hk (by simp [e]))⟩ (Or.inr hne)

set_option maxHeartbeats 2000000 in
set_option maxRecDepth 100000 in
theorem embByte (b : Nat) (ln : Bool) (n : Int) (l : List UInt8) (c : UInt8) (w : World) (h : Emb b ln n l w) (hlen : l.length + 1 ≤ 140737488355328) :
    Calls Tryz.prog 48 #[.pointer (some ⟨b, 0, none⟩), .int .u8 c.toNat] w fun e w' => e = .returned .nilIface ∧ Emb b ln n (l ++ [c]) w' ∧ Pk b w w' := by
  obtain ⟨i0, hi, hz0, hz1, hz2⟩ := info_parts Tryz.bldExtra.infoByte
  replace hi : Tryz.prog.info? 5 = some i0 := hi
  have hbc : Lib.byteCells (l ++ [c]) = Lib.byteCells l ++ [.int .u8 c.toNat] := by rw [Lib.byteCells_append]; rfl
  go_enter Tryz.func48, Tryz.ntmps48
  go_wp2_with (go_at_call 86; refine (embCheck b ln n l _ h).mono ?_)
  rintro e w1 ⟨rfl, h1, hk1⟩
  obtain ⟨v, hbk, hown, hne⟩ := h1
  have hlt : b < w1.heap.size := (Array.getElem?_eq_some_iff.1 hbk).1
  have c0 : w1.cell? ⟨b, 0, none⟩ = some (.pointer (some ⟨b, 0, none⟩)) := by rw [Lib.cell_of_heap hbk]; rfl
  have c1 : w1.cell? ⟨b, 1, none⟩ = some v := by rw [Lib.cell_of_heap hbk]; rfl
  go_wp2_with (at_builtin; refine wpList_append_ownF _ rfl _ _ 63 rfl b 5 i0 (.int .u8 0) 1 1 Tryz.underlying63 hi hz0 hz1 hz2 rfl (by decide) _ _ _ rfl (hown.alloc _) ⟨w1.heap.size, 0, none⟩ 1 1 [.int .u8 c.toNat] rfl rfl ?c1 ?c2 ?c3 ?c4 ?c5 ?_)
  case c1 =>
    intro j u hj
    match j, hj with
    | 0, hj => simp at hj; subst hj; simp [Addr.add]
  case c2 => intro u hu; simp at hu; subst hu; rfl
  case c3 => unfold maxLen; omega
  case c4 => omega
  case c5 => simp; omega
  intro v' w2 hown' hgrow _
  have hb2 : w2.heap[b]? = some (.cells #[.pointer (some ⟨b, 0, none⟩), v, .bool ln, .int .i64 n] 67 (0, 0)) := by
    rw [hgrow.block b (by simp; omega) (fun e => hne e.symm), Lib.alloc_old w1 _ b hlt]
    exact hbk
  have d0 : w2.cell? ⟨b, 0, none⟩ = some (.pointer (some ⟨b, 0, none⟩)) := by rw [Lib.cell_of_heap hb2]; rfl
  have d1 : w2.cell? ⟨b, 1, none⟩ = some v := by rw [Lib.cell_of_heap hb2]; rfl
  have f1 : w2.frozen? ⟨b, 1, none⟩ = false := Lib.frozen_of_heap hb2 1
  obtain ⟨g, cap, rfl⟩ : ∃ g cap, v' = .slice (some ⟨g, 0, none⟩) (l.length + 1) cap := by
    rcases hown'.2 with ⟨_, h0⟩ | ⟨g, cap, cur, fz, hv, _⟩
    · omega
    · exact ⟨g, cap, hv⟩
  rw [← hbc] at hown'
  have HE : Hid (EmbV b (.pointer (some ⟨b, 0, none⟩)) ln n (l ++ [c]) (w2.setCell ⟨b, 1, none⟩ (.slice (some ⟨g, 0, none⟩) (l.length + 1) cap))) := Lib.hid (EmbV.put hb2 (by simpa using hown'))
  have HK : Hid (Pk b w (w2.setCell ⟨b, 1, none⟩ (.slice (some ⟨g, 0, none⟩) (l.length + 1) cap))) := Lib.hid (by
    refine Pk.setCell (hk1.trans ⟨?_, ?_⟩) 1 _
    · exact ((Below.refl b w1).alloc (Nat.le_of_lt hlt) _).grown hgrow (by simp; omega) (fun k hk => (hown.lt k hk).1)
    · exact ((Lib.OthersKept.refl _ _ w1).alloc _).grown hgrow (Lib.ownsRowF_kind (hown.alloc _)))
  clear hown' hgrow
  go_wp2
  go_ret
  exact ⟨rfl, .inr HE.out, HK.out⟩

set_option maxHeartbeats 2000000 in
set_option maxRecDepth 100000 in
theorem embString (b : Nat) (ln : Bool) (n : Int) (l : List UInt8) (s : ByteArray) (w : World) (h : Emb b ln n l w) (hlen : l.length + s.size ≤ 140737488355328) :
    Calls Tryz.prog 49 #[.pointer (some ⟨b, 0, none⟩), .string s] w fun e w' => e = .returned (.tuple #[.int .i64 s.size, .nilIface]) ∧ Emb b ln n (l ++ s.data.toList) w' ∧ Pk b w w' := by
  obtain ⟨i0, hi, hz0, hz1, hz2⟩ := info_parts Tryz.bldExtra.infoByte
  replace hi : Tryz.prog.info? 5 = some i0 := hi
  have hbc : Lib.byteCells (l ++ s.data.toList) = Lib.byteCells l ++ Lib.strCells s := by rw [Lib.byteCells_append, Lib.strCells_eq]
  have hbl : (l ++ s.data.toList).length = l.length + s.size := by rw [List.length_append]; rfl
  go_enter Tryz.func49, Tryz.ntmps49
  go_wp2_with (go_at_call 86; refine (embCheck b ln n l _ h).mono ?_)
  rintro e w1 ⟨rfl, h1, hk1⟩
  obtain ⟨v, hbk, hown, hne⟩ := h1
  have hlt : b < w1.heap.size := (Array.getElem?_eq_some_iff.1 hbk).1
  have c0 : w1.cell? ⟨b, 0, none⟩ = some (.pointer (some ⟨b, 0, none⟩)) := by rw [Lib.cell_of_heap hbk]; rfl
  have c1 : w1.cell? ⟨b, 1, none⟩ = some v := by rw [Lib.cell_of_heap hbk]; rfl
  go_wp2_with (at_builtin; refine Lib.wpList_append_own_stringF _ rfl _ _ 63 9 rfl b 5 i0 Tryz.underlying63 Tryz.underlying9 hi hz0 hz1 hz2 _ _ _ rfl hown s rfl ?c3 ?c4 ?c5 ?_)
  case c3 => unfold maxLen; omega
  case c4 => omega
  case c5 => omega
  intro v' w2 hown' hgrow _
  have hb2 : w2.heap[b]? = some (.cells #[.pointer (some ⟨b, 0, none⟩), v, .bool ln, .int .i64 n] 67 (0, 0)) := by
    rw [hgrow.block b hlt (fun e => hne e.symm)]
    exact hbk
  have d0 : w2.cell? ⟨b, 0, none⟩ = some (.pointer (some ⟨b, 0, none⟩)) := by rw [Lib.cell_of_heap hb2]; rfl
  have d1 : w2.cell? ⟨b, 1, none⟩ = some v := by rw [Lib.cell_of_heap hb2]; rfl
  have f1 : w2.frozen? ⟨b, 1, none⟩ = false := Lib.frozen_of_heap hb2 1
  obtain ⟨ao, n', cap, rfl⟩ : ∃ ao n' cap, v' = .slice ao n' cap := by
    rcases hown'.2 with ⟨hv, _⟩ | ⟨g, cap, cur, fz, hv, _⟩
    · exact ⟨_, _, _, hv⟩
    · exact ⟨_, _, _, hv⟩
  rw [← hbc, ← hbl] at hown'
  have HE : Hid (EmbV b (.pointer (some ⟨b, 0, none⟩)) ln n (l ++ s.data.toList) (w2.setCell ⟨b, 1, none⟩ (.slice ao n' cap))) := Lib.hid (EmbV.put hb2 hown')
  have HK : Hid (Pk b w (w2.setCell ⟨b, 1, none⟩ (.slice ao n' cap))) := Lib.hid (by
    refine Pk.setCell (hk1.trans ⟨?_, ?_⟩) 1 _
    · exact (Below.refl b w1).grown hgrow (Nat.le_of_lt hlt) (fun k hk => (hown.lt k hk).1)
    · exact (Lib.OthersKept.refl _ _ w1).grown hgrow (Lib.ownsRowF_kind hown))
  clear hown' hgrow
  go_wp2
  go_ret2
  exact ⟨rfl, .inr HE.out, HK.out⟩

set_option maxHeartbeats 1000000 in
set_option maxRecDepth 100000 in
theorem embText (b : Nat) (ln : Bool) (n : Int) (l : List UInt8) (w : World) (h : Emb b ln n l w) (h0 : l ≠ []) :
    Calls Tryz.prog 36 #[.pointer (some ⟨b, 0, none⟩)] w fun e w' => e = .returned (.string ⟨l.toArray⟩) ∧ Below b w w' := by
  obtain ⟨p, hAt⟩ : ∃ p, EmbV b p ln n l w := h.elim (fun h => ⟨_, h⟩) (fun h => ⟨_, h⟩)
  obtain ⟨v, hbk, hown, hne⟩ := hAt
  have hl0 : l.length ≠ 0 := by simpa using h0
  obtain ⟨g, cap, cur, fz, rfl, hbg, hg, hfz, hnc, hcm, hcs, htake⟩ : ∃ g cap cur fz, v = .slice (some ⟨g, 0, none⟩) l.length cap ∧ b ≤ g ∧ w.heap[g]? = some (.cells cur 5 fz) ∧ fz.2 ≤ l.length * 1 ∧ l.length ≤ cap ∧ cap ≤ maxLen ∧ cur.size = cap * 1 ∧ cur.toList.take (l.length * 1) = Lib.byteCells l := by
    rcases hown.2 with ⟨_, hz⟩ | ⟨g, cap, cur, fz, hv, r⟩
    · exact absurd hz hl0
    · exact ⟨g, cap, cur, fz, hv, r⟩
  have c1 : w.drew.cell? ⟨b, 1, none⟩ = some (.slice (some ⟨g, 0, none⟩) l.length cap) := by
    have : w.drew.heap[b]? = some (.cells #[p, .slice (some ⟨g, 0, none⟩) l.length cap, .bool ln, .int .i64 n] 67 (0, 0)) := hbk
    rw [Lib.cell_of_heap this]; rfl
  have hSD : (Builtin.unsafeSliceData_ #[63] 104 #[.slice (some ⟨g, 0, none⟩) l.length cap]).run Tryz.prog w.drew = .ok (.pointer (some ⟨g, 0, none⟩)) w.drew :=
    Lib.run_unsafeSliceData_row _ _ _ _ _ _ (by omega)
  have hUS : (Builtin.unsafeString_ #[104, 3] 9 #[.pointer (some ⟨g, 0, none⟩), .int .i64 l.length]).run Tryz.prog w.drew = .ok (.string ⟨l.toArray⟩) (w.drew.freeze ⟨g, 0, none⟩ l.length) := by
    refine Lib.run_unsafeString_row w.drew 104 3 9 5 Tryz.underlying104 Tryz.bldExtra.cellsByte g cur.size (by have hg' : w.drew.heap[g]? = some (.cells cur 5 fz) := hg; simp [World.shape?, hg']) l h0 (by omega) (by unfold maxLen at hcm; omega) ?_
    intro j x hx
    exact hown.cells (g := g) rfl j (.int .u8 x.toNat) (by simp [Lib.byteCells, hx])
  have HB : Hid (Below b w (w.drew.freeze ⟨g, 0, none⟩ l.length)) := Lib.hid (Lib.below_freeze (Below.drew (Below.refl b w)) (p := ⟨g, 0, none⟩) hbg _)
  have mixed := Tryz.bld166.mixed
  go_enter Tryz.func36, Tryz.ntmps36
  go_wp2
  go_region_o
  all_goals (go_wp2; go_ret; exact ⟨rfl, HB.out⟩)
end Go.Proofs.YtafbojiojeemoaaGreatDoor

/-
  What the printer's line and name are.
-/
namespace Go.Proofs.YtafbojiojeemoaaGreatDoor
open Go.RowKit Np Rw Vp Up Qp Tp

/-- What a call of another's leaves. -/
theorem Pk.of {b : Nat} {w w' : World} (h : Below w.heap.size w w') (hb : b ≤ w.heap.size) : Pk b w w' :=
  ⟨h.mono hb, fun k _ hk _ _ => (h.block k (Array.getElem?_eq_some_iff.1 hk).1).trans hk⟩

set_option maxRecDepth 100000 in
set_option maxHeartbeats 2000000 in
theorem line_any (b : Nat) (ln : Bool) (d : Nat) (L : List UInt8) (w : World) (h : Emb b ln d L w) (hd : d ≤ 1000) (hL : L.length ≤ 100000000) :
    Calls Tryz.prog 106 #[.pointer (some ⟨b, 0, none⟩)] w fun e w' => e = .returned (.tuple #[]) ∧ Emb b ln d (L ++ prL ln d) w' ∧ Pk b w w' := by
  have H := Lib.hid h
  have c2 := h.c2
  clear h
  cases ln with
  | false =>
    go_enter Tryz.func106, Tryz.ntmps106
    go_wp2_with fail
    refine bodyPost_ret (results_none rfl _ _ _) rfl ?_
    exact ⟨rfl, by rw [show prL false d = [] from rfl, List.append_nil]; exact H.out, Pk.refl _ _⟩
  | true =>
    have HW := Lib.hid (embByte b true d L 10 w H.out (by omega))
    go_enter Tryz.func106, Tryz.ntmps106
    go_wp2_with (go_at_call 48; refine HW.out.mono ?_; rintro e w1 ⟨rfl, h1, hk1⟩; have d3 := h1.c3; have HE1 := Lib.hid h1; have HK1 := Lib.hid hk1; clear h1 hk1)
    go_loopw [15] (fun iv wr => ∃ k : Nat, k ≤ d ∧ iv = .int .i64 k ∧ Hid (Emb b true d (L ++ 10 :: List.replicate (2 * k) 32) wr) ∧ Hid (Pk b w wr)) (fun iv _ => d - (intOf iv).toNat)
    case atStart => exact ⟨0, Nat.zero_le _, rfl, HE1, HK1⟩
    case round =>
      obtain ⟨k, hk, rfl, HE, HK⟩ := hrel
      by_cases hlt : k < d
      · have HS := Lib.hid (embString b true d (L ++ 10 :: List.replicate (2 * k) 32) ⟨#[32, 32]⟩ wr HE.out (by show (L ++ 10 :: List.replicate (2 * k) 32).length + 2 ≤ _; simp; omega))
        go_wp2_with (go_at_call 49; refine HS.out.mono ?_; rintro e w2 ⟨rfl, h2, hk2⟩)
        go_roundw
        case rel =>
          refine ⟨k + 1, by omega, by go_num, Lib.hid ?_, Lib.hid (HK.out.trans hk2)⟩
          have e : L ++ 10 :: List.replicate (2 * k) 32 ++ (ByteArray.mk #[32, 32]).data.toList = L ++ 10 :: List.replicate (2 * (k + 1)) 32 := by
            rw [show 2 * (k + 1) = 2 * k + 2 by omega, ← List.replicate_append_replicate, List.append_assoc, List.cons_append]; rfl
          rw [← e]; exact h2
        case measure => simp [intOf]; omega
      · have hkd : k = d := by omega
        subst hkd
        go_wp2_with fail
        go_end0
        exact ⟨rfl, HE.out, HK.out⟩

set_option maxRecDepth 100000 in
set_option maxHeartbeats 2000000 in
theorem name_any (b : Nat) (ln : Bool) (d : Int) (L nm : List UInt8) (w : World) (h : Emb b ln d L w) (hn : nm.length ≤ 1000000) (hL : L.length ≤ 100000000) (hq : (quo nm).length ≤ 100000000) :
    Calls Tryz.prog 107 #[.pointer (some ⟨b, 0, none⟩), .string ⟨nm.toArray⟩] w fun e w' => e = .returned (.tuple #[]) ∧ Emb b ln d (L ++ prN ln nm) w' ∧ Pk b w w' := by
  have HQ : Hid (∀ W, Calls Tryz.prog 69 #[.string ⟨nm.toArray⟩] W fun e w' => e = .returned (.string ⟨(quo nm).toArray⟩) ∧ Below W.heap.size W w') := Lib.hid (fun W => quote_any ⟨nm.toArray⟩ W (by rw [mk_size]; omega))
  have HS : Hid (∀ W, Emb b ln d L W → Calls Tryz.prog 49 #[.pointer (some ⟨b, 0, none⟩), .string ⟨(quo nm).toArray⟩] W fun e w' => e = .returned (.tuple #[.int .i64 (ByteArray.mk (quo nm).toArray).size, .nilIface]) ∧ Emb b ln d (L ++ quo nm) w' ∧ Pk b W w') := Lib.hid (fun W h => embString b ln d L ⟨(quo nm).toArray⟩ W h (by rw [mk_size]; omega))
  have HB : Hid (∀ W, Emb b ln d (L ++ quo nm) W → Calls Tryz.prog 48 #[.pointer (some ⟨b, 0, none⟩), .int .u8 58] W fun e w' => e = .returned .nilIface ∧ Emb b ln d (L ++ quo nm ++ [58]) w' ∧ Pk b W w') := Lib.hid (fun W h => embByte b ln d _ 58 W h (by simp; omega))
  have HC : Hid (∀ W, Emb b ln d (L ++ quo nm ++ [58]) W → Calls Tryz.prog 48 #[.pointer (some ⟨b, 0, none⟩), .int .u8 32] W fun e w' => e = .returned .nilIface ∧ Emb b ln d (L ++ quo nm ++ [58] ++ [32]) w' ∧ Pk b W w') := Lib.hid (fun W h => embByte b ln d _ 32 W h (by simp; omega))
  have H := Lib.hid h
  have HX : Hid (L ++ prN ln nm = if ln = true then L ++ quo nm ++ [58] ++ [32] else L ++ quo nm ++ [58]) := Lib.hid (by unfold prN; cases ln <;> simp)
  clear h
  generalize quo nm = q at *
  go_enter Tryz.func107, Tryz.ntmps107
  go_upto_region 0 with fail
  go_cut [] from 4 to 9 (fun wx => Emb b ln d (L ++ q) wx ∧ Pk b w wx)
  case first =>
    go_region_with (first
      | (go_at_call 69; refine (HQ.out w.drew).mono ?_; rintro e w1 ⟨rfl, hb1⟩; have HE1 := Lib.hid ((H.out.drew).below hb1); have HL1 := Lib.hid hb1; clear hb1)
      | (go_at_call 49; refine (HS.out w1 HE1.out).mono ?_; rintro e w2 ⟨rfl, h2, hk2⟩))
    all_goals go_wp2_with fail
    all_goals go_meet
    all_goals exact ⟨h2, ((Pk.refl b w).drew.trans (Pk.of HL1.out (Nat.le_of_lt H.out.lt))).trans hk2⟩
  case rest =>
    obtain ⟨h2, hk2⟩ := hcut
    have HE2 := Lib.hid h2
    have HK2 := Lib.hid hk2
    clear h2 hk2 HQ HS H
    cases ln with
    | false =>
      go_wp2_with (go_at_call 48; refine (HB.out _ HE2.out).mono ?_; rintro e w3 ⟨rfl, h3, hk3⟩; have d2 := h3.c2; have HE3 := Lib.hid h3; have HK3 := Lib.hid hk3; clear h3 hk3)
      go_end0
      exact ⟨rfl, by rw [HX.out]; exact HE3.out, HK2.out.trans HK3.out⟩
    | true =>
      go_wp2_with (first
        | (go_at_call_of 48 (58 : Int); refine (HB.out _ HE2.out).mono ?_; rintro e w3 ⟨rfl, h3, hk3⟩; have d2 := h3.c2; have HE3 := Lib.hid h3; have HK3 := Lib.hid hk3; clear h3 hk3)
        | (go_at_call_of 48 (32 : Int); refine (HC.out _ HE3.out).mono ?_; rintro e w4 ⟨rfl, h4, hk4⟩))
      go_end0
      exact ⟨rfl, by rw [HX.out]; exact h4, (HK2.out.trans HK3.out).trans hk4⟩
end Go.Proofs.YtafbojiojeemoaaGreatDoor

/-
  Plain words: a value's text is read as it, whatever stands behind that is no numeral. No program stands here.
-/
namespace Go.Proofs.YtafbojiojeemoaaGreatDoor
namespace Tp
open Go.RowKit Np Rw Vp Up Qp

def lit (ln : Bool) (d : Nat) (t : Tr Nd) : List Nd × List UInt8 := (flat (nmd [] t), prT ln (d + 1) t)
def oit (ln : Bool) (d : Nat) (t : Tr Nd) : Pr × List UInt8 := ((t.nd.name, flat (nmd [] t)), prN ln t.nd.name ++ prT ln (d + 1) t)
theorem prK_list (ln : Bool) (d : Nat) : ∀ ts, prK ln d false ts = tl (prL ln (d + 1)) (ts.map (lit ln d)) ++ prL ln d
  | [] => by rw [prK_nil]; rfl
  | t :: ts => by rw [prK_cons, prK_list ln d ts]; simp [tl, lit]
theorem prK_obj (ln : Bool) (d : Nat) : ∀ ts, prK ln d true ts = tl (prL ln (d + 1)) (ts.map (oit ln d)) ++ prL ln d
  | [] => by rw [prK_nil]; rfl
  | t :: ts => by rw [prK_cons, prK_obj ln d ts]; simp [tl, oit]

theorem printN_hd {n : Nd} (hr : right n = true) : ∃ a T, printN n.s n.neg n.e = a :: T ∧ (a.toNat = 45 ∨ 48 ≤ a.toNat ∧ a.toNat ≤ 57) := by
  have h := readF_first (l := printN n.s n.neg n.e) (by rw [print_back hr])
  cases hp : printN n.s n.neg n.e with
  | nil => rw [hp] at h; simp [bt] at h
  | cons a T => rw [hp] at h; exact ⟨a, T, rfl, h⟩
/-- The first byte. -/
theorem prT_hd (ln : Bool) (d : Nat) (n : Nd) (ks : List (Tr Nd)) (hp : plainN n = true) : ∃ a T, prT ln d (.mk n ks) = a :: T ∧ blk a.toNat = false ∧ a.toNat ≠ 93 ∧ a.toNat ≠ 125 := by
  rw [prT_mk]
  by_cases h5 : n.kind = 5
  · rw [if_pos h5]; exact ⟨91, _, rfl, by decide, by decide, by decide⟩
  rw [if_neg h5]
  by_cases h6 : n.kind = 6
  · rw [if_pos h6]; exact ⟨123, _, rfl, by decide, by decide, by decide⟩
  rw [if_neg h6]
  unfold scT
  by_cases hw : n.kind = 0 ∨ n.kind = 1 ∨ n.kind = 2
  · rw [if_pos hw]
    unfold wordT
    split
    · exact ⟨110, _, rfl, by decide, by decide, by decide⟩
    · split
      · exact ⟨102, _, rfl, by decide, by decide, by decide⟩
      · exact ⟨116, _, rfl, by decide, by decide, by decide⟩
  rw [if_neg hw]
  by_cases h3 : n.kind = 3
  · rw [if_pos h3]
    have hr : right { n with name := [] } = true := by
      unfold plainN at hp
      rw [if_neg hw, if_pos h3] at hp
      exact hp
    obtain ⟨a, T, h1, h2⟩ := printN_hd hr
    refine ⟨a, T, h1, ?_, by omega, by omega⟩
    simp [blk]; omega
  · rw [if_neg h3]; exact ⟨34, _, rfl, by decide, by decide, by decide⟩

theorem fd_reads {S : List UInt8} {n : Nat} {ln : Bool} {nm T : List UInt8} {v : List Nd} (hv : Lib.validD nm = true) (h : Reads (vlR S n) S (v, T)) : Reads (fdR (vlR S n) S) S ((nm, v), prN ln nm ++ T) := by
  intro i B Q hB hd hQ
  simp only at hd ⊢
  have e : prN ln nm ++ T ++ Q = quo nm ++ (58 :: ((if ln = true then [32] else []) ++ (T ++ Q))) := by simp [prN]
  rw [e] at hd
  have h1 : sk S i = i + B.length := sk_blanks hd hB (fun y hy => by simp [quo] at hy; subst hy; decide)
  have h2 := drop_of hd
  have h3 : stR S (i + B.length) = .ok nm (i + B.length + (quo nm).length) := by
    unfold stR
    rw [h2, quo_back nm _ hv]
    rfl
  have h4 := drop_of h2
  have h5 := sk_here h4 (by decide)
  have h6 : S.drop (i + B.length + (quo nm).length + 1) = (if ln = true then [32] else []) ++ (T ++ Q) := drop_of (a := [58]) h4
  have h7 := h _ (if ln = true then [32] else []) Q (by cases ln <;> (intro c hc; simp at hc); subst hc; decide) h6 hQ
  unfold fdR
  rw [h1, h3]
  show (if bt S (sk S (i + B.length + (quo nm).length)) = 58 then _ else _) = _
  rw [h5, if_pos (show bt S _ = 58 from bt_of h4), h7]
  refine congrArg (Rs.ok _) ?_
  simp only [List.length_append, prN, List.length_cons]
  omega
theorem fold_snoc (L : List (List Nd × List UInt8)) : ∀ acc, L.foldl (fun a y => snoc a y.1) acc = acc ++ L.map (·.1) := by
  induction L with
  | nil => simp
  | cons x L ih => intro acc; rw [List.foldl_cons, ih]; simp [snoc]
theorem fold_put (L : List (Pr × List UInt8)) : ∀ acc : List Pr, ((acc ++ L.map (·.1)).map (·.1)).Nodup → L.foldl (fun a y => putP a y.1) acc = acc ++ L.map (·.1) := by
  induction L with
  | nil => simp
  | cons x L ih =>
    intro acc h
    have hx : x.1.1 ∉ acc.map (·.1) := by
      rw [List.map_append, List.nodup_append] at h
      intro hm
      exact h.2.2 _ hm _ (by simp) rfl
    rw [List.foldl_cons, putP_new acc x.1 hx, ih]
    · simp
    · simpa using h

theorem kids_okP {n : Nd} {ks : List (Tr Nd)} (h1 : okT many (.mk n ks)) (h2 : rightT (.mk n ks) = true) : ∀ u ∈ ks, okT many u ∧ rightT u = true := by
  have := val_kids (t := nmd [] (.mk n ks)) (Val.clr h1 h2)
  rwa [nmd_ks] at this
theorem kid_lessP {n : Nd} {ks : List (Tr Nd)} {u : Tr Nd} (hu : u ∈ ks) : (flat u).length < (flat (.mk n ks)).length := by
  obtain ⟨a, c, rfl⟩ := List.append_of_mem hu
  rw [flat_mk, flats_append, flats_cons]
  simp; omega
theorem wo_back {S Q : List UInt8} {j : Nat} {k : Int} (hk : k = 0 ∨ k = 1 ∨ k = 2) (h : S.drop j = wordT k ++ Q) : woR S j = .ok [hdN k 0] (j + (wordT k).length) ∧ (bt S j = 110 ∨ bt S j = 102 ∨ bt S j = 116) := by
  have hb : bt S j = bt (wordT k ++ Q) 0 := by
    have : bt (S.drop j) 0 = bt S j := by rw [bt_drop, Nat.add_zero]
    rw [← this, h]
  rcases hk with rfl | rfl | rfl
  · refine ⟨?_, .inl (by rw [hb]; rfl)⟩
    unfold woR; rw [h, if_pos (by rfl)]; rfl
  · refine ⟨?_, .inr (.inl (by rw [hb]; rfl))⟩
    unfold woR; rw [h, if_neg (by show ¬ (Lib.hasPrefix (102 :: ([97, 108, 115, 101] ++ Q)) wNull = true); simp [Lib.hasPrefix, wNull]), if_pos (by simp [Lib.hasPrefix, wFalse, wordT])]; rfl
  · refine ⟨?_, .inr (.inr (by rw [hb]; rfl))⟩
    unfold woR; rw [h, if_neg (by simp [Lib.hasPrefix, wNull, wordT, wTrue]), if_neg (by simp [Lib.hasPrefix, wFalse, wordT, wTrue]), if_pos (by simp [Lib.hasPrefix, wTrue, wordT])]; rfl

theorem back (ln : Bool) (S : List UInt8) : ∀ (N : Nat) (t : Tr Nd) (d n : Nat), (flat t).length ≤ N → okT many t → rightT t = true → depth t ≤ n → Reads (vlR S n) S (flat (nmd [] t), prT ln d t)
  | 0, t, _, _, hN, _, _, _ => by have := flat_pos t; omega
  | N + 1, .mk nd ks, d, n, hN, h1, h2, hd => by
    intro i B Q hB h hQ
    simp only at h ⊢
    have hval : Val (nmd [] (.mk nd ks)) := Val.clr h1 h2
    have hpl : plainN nd = true := by rw [rightT_mk, Bool.and_eq_true] at h2; exact h2.1
    obtain ⟨a, T0, hT, ha, -, -⟩ := prT_hd ln d nd ks hpl
    have hsk : sk S i = i + B.length := sk_blanks h hB (fun y hy => by rw [hT] at hy; injection hy with hy; subst hy; exact ha)
    have hj := drop_of h
    have hsj : sk S (i + B.length) = i + B.length := by rw [← hsk, sk_sk]
    rw [vlR_sk, hsk]
    generalize i + B.length = j at hj hsj ⊢
    have hks : nd.kind ≠ 5 → nd.kind ≠ 6 → ks = [] := fun h5 h6 => by
      have h3 := (plainN_many hpl).2 h5 h6
      have h4 : nd.many = ks.length := (okT_mk.1 h1).1
      exact List.eq_nil_of_length_eq_zero (by omega)
    have hkid : ∀ u ∈ ks, okT many u ∧ rightT u = true := kids_okP h1 h2
    -- what is no list and no object
    have sc : ∀ arr obj, nd.kind ≠ 5 → nd.kind ≠ 6 → vl1 S arr obj j = .ok (flat (nmd [] (.mk nd ks))) (j + (prT ln d (.mk nd ks)).length) := by
      intro arr obj h5 h6
      have hk0 := hks h5 h6
      subst hk0
      have hfl : flat (nmd [] (.mk nd [])) = [nmN [] nd] := by rw [nmd, flat_mk]; rfl
      have hpt : prT ln d (.mk nd []) = scT nd := by rw [prT_mk, if_neg h5, if_neg h6]
      rw [hfl, hpt]
      rw [hpt] at hj
      by_cases hw : nd.kind = 0 ∨ nd.kind = 1 ∨ nd.kind = 2
      · have e : scT nd = wordT nd.kind := by unfold scT; rw [if_pos hw]
        rw [e] at hj ⊢
        obtain ⟨g1, g2⟩ := wo_back hw hj
        have hn : nmN [] nd = hdN nd.kind 0 := by
          unfold plainN at hpl
          rw [if_pos hw] at hpl
          simp at hpl
          obtain ⟨⟨⟨p1, p2⟩, p3⟩, p4⟩ := hpl
          obtain ⟨a1, a2, a3, a4, a5, a6⟩ := nd
          simp only at p1 p2 p3 p4
          subst p1 p2 p3 p4
          rfl
        unfold vl1
        rw [if_neg (by omega), if_neg (by omega), if_neg (by omega), if_neg (by omega), g1, hn]
      · by_cases h3 : nd.kind = 3
        · have e : scT nd = printN nd.s nd.neg nd.e := by unfold scT; rw [if_neg hw, if_pos h3]
          rw [e] at hj ⊢
          have hr : right (nmN [] nd) = true := by
            unfold plainN at hpl
            rw [if_neg hw, if_pos h3] at hpl
            exact hpl
          obtain ⟨g1, g2⟩ := nu_back (n := nmN [] nd) hr hj hQ
          unfold vl1
          rw [if_neg (by omega), if_neg (by omega), if_neg (by omega), if_pos g2, g1]
          rfl
        · have e : scT nd = quo nd.s := by unfold scT; rw [if_neg hw, if_neg h3]
          rw [e] at hj ⊢
          have h4 : nd.kind = 4 := by
            unfold plainN at hpl
            rw [if_neg hw, if_neg h3] at hpl
            by_cases h4 : nd.kind = 4
            · exact h4
            · rw [if_neg h4, if_neg (by omega)] at hpl; cases hpl
          unfold plainN at hpl
          rw [if_neg hw, if_neg h3, if_pos h4] at hpl
          simp at hpl
          obtain ⟨⟨⟨p1, p2⟩, p3⟩, p4⟩ := hpl
          have hb : bt S j = 34 := bt_of (c := 34) (R := wrs nd.s ++ [34] ++ Q) (by rw [hj]; simp [quo])
          have hq : stR S j = .ok nd.s (j + (quo nd.s).length) := by unfold stR; rw [hj, quo_back nd.s Q p2]; rfl
          unfold vl1
          rw [if_neg (by omega), if_neg (by omega), if_pos hb, hq]
          obtain ⟨a1, a2, a3, a4, a5, a6⟩ := nd
          simp only at p1 p3 p4 h4
          subst p1 p3 p4 h4
          rfl
    by_cases h5 : nd.kind = 5
    · obtain ⟨n, rfl⟩ : ∃ m, n = m + 1 := ⟨n - 1, by rw [depth_mk, if_pos (show cont nd.kind = true by rw [h5]; rfl)] at hd; omega⟩
      have hdk : depths ks ≤ n := by rw [depth_mk, if_pos (show cont nd.kind = true by rw [h5]; rfl)] at hd; omega
      rw [vlR_succ, hsj]
      have hpt : prT ln d (.mk nd ks) = 91 :: (prB ln d false ks ++ [93]) := by rw [prT_mk, if_pos h5]
      have hbj : bt S j = 91 := bt_of (c := 91) (R := prB ln d false ks ++ [93] ++ Q) (by rw [hj, hpt]; rfl)
      have hpart : ptR (vlR S n) snoc [] S 93 j = .ok (ks.map fun u => (lit ln d u).1) (j + (prT ln d (.mk nd ks)).length) := by
        cases ks with
        | nil =>
          rw [hpt, prB_nil] at hj ⊢
          exact part_none (c := 93) (by decide) [] 91 j Q (by rw [hj]; rfl)
        | cons t ts =>
          have e : prB ln d false (t :: ts) = prL ln (d + 1) ++ ((lit ln d t).2 ++ (tl (prL ln (d + 1)) (ts.map (lit ln d)) ++ prL ln d)) := by rw [prB_cons, prK_list]; simp [lit]
          have hrd : ∀ y ∈ lit ln d t :: ts.map (lit ln d), Reads (vlR S n) S y := by
            intro y hy
            rw [← List.map_cons] at hy
            obtain ⟨u, hu, rfl⟩ := List.mem_map.1 hy
            have hlen : (flat u).length ≤ N := by
              have := kid_lessP (n := nd) hu; omega
            have hb := back ln S N u (d + 1) n hlen (hkid u hu).1 (hkid u hu).2 (Nat.le_trans (depths_le hu) hdk)
            exact hb
          obtain ⟨a', T', g1, g2, g3⟩ : ∃ a T, (lit ln d t).2 = a :: T ∧ blk a.toNat = false ∧ a.toNat ≠ (93 : UInt8).toNat := by
            cases t with
            | mk n2 k2 =>
              have hp2 : plainN n2 = true := by have := (hkid (.mk n2 k2) (by simp)).2; rw [rightT_mk, Bool.and_eq_true] at this; exact this.1
              obtain ⟨a, T, g1, g2, g3, g4⟩ := prT_hd ln (d + 1) n2 k2 hp2
              exact ⟨a, T, g1, g2, g3⟩
          have hp := part_back (put := snoc) (c := 93) (P := prL ln (d + 1)) (E := prL ln d) (blk_prL _ _) (blk_prL _ _) (by decide) (by decide) (by decide) [] (lit ln d t) (ts.map (lit ln d)) 91 j Q hrd ⟨a', T', g1, g2, g3⟩ (by rw [hj, hpt, e]; simp)
          have hp2 : ptR (vlR S n) snoc [] S 93 j = _ := hp
          rw [hp2, fold_snoc]
          · refine congr (congrArg Rs.ok ?_) ?_
            · simp [Function.comp_def]
            · rw [hpt, e]; simp only [List.length_cons, List.length_append, List.length_nil]; omega
      unfold vl1
      rw [if_pos hbj]
      show mapR liV (ptR (vlR S n) snoc [] S 93 j) = _
      rw [hpart]
      show Rs.ok (liV _) _ = _
      refine congr (congrArg Rs.ok ?_) rfl
      have := arr_again hval h5
      exact this
    by_cases h6 : nd.kind = 6
    · have hnm := hval.named h6
      have hnames : ∀ u ∈ ks, Lib.validD u.nd.name = true := fun u hu => hnm.2 u hu
      have hnodup : (ks.map fun u => u.nd.name).Nodup := (List.pairwise_map.2 hnm.1).imp (fun {a b} hab (e : a = b) => by subst e; exact List.lt_irrefl a hab)
      obtain ⟨n, rfl⟩ : ∃ m, n = m + 1 := ⟨n - 1, by rw [depth_mk, if_pos (show cont nd.kind = true by rw [h6]; rfl)] at hd; omega⟩
      have hdk : depths ks ≤ n := by rw [depth_mk, if_pos (show cont nd.kind = true by rw [h6]; rfl)] at hd; omega
      rw [vlR_succ, hsj]
      have hpt : prT ln d (.mk nd ks) = 123 :: (prB ln d true ks ++ [125]) := by rw [prT_mk, if_neg h5, if_pos h6]
      have hbj : bt S j = 123 := bt_of (c := 123) (R := prB ln d true ks ++ [125] ++ Q) (by rw [hj, hpt]; rfl)
      have hpart : ptR (fdR (vlR S n) S) putP [] S 125 j = .ok (ks.map fun u => (oit ln d u).1) (j + (prT ln d (.mk nd ks)).length) := by
        cases ks with
        | nil =>
          rw [hpt, prB_nil] at hj ⊢
          exact part_none (c := 125) (by decide) [] 123 j Q (by rw [hj]; rfl)
        | cons t ts =>
          have e : prB ln d true (t :: ts) = prL ln (d + 1) ++ ((oit ln d t).2 ++ (tl (prL ln (d + 1)) (ts.map (oit ln d)) ++ prL ln d)) := by rw [prB_cons, prK_obj]; simp [oit]
          have hrd : ∀ y ∈ oit ln d t :: ts.map (oit ln d), Reads (fdR (vlR S n) S) S y := by
            intro y hy
            rw [← List.map_cons] at hy
            obtain ⟨u, hu, rfl⟩ := List.mem_map.1 hy
            have hlen : (flat u).length ≤ N := by
              have := kid_lessP (n := nd) hu; omega
            have hb := back ln S N u (d + 1) n hlen (hkid u hu).1 (hkid u hu).2 (Nat.le_trans (depths_le hu) hdk)
            exact fd_reads (hnames u hu) hb
          obtain ⟨a', T', g1, g2, g3⟩ : ∃ a T, (oit ln d t).2 = a :: T ∧ blk a.toNat = false ∧ a.toNat ≠ (125 : UInt8).toNat := by
            exact ⟨34, _, rfl, by decide, by decide⟩
          have hp := part_back (put := putP) (c := 125) (P := prL ln (d + 1)) (E := prL ln d) (blk_prL _ _) (blk_prL _ _) (by decide) (by decide) (by decide) [] (oit ln d t) (ts.map (oit ln d)) 123 j Q hrd ⟨a', T', g1, g2, g3⟩ (by rw [hj, hpt, e]; simp)
          have hp2 : ptR (fdR (vlR S n) S) putP [] S 125 j = _ := hp
          rw [hp2, fold_put]
          · refine congr (congrArg Rs.ok ?_) ?_
            · simp [Function.comp_def]
            · rw [hpt, e]; simp only [List.length_cons, List.length_append, List.length_nil]; omega
          · have := hnodup
            simpa [Function.comp_def, oit] using this
      unfold vl1
      rw [if_neg (by rw [hbj]; decide), if_pos hbj]
      show mapR obV (ptR (fdR (vlR S n) S) putP [] S 125 j) = _
      rw [hpart]
      show Rs.ok (obV _) _ = _
      refine congr (congrArg Rs.ok ?_) rfl
      have := (obj_again hval h6).2
      unfold obV
      rw [List.map_map, List.map_map]
      exact this
    cases n with
    | zero => rw [vlR_zero, hsj]; exact sc _ _ h5 h6
    | succ n => rw [vlR_succ, hsj]; exact sc _ _ h5 h6
end Tp
end Go.Proofs.YtafbojiojeemoaaGreatDoor

/-
  Plain words: a text with lines, without its blanks, is the compact one. No program stands here.
-/
namespace Go.Proofs.YtafbojiojeemoaaGreatDoor
namespace Tp
open Go.RowKit Np Rw Vp Up Qp

def nob (c : UInt8) : Bool := !decide (c = 32) && !decide (c = 10)
/-- What the statement calls bare. -/
def bareL (l : List UInt8) : List UInt8 := l.filter nob
theorem bare_append (a b : List UInt8) : bareL (a ++ b) = bareL a ++ bareL b := List.filter_append ..
theorem bare_id {l : List UInt8} (h : ∀ c ∈ l, nob c = true) : bareL l = l := List.filter_eq_self.2 h
theorem bare_all {l : List UInt8} (h : bareL l = l) : ∀ c ∈ l, nob c = true := List.filter_eq_self.1 h
theorem bare_cons {c : UInt8} (l : List UInt8) (h : nob c = true) : bareL (c :: l) = c :: bareL l := List.filter_cons_of_pos h
theorem wr_nob (c : UInt8) (h : nob c = true) : ∀ x ∈ wr c, nob x = true := by
  have key : ∀ n, n < 256 → nob (UInt8.ofNat n) = true → ∀ x ∈ wr (UInt8.ofNat n), nob x = true := by decide +kernel
  have h1 := key c.toNat c.toNat_lt
  rw [UInt8.ofNat_toNat] at h1
  exact h1 h
theorem wrs_nob {l : List UInt8} (h : ∀ c ∈ l, nob c = true) : ∀ x ∈ wrs l, nob x = true := by
  intro x hx
  obtain ⟨c, hc, hx⟩ := List.mem_flatMap.1 hx
  exact wr_nob c (h c hc) x hx
theorem quo_nob {l : List UInt8} (h : ∀ c ∈ l, nob c = true) : ∀ x ∈ quo l, nob x = true := by
  intro x hx
  unfold quo at hx
  simp only [List.mem_cons, List.mem_append, List.not_mem_nil, or_false] at hx
  rcases hx with rfl | hx | rfl
  · decide
  · exact wrs_nob h x hx
  · decide
theorem num_nob {c : UInt8} (h : numB.contains c = true) : nob c = true := by
  have key : ∀ c ∈ numB, nob c = true := by decide
  exact key c (by simpa using h)
theorem prL_bare (ln : Bool) (d : Nat) : bareL (prL ln d) = [] := by
  unfold prL
  split
  · rw [bareL, List.filter_eq_nil_iff]
    intro c hc
    rcases List.mem_cons.1 hc with rfl | hc
    · decide
    · rw [(List.mem_replicate.1 hc).2]; decide
  · rfl
theorem prN_bare {nm : List UInt8} (h : ∀ c ∈ nm, nob c = true) (ln : Bool) : bareL (prN ln nm) = prN false nm := by
  unfold prN
  rw [bare_append, bare_id (quo_nob h), bare_cons _ (by decide)]
  cases ln <;> rfl
theorem scT_bare {n : Nd} (hp : plainN n = true) (hs : ∀ c ∈ n.s, nob c = true) : bareL (scT n) = scT n := by
  apply bare_id
  unfold scT
  split
  · unfold wordT
    split
    · decide
    · split <;> decide
  · rename_i h0
    split
    · rename_i h3
      have hr : right { n with name := [] } = true := by unfold plainN at hp; rw [if_neg h0, if_pos h3] at hp; exact hp
      have hf : figs n.s = true := by
        by_cases he : n.s = []
        · rw [he]; rfl
        · obtain ⟨-, -, -, h | ⟨-, h, -⟩⟩ := (right_iff _).1 hr
          · exact absurd h.1 he
          · unfold rfigs at h
            simp only [Bool.and_eq_true] at h
            exact h.1.1.2
      intro c hc
      exact num_nob (printN_num hf _ _ c hc)
    · exact quo_nob hs
/-- No string or name of it has a blank. -/
def Bare (l : List Nd) : Prop := ∀ x ∈ l, (∀ c ∈ x.s, nob c = true) ∧ ∀ c ∈ x.name, nob c = true
theorem prK_bare (d : Nat) (ob : Bool) : ∀ ks : List (Tr Nd), (∀ u ∈ ks, bareL (prT true (d + 1) u) = prT false (d + 1) u ∧ ∀ c ∈ u.nd.name, nob c = true) → bareL (prK true d ob ks) = prK false d ob ks
  | [], _ => by rw [prK_nil, prK_nil, prL_bare]; rfl
  | u :: ks, h => by
    have ih := prK_bare d ob ks fun x hx => h x (List.mem_cons_of_mem _ hx)
    obtain ⟨h1, h2⟩ := h u (by simp)
    have h3 : bareL (if ob = true then prN true u.nd.name else []) = if ob = true then prN false u.nd.name else [] := by
      split
      · exact prN_bare h2 true
      · rfl
    rw [prK_cons, prK_cons, bare_cons _ (by decide), bare_append, bare_append, bare_append, ih, h1, h3, prL_bare]
    rfl
theorem prB_bare (d : Nat) (ob : Bool) (ks : List (Tr Nd)) (h : ∀ u ∈ ks, bareL (prT true (d + 1) u) = prT false (d + 1) u ∧ ∀ c ∈ u.nd.name, nob c = true) : bareL (prB true d ob ks) = prB false d ob ks := by
  cases ks with
  | nil => rw [prB_nil, prB_nil]; rfl
  | cons u ks =>
    have ih := prK_bare d ob ks fun x hx => h x (List.mem_cons_of_mem _ hx)
    obtain ⟨h1, h2⟩ := h u (by simp)
    have h3 : bareL (if ob = true then prN true u.nd.name else []) = if ob = true then prN false u.nd.name else [] := by
      split
      · exact prN_bare h2 true
      · rfl
    rw [prB_cons, prB_cons, bare_append, bare_append, bare_append, ih, h1, h3, prL_bare]
    rfl
theorem prT_bare : ∀ (N : Nat) (t : Tr Nd) (d : Nat), (flat t).length ≤ N → okT many t → rightT t = true → Bare (flat t) → bareL (prT true d t) = prT false d t
  | 0, t, _, hN, _, _, _ => by have := flat_pos t; omega
  | N + 1, .mk n ks, d, hN, h1, h2, hB => by
    have hk := kids_okP h1 h2
    have hpl : plainN n = true := by rw [rightT_mk, Bool.and_eq_true] at h2; exact h2.1
    have hn := hB n (by rw [flat_mk]; simp)
    have hks : ∀ u ∈ ks, bareL (prT true (d + 1) u) = prT false (d + 1) u ∧ ∀ c ∈ u.nd.name, nob c = true := by
      intro u hu
      have hB2 : Bare (flat u) := fun x hx => hB x (by
        rw [flat_mk, List.mem_cons]
        refine .inr ?_
        obtain ⟨a, c, rfl⟩ := List.append_of_mem hu
        rw [flats_append, flats_cons]
        simp [hx])
      exact ⟨prT_bare N u (d + 1) (by have := kid_lessP (n := n) hu; omega) (hk u hu).1 (hk u hu).2 hB2, (hB2 u.nd (by rw [flat_eq]; simp)).2⟩
    rw [prT_mk, prT_mk]
    split
    · rw [bare_cons _ (by decide), bare_append, prB_bare d false ks hks]; rfl
    · split
      · rw [bare_cons _ (by decide), bare_append, prB_bare d true ks hks]; rfl
      · exact scT_bare hpl hn.1

/-! ### blanks around -/
/-- A value's text, with blanks ahead and behind, is read as it. -/
theorem blanks_parse {t : Tr Nd} (hv : Val t) (hd : depth t ≤ 128) (ln : Bool) {B E : List UInt8} (hB : Blk B) (hE : Blk E) : prsR (B ++ (prT ln 0 t ++ E)) = (flat t, 0, 0) := by
  have hS : Stop E := by
    intro c hc
    cases E with
    | nil => cases hc
    | cons x E => injection hc with hc; subst hc; exact blk_num (hE x (by simp))
  have hb := back ln (B ++ (prT ln 0 t ++ E)) _ t 0 128 (Nat.le_refl _) hv.ok hv.rt hd 0 B E hB (by simp) hS
  have e : nmd [] t = t := by conv => rhs; rw [← nmd_self t, hv.nm]
  simp only [e, Nat.zero_add] at hb
  unfold prsR
  rw [hb]
  simp only
  have h1 : (B ++ (prT ln 0 t ++ E)).drop (B.length + (prT ln 0 t).length) = E ++ [] := by
    rw [← List.append_assoc, List.drop_append_of_le_length (by simp)]; simp
  rw [sk_blanks h1 hE (by simp), if_neg]
  simp only [List.length_append]
  omega
/-- Something behind a value. -/
theorem more_parse {t u : Tr Nd} (hv : Val t) (hd : depth t ≤ 128) (hu : Val u) (ln : Bool) : prsR (prT ln 0 t ++ 32 :: prT ln 0 u) = ([], (prT ln 0 t).length + 1, 1) := by
  have hb := back ln (prT ln 0 t ++ 32 :: prT ln 0 u) _ t 0 128 (Nat.le_refl _) hv.ok hv.rt hd 0 [] (32 :: prT ln 0 u) Blk.nil (by simp) (Stop.cons (by decide))
  have e : nmd [] t = t := by conv => rhs; rw [← nmd_self t, hv.nm]
  simp only [e, List.length_nil, Nat.zero_add] at hb
  unfold prsR
  rw [hb]
  simp only
  have hpu : plainN u.nd = true := hu.plain
  obtain ⟨n, ks⟩ := u
  obtain ⟨a, T, h1, h2, -⟩ := prT_hd ln 0 n ks hpu
  have h3 : (prT ln 0 t ++ 32 :: prT ln 0 (.mk n ks)).drop (prT ln 0 t).length = [32] ++ prT ln 0 (.mk n ks) := by simp
  rw [sk_blanks h3 (by intro c hc; simp at hc; subst hc; decide) (by rw [h1]; intro c hc; injection hc with hc; subst hc; exact h2), if_pos]
  · simp
  · rw [h1]; simp
end Tp
end Go.Proofs.YtafbojiojeemoaaGreatDoor
