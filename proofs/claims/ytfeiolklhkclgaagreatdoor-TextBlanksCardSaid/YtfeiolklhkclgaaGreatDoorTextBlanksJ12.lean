/-
  Joined: Emb, TxG.
-/
import Derived.Shelf.Strings.BuilderK
import Derived.Test.YtfeiolklhkclgaaGreatDoorTextBlanksJ3
import Derived.Test.YtfeiolklhkclgaaGreatDoorBase
import Derived.Test.YtfeiolklhkclgaaGreatDoorTextBlanksJ4

/-
  strings.Builder's writers at a builder that is embedded in a printer: what they leave.
-/
namespace Go.Proofs.YtfeiolklhkclgaaGreatDoor
open Go.Shelf Go.RowKit

/-- A printer in block b, whose builder holds these bytes. -/
def EmbV (b : Nat) (p : Value) (ln : Bool) (n : Int) (l : List UInt8) (w : World) : Prop :=
  ∃ v, w.heap[b]? = some (.cells #[p, v, .bool ln, .int .i64 n] 62 (0, 0)) ∧ w.ownsRowF b 5 1 v l.length (Lib.byteCells l) ∧ v.ownBlock ≠ some b
def Emb (b : Nat) (ln : Bool) (n : Int) (l : List UInt8) (w : World) : Prop := EmbV b (.pointer none) ln n l w ∨ EmbV b (.pointer (some ⟨b, 0, none⟩)) ln n l w
/-- All but the printer and its bytes is as it was. -/
def Pk (b : Nat) (w w' : World) : Prop := Below b w w' ∧ Lib.OthersKept 5 (some b) w w'
theorem Pk.refl (b : Nat) (w : World) : Pk b w w := ⟨Below.refl _ _, Lib.OthersKept.refl _ _ _⟩
theorem Pk.trans {b : Nat} {x y z : World} (h : Pk b x y) (k : Pk b y z) : Pk b x z := ⟨h.1.trans k.1, h.2.trans k.2⟩
theorem Pk.drew {b : Nat} {x y : World} (h : Pk b x y) : Pk b x y.drew := ⟨h.1.drew, h.2.drew⟩
theorem Pk.drewN {b : Nat} {x y : World} (h : Pk b x y) (n : Nat) : Pk b x (y.drewN n) := ⟨drewN_below h.1 n, fun k o hk hb ho => h.2 k o hk hb ho⟩
theorem Pk.alloc {b : Nat} {x y : World} (h : Pk b x y) (hb : b ≤ y.heap.size) (o : Obj) : Pk b x (y.alloc o) := ⟨h.1.alloc hb o, h.2.alloc o⟩
theorem Pk.setCell {b : Nat} {x y : World} (h : Pk b x y) (o : Nat) (v : Value) : Pk b x (y.setCell ⟨b, o, none⟩ v) := ⟨h.1.setCell (p := ⟨b, o, none⟩) (Nat.le_refl _) v, h.2.setCell ⟨b, o, none⟩ rfl v⟩
theorem Pk.size {b : Nat} {x y : World} (h : Pk b x y) : x.heap.size ≤ y.heap.size := h.1.size

section
variable {b : Nat} {p : Value} {ln : Bool} {n : Int} {l : List UInt8} {w w' : World}
theorem EmbV.lt (h : EmbV b p ln n l w) : b < w.heap.size := by
  obtain ⟨v, hb, -⟩ := h
  exact (Array.getElem?_eq_some_iff.1 hb).1
theorem Emb.lt (h : Emb b ln n l w) : b < w.heap.size := h.elim EmbV.lt EmbV.lt
theorem EmbV.c0 (h : EmbV b p ln n l w) : w.cell? ⟨b, 0, none⟩ = some p := by obtain ⟨v, hb, -⟩ := h; rw [Lib.cell_of_heap hb]; rfl
theorem EmbV.c2 (h : EmbV b p ln n l w) : w.cell? ⟨b, 2, none⟩ = some (.bool ln) := by obtain ⟨v, hb, -⟩ := h; rw [Lib.cell_of_heap hb]; rfl
theorem EmbV.c3 (h : EmbV b p ln n l w) : w.cell? ⟨b, 3, none⟩ = some (.int .i64 n) := by obtain ⟨v, hb, -⟩ := h; rw [Lib.cell_of_heap hb]; rfl
theorem Emb.c2 (h : Emb b ln n l w) : w.cell? ⟨b, 2, none⟩ = some (.bool ln) := h.elim EmbV.c2 EmbV.c2
theorem Emb.c3 (h : Emb b ln n l w) : w.cell? ⟨b, 3, none⟩ = some (.int .i64 n) := h.elim EmbV.c3 EmbV.c3
theorem EmbV.fz (h : EmbV b p ln n l w) (o : Nat) : w.frozen? ⟨b, o, none⟩ = false := by obtain ⟨v, hb, -⟩ := h; exact Lib.frozen_of_heap hb o
theorem Emb.fz (h : Emb b ln n l w) (o : Nat) : w.frozen? ⟨b, o, none⟩ = false := h.elim (fun h => h.fz o) (fun h => h.fz o)
theorem EmbV.shape (h : EmbV b p ln n l w) : w.shape? b = some (62, 4) := by obtain ⟨v, hb, -⟩ := h; simp [World.shape?, hb]
/-- Kept, where its block and its buffer are. -/
theorem EmbV.grown {row : Option Nat} (h : EmbV b p ln n l w) (hg : w.grownBy w' row) (hr : row = none) : EmbV b p ln n l w' := by
  have hlt := h.lt
  obtain ⟨v, hb, hown, hne⟩ := h
  subst hr
  exact ⟨v, (hg.block b hlt (by simp)).trans hb, hown.kept hg (by cases hv : v.ownBlock <;> simp), hne⟩
theorem EmbV.alloc (h : EmbV b p ln n l w) (o : Obj) : EmbV b p ln n l (w.alloc o) := h.grown (World.grownBy_alloc w o none) rfl
theorem Emb.alloc (h : Emb b ln n l w) (o : Obj) : Emb b ln n l (w.alloc o) := h.elim (fun h => .inl (h.alloc o)) (fun h => .inr (h.alloc o))
theorem EmbV.below (h : EmbV b p ln n l w) (hb : Below w.heap.size w w') : EmbV b p ln n l w' :=
  h.grown (row := none) ⟨hb.os, hb.tape, hb.output, hb.size, fun k hk _ => hb.block k hk⟩ rfl
theorem Emb.below (h : Emb b ln n l w) (hb : Below w.heap.size w w') : Emb b ln n l w' := h.elim (fun h => .inl (h.below hb)) (fun h => .inr (h.below hb))
theorem EmbV.drewN (h : EmbV b p ln n l w) (k : Nat) : EmbV b p ln n l (w.drewN k) := h
theorem Emb.drewN (h : Emb b ln n l w) (k : Nat) : Emb b ln n l (w.drewN k) := h
theorem Emb.drew (h : Emb b ln n l w) : Emb b ln n l w.drew := h
/-- How deep it is. -/
theorem EmbV.deep (h : EmbV b p ln n l w) (m : Int) : EmbV b p ln m l (w.setCell ⟨b, 3, none⟩ (.int .i64 m)) := by
  obtain ⟨v, hb, hown, hne⟩ := h
  refine ⟨v, by simp [World.setCell, Array.getElem?_modify, hb], ?_, hne⟩
  exact hown.kept (row := some b) ⟨rfl, rfl, rfl, by simp [World.setCell], fun k _ hk => Below.heap_setCell _ _ _ _ (fun e => hk (by simp [e]))⟩ (Or.inr hne)
theorem Emb.deep (h : Emb b ln n l w) (m : Int) : Emb b ln m l (w.setCell ⟨b, 3, none⟩ (.int .i64 m)) := h.elim (fun h => .inl (h.deep m)) (fun h => .inr (h.deep m))
theorem EmbV.used (h : EmbV b p ln n l w) : EmbV b (.pointer (some ⟨b, 0, none⟩)) ln n l (w.setCell ⟨b, 0, none⟩ (.pointer (some ⟨b, 0, none⟩))) := by
  obtain ⟨v, hb, hown, hne⟩ := h
  refine ⟨v, by simp [World.setCell, Array.getElem?_modify, hb], ?_, hne⟩
  exact hown.kept (row := some b) ⟨rfl, rfl, rfl, by simp [World.setCell], fun k _ hk => Below.heap_setCell _ _ _ _ (fun e => hk (by simp [e]))⟩ (Or.inr hne)
/-- A cell of another block, that is no row of bytes. -/
theorem Pk.other (h : Pk b w w') {k : Nat} {cs : Array Value} {T : TypeId} {fz : Nat × Nat} (hk : w.heap[k]? = some (.cells cs T fz)) (hkb : k ≠ b) (hT : T ≠ 5) : w'.heap[k]? = some (.cells cs T fz) :=
  h.2 k _ hk (fun e => hkb (Option.some.inj e)) (fun c f e => hT (by injection e))
end

theorem lies_emb : (liesAt Tryz.prog Tryz.prog.depth 62 (4 / Tryz.prog.cellsOf 62) 0 60 1) = true := by kernel_rfl

set_option maxHeartbeats 1000000 in
set_option maxRecDepth 100000 in
theorem embCheck_used (b : Nat) (w : World) (h0 : w.cell? ⟨b, 0, none⟩ = some (.pointer (some ⟨b, 0, none⟩))) :
    Calls Tryz.prog 71 #[.pointer (some ⟨b, 0, none⟩)] w fun e w' => e = .returned (.tuple #[]) ∧ w' = w :=
  Any.Builder_copyCheck_used { Tryz.bld166 with } Tryz.bldExtra.toX72 b w h0

set_option maxHeartbeats 1000000 in
set_option maxRecDepth 100000 in
theorem embCheck_fresh (b : Nat) (w : World) (h0 : w.cell? ⟨b, 0, none⟩ = some (.pointer none)) (hsh : w.shape? b = some (62, 4)) (hfz : w.frozen? ⟨b, 0, none⟩ = false) :
    Calls Tryz.prog 71 #[.pointer (some ⟨b, 0, none⟩)] w fun e w' => e = .returned (.tuple #[]) ∧ w' = w.setCell ⟨b, 0, none⟩ (.pointer (some ⟨b, 0, none⟩)) := by
  obtain ⟨j, hj, hjs⟩ := Option.map_eq_some_iff.1 Tryz.bldExtra.sizeBuilder
  replace hj : Tryz.prog.info? 60 = some j := hj
  go_enter Tryz.func71, Tryz.ntmps71
  go_wp2
  rw [Lib.run_to_unsafe w ⟨b, 0, none⟩ Tryz.underlying57 Tryz.underlying135 hj (by rw [hjs]; decide) hsh (Nat.zero_lt_succ 3)]
  simp only [Result.andThen]
  rw [Oper.upon_value]
  go_wp2
  rw [run_callFunc_extern Tryz.func105 (by kernel_rfl) (by kernel_rfl) (by kernel_rfl) (e := Extern.AbiNoEscape.same) (by kernel_rfl)]
  rw [Lib.run_noEscape]
  simp only [Result.andThen]
  rw [Oper.upon_value]
  go_wp2
  rw [Lib.run_from_unsafe w ⟨b, 0, none⟩ Tryz.underlying135 Tryz.underlying57 hj hsh lies_emb]
  simp only [Result.andThen]
  rw [Oper.upon_value]
  go_wp2
  go_end0
  exact ⟨rfl, rfl⟩
theorem embCheck (b : Nat) (ln : Bool) (n : Int) (l : List UInt8) (w : World) (h : Emb b ln n l w) :
    Calls Tryz.prog 71 #[.pointer (some ⟨b, 0, none⟩)] w fun e w' => e = .returned (.tuple #[]) ∧ EmbV b (.pointer (some ⟨b, 0, none⟩)) ln n l w' ∧ Pk b w w' := by
  rcases h with h | h
  · refine (embCheck_fresh b w h.c0 h.shape (h.fz 0)).mono ?_
    rintro e w' ⟨rfl, rfl⟩
    exact ⟨rfl, h.used, (Pk.refl b w).setCell 0 _⟩
  · refine (embCheck_used b w h.c0).mono ?_
    rintro e w' ⟨rfl, rfl⟩
    exact ⟨rfl, h, Pk.refl _ _⟩
theorem EmbV.put {b : Nat} {p v v' : Value} {ln : Bool} {n : Int} {l : List UInt8} {w : World} (hb : w.heap[b]? = some (.cells #[p, v, .bool ln, .int .i64 n] 62 (0, 0))) (hown : w.ownsRowF b 5 1 v' l.length (Lib.byteCells l)) :
    EmbV b p ln n l (w.setCell ⟨b, 1, none⟩ v') := by
  have hne := Lib.ownBlock_neF hown hb (by decide)
  refine ⟨v', by simp [World.setCell, Array.getElem?_modify, hb], ?_, hne⟩
  exact hown.kept (row := some b) ⟨rfl, rfl, rfl, by simp [World.setCell], fun k _ hk => Below.heap_setCell _ _ _ _ (fun e => hk (by simp [e]))⟩ (Or.inr hne)

set_option maxHeartbeats 2000000 in
set_option maxRecDepth 100000 in
theorem embByte (b : Nat) (ln : Bool) (n : Int) (l : List UInt8) (c : UInt8) (w : World) (h : Emb b ln n l w) (hlen : l.length + 1 ≤ 140737488355328) :
    Calls Tryz.prog 49 #[.pointer (some ⟨b, 0, none⟩), .int .u8 c.toNat] w fun e w' => e = .returned .nilIface ∧ Emb b ln n (l ++ [c]) w' ∧ Pk b w w' := by
  obtain ⟨i0, hi, hz0, hz1, hz2⟩ := info_parts Tryz.bldExtra.infoByte
  replace hi : Tryz.prog.info? 5 = some i0 := hi
  have hbc : Lib.byteCells (l ++ [c]) = Lib.byteCells l ++ [.int .u8 c.toNat] := by rw [Lib.byteCells_append]; rfl
  go_enter Tryz.func49, Tryz.ntmps49
  go_wp2_with (go_at_call 71; refine (embCheck b ln n l _ h).mono ?_)
  rintro e w1 ⟨rfl, h1, hk1⟩
  obtain ⟨v, hbk, hown, hne⟩ := h1
  have hlt : b < w1.heap.size := (Array.getElem?_eq_some_iff.1 hbk).1
  have c0 : w1.cell? ⟨b, 0, none⟩ = some (.pointer (some ⟨b, 0, none⟩)) := by rw [Lib.cell_of_heap hbk]; rfl
  have c1 : w1.cell? ⟨b, 1, none⟩ = some v := by rw [Lib.cell_of_heap hbk]; rfl
  go_wp2_with (at_builtin; refine wpList_append_ownF _ rfl _ _ 58 rfl b 5 i0 (.int .u8 0) 1 1 Tryz.underlying58 hi hz0 hz1 hz2 rfl (by decide) _ _ _ rfl (hown.alloc _) ⟨w1.heap.size, 0, none⟩ 1 1 [.int .u8 c.toNat] rfl rfl ?c1 ?c2 ?c3 ?c4 ?c5 ?_)
  case c1 =>
    intro j u hj
    match j, hj with
    | 0, hj => simp at hj; subst hj; simp [Addr.add]
  case c2 => intro u hu; simp at hu; subst hu; rfl
  case c3 => unfold maxLen; omega
  case c4 => omega
  case c5 => simp; omega
  intro v' w2 hown' hgrow _
  have hb2 : w2.heap[b]? = some (.cells #[.pointer (some ⟨b, 0, none⟩), v, .bool ln, .int .i64 n] 62 (0, 0)) := by
    rw [hgrow.block b (by simp; omega) (fun e => hne e.symm), Lib.alloc_old w1 _ b hlt]
    exact hbk
  have d0 : w2.cell? ⟨b, 0, none⟩ = some (.pointer (some ⟨b, 0, none⟩)) := by rw [Lib.cell_of_heap hb2]; rfl
  have d1 : w2.cell? ⟨b, 1, none⟩ = some v := by rw [Lib.cell_of_heap hb2]; rfl
  have f1 : w2.frozen? ⟨b, 1, none⟩ = false := Lib.frozen_of_heap hb2 1
  obtain ⟨g, cap, rfl⟩ : ∃ g cap, v' = .slice (some ⟨g, 0, none⟩) (l.length + 1) cap := by
    rcases hown'.2 with ⟨_, h0⟩ | ⟨g, cap, cur, fz, hv, _⟩
    · omega
    · exact ⟨g, cap, hv⟩
  rw [← hbc] at hown'
  have HE : Hid (EmbV b (.pointer (some ⟨b, 0, none⟩)) ln n (l ++ [c]) (w2.setCell ⟨b, 1, none⟩ (.slice (some ⟨g, 0, none⟩) (l.length + 1) cap))) := Lib.hid (EmbV.put hb2 (by simpa using hown'))
  have HK : Hid (Pk b w (w2.setCell ⟨b, 1, none⟩ (.slice (some ⟨g, 0, none⟩) (l.length + 1) cap))) := Lib.hid (by
    refine Pk.setCell (hk1.trans ⟨?_, ?_⟩) 1 _
    · exact ((Below.refl b w1).alloc (Nat.le_of_lt hlt) _).grown hgrow (by simp; omega) (fun k hk => (hown.lt k hk).1)
    · exact ((Lib.OthersKept.refl _ _ w1).alloc _).grown hgrow (Lib.ownsRowF_kind (hown.alloc _)))
  clear hown' hgrow
  go_wp2
  go_ret
  exact ⟨rfl, .inr HE.out, HK.out⟩

set_option maxHeartbeats 2000000 in
set_option maxRecDepth 100000 in
theorem embString (b : Nat) (ln : Bool) (n : Int) (l : List UInt8) (s : ByteArray) (w : World) (h : Emb b ln n l w) (hlen : l.length + s.size ≤ 140737488355328) :
    Calls Tryz.prog 46 #[.pointer (some ⟨b, 0, none⟩), .string s] w fun e w' => e = .returned (.tuple #[.int .i64 s.size, .nilIface]) ∧ Emb b ln n (l ++ s.data.toList) w' ∧ Pk b w w' := by
  obtain ⟨i0, hi, hz0, hz1, hz2⟩ := info_parts Tryz.bldExtra.infoByte
  replace hi : Tryz.prog.info? 5 = some i0 := hi
  have hbc : Lib.byteCells (l ++ s.data.toList) = Lib.byteCells l ++ Lib.strCells s := by rw [Lib.byteCells_append, Lib.strCells_eq]
  have hbl : (l ++ s.data.toList).length = l.length + s.size := by rw [List.length_append]; rfl
  go_enter Tryz.func46, Tryz.ntmps46
  go_wp2_with (go_at_call 71; refine (embCheck b ln n l _ h).mono ?_)
  rintro e w1 ⟨rfl, h1, hk1⟩
  obtain ⟨v, hbk, hown, hne⟩ := h1
  have hlt : b < w1.heap.size := (Array.getElem?_eq_some_iff.1 hbk).1
  have c0 : w1.cell? ⟨b, 0, none⟩ = some (.pointer (some ⟨b, 0, none⟩)) := by rw [Lib.cell_of_heap hbk]; rfl
  have c1 : w1.cell? ⟨b, 1, none⟩ = some v := by rw [Lib.cell_of_heap hbk]; rfl
  go_wp2_with (at_builtin; refine Lib.wpList_append_own_stringF _ rfl _ _ 58 9 rfl b 5 i0 Tryz.underlying58 Tryz.underlying9 hi hz0 hz1 hz2 _ _ _ rfl hown s rfl ?c3 ?c4 ?c5 ?_)
  case c3 => unfold maxLen; omega
  case c4 => omega
  case c5 => omega
  intro v' w2 hown' hgrow _
  have hb2 : w2.heap[b]? = some (.cells #[.pointer (some ⟨b, 0, none⟩), v, .bool ln, .int .i64 n] 62 (0, 0)) := by
    rw [hgrow.block b hlt (fun e => hne e.symm)]
    exact hbk
  have d0 : w2.cell? ⟨b, 0, none⟩ = some (.pointer (some ⟨b, 0, none⟩)) := by rw [Lib.cell_of_heap hb2]; rfl
  have d1 : w2.cell? ⟨b, 1, none⟩ = some v := by rw [Lib.cell_of_heap hb2]; rfl
  have f1 : w2.frozen? ⟨b, 1, none⟩ = false := Lib.frozen_of_heap hb2 1
  obtain ⟨ao, n', cap, rfl⟩ : ∃ ao n' cap, v' = .slice ao n' cap := by
    rcases hown'.2 with ⟨hv, _⟩ | ⟨g, cap, cur, fz, hv, _⟩
    · exact ⟨_, _, _, hv⟩
    · exact ⟨_, _, _, hv⟩
  rw [← hbc, ← hbl] at hown'
  have HE : Hid (EmbV b (.pointer (some ⟨b, 0, none⟩)) ln n (l ++ s.data.toList) (w2.setCell ⟨b, 1, none⟩ (.slice ao n' cap))) := Lib.hid (EmbV.put hb2 hown')
  have HK : Hid (Pk b w (w2.setCell ⟨b, 1, none⟩ (.slice ao n' cap))) := Lib.hid (by
    refine Pk.setCell (hk1.trans ⟨?_, ?_⟩) 1 _
    · exact (Below.refl b w1).grown hgrow (Nat.le_of_lt hlt) (fun k hk => (hown.lt k hk).1)
    · exact (Lib.OthersKept.refl _ _ w1).grown hgrow (Lib.ownsRowF_kind hown))
  clear hown' hgrow
  go_wp2
  go_ret2
  exact ⟨rfl, .inr HE.out, HK.out⟩

set_option maxHeartbeats 1000000 in
set_option maxRecDepth 100000 in
theorem embText (b : Nat) (ln : Bool) (n : Int) (l : List UInt8) (w : World) (h : Emb b ln n l w) (h0 : l ≠ []) :
    Calls Tryz.prog 28 #[.pointer (some ⟨b, 0, none⟩)] w fun e w' => e = .returned (.string ⟨l.toArray⟩) ∧ Below b w w' := by
  obtain ⟨p, hAt⟩ : ∃ p, EmbV b p ln n l w := h.elim (fun h => ⟨_, h⟩) (fun h => ⟨_, h⟩)
  obtain ⟨v, hbk, hown, hne⟩ := hAt
  have hl0 : l.length ≠ 0 := by simpa using h0
  obtain ⟨g, cap, cur, fz, rfl, hbg, hg, hfz, hnc, hcm, hcs, htake⟩ : ∃ g cap cur fz, v = .slice (some ⟨g, 0, none⟩) l.length cap ∧ b ≤ g ∧ w.heap[g]? = some (.cells cur 5 fz) ∧ fz.2 ≤ l.length * 1 ∧ l.length ≤ cap ∧ cap ≤ maxLen ∧ cur.size = cap * 1 ∧ cur.toList.take (l.length * 1) = Lib.byteCells l := by
    rcases hown.2 with ⟨_, hz⟩ | ⟨g, cap, cur, fz, hv, r⟩
    · exact absurd hz hl0
    · exact ⟨g, cap, cur, fz, hv, r⟩
  have c1 : w.drew.cell? ⟨b, 1, none⟩ = some (.slice (some ⟨g, 0, none⟩) l.length cap) := by
    have : w.drew.heap[b]? = some (.cells #[p, .slice (some ⟨g, 0, none⟩) l.length cap, .bool ln, .int .i64 n] 62 (0, 0)) := hbk
    rw [Lib.cell_of_heap this]; rfl
  have hSD : (Builtin.unsafeSliceData_ #[58] 86 #[.slice (some ⟨g, 0, none⟩) l.length cap]).run Tryz.prog w.drew = .ok (.pointer (some ⟨g, 0, none⟩)) w.drew :=
    Lib.run_unsafeSliceData_row _ _ _ _ _ _ (by omega)
  have hUS : (Builtin.unsafeString_ #[86, 3] 9 #[.pointer (some ⟨g, 0, none⟩), .int .i64 l.length]).run Tryz.prog w.drew = .ok (.string ⟨l.toArray⟩) (w.drew.freeze ⟨g, 0, none⟩ l.length) := by
    refine Lib.run_unsafeString_row w.drew 86 3 9 5 Tryz.underlying86 Tryz.bldExtra.cellsByte g cur.size (by have hg' : w.drew.heap[g]? = some (.cells cur 5 fz) := hg; simp [World.shape?, hg']) l h0 (by omega) (by unfold maxLen at hcm; omega) ?_
    intro j x hx
    exact hown.cells (g := g) rfl j (.int .u8 x.toNat) (by simp [Lib.byteCells, hx])
  have HB : Hid (Below b w (w.drew.freeze ⟨g, 0, none⟩ l.length)) := Lib.hid (Lib.below_freeze (Below.drew (Below.refl b w)) (p := ⟨g, 0, none⟩) hbg _)
  have mixed := Tryz.bld166.mixed
  go_enter Tryz.func28, Tryz.ntmps28
  go_wp2
  go_region_o
  all_goals (go_wp2; go_ret; exact ⟨rfl, HB.out⟩)
end Go.Proofs.YtfeiolklhkclgaaGreatDoor

/-
  What the printer's line and name are.
-/
namespace Go.Proofs.YtfeiolklhkclgaaGreatDoor
open Go.RowKit Np Rw Vp Up Qp Tp

/-- What a call of another's leaves. -/
theorem Pk.of {b : Nat} {w w' : World} (h : Below w.heap.size w w') (hb : b ≤ w.heap.size) : Pk b w w' :=
  ⟨h.mono hb, fun k _ hk _ _ => (h.block k (Array.getElem?_eq_some_iff.1 hk).1).trans hk⟩

set_option maxRecDepth 100000 in
set_option maxHeartbeats 2000000 in
theorem line_any (b : Nat) (ln : Bool) (d : Nat) (L : List UInt8) (w : World) (h : Emb b ln d L w) (hd : d ≤ 1000) (hL : L.length ≤ 100000000) :
    Calls Tryz.prog 76 #[.pointer (some ⟨b, 0, none⟩)] w fun e w' => e = .returned (.tuple #[]) ∧ Emb b ln d (L ++ prL ln d) w' ∧ Pk b w w' := by
  have H := Lib.hid h
  have c2 := h.c2
  clear h
  cases ln with
  | false =>
    go_enter Tryz.func76, Tryz.ntmps76
    go_wp2_with fail
    refine bodyPost_ret (results_none rfl _ _ _) rfl ?_
    exact ⟨rfl, by rw [show prL false d = [] from rfl, List.append_nil]; exact H.out, Pk.refl _ _⟩
  | true =>
    have HW := Lib.hid (embByte b true d L 10 w H.out (by omega))
    go_enter Tryz.func76, Tryz.ntmps76
    go_wp2_with (go_at_call 49; refine HW.out.mono ?_; rintro e w1 ⟨rfl, h1, hk1⟩; have d3 := h1.c3; have HE1 := Lib.hid h1; have HK1 := Lib.hid hk1; clear h1 hk1)
    go_loopw [15] (fun iv wr => ∃ k : Nat, k ≤ d ∧ iv = .int .i64 k ∧ Hid (Emb b true d (L ++ 10 :: List.replicate (2 * k) 32) wr) ∧ Hid (Pk b w wr)) (fun iv _ => d - (intOf iv).toNat)
    case atStart => exact ⟨0, Nat.zero_le _, rfl, HE1, HK1⟩
    case round =>
      obtain ⟨k, hk, rfl, HE, HK⟩ := hrel
      by_cases hlt : k < d
      · have HS := Lib.hid (embString b true d (L ++ 10 :: List.replicate (2 * k) 32) ⟨#[32, 32]⟩ wr HE.out (by show (L ++ 10 :: List.replicate (2 * k) 32).length + 2 ≤ _; simp; omega))
        go_wp2_with (go_at_call 46; refine HS.out.mono ?_; rintro e w2 ⟨rfl, h2, hk2⟩)
        go_roundw
        case rel =>
          refine ⟨k + 1, by omega, by go_num, Lib.hid ?_, Lib.hid (HK.out.trans hk2)⟩
          have e : L ++ 10 :: List.replicate (2 * k) 32 ++ (ByteArray.mk #[32, 32]).data.toList = L ++ 10 :: List.replicate (2 * (k + 1)) 32 := by
            rw [show 2 * (k + 1) = 2 * k + 2 by omega, ← List.replicate_append_replicate, List.append_assoc, List.cons_append]; rfl
          rw [← e]; exact h2
        case measure => simp [intOf]; omega
      · have hkd : k = d := by omega
        subst hkd
        go_wp2_with fail
        go_end0
        exact ⟨rfl, HE.out, HK.out⟩

set_option maxRecDepth 100000 in
set_option maxHeartbeats 2000000 in
theorem name_any (b : Nat) (ln : Bool) (d : Int) (L nm : List UInt8) (w : World) (h : Emb b ln d L w) (hn : nm.length ≤ 1000000) (hL : L.length ≤ 100000000) (hq : (quo nm).length ≤ 100000000) :
    Calls Tryz.prog 77 #[.pointer (some ⟨b, 0, none⟩), .string ⟨nm.toArray⟩] w fun e w' => e = .returned (.tuple #[]) ∧ Emb b ln d (L ++ prN ln nm) w' ∧ Pk b w w' := by
  have HQ : Hid (∀ W, Calls Tryz.prog 48 #[.string ⟨nm.toArray⟩] W fun e w' => e = .returned (.string ⟨(quo nm).toArray⟩) ∧ Below W.heap.size W w') := Lib.hid (fun W => quote_any ⟨nm.toArray⟩ W (by rw [mk_size]; omega))
  have HS : Hid (∀ W, Emb b ln d L W → Calls Tryz.prog 46 #[.pointer (some ⟨b, 0, none⟩), .string ⟨(quo nm).toArray⟩] W fun e w' => e = .returned (.tuple #[.int .i64 (ByteArray.mk (quo nm).toArray).size, .nilIface]) ∧ Emb b ln d (L ++ quo nm) w' ∧ Pk b W w') := Lib.hid (fun W h => embString b ln d L ⟨(quo nm).toArray⟩ W h (by rw [mk_size]; omega))
  have HB : Hid (∀ W, Emb b ln d (L ++ quo nm) W → Calls Tryz.prog 49 #[.pointer (some ⟨b, 0, none⟩), .int .u8 58] W fun e w' => e = .returned .nilIface ∧ Emb b ln d (L ++ quo nm ++ [58]) w' ∧ Pk b W w') := Lib.hid (fun W h => embByte b ln d _ 58 W h (by simp; omega))
  have HC : Hid (∀ W, Emb b ln d (L ++ quo nm ++ [58]) W → Calls Tryz.prog 49 #[.pointer (some ⟨b, 0, none⟩), .int .u8 32] W fun e w' => e = .returned .nilIface ∧ Emb b ln d (L ++ quo nm ++ [58] ++ [32]) w' ∧ Pk b W w') := Lib.hid (fun W h => embByte b ln d _ 32 W h (by simp; omega))
  have H := Lib.hid h
  have HX : Hid (L ++ prN ln nm = if ln = true then L ++ quo nm ++ [58] ++ [32] else L ++ quo nm ++ [58]) := Lib.hid (by unfold prN; cases ln <;> simp)
  clear h
  generalize quo nm = q at *
  go_enter Tryz.func77, Tryz.ntmps77
  go_upto_region 0 with fail
  go_cut [] from 4 to 9 (fun wx => Emb b ln d (L ++ q) wx ∧ Pk b w wx)
  case first =>
    go_region_with (first
      | (go_at_call 48; refine (HQ.out w.drew).mono ?_; rintro e w1 ⟨rfl, hb1⟩; have HE1 := Lib.hid ((H.out.drew).below hb1); have HL1 := Lib.hid hb1; clear hb1)
      | (go_at_call 46; refine (HS.out w1 HE1.out).mono ?_; rintro e w2 ⟨rfl, h2, hk2⟩))
    all_goals go_wp2_with fail
    all_goals go_meet
    all_goals exact ⟨h2, ((Pk.refl b w).drew.trans (Pk.of HL1.out (Nat.le_of_lt H.out.lt))).trans hk2⟩
  case rest =>
    obtain ⟨h2, hk2⟩ := hcut
    have HE2 := Lib.hid h2
    have HK2 := Lib.hid hk2
    clear h2 hk2 HQ HS H
    cases ln with
    | false =>
      go_wp2_with (go_at_call 49; refine (HB.out _ HE2.out).mono ?_; rintro e w3 ⟨rfl, h3, hk3⟩; have d2 := h3.c2; have HE3 := Lib.hid h3; have HK3 := Lib.hid hk3; clear h3 hk3)
      go_end0
      exact ⟨rfl, by rw [HX.out]; exact HE3.out, HK2.out.trans HK3.out⟩
    | true =>
      go_wp2_with (first
        | (go_at_call_of 49 (58 : Int); refine (HB.out _ HE2.out).mono ?_; rintro e w3 ⟨rfl, h3, hk3⟩; have d2 := h3.c2; have HE3 := Lib.hid h3; have HK3 := Lib.hid hk3; clear h3 hk3)
        | (go_at_call_of 49 (32 : Int); refine (HC.out _ HE3.out).mono ?_; rintro e w4 ⟨rfl, h4, hk4⟩))
      go_end0
      exact ⟨rfl, by rw [HX.out]; exact h4, (HK2.out.trans HK3.out).trans hk4⟩
end Go.Proofs.YtfeiolklhkclgaaGreatDoor
