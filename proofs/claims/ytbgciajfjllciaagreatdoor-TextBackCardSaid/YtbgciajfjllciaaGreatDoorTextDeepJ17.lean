/-
  Joined: Emb, TxG, TxH.
-/
import Derived.Shelf.Strings.BuilderK
import Derived.Test.YtbgciajfjllciaaGreatDoorTextDeepJ3
import Derived.Test.YtbgciajfjllciaaGreatDoorBase
import Derived.Test.YtbgciajfjllciaaGreatDoorTextDeepJ4
import Derived.Test.YtbgciajfjllciaaGreatDoorTextDeepJ9
import Derived.Test.YtbgciajfjllciaaGreatDoorTextDeepJ12
import Derived.Test.YtbgciajfjllciaaGreatDoorTextDeepJ1

/-
  strings.Builder's writers at a builder that is embedded in a printer: what they leave.
-/
namespace Go.Proofs.YtbgciajfjllciaaGreatDoor
open Go.Shelf Go.RowKit

/-- A printer in block b, whose builder holds these bytes. -/
def EmbV (b : Nat) (p : Value) (ln : Bool) (n : Int) (l : List UInt8) (w : World) : Prop :=
  ∃ v, w.heap[b]? = some (.cells #[p, v, .bool ln, .int .i64 n] 65 (0, 0)) ∧ w.ownsRowF b 5 1 v l.length (Lib.byteCells l) ∧ v.ownBlock ≠ some b
def Emb (b : Nat) (ln : Bool) (n : Int) (l : List UInt8) (w : World) : Prop := EmbV b (.pointer none) ln n l w ∨ EmbV b (.pointer (some ⟨b, 0, none⟩)) ln n l w
/-- All but the printer and its bytes is as it was. -/
def Pk (b : Nat) (w w' : World) : Prop := Below b w w' ∧ Lib.OthersKept 5 (some b) w w'
theorem Pk.refl (b : Nat) (w : World) : Pk b w w := ⟨Below.refl _ _, Lib.OthersKept.refl _ _ _⟩
theorem Pk.trans {b : Nat} {x y z : World} (h : Pk b x y) (k : Pk b y z) : Pk b x z := ⟨h.1.trans k.1, h.2.trans k.2⟩
theorem Pk.drew {b : Nat} {x y : World} (h : Pk b x y) : Pk b x y.drew := ⟨h.1.drew, h.2.drew⟩
theorem Pk.drewN {b : Nat} {x y : World} (h : Pk b x y) (n : Nat) : Pk b x (y.drewN n) := ⟨drewN_below h.1 n, fun k o hk hb ho => h.2 k o hk hb ho⟩
theorem Pk.alloc {b : Nat} {x y : World} (h : Pk b x y) (hb : b ≤ y.heap.size) (o : Obj) : Pk b x (y.alloc o) := ⟨h.1.alloc hb o, h.2.alloc o⟩
theorem Pk.setCell {b : Nat} {x y : World} (h : Pk b x y) (o : Nat) (v : Value) : Pk b x (y.setCell ⟨b, o, none⟩ v) := ⟨h.1.setCell (p := ⟨b, o, none⟩) (Nat.le_refl _) v, h.2.setCell ⟨b, o, none⟩ rfl v⟩
theorem Pk.size {b : Nat} {x y : World} (h : Pk b x y) : x.heap.size ≤ y.heap.size := h.1.size

section
variable {b : Nat} {p : Value} {ln : Bool} {n : Int} {l : List UInt8} {w w' : World}
theorem EmbV.lt (h : EmbV b p ln n l w) : b < w.heap.size := by
  obtain ⟨v, hb, -⟩ := h
  exact (Array.getElem?_eq_some_iff.1 hb).1
theorem Emb.lt (h : Emb b ln n l w) : b < w.heap.size := h.elim EmbV.lt EmbV.lt
theorem EmbV.c0 (h : EmbV b p ln n l w) : w.cell? ⟨b, 0, none⟩ = some p := by obtain ⟨v, hb, -⟩ := h; rw [Lib.cell_of_heap hb]; rfl
theorem EmbV.c2 (h : EmbV b p ln n l w) : w.cell? ⟨b, 2, none⟩ = some (.bool ln) := by obtain ⟨v, hb, -⟩ := h; rw [Lib.cell_of_heap hb]; rfl
theorem EmbV.c3 (h : EmbV b p ln n l w) : w.cell? ⟨b, 3, none⟩ = some (.int .i64 n) := by obtain ⟨v, hb, -⟩ := h; rw [Lib.cell_of_heap hb]; rfl
theorem Emb.c2 (h : Emb b ln n l w) : w.cell? ⟨b, 2, none⟩ = some (.bool ln) := h.elim EmbV.c2 EmbV.c2
theorem Emb.c3 (h : Emb b ln n l w) : w.cell? ⟨b, 3, none⟩ = some (.int .i64 n) := h.elim EmbV.c3 EmbV.c3
theorem EmbV.fz (h : EmbV b p ln n l w) (o : Nat) : w.frozen? ⟨b, o, none⟩ = false := by obtain ⟨v, hb, -⟩ := h; exact Lib.frozen_of_heap hb o
theorem Emb.fz (h : Emb b ln n l w) (o : Nat) : w.frozen? ⟨b, o, none⟩ = false := h.elim (fun h => h.fz o) (fun h => h.fz o)
theorem EmbV.shape (h : EmbV b p ln n l w) : w.shape? b = some (65, 4) := by obtain ⟨v, hb, -⟩ := h; simp [World.shape?, hb]
/-- Kept, where its block and its buffer are. -/
theorem EmbV.grown {row : Option Nat} (h : EmbV b p ln n l w) (hg : w.grownBy w' row) (hr : row = none) : EmbV b p ln n l w' := by
  have hlt := h.lt
  obtain ⟨v, hb, hown, hne⟩ := h
  subst hr
  exact ⟨v, (hg.block b hlt (by simp)).trans hb, hown.kept hg (by cases hv : v.ownBlock <;> simp), hne⟩
theorem EmbV.alloc (h : EmbV b p ln n l w) (o : Obj) : EmbV b p ln n l (w.alloc o) := h.grown (World.grownBy_alloc w o none) rfl
theorem Emb.alloc (h : Emb b ln n l w) (o : Obj) : Emb b ln n l (w.alloc o) := h.elim (fun h => .inl (h.alloc o)) (fun h => .inr (h.alloc o))
theorem EmbV.below (h : EmbV b p ln n l w) (hb : Below w.heap.size w w') : EmbV b p ln n l w' :=
  h.grown (row := none) ⟨hb.os, hb.tape, hb.output, hb.size, fun k hk _ => hb.block k hk⟩ rfl
theorem Emb.below (h : Emb b ln n l w) (hb : Below w.heap.size w w') : Emb b ln n l w' := h.elim (fun h => .inl (h.below hb)) (fun h => .inr (h.below hb))
theorem EmbV.drewN (h : EmbV b p ln n l w) (k : Nat) : EmbV b p ln n l (w.drewN k) := h
theorem Emb.drewN (h : Emb b ln n l w) (k : Nat) : Emb b ln n l (w.drewN k) := h
theorem Emb.drew (h : Emb b ln n l w) : Emb b ln n l w.drew := h
/-- How deep it is. -/
theorem EmbV.deep (h : EmbV b p ln n l w) (m : Int) : EmbV b p ln m l (w.setCell ⟨b, 3, none⟩ (.int .i64 m)) := by
  obtain ⟨v, hb, hown, hne⟩ := h
  refine ⟨v, by simp [World.setCell, Array.getElem?_modify, hb], ?_, hne⟩
  exact hown.kept (row := some b) ⟨rfl, rfl, rfl, by simp [World.setCell], fun k _ hk => Below.heap_setCell _ _ _ _ (fun e => hk (by simp [e]))⟩ (Or.inr hne)
theorem Emb.deep (h : Emb b ln n l w) (m : Int) : Emb b ln m l (w.setCell ⟨b, 3, none⟩ (.int .i64 m)) := h.elim (fun h => .inl (h.deep m)) (fun h => .inr (h.deep m))
theorem EmbV.used (h : EmbV b p ln n l w) : EmbV b (.pointer (some ⟨b, 0, none⟩)) ln n l (w.setCell ⟨b, 0, none⟩ (.pointer (some ⟨b, 0, none⟩))) := by
  obtain ⟨v, hb, hown, hne⟩ := h
  refine ⟨v, by simp [World.setCell, Array.getElem?_modify, hb], ?_, hne⟩
  exact hown.kept (row := some b) ⟨rfl, rfl, rfl, by simp [World.setCell], fun k _ hk => Below.heap_setCell _ _ _ _ (fun e => hk (by simp [e]))⟩ (Or.inr hne)
/-- A cell of another block, that is no row of bytes. -/
theorem Pk.other (h : Pk b w w') {k : Nat} {cs : Array Value} {T : TypeId} {fz : Nat × Nat} (hk : w.heap[k]? = some (.cells cs T fz)) (hkb : k ≠ b) (hT : T ≠ 5) : w'.heap[k]? = some (.cells cs T fz) :=
  h.2 k _ hk (fun e => hkb (Option.some.inj e)) (fun c f e => hT (by injection e))
end

theorem lies_emb : (liesAt Tryz.prog Tryz.prog.depth 65 (4 / Tryz.prog.cellsOf 65) 0 63 1) = true := by kernel_rfl

set_option maxHeartbeats 1000000 in
set_option maxRecDepth 100000 in
theorem embCheck_used (b : Nat) (w : World) (h0 : w.cell? ⟨b, 0, none⟩ = some (.pointer (some ⟨b, 0, none⟩))) :
    Calls Tryz.prog 75 #[.pointer (some ⟨b, 0, none⟩)] w fun e w' => e = .returned (.tuple #[]) ∧ w' = w :=
  Any.Builder_copyCheck_used { Tryz.bld166 with } Tryz.bldExtra.toX72 b w h0

set_option maxHeartbeats 1000000 in
set_option maxRecDepth 100000 in
theorem embCheck_fresh (b : Nat) (w : World) (h0 : w.cell? ⟨b, 0, none⟩ = some (.pointer none)) (hsh : w.shape? b = some (65, 4)) (hfz : w.frozen? ⟨b, 0, none⟩ = false) :
    Calls Tryz.prog 75 #[.pointer (some ⟨b, 0, none⟩)] w fun e w' => e = .returned (.tuple #[]) ∧ w' = w.setCell ⟨b, 0, none⟩ (.pointer (some ⟨b, 0, none⟩)) := by
  obtain ⟨j, hj, hjs⟩ := Option.map_eq_some_iff.1 Tryz.bldExtra.sizeBuilder
  replace hj : Tryz.prog.info? 63 = some j := hj
  go_enter Tryz.func75, Tryz.ntmps75
  go_wp2
  rw [Lib.run_to_unsafe w ⟨b, 0, none⟩ Tryz.underlying60 Tryz.underlying138 hj (by rw [hjs]; decide) hsh (Nat.zero_lt_succ 3)]
  simp only [Result.andThen]
  rw [Oper.upon_value]
  go_wp2
  rw [run_callFunc_extern Tryz.func108 (by kernel_rfl) (by kernel_rfl) (by kernel_rfl) (e := Extern.AbiNoEscape.same) (by kernel_rfl)]
  rw [Lib.run_noEscape]
  simp only [Result.andThen]
  rw [Oper.upon_value]
  go_wp2
  rw [Lib.run_from_unsafe w ⟨b, 0, none⟩ Tryz.underlying138 Tryz.underlying60 hj hsh lies_emb]
  simp only [Result.andThen]
  rw [Oper.upon_value]
  go_wp2
  go_end0
  exact ⟨rfl, rfl⟩
theorem embCheck (b : Nat) (ln : Bool) (n : Int) (l : List UInt8) (w : World) (h : Emb b ln n l w) :
    Calls Tryz.prog 75 #[.pointer (some ⟨b, 0, none⟩)] w fun e w' => e = .returned (.tuple #[]) ∧ EmbV b (.pointer (some ⟨b, 0, none⟩)) ln n l w' ∧ Pk b w w' := by
  rcases h with h | h
  · refine (embCheck_fresh b w h.c0 h.shape (h.fz 0)).mono ?_
    rintro e w' ⟨rfl, rfl⟩
    exact ⟨rfl, h.used, (Pk.refl b w).setCell 0 _⟩
  · refine (embCheck_used b w h.c0).mono ?_
    rintro e w' ⟨rfl, rfl⟩
    exact ⟨rfl, h, Pk.refl _ _⟩
theorem EmbV.put {b : Nat} {p v v' : Value} {ln : Bool} {n : Int} {l : List UInt8} {w : World} (hb : w.heap[b]? = some (.cells #[p, v, .bool ln, .int .i64 n] 65 (0, 0))) (hown : w.ownsRowF b 5 1 v' l.length (Lib.byteCells l)) :
    EmbV b p ln n l (w.setCell ⟨b, 1, none⟩ v') := by
  have hne := Lib.ownBlock_neF hown hb (by decide)
  refine ⟨v', by simp [World.setCell, Array.getElem?_modify, hb], ?_, hne⟩
  exact hown.kept (row := some b) ⟨rfl, rfl, rfl, by simp [World.setCell], fun k _ hk => Below.heap_setCell _ _ _ _ (fun e => hk (by simp [e]))⟩ (Or.inr hne)

set_option maxHeartbeats 2000000 in
set_option maxRecDepth 100000 in
theorem embByte (b : Nat) (ln : Bool) (n : Int) (l : List UInt8) (c : UInt8) (w : World) (h : Emb b ln n l w) (hlen : l.length + 1 ≤ 140737488355328) :
    Calls Tryz.prog 53 #[.pointer (some ⟨b, 0, none⟩), .int .u8 c.toNat] w fun e w' => e = .returned .nilIface ∧ Emb b ln n (l ++ [c]) w' ∧ Pk b w w' := by
  obtain ⟨i0, hi, hz0, hz1, hz2⟩ := info_parts Tryz.bldExtra.infoByte
  replace hi : Tryz.prog.info? 5 = some i0 := hi
  have hbc : Lib.byteCells (l ++ [c]) = Lib.byteCells l ++ [.int .u8 c.toNat] := by rw [Lib.byteCells_append]; rfl
  go_enter Tryz.func53, Tryz.ntmps53
  go_wp2_with (go_at_call 75; refine (embCheck b ln n l _ h).mono ?_)
  rintro e w1 ⟨rfl, h1, hk1⟩
  obtain ⟨v, hbk, hown, hne⟩ := h1
  have hlt : b < w1.heap.size := (Array.getElem?_eq_some_iff.1 hbk).1
  have c0 : w1.cell? ⟨b, 0, none⟩ = some (.pointer (some ⟨b, 0, none⟩)) := by rw [Lib.cell_of_heap hbk]; rfl
  have c1 : w1.cell? ⟨b, 1, none⟩ = some v := by rw [Lib.cell_of_heap hbk]; rfl
  go_wp2_with (at_builtin; refine wpList_append_ownF _ rfl _ _ 61 rfl b 5 i0 (.int .u8 0) 1 1 Tryz.underlying61 hi hz0 hz1 hz2 rfl (by decide) _ _ _ rfl (hown.alloc _) ⟨w1.heap.size, 0, none⟩ 1 1 [.int .u8 c.toNat] rfl rfl ?c1 ?c2 ?c3 ?c4 ?c5 ?_)
  case c1 =>
    intro j u hj
    match j, hj with
    | 0, hj => simp at hj; subst hj; simp [Addr.add]
  case c2 => intro u hu; simp at hu; subst hu; rfl
  case c3 => unfold maxLen; omega
  case c4 => omega
  case c5 => simp; omega
  intro v' w2 hown' hgrow _
  have hb2 : w2.heap[b]? = some (.cells #[.pointer (some ⟨b, 0, none⟩), v, .bool ln, .int .i64 n] 65 (0, 0)) := by
    rw [hgrow.block b (by simp; omega) (fun e => hne e.symm), Lib.alloc_old w1 _ b hlt]
    exact hbk
  have d0 : w2.cell? ⟨b, 0, none⟩ = some (.pointer (some ⟨b, 0, none⟩)) := by rw [Lib.cell_of_heap hb2]; rfl
  have d1 : w2.cell? ⟨b, 1, none⟩ = some v := by rw [Lib.cell_of_heap hb2]; rfl
  have f1 : w2.frozen? ⟨b, 1, none⟩ = false := Lib.frozen_of_heap hb2 1
  obtain ⟨g, cap, rfl⟩ : ∃ g cap, v' = .slice (some ⟨g, 0, none⟩) (l.length + 1) cap := by
    rcases hown'.2 with ⟨_, h0⟩ | ⟨g, cap, cur, fz, hv, _⟩
    · omega
    · exact ⟨g, cap, hv⟩
  rw [← hbc] at hown'
  have HE : Hid (EmbV b (.pointer (some ⟨b, 0, none⟩)) ln n (l ++ [c]) (w2.setCell ⟨b, 1, none⟩ (.slice (some ⟨g, 0, none⟩) (l.length + 1) cap))) := Lib.hid (EmbV.put hb2 (by simpa using hown'))
  have HK : Hid (Pk b w (w2.setCell ⟨b, 1, none⟩ (.slice (some ⟨g, 0, none⟩) (l.length + 1) cap))) := Lib.hid (by
    refine Pk.setCell (hk1.trans ⟨?_, ?_⟩) 1 _
    · exact ((Below.refl b w1).alloc (Nat.le_of_lt hlt) _).grown hgrow (by simp; omega) (fun k hk => (hown.lt k hk).1)
    · exact ((Lib.OthersKept.refl _ _ w1).alloc _).grown hgrow (Lib.ownsRowF_kind (hown.alloc _)))
  clear hown' hgrow
  go_wp2
  go_ret
  exact ⟨rfl, .inr HE.out, HK.out⟩

set_option maxHeartbeats 2000000 in
set_option maxRecDepth 100000 in
theorem embString (b : Nat) (ln : Bool) (n : Int) (l : List UInt8) (s : ByteArray) (w : World) (h : Emb b ln n l w) (hlen : l.length + s.size ≤ 140737488355328) :
    Calls Tryz.prog 50 #[.pointer (some ⟨b, 0, none⟩), .string s] w fun e w' => e = .returned (.tuple #[.int .i64 s.size, .nilIface]) ∧ Emb b ln n (l ++ s.data.toList) w' ∧ Pk b w w' := by
  obtain ⟨i0, hi, hz0, hz1, hz2⟩ := info_parts Tryz.bldExtra.infoByte
  replace hi : Tryz.prog.info? 5 = some i0 := hi
  have hbc : Lib.byteCells (l ++ s.data.toList) = Lib.byteCells l ++ Lib.strCells s := by rw [Lib.byteCells_append, Lib.strCells_eq]
  have hbl : (l ++ s.data.toList).length = l.length + s.size := by rw [List.length_append]; rfl
  go_enter Tryz.func50, Tryz.ntmps50
  go_wp2_with (go_at_call 75; refine (embCheck b ln n l _ h).mono ?_)
  rintro e w1 ⟨rfl, h1, hk1⟩
  obtain ⟨v, hbk, hown, hne⟩ := h1
  have hlt : b < w1.heap.size := (Array.getElem?_eq_some_iff.1 hbk).1
  have c0 : w1.cell? ⟨b, 0, none⟩ = some (.pointer (some ⟨b, 0, none⟩)) := by rw [Lib.cell_of_heap hbk]; rfl
  have c1 : w1.cell? ⟨b, 1, none⟩ = some v := by rw [Lib.cell_of_heap hbk]; rfl
  go_wp2_with (at_builtin; refine Lib.wpList_append_own_stringF _ rfl _ _ 61 9 rfl b 5 i0 Tryz.underlying61 Tryz.underlying9 hi hz0 hz1 hz2 _ _ _ rfl hown s rfl ?c3 ?c4 ?c5 ?_)
  case c3 => unfold maxLen; omega
  case c4 => omega
  case c5 => omega
  intro v' w2 hown' hgrow _
  have hb2 : w2.heap[b]? = some (.cells #[.pointer (some ⟨b, 0, none⟩), v, .bool ln, .int .i64 n] 65 (0, 0)) := by
    rw [hgrow.block b hlt (fun e => hne e.symm)]
    exact hbk
  have d0 : w2.cell? ⟨b, 0, none⟩ = some (.pointer (some ⟨b, 0, none⟩)) := by rw [Lib.cell_of_heap hb2]; rfl
  have d1 : w2.cell? ⟨b, 1, none⟩ = some v := by rw [Lib.cell_of_heap hb2]; rfl
  have f1 : w2.frozen? ⟨b, 1, none⟩ = false := Lib.frozen_of_heap hb2 1
  obtain ⟨ao, n', cap, rfl⟩ : ∃ ao n' cap, v' = .slice ao n' cap := by
    rcases hown'.2 with ⟨hv, _⟩ | ⟨g, cap, cur, fz, hv, _⟩
    · exact ⟨_, _, _, hv⟩
    · exact ⟨_, _, _, hv⟩
  rw [← hbc, ← hbl] at hown'
  have HE : Hid (EmbV b (.pointer (some ⟨b, 0, none⟩)) ln n (l ++ s.data.toList) (w2.setCell ⟨b, 1, none⟩ (.slice ao n' cap))) := Lib.hid (EmbV.put hb2 hown')
  have HK : Hid (Pk b w (w2.setCell ⟨b, 1, none⟩ (.slice ao n' cap))) := Lib.hid (by
    refine Pk.setCell (hk1.trans ⟨?_, ?_⟩) 1 _
    · exact (Below.refl b w1).grown hgrow (Nat.le_of_lt hlt) (fun k hk => (hown.lt k hk).1)
    · exact (Lib.OthersKept.refl _ _ w1).grown hgrow (Lib.ownsRowF_kind hown))
  clear hown' hgrow
  go_wp2
  go_ret2
  exact ⟨rfl, .inr HE.out, HK.out⟩

set_option maxHeartbeats 1000000 in
set_option maxRecDepth 100000 in
theorem embText (b : Nat) (ln : Bool) (n : Int) (l : List UInt8) (w : World) (h : Emb b ln n l w) (h0 : l ≠ []) :
    Calls Tryz.prog 31 #[.pointer (some ⟨b, 0, none⟩)] w fun e w' => e = .returned (.string ⟨l.toArray⟩) ∧ Below b w w' := by
  obtain ⟨p, hAt⟩ : ∃ p, EmbV b p ln n l w := h.elim (fun h => ⟨_, h⟩) (fun h => ⟨_, h⟩)
  obtain ⟨v, hbk, hown, hne⟩ := hAt
  have hl0 : l.length ≠ 0 := by simpa using h0
  obtain ⟨g, cap, cur, fz, rfl, hbg, hg, hfz, hnc, hcm, hcs, htake⟩ : ∃ g cap cur fz, v = .slice (some ⟨g, 0, none⟩) l.length cap ∧ b ≤ g ∧ w.heap[g]? = some (.cells cur 5 fz) ∧ fz.2 ≤ l.length * 1 ∧ l.length ≤ cap ∧ cap ≤ maxLen ∧ cur.size = cap * 1 ∧ cur.toList.take (l.length * 1) = Lib.byteCells l := by
    rcases hown.2 with ⟨_, hz⟩ | ⟨g, cap, cur, fz, hv, r⟩
    · exact absurd hz hl0
    · exact ⟨g, cap, cur, fz, hv, r⟩
  have c1 : w.drew.cell? ⟨b, 1, none⟩ = some (.slice (some ⟨g, 0, none⟩) l.length cap) := by
    have : w.drew.heap[b]? = some (.cells #[p, .slice (some ⟨g, 0, none⟩) l.length cap, .bool ln, .int .i64 n] 65 (0, 0)) := hbk
    rw [Lib.cell_of_heap this]; rfl
  have hSD : (Builtin.unsafeSliceData_ #[61] 90 #[.slice (some ⟨g, 0, none⟩) l.length cap]).run Tryz.prog w.drew = .ok (.pointer (some ⟨g, 0, none⟩)) w.drew :=
    Lib.run_unsafeSliceData_row _ _ _ _ _ _ (by omega)
  have hUS : (Builtin.unsafeString_ #[90, 3] 9 #[.pointer (some ⟨g, 0, none⟩), .int .i64 l.length]).run Tryz.prog w.drew = .ok (.string ⟨l.toArray⟩) (w.drew.freeze ⟨g, 0, none⟩ l.length) := by
    refine Lib.run_unsafeString_row w.drew 90 3 9 5 Tryz.underlying90 Tryz.bldExtra.cellsByte g cur.size (by have hg' : w.drew.heap[g]? = some (.cells cur 5 fz) := hg; simp [World.shape?, hg']) l h0 (by omega) (by unfold maxLen at hcm; omega) ?_
    intro j x hx
    exact hown.cells (g := g) rfl j (.int .u8 x.toNat) (by simp [Lib.byteCells, hx])
  have HB : Hid (Below b w (w.drew.freeze ⟨g, 0, none⟩ l.length)) := Lib.hid (Lib.below_freeze (Below.drew (Below.refl b w)) (p := ⟨g, 0, none⟩) hbg _)
  have mixed := Tryz.bld166.mixed
  go_enter Tryz.func31, Tryz.ntmps31
  go_wp2
  go_region_o
  all_goals (go_wp2; go_ret; exact ⟨rfl, HB.out⟩)
end Go.Proofs.YtbgciajfjllciaaGreatDoor

/-
  What the printer's line and name are.
-/
namespace Go.Proofs.YtbgciajfjllciaaGreatDoor
open Go.RowKit Np Rw Vp Up Qp Tp

/-- What a call of another's leaves. -/
theorem Pk.of {b : Nat} {w w' : World} (h : Below w.heap.size w w') (hb : b ≤ w.heap.size) : Pk b w w' :=
  ⟨h.mono hb, fun k _ hk _ _ => (h.block k (Array.getElem?_eq_some_iff.1 hk).1).trans hk⟩

set_option maxRecDepth 100000 in
set_option maxHeartbeats 2000000 in
theorem line_any (b : Nat) (ln : Bool) (d : Nat) (L : List UInt8) (w : World) (h : Emb b ln d L w) (hd : d ≤ 1000) (hL : L.length ≤ 100000000) :
    Calls Tryz.prog 80 #[.pointer (some ⟨b, 0, none⟩)] w fun e w' => e = .returned (.tuple #[]) ∧ Emb b ln d (L ++ prL ln d) w' ∧ Pk b w w' := by
  have H := Lib.hid h
  have c2 := h.c2
  clear h
  cases ln with
  | false =>
    go_enter Tryz.func80, Tryz.ntmps80
    go_wp2_with fail
    refine bodyPost_ret (results_none rfl _ _ _) rfl ?_
    exact ⟨rfl, by rw [show prL false d = [] from rfl, List.append_nil]; exact H.out, Pk.refl _ _⟩
  | true =>
    have HW := Lib.hid (embByte b true d L 10 w H.out (by omega))
    go_enter Tryz.func80, Tryz.ntmps80
    go_wp2_with (go_at_call 53; refine HW.out.mono ?_; rintro e w1 ⟨rfl, h1, hk1⟩; have d3 := h1.c3; have HE1 := Lib.hid h1; have HK1 := Lib.hid hk1; clear h1 hk1)
    go_loopw [15] (fun iv wr => ∃ k : Nat, k ≤ d ∧ iv = .int .i64 k ∧ Hid (Emb b true d (L ++ 10 :: List.replicate (2 * k) 32) wr) ∧ Hid (Pk b w wr)) (fun iv _ => d - (intOf iv).toNat)
    case atStart => exact ⟨0, Nat.zero_le _, rfl, HE1, HK1⟩
    case round =>
      obtain ⟨k, hk, rfl, HE, HK⟩ := hrel
      by_cases hlt : k < d
      · have HS := Lib.hid (embString b true d (L ++ 10 :: List.replicate (2 * k) 32) ⟨#[32, 32]⟩ wr HE.out (by show (L ++ 10 :: List.replicate (2 * k) 32).length + 2 ≤ _; simp; omega))
        go_wp2_with (go_at_call 50; refine HS.out.mono ?_; rintro e w2 ⟨rfl, h2, hk2⟩)
        go_roundw
        case rel =>
          refine ⟨k + 1, by omega, by go_num, Lib.hid ?_, Lib.hid (HK.out.trans hk2)⟩
          have e : L ++ 10 :: List.replicate (2 * k) 32 ++ (ByteArray.mk #[32, 32]).data.toList = L ++ 10 :: List.replicate (2 * (k + 1)) 32 := by
            rw [show 2 * (k + 1) = 2 * k + 2 by omega, ← List.replicate_append_replicate, List.append_assoc, List.cons_append]; rfl
          rw [← e]; exact h2
        case measure => simp [intOf]; omega
      · have hkd : k = d := by omega
        subst hkd
        go_wp2_with fail
        go_end0
        exact ⟨rfl, HE.out, HK.out⟩

set_option maxRecDepth 100000 in
set_option maxHeartbeats 2000000 in
theorem name_any (b : Nat) (ln : Bool) (d : Int) (L nm : List UInt8) (w : World) (h : Emb b ln d L w) (hn : nm.length ≤ 1000000) (hL : L.length ≤ 100000000) (hq : (quo nm).length ≤ 100000000) :
    Calls Tryz.prog 81 #[.pointer (some ⟨b, 0, none⟩), .string ⟨nm.toArray⟩] w fun e w' => e = .returned (.tuple #[]) ∧ Emb b ln d (L ++ prN ln nm) w' ∧ Pk b w w' := by
  have HQ : Hid (∀ W, Calls Tryz.prog 52 #[.string ⟨nm.toArray⟩] W fun e w' => e = .returned (.string ⟨(quo nm).toArray⟩) ∧ Below W.heap.size W w') := Lib.hid (fun W => quote_any ⟨nm.toArray⟩ W (by rw [mk_size]; omega))
  have HS : Hid (∀ W, Emb b ln d L W → Calls Tryz.prog 50 #[.pointer (some ⟨b, 0, none⟩), .string ⟨(quo nm).toArray⟩] W fun e w' => e = .returned (.tuple #[.int .i64 (ByteArray.mk (quo nm).toArray).size, .nilIface]) ∧ Emb b ln d (L ++ quo nm) w' ∧ Pk b W w') := Lib.hid (fun W h => embString b ln d L ⟨(quo nm).toArray⟩ W h (by rw [mk_size]; omega))
  have HB : Hid (∀ W, Emb b ln d (L ++ quo nm) W → Calls Tryz.prog 53 #[.pointer (some ⟨b, 0, none⟩), .int .u8 58] W fun e w' => e = .returned .nilIface ∧ Emb b ln d (L ++ quo nm ++ [58]) w' ∧ Pk b W w') := Lib.hid (fun W h => embByte b ln d _ 58 W h (by simp; omega))
  have HC : Hid (∀ W, Emb b ln d (L ++ quo nm ++ [58]) W → Calls Tryz.prog 53 #[.pointer (some ⟨b, 0, none⟩), .int .u8 32] W fun e w' => e = .returned .nilIface ∧ Emb b ln d (L ++ quo nm ++ [58] ++ [32]) w' ∧ Pk b W w') := Lib.hid (fun W h => embByte b ln d _ 32 W h (by simp; omega))
  have H := Lib.hid h
  have HX : Hid (L ++ prN ln nm = if ln = true then L ++ quo nm ++ [58] ++ [32] else L ++ quo nm ++ [58]) := Lib.hid (by unfold prN; cases ln <;> simp)
  clear h
  generalize quo nm = q at *
  go_enter Tryz.func81, Tryz.ntmps81
  go_upto_region 0 with fail
  go_cut [] from 4 to 9 (fun wx => Emb b ln d (L ++ q) wx ∧ Pk b w wx)
  case first =>
    go_region_with (first
      | (go_at_call 52; refine (HQ.out w.drew).mono ?_; rintro e w1 ⟨rfl, hb1⟩; have HE1 := Lib.hid ((H.out.drew).below hb1); have HL1 := Lib.hid hb1; clear hb1)
      | (go_at_call 50; refine (HS.out w1 HE1.out).mono ?_; rintro e w2 ⟨rfl, h2, hk2⟩))
    all_goals go_wp2_with fail
    all_goals go_meet
    all_goals exact ⟨h2, ((Pk.refl b w).drew.trans (Pk.of HL1.out (Nat.le_of_lt H.out.lt))).trans hk2⟩
  case rest =>
    obtain ⟨h2, hk2⟩ := hcut
    have HE2 := Lib.hid h2
    have HK2 := Lib.hid hk2
    clear h2 hk2 HQ HS H
    cases ln with
    | false =>
      go_wp2_with (go_at_call 53; refine (HB.out _ HE2.out).mono ?_; rintro e w3 ⟨rfl, h3, hk3⟩; have d2 := h3.c2; have HE3 := Lib.hid h3; have HK3 := Lib.hid hk3; clear h3 hk3)
      go_end0
      exact ⟨rfl, by rw [HX.out]; exact HE3.out, HK2.out.trans HK3.out⟩
    | true =>
      go_wp2_with (first
        | (go_at_call_of 53 (58 : Int); refine (HB.out _ HE2.out).mono ?_; rintro e w3 ⟨rfl, h3, hk3⟩; have d2 := h3.c2; have HE3 := Lib.hid h3; have HK3 := Lib.hid hk3; clear h3 hk3)
        | (go_at_call_of 53 (32 : Int); refine (HC.out _ HE3.out).mono ?_; rintro e w4 ⟨rfl, h4, hk4⟩))
      go_end0
      exact ⟨rfl, by rw [HX.out]; exact h4, (HK2.out.trans HK3.out).trans hk4⟩
end Go.Proofs.YtbgciajfjllciaaGreatDoor

/-
  What the printer's value and parts are.
-/
namespace Go.Proofs.YtbgciajfjllciaaGreatDoor
open Go.RowKit Np Rw Vp Up Qp Tp

/-- A row of nodes that lies below a printer. -/
def NdB (b : Nat) (w : World) (v : Value) (l : List Nd) : Prop :=
  ∃ (A : Option Addr) (c : Nat), v = .slice A l.length c ∧ l.length ≤ c ∧ c ≤ maxLen ∧ (A = none → c = 0) ∧ (0 < l.length → ∃ g o : Nat, A = some ⟨g, o, none⟩ ∧ g < b ∧ ∀ k x, l[k]? = some x → CellsAt w g (o + k * 6) (ndc x))
theorem NdB.below {b : Nat} {w w' : World} {v : Value} {l : List Nd} (h : NdB b w v l) (hb : Below b w w') : NdB b w' v l := by
  obtain ⟨A, c, hv, hc, hm, hz, H⟩ := h
  refine ⟨A, c, hv, hc, hm, hz, fun h0 => ?_⟩
  obtain ⟨g, o, hA, hg, hx⟩ := H h0
  exact ⟨g, o, hA, hg, fun k x hk j u hu => (hb.cell (p := ⟨g, o + k * 6 + j, none⟩) hg).trans (hx k x hk j u hu)⟩
theorem NdB.of {b : Nat} {w : World} {v : Value} {l : List Nd} (h : Nds w v l) (hb : w.heap.size ≤ b) : NdB b w v l := by
  obtain ⟨A, c, hv, hc, hm, hz, H⟩ := h
  refine ⟨A, c, hv, hc, hm, hz, fun h0 => ?_⟩
  obtain ⟨g, o, hA, hg, hx⟩ := H h0
  exact ⟨g, o, hA, by omega, hx⟩
theorem NdB.nil (b : Nat) (w : World) : NdB b w (.slice none 0 0) [] := ⟨none, 0, rfl, Nat.le_refl _, Nat.zero_le _, fun _ => rfl, fun h => absurd h (by simp)⟩
theorem NdB.empty (b : Nat) (w : World) (ad : Addr) : NdB b w (.slice (some ad) 0 0) [] := ⟨some ad, 0, rfl, Nat.le_refl _, Nat.zero_le _, fun h => (by cases h), fun h => absurd h (by simp)⟩
theorem NdB.cons {b : Nat} {w : World} {v : Value} {x : Nd} {l : List Nd} (h : NdB b w v (x :: l)) : ∃ g o c : Nat, v = .slice (some ⟨g, o, none⟩) (l.length + 1) c ∧ l.length + 1 ≤ c ∧ c ≤ maxLen ∧ g < b ∧ Nd6 w g o x ∧ (c ≠ 1 → NdB b w (.slice (some ⟨g, o + 6, none⟩) l.length (c - 1)) l) ∧ (c = 1 → l = []) := by
  obtain ⟨A, c, rfl, hc, hm, -, H⟩ := h
  obtain ⟨g, o, rfl, hg, hx⟩ := H (by simp)
  simp only [List.length_cons] at hc ⊢
  refine ⟨g, o, c, rfl, hc, hm, hg, ?_, fun h1 => ?_, fun h1 => List.eq_nil_of_length_eq_zero (by omega)⟩
  · have := (hx 0 x rfl).nd
    simpa using this
  · refine ⟨_, c - 1, rfl, by omega, by omega, fun h => (by cases h), fun _ => ⟨g, o + 6, rfl, hg, fun k y hk => ?_⟩⟩
    have := hx (k + 1) y (by simpa using hk)
    rwa [show o + (k + 1) * 6 = o + 6 + k * 6 by omega] at this
/-- A cell of another block is written. -/
theorem EmbV.other {b k o : Nat} {p : Value} {ln : Bool} {n : Int} {l : List UInt8} {w : World} (h : EmbV b p ln n l w) {cs : Array Value} {T : TypeId} {fz : Nat × Nat} (hk : w.heap[k]? = some (.cells cs T fz)) (hkb : k ≠ b) (hT : T ≠ 5) (u : Value) : EmbV b p ln n l (w.setCell ⟨k, o, none⟩ u) := by
  obtain ⟨v, hb, hown, hne⟩ := h
  have hv : v.ownBlock ≠ some k := Lib.ownBlock_neF hown hk hT
  refine ⟨v, (Below.heap_setCell w ⟨k, o, none⟩ u b (Ne.symm hkb)).trans hb, ?_, hne⟩
  exact hown.kept (row := some k) ⟨rfl, rfl, rfl, by simp [World.setCell], fun j _ hj => Below.heap_setCell _ _ _ _ (fun e => hj (by simp [e]))⟩ (Or.inr hv)
theorem Emb.other {b k o : Nat} {ln : Bool} {n : Int} {l : List UInt8} {w : World} (h : Emb b ln n l w) {cs : Array Value} {T : TypeId} {fz : Nat × Nat} (hk : w.heap[k]? = some (.cells cs T fz)) (hkb : k ≠ b) (hT : T ≠ 5) (u : Value) : Emb b ln n l (w.setCell ⟨k, o, none⟩ u) := h.elim (fun h => .inl (h.other hk hkb hT u)) (fun h => .inr (h.other hk hkb hT u))
theorem Pk.newer {b k o : Nat} {w w' : World} (h : Pk b w w') (hk : w.heap.size ≤ k) (hb : b ≤ k) (u : Value) : Pk b w (w'.setCell ⟨k, o, none⟩ u) :=
  ⟨h.1.setCell (p := ⟨k, o, none⟩) hb u, fun j ob hj hjb ho => (Below.heap_setCell w' ⟨k, o, none⟩ u j (by have := (Array.getElem?_eq_some_iff.1 hj).1; show j ≠ k; omega)).trans (h.2 j ob hj hjb ho)⟩
/-- What a node must be like, to be printed. -/
structure FitN (n : Nd) : Prop where
  k0 : 0 ≤ n.kind
  k6 : n.kind ≤ 6
  s : n.s.length ≤ 1000000
  nm : n.name.length ≤ 1000000
  e0 : -1000000 ≤ n.e
  e1 : n.e ≤ 1000000
/-- How value ends. -/
def VlP (b : Nat) (ln : Bool) (d : Nat) (L : List UInt8) (r : List Nd) (T : List UInt8) (w : World) (e : Ending) (w' : World) : Prop :=
  ∃ v', e = .returned v' ∧ NdB b w' v' r ∧ Emb b ln d (L ++ T) w' ∧ Pk b w w'
/-- What is asked of the world around. -/
structure En (w0 : World) (b : Nat) (w : World) : Prop where
  pow : PowTab w0
  wds : Wds w0
  lo : w0.heap.size ≤ b
  bl : Below w0.heap.size w0 w
theorem En.pk {w0 : World} {b : Nat} {w w' : World} (h : En w0 b w) (hk : Pk b w w') : En w0 b w' := ⟨h.pow, h.wds, h.lo, h.bl.trans (hk.1.mono h.lo)⟩
theorem En.powAt {w0 : World} {b : Nat} {w : World} (h : En w0 b w) : PowTab w := h.pow.below h.bl
theorem En.wdsAt {w0 : World} {b : Nat} {w : World} (h : En w0 b w) : Wds w := h.wds.below h.bl

/-- What parts does. -/
def PartsP (ln : Bool) (n : Nd) (ks : List (Tr Nd)) : Prop :=
  ∀ (b d : Nat) (L : List UInt8) (r : List Nd) (v : Value) (w0 w : World), En w0 b w → Emb b ln d L w → NdB b w v (flats ks ++ r) → d + (flats ks).length ≤ 999 → (L ++ prB ln d (decide (n.kind = 6)) ks).length ≤ 100000000 →
    Calls Tryz.prog 54 #[.pointer (some ⟨b, 0, none⟩), nda n, v] w (VlP b ln d L r (prB ln d (decide (n.kind = 6)) ks) w)
def ValueP (ln : Bool) (t : Tr Nd) : Prop :=
  ∀ (b d : Nat) (L : List UInt8) (r : List Nd) (v : Value) (w0 w : World), En w0 b w → Emb b ln d L w → NdB b w v (flat t ++ r) → d + (flat t).length ≤ 1000 → (L ++ prT ln d t).length ≤ 100000000 →
    Calls Tryz.prog 30 #[.pointer (some ⟨b, 0, none⟩), v] w (VlP b ln d L r (prT ln d t) w)

set_option maxRecDepth 100000 in
set_option maxHeartbeats 4000000 in
theorem prValue_of (ln : Bool) (n : Nd) (ks : List (Tr Nd)) (hF : FitN n) (hP : n.kind = 5 ∨ n.kind = 6 → PartsP ln n ks) (hk : n.kind ≠ 5 → n.kind ≠ 6 → ks = []) : ValueP ln (.mk n ks) := by
  intro b d L r v w0 w hen hem hnd hd hlen
  rw [flat_mk, List.cons_append] at hnd
  obtain ⟨g, o, c, rfl, hc1, hcm, hgb, hn6, htl, hone⟩ := hnd.cons
  obtain ⟨a0, a1, a2, a3, a4, a5⟩ := hn6
  have hbl := hem.lt
  have HEN := Lib.hid hen
  have HEM := Lib.hid hem
  have HTL := Lib.hid htl
  have HONE := Lib.hid hone
  have HHP := Lib.hid hP
  have HHK := Lib.hid hk
  obtain ⟨k0, k6, hs, hnm, he0, he1⟩ := hF
  have HLN : Hid ((flats ks ++ r).length = (flats ks ++ r).length) := Lib.hid rfl
  generalize hl : (flats ks ++ r).length = N at *
  have HN := Lib.hid hl
  obtain ⟨nk, nmany, nname, ns, nneg, ne⟩ := n
  simp only at a0 a1 a2 a3 a4 a5 k0 k6 hs hnm he0 he1
  clear hen hem hnd htl hone hP hk hl
  have hglt : g < w.heap.size := by omega
  have hgne : ¬ g = w.heap.size := by omega
  obtain ⟨X, hX, HXN⟩ : ∃ X : Value, X = (if c = 1 then .slice (some ⟨g, o, none⟩) 0 0 else .slice (some ⟨g, o + 6, none⟩) N (c - 1)) ∧ Hid (NdB b w X (flats ks ++ r)) := by
    refine ⟨_, rfl, Lib.hid ?_⟩
    split
    · rename_i h; rw [HONE.out h]; exact NdB.empty b w _
    · rename_i h
      exact HTL.out h
  have HXX := Lib.hid hX
  clear HTL HONE
  go_enter Tryz.func30, Tryz.ntmps30
  go_upto_region 3 with fail
  go_cut [5, 6] from 10 to 14 (fun p x wx => p = .pointer (some ⟨w.heap.size, 0, none⟩) ∧ x = X ∧ Below w.heap.size w wx ∧ wx.heap[w.heap.size]? = some (.cells #[.int .i64 nk, .int .i64 nmany, .string ⟨nname.toArray⟩, .string ⟨ns.toArray⟩, .bool nneg, .int .i64 ne] 38 (0, 0)))
  case first =>
    by_cases hc : c = 1
    · subst hc
      have hN0 : N = 0 := by omega
      subst hN0
      rw [if_pos rfl] at hX
      subst hX
      go_region
      all_goals go_wp2_with fail
      all_goals go_meet
      all_goals exact ⟨rfl, rfl, ((Below.refl _ w).alloc (Nat.le_refl _) _).drew, heap_alloc_new w _⟩
    · rw [if_neg hc] at hX
      subst hX
      have z1 : (0 : Int) ≤ (N : Int) := by omega
      have z2 : (1 : Int) ≤ (N : Int) + 1 := by omega
      have z3 : 1 ≤ c := by omega
      have z4 : ¬ (1 = c) := by omega
      go_region
      all_goals go_wp2_with fail
      all_goals go_meet
      all_goals exact ⟨rfl, rfl, ((Below.refl _ w).alloc (Nat.le_refl _) _).drew, heap_alloc_new w _⟩
  case rest =>
    obtain ⟨rfl, he, hb1, hz1⟩ := hcut
    replace he := he.symm
    subst he
    have HB1 := Lib.hid hb1
    have HK1 : Hid (Pk b w wc) := Lib.hid (Pk.of hb1 (Nat.le_of_lt hbl))
    have HEM1 := Lib.hid (HEM.out.below hb1)
    have HEN1 := Lib.hid (HEN.out.pk HK1.out)
    have HX1 := Lib.hid (HXN.out.below (hb1.mono (Nat.le_of_lt hbl)))
    have HZ1 := Lib.hid hz1
    have p0 : wc.cell? ⟨w.heap.size, 0, none⟩ = some (.int .i64 nk) := by rw [Lib.cell_of_heap hz1]; rfl
    have p1 : wc.cell? ⟨w.heap.size, 1, none⟩ = some (.int .i64 nmany) := by rw [Lib.cell_of_heap hz1]; rfl
    have p2 : wc.cell? ⟨w.heap.size, 2, none⟩ = some (.string ⟨nname.toArray⟩) := by rw [Lib.cell_of_heap hz1]; rfl
    have p3 : wc.cell? ⟨w.heap.size, 3, none⟩ = some (.string ⟨ns.toArray⟩) := by rw [Lib.cell_of_heap hz1]; rfl
    have p4 : wc.cell? ⟨w.heap.size, 4, none⟩ = some (.bool nneg) := by rw [Lib.cell_of_heap hz1]; rfl
    have p5 : wc.cell? ⟨w.heap.size, 5, none⟩ = some (.int .i64 ne) := by rw [Lib.cell_of_heap hz1]; rfl
    have pf : ∀ i, wc.frozen? ⟨w.heap.size, i, none⟩ = false := fun i => Lib.frozen_of_heap hz1 i
    have plt : w.heap.size < wc.heap.size := (Array.getElem?_eq_some_iff.1 hz1).1
    have hnb : b < w.heap.size := hbl
    clear hb1 hz1 hX HXX a0 a1 a2 a3 a4 a5 HN HEM HEN HXN hglt hgne hgb hc1
    generalize hnbn : w.heap.size = nb at *
    have HNB := Lib.hid hnbn
    clear hnbn
    by_cases hw : nk = 0 ∨ nk = 1 ∨ nk = 2
    · have hks : ks = [] := HHK.out (by show nk ≠ 5; omega) (by show nk ≠ 6; omega)
      have hT : prT ln d (.mk ⟨nk, nmany, nname, ns, nneg, ne⟩ ks) = wordT nk := by
        rw [prT_mk, if_neg (by show ¬ nk = 5; omega), if_neg (by show ¬ nk = 6; omega)]
        unfold scT; rw [if_pos hw]
      have HTT := Lib.hid hT
      have hww := HEN1.out.wdsAt
      obtain ⟨w0c, w1c, w2c⟩ := hww
      have HS := Lib.hid (fun W h => embString b ln d L ⟨(wordT nk).toArray⟩ W h (by
        rw [mk_size]; rw [hT, List.length_append] at hlen; omega))
      subst hks
      clear hT HHP HHK hlen
      rcases hw with rfl | rfl | rfl
      · simp only [wNull, wFalse, wTrue] at w0c w1c w2c
        have HS2 : Hid (∀ W, Emb b ln d L W → Calls Tryz.prog 50 #[.pointer (some ⟨b, 0, none⟩), .string ⟨#[110, 117, 108, 108]⟩] W fun e w' => e = .returned (.tuple #[.int .i64 4, .nilIface]) ∧ Emb b ln d (L ++ wordT 0) w' ∧ Pk b W w') := Lib.hid (fun W h => HS.out W h)
        go_upto_region 8 with fail
        go_region_with (go_at_call 50; refine (HS2.out wc.drew HEM1.out.drew).mono ?_; rintro e w2 ⟨rfl, h2, hk2⟩)
        all_goals go_wp2_with fail
        all_goals go_ret
        all_goals exact ⟨_, rfl, HX1.out.below ((Below.refl b wc).drew.trans hk2.1), by rw [HTT.out]; exact h2, HK1.out.trans (((Pk.refl b wc).drew).trans hk2)⟩
      · simp only [wNull, wFalse, wTrue] at w0c w1c w2c
        have HS2 : Hid (∀ W, Emb b ln d L W → Calls Tryz.prog 50 #[.pointer (some ⟨b, 0, none⟩), .string ⟨#[102, 97, 108, 115, 101]⟩] W fun e w' => e = .returned (.tuple #[.int .i64 5, .nilIface]) ∧ Emb b ln d (L ++ wordT 1) w' ∧ Pk b W w') := Lib.hid (fun W h => HS.out W h)
        go_upto_region 8 with fail
        go_region_with (go_at_call 50; refine (HS2.out wc.drew HEM1.out.drew).mono ?_; rintro e w2 ⟨rfl, h2, hk2⟩)
        all_goals go_wp2_with fail
        all_goals go_ret
        all_goals exact ⟨_, rfl, HX1.out.below ((Below.refl b wc).drew.trans hk2.1), by rw [HTT.out]; exact h2, HK1.out.trans (((Pk.refl b wc).drew).trans hk2)⟩
      · simp only [wNull, wFalse, wTrue] at w0c w1c w2c
        have HS2 : Hid (∀ W, Emb b ln d L W → Calls Tryz.prog 50 #[.pointer (some ⟨b, 0, none⟩), .string ⟨#[116, 114, 117, 101]⟩] W fun e w' => e = .returned (.tuple #[.int .i64 4, .nilIface]) ∧ Emb b ln d (L ++ wordT 2) w' ∧ Pk b W w') := Lib.hid (fun W h => HS.out W h)
        go_upto_region 8 with fail
        go_region_with (go_at_call 50; refine (HS2.out wc.drew HEM1.out.drew).mono ?_; rintro e w2 ⟨rfl, h2, hk2⟩)
        all_goals go_wp2_with fail
        all_goals go_ret
        all_goals exact ⟨_, rfl, HX1.out.below ((Below.refl b wc).drew.trans hk2.1), by rw [HTT.out]; exact h2, HK1.out.trans (((Pk.refl b wc).drew).trans hk2)⟩
    · by_cases h3 : nk = 3
      · subst h3
        have hks : ks = [] := HHK.out (by show (3 : Int) ≠ 5; decide) (by show (3 : Int) ≠ 6; decide)
        have hT : prT ln d (.mk ⟨3, nmany, nname, ns, nneg, ne⟩ ks) = printN ns nneg ne := by
          rw [prT_mk, if_neg (by show ¬ (3 : Int) = 5; decide), if_neg (by show ¬ (3 : Int) = 6; decide)]; rfl
        have HTT := Lib.hid hT
        have HS : Hid (∀ W, Emb b ln d L W → Calls Tryz.prog 50 #[.pointer (some ⟨b, 0, none⟩), .string ⟨(printN ns nneg ne).toArray⟩] W fun e w' => e = .returned (.tuple #[.int .i64 (ByteArray.mk (printN ns nneg ne).toArray).size, .nilIface]) ∧ Emb b ln d (L ++ printN ns nneg ne) w' ∧ Pk b W w') := Lib.hid (fun W h => embString b ln d L ⟨(printN ns nneg ne).toArray⟩ W h (by
          rw [mk_size]; rw [hT, List.length_append] at hlen; omega))
        have HPR : Hid (∀ W, PowTab W → Calls Tryz.prog 51 #[.agg #[.int .i64 3, .int .i64 nmany, .string ⟨#[]⟩, .string ⟨ns.toArray⟩, .bool nneg, .int .i64 ne]] W fun e w' => e = .returned (.string ⟨(printN ns nneg ne).toArray⟩) ∧ Below W.heap.size W w') := Lib.hid (fun W h => print_any 3 nmany ⟨#[]⟩ ⟨ns.toArray⟩ nneg ne W h (by rw [mk_size]; omega) he0 he1)
        have hlo := HEN1.out.lo
        have HPW : Hid (PowTab (wc.setCell ⟨nb, 2, none⟩ (.string ⟨#[]⟩)).drew) := Lib.hid (HEN1.out.pow.below (HEN1.out.bl.setCell (p := ⟨nb, 2, none⟩) (by show w0.heap.size ≤ nb; omega) _).drew)
        have HEM2 : Hid (Emb b ln d L (wc.setCell ⟨nb, 2, none⟩ (.string ⟨#[]⟩))) := Lib.hid (HEM1.out.other HZ1.out (by omega) (by decide) _)
        have HK2 : Hid (Pk b w (wc.setCell ⟨nb, 2, none⟩ (.string ⟨#[]⟩))) := Lib.hid (HK1.out.newer (by rw [HNB.out]; exact Nat.le_refl _) (by omega) _)
        have HX2 : Hid (NdB b (wc.setCell ⟨nb, 2, none⟩ (.string ⟨#[]⟩)) X (flats ks ++ r)) := Lib.hid (HX1.out.below ((Below.refl b wc).setCell (p := ⟨nb, 2, none⟩) (by show b ≤ nb; omega) _))
        have hsz : (wc.setCell ⟨nb, 2, none⟩ (.string ⟨#[]⟩)).heap.size = wc.heap.size := by simp [World.setCell]
        have hbw : b ≤ wc.heap.size := by omega
        subst hks
        clear hT HHP HHK hlen HX1 HK1 HEM1 HEN1
        generalize printN ns nneg ne = T at *
        go_upto_region 11 with fail
        go_region_with (first
          | (go_at_call 51; refine (HPR.out _ HPW.out).mono ?_; rintro e w2 ⟨rfl, hb2⟩; have HB2 := Lib.hid hb2; clear hb2)
          | (go_at_call 50; refine (HS.out w2 (HEM2.out.drew.below HB2.out)).mono ?_; rintro e w3 ⟨rfl, h3, hk3⟩))
        all_goals go_wp2_with fail
        all_goals go_ret
        all_goals exact ⟨_, rfl, HX2.out.below (((Below.refl b _).drew.trans (HB2.out.mono (by show b ≤ _; rw [show ∀ W : World, W.drew.heap.size = W.heap.size from fun _ => rfl, hsz]; exact hbw))).trans hk3.1), by rw [HTT.out]; exact h3, (HK2.out.drew.trans (Pk.of HB2.out (by rw [show ∀ W : World, W.drew.heap.size = W.heap.size from fun _ => rfl, hsz]; exact hbw))).trans hk3⟩
      by_cases h4 : nk = 4
      · subst h4
        have hks : ks = [] := HHK.out (by show (4 : Int) ≠ 5; decide) (by show (4 : Int) ≠ 6; decide)
        have hT : prT ln d (.mk ⟨4, nmany, nname, ns, nneg, ne⟩ ks) = quo ns := by
          rw [prT_mk, if_neg (by show ¬ (4 : Int) = 5; decide), if_neg (by show ¬ (4 : Int) = 6; decide)]; rfl
        have HTT := Lib.hid hT
        have HS : Hid (∀ W, Emb b ln d L W → Calls Tryz.prog 50 #[.pointer (some ⟨b, 0, none⟩), .string ⟨(quo ns).toArray⟩] W fun e w' => e = .returned (.tuple #[.int .i64 (ByteArray.mk (quo ns).toArray).size, .nilIface]) ∧ Emb b ln d (L ++ quo ns) w' ∧ Pk b W w') := Lib.hid (fun W h => embString b ln d L ⟨(quo ns).toArray⟩ W h (by
          rw [mk_size]; rw [hT, List.length_append] at hlen; omega))
        have HQ : Hid (∀ W, Calls Tryz.prog 52 #[.string ⟨ns.toArray⟩] W fun e w' => e = .returned (.string ⟨(quo ns).toArray⟩) ∧ Below W.heap.size W w') := Lib.hid (fun W => quote_any ⟨ns.toArray⟩ W (by rw [mk_size]; omega))
        have hbw : b ≤ wc.heap.size := by omega
        subst hks
        clear hT HHP HHK hlen HEN1
        generalize quo ns = T at *
        go_upto_region 13 with fail
        go_region_with (first
          | (go_at_call 52; refine (HQ.out _).mono ?_; rintro e w2 ⟨rfl, hb2⟩; have HB2 := Lib.hid hb2; clear hb2)
          | (go_at_call 50; refine (HS.out w2 (HEM1.out.drew.below HB2.out)).mono ?_; rintro e w3 ⟨rfl, h3, hk3⟩))
        all_goals go_wp2_with fail
        all_goals go_ret
        all_goals exact ⟨_, rfl, HX1.out.below (((Below.refl b _).drew.trans (HB2.out.mono hbw)).trans hk3.1), by rw [HTT.out]; exact h3, (HK1.out.drew.trans (Pk.of HB2.out hbw)).trans hk3⟩
      have hks : nk = 5 ∨ nk = 6 := by omega
      clear hw
      rcases hks with rfl | rfl
      · have hT : prT ln d (.mk ⟨5, nmany, nname, ns, nneg, ne⟩ ks) = 91 :: (prB ln d false ks ++ [93]) := by rw [prT_mk, if_pos (show (5 : Int) = 5 from rfl)]
        have hTE : L ++ prT ln d (.mk ⟨5, nmany, nname, ns, nneg, ne⟩ ks) = L ++ [91] ++ prB ln d false ks ++ [93] := by rw [hT]; simp
        have HTE := Lib.hid hTE
        rw [hTE] at hlen
        have hl1 : (L ++ [91] ++ prB ln d false ks).length ≤ 100000000 := by rw [List.length_append] at hlen; omega
        have hl2 : L.length ≤ 100000000 := by rw [List.length_append, List.length_append] at hl1; omega
        have HW1 := Lib.hid (embByte b ln d L 91 wc HEM1.out (by omega))
        have HW3 := Lib.hid (fun W h => embByte b ln d (L ++ [91] ++ prB ln d false ks) 93 W h (by omega))
        have HPT : Hid (∀ W, En w0 b W → Emb b ln d (L ++ [91]) W → NdB b W X (flats ks ++ r) → Calls Tryz.prog 54 #[.pointer (some ⟨b, 0, none⟩), .agg #[.int .i64 5, .int .i64 nmany, .string ⟨nname.toArray⟩, .string ⟨ns.toArray⟩, .bool nneg, .int .i64 ne], X] W (VlP b ln d (L ++ [91]) r (prB ln d false ks) W)) := Lib.hid (fun W h1 h2 h3 =>
          HHP.out (.inl rfl) b d (L ++ [91]) r X w0 W h1 h2 h3 (by rw [flat_mk, List.length_cons] at hd; omega) hl1)
        clear hT hTE hlen hl1 hl2 HHP HHK p0 p1 p2 p3 p4 p5 pf
        have q0 : wc.cell? ⟨nb, 0, none⟩ = some (.int .i64 5) := by rw [Lib.cell_of_heap HZ1.out]; rfl
        go_wp2_with (first
          | (go_at_call_of 53 (91 : Int); refine HW1.out.mono ?_; rintro e w1 ⟨rfl, h1, hk1⟩; have zz := hk1.other HZ1.out (by omega) (by decide); have y0 : w1.cell? ⟨nb, 0, none⟩ = some (.int .i64 5) := (by rw [Lib.cell_of_heap zz]; rfl); have y1 : w1.cell? ⟨nb, 1, none⟩ = some (.int .i64 nmany) := (by rw [Lib.cell_of_heap zz]; rfl); have y2 : w1.cell? ⟨nb, 2, none⟩ = some (.string ⟨nname.toArray⟩) := (by rw [Lib.cell_of_heap zz]; rfl); have y3 : w1.cell? ⟨nb, 3, none⟩ = some (.string ⟨ns.toArray⟩) := (by rw [Lib.cell_of_heap zz]; rfl); have y4 : w1.cell? ⟨nb, 4, none⟩ = some (.bool nneg) := (by rw [Lib.cell_of_heap zz]; rfl); have y5 : w1.cell? ⟨nb, 5, none⟩ = some (.int .i64 ne) := (by rw [Lib.cell_of_heap zz]; rfl); have HE2 := Lib.hid h1; have HK2 := Lib.hid hk1; clear h1 hk1 zz)
          | (go_at_call 54; refine (HPT.out _ (HEN1.out.pk HK2.out) HE2.out (HX1.out.below HK2.out.1)).mono ?_; rintro e w2 ⟨v', rfl, hx2, h2, hk2⟩; have HX3 := Lib.hid hx2; have HE3 := Lib.hid h2; have HK3 := Lib.hid hk2; clear hx2 h2 hk2)
          | (go_at_call_of 53 (93 : Int); refine (HW3.out _ HE3.out).mono ?_; rintro e w3 ⟨rfl, h3, hk3⟩))
        go_ret
        exact ⟨_, rfl, HX3.out.below hk3.1, by rw [HTE.out]; exact h3, (HK1.out.trans (HK2.out.trans HK3.out)).trans hk3⟩
      · have hT : prT ln d (.mk ⟨6, nmany, nname, ns, nneg, ne⟩ ks) = 123 :: (prB ln d true ks ++ [125]) := by rw [prT_mk, if_neg (show ¬ (6 : Int) = 5 by decide), if_pos (show (6 : Int) = 6 from rfl)]
        have hTE : L ++ prT ln d (.mk ⟨6, nmany, nname, ns, nneg, ne⟩ ks) = L ++ [123] ++ prB ln d true ks ++ [125] := by rw [hT]; simp
        have HTE := Lib.hid hTE
        rw [hTE] at hlen
        have hl1 : (L ++ [123] ++ prB ln d true ks).length ≤ 100000000 := by rw [List.length_append] at hlen; omega
        have hl2 : L.length ≤ 100000000 := by rw [List.length_append, List.length_append] at hl1; omega
        have HW1 := Lib.hid (embByte b ln d L 123 wc HEM1.out (by omega))
        have HW3 := Lib.hid (fun W h => embByte b ln d (L ++ [123] ++ prB ln d true ks) 125 W h (by omega))
        have HPT : Hid (∀ W, En w0 b W → Emb b ln d (L ++ [123]) W → NdB b W X (flats ks ++ r) → Calls Tryz.prog 54 #[.pointer (some ⟨b, 0, none⟩), .agg #[.int .i64 6, .int .i64 nmany, .string ⟨nname.toArray⟩, .string ⟨ns.toArray⟩, .bool nneg, .int .i64 ne], X] W (VlP b ln d (L ++ [123]) r (prB ln d true ks) W)) := Lib.hid (fun W h1 h2 h3 =>
          HHP.out (.inr rfl) b d (L ++ [123]) r X w0 W h1 h2 h3 (by rw [flat_mk, List.length_cons] at hd; omega) hl1)
        clear hT hTE hlen hl1 hl2 HHP HHK p0 p1 p2 p3 p4 p5 pf
        have q0 : wc.cell? ⟨nb, 0, none⟩ = some (.int .i64 6) := by rw [Lib.cell_of_heap HZ1.out]; rfl
        go_wp2_with (first
          | (go_at_call_of 53 (123 : Int); refine HW1.out.mono ?_; rintro e w1 ⟨rfl, h1, hk1⟩; have zz := hk1.other HZ1.out (by omega) (by decide); have y0 : w1.cell? ⟨nb, 0, none⟩ = some (.int .i64 6) := (by rw [Lib.cell_of_heap zz]; rfl); have y1 : w1.cell? ⟨nb, 1, none⟩ = some (.int .i64 nmany) := (by rw [Lib.cell_of_heap zz]; rfl); have y2 : w1.cell? ⟨nb, 2, none⟩ = some (.string ⟨nname.toArray⟩) := (by rw [Lib.cell_of_heap zz]; rfl); have y3 : w1.cell? ⟨nb, 3, none⟩ = some (.string ⟨ns.toArray⟩) := (by rw [Lib.cell_of_heap zz]; rfl); have y4 : w1.cell? ⟨nb, 4, none⟩ = some (.bool nneg) := (by rw [Lib.cell_of_heap zz]; rfl); have y5 : w1.cell? ⟨nb, 5, none⟩ = some (.int .i64 ne) := (by rw [Lib.cell_of_heap zz]; rfl); have HE2 := Lib.hid h1; have HK2 := Lib.hid hk1; clear h1 hk1 zz)
          | (go_at_call 54; refine (HPT.out _ (HEN1.out.pk HK2.out) HE2.out (HX1.out.below HK2.out.1)).mono ?_; rintro e w2 ⟨v', rfl, hx2, h2, hk2⟩; have HX3 := Lib.hid hx2; have HE3 := Lib.hid h2; have HK3 := Lib.hid hk2; clear hx2 h2 hk2)
          | (go_at_call_of 53 (125 : Int); refine (HW3.out _ HE3.out).mono ?_; rintro e w3 ⟨rfl, h3, hk3⟩))
        go_ret
        exact ⟨_, rfl, HX3.out.below hk3.1, by rw [HTE.out]; exact h3, (HK1.out.trans (HK2.out.trans HK3.out)).trans hk3⟩
end Go.Proofs.YtbgciajfjllciaaGreatDoor
