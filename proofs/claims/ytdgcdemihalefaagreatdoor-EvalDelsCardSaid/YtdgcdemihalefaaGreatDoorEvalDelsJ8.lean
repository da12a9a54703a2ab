/-
  Joined: ShelfV, ValW1, ValW5, ValW6, ValW10, ValW11, ValW7, Els, Pa4, RefW9, FrontW, Pa6, Pa7, Pa8, PRef1, PRef2, EvI.
-/
import Derived.Shelf.Unicode.ValidAny
import Derived.Test.YtdgcdemihalefaaGreatDoorProg
import Derived.Test.YtdgcdemihalefaaGreatDoorRefW6
import Derived.Test.YtdgcdemihalefaaGreatDoorEvalDelsJ1
import Derived.RangeFuncNested
import Derived.RangeFuncBound
import Derived.RangeFuncCalls
import Derived.RangeFuncLeaves
import Derived.RangeFuncBox
import Derived.Shelf.Abstract
import Derived.Shelf.RegionOpen
import Derived.OwnWalkIn
import Derived.TacticsInMore
import Derived.LoopNIn
import Derived.LoopIn
import Derived.IntWalk
import Derived.StillTailTactics
import Derived.Test.YtdgcdemihalefaaGreatDoorEvalDelsJ2
import Derived.Test.YtdgcdemihalefaaGreatDoorEvalDelsJ4
import Derived.Test.YtdgcdemihalefaaGreatDoorRefW1

/-
  Contracts of library functions, at this translation.
-/
namespace Go.Proofs
open Go.Shelf
def Tryz.laysValid_ren : Go.Shelf.Ren := ⟨fun | 196 => 88 | 259 => 132 | n => n, fun | 9 => 9 | 4 => 4 | 3 => 3 | 5 => 5 | 12 => 12 | 119 => 169 | 0 => 0 | 46 => 173 | 139 => 172 | 138 => 171 | 53 => 210 | n => n, fun | 3 => 0 | 4 => 1 | n => n⟩
theorem Tryz.laysValid : Go.Proofs.Lays.n196 Tryz.prog Tryz.laysValid_ren := {
  mixed := by kernel_rfl
  f196 := Tryz.func88.trans (congrArg some (by kernel_rfl))
  f259 := Tryz.func132.trans (congrArg some (by kernel_rfl))
  t0 := Tryz.underlying0
  a0 := Tryz.isAgg0
  z0 := Tryz.sizeOf0
  v0 := Tryz.zeroValue0
  t3 := Tryz.underlying3
  a3 := Tryz.isAgg3
  z3 := Tryz.sizeOf3
  v3 := Tryz.zeroValue3
  t4 := Tryz.underlying4
  a4 := Tryz.isAgg4
  z4 := Tryz.sizeOf4
  v4 := Tryz.zeroValue4
  t5 := Tryz.underlying5
  a5 := Tryz.isAgg5
  z5 := Tryz.sizeOf5
  v5 := Tryz.zeroValue5
  t9 := Tryz.underlying9
  a9 := Tryz.isAgg9
  z9 := Tryz.sizeOf9
  v9 := Tryz.zeroValue9
  t12 := Tryz.underlying12
  a12 := Tryz.isAgg12
  z12 := Tryz.sizeOf12
  v12 := Tryz.zeroValue12
  t46 := Tryz.underlying173
  a46 := Tryz.isAgg173
  z46 := Tryz.sizeOf173
  v46 := Tryz.zeroValue173
  t53 := Tryz.underlying210
  a53 := Tryz.isAgg210
  z53 := Tryz.sizeOf210
  v53 := Tryz.zeroValue210
  t119 := Tryz.underlying169
  a119 := Tryz.isAgg169
  z119 := Tryz.sizeOf169
  t138 := Tryz.underlying171
  a138 := Tryz.isAgg171
  z138 := Tryz.sizeOf171
  v138 := Tryz.zeroValue171
  t139 := Tryz.underlying172
  a139 := Tryz.isAgg172
  z139 := Tryz.sizeOf172
  v139 := Tryz.zeroValue172
  g3 := by kernel_rfl
  g4 := by kernel_rfl }
end Go.Proofs

/-
  What val's small functions answer: holdsParts, isObject, lets, rightNode, begin; the library's ValidString.
-/
namespace Go.Proofs.YtdgcdemihalefaaGreatDoor
open Go.RowKit Np Rw Vp

/-- The library's two tables on UTF-8, as they are laid. -/
def Tabs (w : World) : Prop := Lib.Utf8Tabs 0 1 w
theorem Tabs.below {w w' : World} (h : Tabs w) (hb : Below w.heap.size w w') : Tabs w' := Utf8Tabs_below h hb
theorem valid_any (s : ByteArray) (w : World) (hs : s.size ≤ maxLen) (hT : Tabs w) :
    Calls Tryz.prog 88 #[.string s] w fun e w' => e = .returned (.bool (vld s.data.toList)) ∧ Below w.heap.size w w' :=
  Any.utf8_ValidString Tryz.laysValid s w (by unfold maxLen at hs; omega) hT

def hdc (h : Hd) : List Value := [.int .i64 h.kind, .int .i64 h.left, .bool h.begun, .string ⟨h.ahead.toArray⟩]

end Go.Proofs.YtdgcdemihalefaaGreatDoor

/-
  What val's size, Clone and own answer.
-/
namespace Go.Proofs.YtdgcdemihalefaaGreatDoor
open Go.RowKit Np Rw Vp


abbrev OwnN (base : Nat) (w : World) (v : Value) (l : List Nd) : Prop := Own ndc 6 43 base w v l
/-- What comes out is a row of the call's own. -/
def OwnsN (w : World) (l : List Nd) (e : Ending) (w' : World) : Prop := ∃ v', e = .returned v' ∧ OwnN w.heap.size w' v' l ∧ Below w.heap.size w w'


/-- A part as a value of its own: its first node has no name. -/
def noName (n : Nd) : Nd := { n with name := [] }

end Go.Proofs.YtdgcdemihalefaaGreatDoor

/-
  What val's rows tells, one by one: a value's parts, in order, each as it stands in the row.
-/
namespace Go.Proofs.YtdgcdemihalefaaGreatDoor
open Go.RowKit Go.Shelf Np Rw Vp
attribute [local go_sem] Oper.semAt_some

/-- A piece of a slice. -/
theorem Row.piece {α : Type} {enc : α → List Value} {sz g o c : Nat} {w : World} {l : List α} (h : Row enc sz w (.slice (some ⟨g, o, none⟩) l.length c) l) (k m : Nat) (hk : k + m ≤ l.length) :
    Row enc sz w (.slice (some ⟨g, o + k * sz, none⟩) m (c - k)) ((l.drop k).take m) := by
  obtain ⟨A, c', hv, hc, hm, -, H⟩ := h
  injection hv with e1 _ e3
  subst e1 e3
  have hl : ((l.drop k).take m).length = m := by simp; omega
  refine ⟨_, c - k, by rw [hl], by rw [hl]; omega, by omega, fun h => (by cases h), fun h0 => ?_⟩
  rw [hl] at h0
  obtain ⟨g', o', hA, hg, hx⟩ := H (by omega)
  injection hA with hA
  injection hA with e1 e2
  subst e1 e2
  refine ⟨g, o + k * sz, rfl, hg, fun i x hi => ?_⟩
  rw [List.getElem?_take] at hi
  split at hi
  · rw [List.getElem?_drop] at hi
    have := hx _ x hi
    rwa [Nat.add_mul, ← Nat.add_assoc] at this
  · cases hi
theorem Row.rest {α : Type} {enc : α → List Value} {sz g o c : Nat} {w : World} {l : List α} (h : Row enc sz w (.slice (some ⟨g, o, none⟩) l.length c) l) (k : Nat) (hk : k ≤ l.length) :
    Row enc sz w (.slice (some ⟨g, o + k * sz, none⟩) (l.length - k) (c - k)) (l.drop k) := by
  have := h.piece k (l.length - k) (by omega)
  rwa [List.take_of_length_le (by simp)] at this

/-- A part of a row: where it stands, and its tree. -/
abbrev Pt (L : List Nd) := { x : Nat × Tr Nd // okT many x.2 ∧ ∃ r, L.drop x.1 = flat x.2 ++ r }
end Go.Proofs.YtdgcdemihalefaaGreatDoor

/-
  What val's head, lay and List answer.
-/
namespace Go.Proofs.YtdgcdemihalefaaGreatDoor
open Go.RowKit Np Rw Vp

theorem grown_set {w w' : World} {row : Option Nat} {g : Nat} {c : Nat} (h : w.grownBy w' row) (hg : row = some g ∨ w.heap.size ≤ g) (u : Value) : w.grownBy (w'.setCell ⟨g, c, none⟩ u) row := by
  obtain ⟨h1, h2, h3, h4, h5⟩ := h
  refine ⟨h1, h2, h3, by simpa using h4, fun k hk hne => ?_⟩
  rw [← h5 k hk hne]
  refine heap_setCell_other _ ⟨g, c, none⟩ k u ?_
  rcases hg with e | e
  · intro h; subst h; exact hne e.symm
  · intro h; subst h; exact absurd hk (by simpa using e)


end Go.Proofs.YtdgcdemihalefaaGreatDoor

/-
  What val's Object answers.
-/
namespace Go.Proofs.YtdgcdemihalefaaGreatDoor
open Go.RowKit Np Rw Vp

/-- What val.Object hands back. -/
def GivesO (w : World) (names : List (List UInt8)) (L : List (List Nd)) (e : Ending) (w' : World) : Prop := ∃ v', e = .returned (.tuple #[v', .int .i64 (objE names L)]) ∧ OwnN w.heap.size w' v' (objV names L) ∧ Below w.heap.size w w'
theorem GivesO.bad {w w' : World} {names : List (List UInt8)} {L : List (List Nd)} {e : Ending} (h : objB names L = false) (he : e = .returned (.tuple #[.slice none 0 0, .int .i64 4])) (hb : Below w.heap.size w w') : GivesO w names L e w' :=
  ⟨_, by rw [objE, h]; exact he, by rw [objV, h]; exact Own.nil _, hb⟩

/-- So far no name is wrong, or there twice. -/
def GoodTo (names : List (List UInt8)) (p : List Nat) (k : Nat) : Prop :=
  (∀ i j, i < k → p[i]? = some j → vld (atN names j) = true) ∧ (∀ i a b, i + 1 < k → p[i]? = some a → p[i + 1]? = some b → atN names a ≠ atN names b)

theorem GoodTo.next {names : List (List UInt8)} {p : List Nat} {k at_ : Nat} (h : GoodTo names p k) (ha : p[k]? = some at_) (hv : vld (atN names at_) = true) (hn : ∀ a, 0 < k → p[k - 1]? = some a → atN names a ≠ atN names at_) : GoodTo names p (k + 1) := by
  refine ⟨fun i j hi hj => ?_, fun i a b hi h1 h2 => ?_⟩
  · by_cases e : i = k
    · subst e; rw [ha] at hj; injection hj with hj; rw [← hj]; exact hv
    · exact h.1 i j (by omega) hj
  · by_cases e : i + 1 = k
    · subst e; rw [ha] at h2; injection h2 with h2; rw [← h2]; exact hn a (by omega) h1
    · exact h.2 i a b (by omega) h1 h2

end Go.Proofs.YtdgcdemihalefaaGreatDoor

/-
  What val.Parts and val.Names answer.
-/
namespace Go.Proofs.YtdgcdemihalefaaGreatDoor
open Go.RowKit Go.Shelf Np Rw Vp
attribute [local go_sem] Oper.semAt_some

/-- A part as a value of its own. -/
def clr (t : Tr Nd) : Tr Nd := .mk (noName t.nd) t.ks
/-- Slices of the call's own, each of which reads as a row. -/
def Elems (base : Nat) (W : World) (zs : List (Option Addr × Nat × Nat)) (L : List (List Nd)) : Prop := zs.length = L.length ∧ ∀ (k : Nat) (z : Option Addr × Nat × Nat) (l : List Nd), zs[k]? = some z → L[k]? = some l → OwnN base W (.slice z.1 z.2.1 z.2.2) l
theorem Elems.below {base : Nat} {W W' : World} {zs : List (Option Addr × Nat × Nat)} {L : List (List Nd)} (h : Elems base W zs L) (hb : Below W.heap.size W W') : Elems base W' zs L := ⟨h.1, fun k z l h1 h2 => (h.2 k z l h1 h2).below hb⟩
theorem Elems.snoc {base : Nat} {W : World} {zs : List (Option Addr × Nat × Nat)} {L : List (List Nd)} {z : Option Addr × Nat × Nat} {l : List Nd} (h : Elems base W zs L) (hz : OwnN base W (.slice z.1 z.2.1 z.2.2) l) : Elems base W (zs ++ [z]) (L ++ [l]) := by
  refine ⟨by simp [h.1], fun k y m h1 h2 => ?_⟩
  rw [List.getElem?_append] at h1 h2
  rw [h.1] at h1
  split at h1
  · rename_i hk
    rw [if_pos hk] at h2
    exact h.2 k y m h1 h2
  · rename_i hk
    rw [if_neg hk] at h2
    have : k - L.length = 0 := by
      have := (List.getElem?_eq_some_iff.1 h1).1
      simp at this; omega
    rw [this] at h1 h2
    simp at h1 h2
    subst h1 h2
    exact hz
theorem Elems.vls {base : Nat} {W : World} {v : Value} {zs : List (Option Addr × Nat × Nat)} {L : List (List Nd)} (h : Elems base W zs L) (hr : Row slc 1 W v zs) : Vls W v L := by
  refine ⟨zs.map (fun z => .slice z.1 z.2.1 z.2.2), by simp [h.1], ?_, ?_⟩
  · obtain ⟨A, c, hv, hc, hm, hz, H⟩ := hr
    refine ⟨A, c, by simpa using hv, by simpa using hc, hm, hz, fun h0 => ?_⟩
    obtain ⟨g, o, hA, hlt, hx⟩ := H (by simpa using h0)
    refine ⟨g, o, hA, hlt, fun k x hk => ?_⟩
    rw [List.getElem?_map, Option.map_eq_some_iff] at hk
    obtain ⟨z, hz1, rfl⟩ := hk
    exact hx k z hz1
  · intro k x l hx hl
    rw [List.getElem?_map, Option.map_eq_some_iff] at hx
    obtain ⟨z, hz1, rfl⟩ := hx
    exact (h.2 k z l hz1 hl).row ndc_len

/-- What comes out is a slice of rows. -/
def GivesV (w : World) (L : List (List Nd)) (e : Ending) (w' : World) : Prop := ∃ v', e = .returned v' ∧ Vls w' v' L ∧ Below w.heap.size w w'
def GivesS (w : World) (L : List (List UInt8)) (e : Ending) (w' : World) : Prop := ∃ v', e = .returned v' ∧ Sts w' v' L ∧ Below w.heap.size w w'

/-- Between two rounds of Parts. -/
def PI {L : List Nd} (w : World) (pre : List (Pt L)) (W : World) : Prop :=
  (∃ v zs, Boxed W w.heap.size 79 v ∧ Own slc 1 35 w.heap.size W v zs ∧ Elems w.heap.size W zs (pre.map fun x => flat (clr x.1.2))) ∧ Below w.heap.size w W
theorem PI.own {L : List Nd} (w : World) (B : Nat) (hB : w.heap.size ≤ B) : OwnFrom B (PI (L := L) w) := by
  intro s W W' row hs hg hr
  obtain ⟨⟨v, zs, h1, h2, h3⟩, h4⟩ := hs
  have hr' : ∀ r, row = some r → ∃ o : Obj, W.heap[r]? = some o ∧ o.isCells = false := fun r e => (hr r e).2
  refine ⟨⟨v, zs, boxed_turned h1 hg hr', h2.turned hg hr', h3.1, fun k z l a b => (h3.2 k z l a b).turned hg hr'⟩, ?_⟩
  exact ownFrom_below (β := Unit) (Nat.le_refl _) hB () W W' row h4 hg hr

/-- One more part is laid behind. -/
theorem PI.step {L : List Nd} {w W W1 W3 : World} {pre : List (Pt L)} {x : Pt L} {v0 : Value} {zs : List (Option Addr × Nat × Nat)} {z : Option Addr × Nat × Nat} {v3 : Value} (hb0 : Boxed W w.heap.size 79 v0) (hown : Own slc 1 35 w.heap.size W v0 zs)
    (hel : Elems w.heap.size W zs (pre.map fun x => flat (clr x.1.2))) (hB : Below w.heap.size w W) (h1 : Below W.heap.size W W1) (hz : OwnN w.heap.size W1 (.slice z.1 z.2.1 z.2.2) (flat (clr x.1.2)))
    (h3 : Own slc 1 35 w.heap.size W3 v3 (zs ++ [z])) (hg : (W1.alloc (.cells #[.slice z.1 z.2.1 z.2.2] 35)).grownBy W3 v0.ownBlock) :
    Boxed W3 w.heap.size 79 v0 ∧ KeepsOthers W (W3.setCell ⟨w.heap.size, 0, none⟩ v3) ∧ Below w.heap.size W (W3.setCell ⟨w.heap.size, 0, none⟩ v3) ∧ PI w (pre ++ [x]) (W3.setCell ⟨w.heap.size, 0, none⟩ v3) := by
  have hbx := hb0.lt
  have hBs := hB.size
  have h2 : Below W.heap.size W (W1.alloc (.cells #[.slice z.1 z.2.1 z.2.2] 35)) := h1.alloc h1.size _
  have hz2 := h2.size
  have hb2 : Boxed (W1.alloc (.cells #[.slice z.1 z.2.1 z.2.2] 35)) w.heap.size 79 v0 := (h2.block _ hbx).trans hb0
  have ho2 : Own slc 1 35 w.heap.size (W1.alloc (.cells #[.slice z.1 z.2.1 z.2.2] 35)) v0 zs := hown.below h2
  have hne : some w.heap.size ≠ v0.ownBlock := hb2.not_row (by decide) ho2
  have hb3 : Boxed W3 w.heap.size 79 v0 := hb2.kept hg hne
  have hne3 : v3.ownBlock ≠ some w.heap.size := fun e => (hb3.not_row (by decide) h3) e.symm
  have hlow : Below w.heap.size W W3 := (h2.mono hBs).trans (ho2.kept hg (by omega))
  have hset := hlow.setCell (p := ⟨w.heap.size, 0, none⟩) (Nat.le_refl _) v3
  refine ⟨hb3, ?_, hset, ⟨v3, zs ++ [z], hb3.set v3, ?_, ?_⟩, hB.trans hset⟩
  · refine ((keeps_below h2).trans (KeepsOthers.of_grownBy hg (fun j o e ho => ?_))).trans (KeepsOthers.setCell _ _ _)
    obtain ⟨g, cap, cur, hv, _, hh, _⟩ := (ho2.2).resolve_left (fun h => by rw [h.1] at e; cases e)
    rw [hv] at e
    cases e
    rw [hh] at ho
    cases ho
    rfl
  · exact ownsRow_setCell_other h3 hne3 v3
  · have hk : ∀ {v : Value} {l : List Nd}, OwnN w.heap.size (W1.alloc (.cells #[.slice z.1 z.2.1 z.2.2] 35)) v l → OwnN w.heap.size (W3.setCell ⟨w.heap.size, 0, none⟩ v3) v l := by
      intro v l hn
      have hn3 : OwnN w.heap.size W3 v l := World.ownsRow.kept hn hg (own_apart hn ho2 (by decide))
      exact ownsRow_setCell_other hn3 (fun e => (hb3.not_row (by decide) hn3) e.symm) v3
    rw [List.map_append, List.map_singleton]
    exact Elems.snoc ⟨hel.1, fun k y l a b => hk ((hel.2 k y l a b).below h2)⟩ (hk (hz.alloc _))

end Go.Proofs.YtdgcdemihalefaaGreatDoor

/-
  Words for values: rows that come out, with their lengths; a slice of slices, element by element; one more behind a slice of the call's own. Of no law.
-/
namespace Go.Proofs.YtdgcdemihalefaaGreatDoor
open Go.RowKit Np Rw Vp

/-- A row of nodes comes out, with its length. -/
def IsN (w : World) (l : List Nd) (n : Nat) (e : Ending) (w' : World) : Prop := ∃ (A : Option Addr) (c : Nat), e = .returned (.slice A n c) ∧ Nds w' (.slice A n c) l ∧ Below w.heap.size w w'
def IsO (w : World) (l : List Nd) (n : Nat) (k : Int) (e : Ending) (w' : World) : Prop := ∃ (A : Option Addr) (c : Nat), e = .returned (.tuple #[.slice A n c, .int .i64 k]) ∧ Nds w' (.slice A n c) l ∧ Below w.heap.size w w'
theorem OwnsN.is {w w' : World} {l : List Nd} {n : Nat} {e : Ending} (h : OwnsN w l e w') (hn : l.length = n) : IsN w l n e w' := by
  obtain ⟨v, rfl, h1, h2⟩ := h
  have h3 := h1.row ndc_len
  obtain ⟨A, c, rfl, h4⟩ := h3
  rw [← hn]
  exact ⟨A, c, rfl, ⟨A, c, rfl, h4⟩, h2⟩
theorem GivesO.is {w w' : World} {names : List (List UInt8)} {L : List (List Nd)} {n : Nat} {e : Ending} (h : GivesO w names L e w') (hn : (objV names L).length = n) : IsO w (objV names L) n (objE names L) e w' := by
  obtain ⟨v, rfl, h1, h2⟩ := h
  obtain ⟨A, c, rfl, h4⟩ := h1.row ndc_len
  rw [← hn]
  exact ⟨A, c, rfl, ⟨A, c, rfl, h4⟩, h2⟩
theorem GivesO.own {w w' : World} {names : List (List UInt8)} {L : List (List Nd)} {n : Nat} {e : Ending} (h : GivesO w names L e w') (hn : (objV names L).length = n) : ∃ (A : Option Addr) (c : Nat), e = .returned (.tuple #[.slice A n c, .int .i64 (objE names L)]) ∧ OwnN w.heap.size w' (.slice A n c) (objV names L) ∧ Below w.heap.size w w' := by
  obtain ⟨v, rfl, h1, h2⟩ := h
  obtain ⟨A, c, rfl, h4⟩ := h1.row ndc_len
  rw [← hn]
  exact ⟨A, c, rfl, h1, h2⟩
theorem row_one {α : Type} {enc : α → List Value} {sz : Nat} (hl : ∀ x, (enc x).length = sz) (W : World) (n : Nat) (hn : W.heap.size = n) (E : TypeId) (cs : Array Value) (x : α) (hc : cs.toList = enc x) :
    Row enc sz (W.alloc (.cells cs E)) (.slice (some ⟨n, 0, none⟩) 1 1) [x] := by
  subst hn
  exact Row.lit hl W E cs [x] (by unfold maxLen; simp) (by rw [hc]; simp)
/-- Slices that read as these rows. -/
def Els (w : World) (zs : List (Option Addr × Nat × Nat)) (L : List (List Nd)) : Prop := zs.length = L.length ∧ ∀ (k : Nat) (z : Option Addr × Nat × Nat) (l : List Nd), zs[k]? = some z → L[k]? = some l → Nds w (.slice z.1 z.2.1 z.2.2) l
theorem Els.below {w w' : World} {zs : List (Option Addr × Nat × Nat)} {L : List (List Nd)} (h : Els w zs L) (hb : Below w.heap.size w w') : Els w' zs L := ⟨h.1, fun k z l hz hl => (h.2 k z l hz hl).below hb⟩
theorem Els.vls {w : World} {v : Value} {zs : List (Option Addr × Nat × Nat)} {L : List (List Nd)} (h : Els w zs L) (hr : Row slc 1 w v zs) : Vls w v L := by
  refine ⟨zs.map fun z => .slice z.1 z.2.1 z.2.2, by rw [List.length_map]; exact h.1, ?_, fun k x l hx hk => ?_⟩
  · obtain ⟨A, c, hv, h1, h2, h3, h4⟩ := hr
    refine ⟨A, c, by rw [List.length_map]; exact hv, by rw [List.length_map]; exact h1, h2, h3, fun h0 => ?_⟩
    obtain ⟨g, o, hA, hg, hx⟩ := h4 (by rwa [List.length_map] at h0)
    refine ⟨g, o, hA, hg, fun k x hk => ?_⟩
    rw [List.getElem?_map] at hk
    obtain ⟨z, hz, rfl⟩ := Option.map_eq_some_iff.1 hk
    exact hx k z hz
  · rw [List.getElem?_map] at hx
    obtain ⟨z, hz, rfl⟩ := Option.map_eq_some_iff.1 hx
    exact h.2 k z l hz hk
theorem vls_els {w : World} {v : Value} {L : List (List Nd)} (h : Vls w v L) : ∃ zs, Els w zs L ∧ Row slc 1 w v zs := by
  obtain ⟨us, hl, hr, hx⟩ := h
  have key : ∀ (us : List Value) (L : List (List Nd)), us.length = L.length → (∀ (k : Nat) (x : Value) (l : List Nd), us[k]? = some x → L[k]? = some l → Nds w x l) →
      ∃ zs : List (Option Addr × Nat × Nat), zs.map (fun z => Value.slice z.1 z.2.1 z.2.2) = us ∧ Els w zs L := by
    intro us
    induction us with
    | nil => intro L hl _; exact ⟨[], rfl, by simpa using hl, fun k z l hz => by simp at hz⟩
    | cons x us ih =>
      intro L hl hx
      cases L with
      | nil => simp at hl
      | cons l L =>
        obtain ⟨zs, h1, h2, h3⟩ := ih L (by simpa using hl) (fun k y m hy hm => hx (k + 1) y m (by simpa using hy) (by simpa using hm))
        obtain ⟨A, c, h4, -⟩ := hx 0 x l rfl rfl
        refine ⟨(A, l.length, c) :: zs, by rw [List.map_cons, h1, h4], by simp [h2], fun k z m hz hm => ?_⟩
        match k, hz, hm with
        | 0, hz, hm => simp at hz hm; subst hz hm; rw [← h4]; exact hx 0 x _ rfl rfl
        | k + 1, hz, hm => exact h3 k z m (by simpa using hz) (by simpa using hm)
  obtain ⟨zs, h1, h2⟩ := key us L hl hx
  refine ⟨zs, h2, ?_⟩
  subst h1
  obtain ⟨A, c, hv, h3, h4, h5, h6⟩ := hr
  rw [List.length_map] at hv h3 h6
  refine ⟨A, c, hv, h3, h4, h5, fun h0 => ?_⟩
  obtain ⟨g, o, hA, hg, hx⟩ := h6 h0
  exact ⟨g, o, hA, hg, fun k z hz => hx k (.slice z.1 z.2.1 z.2.2) (by rw [List.getElem?_map, hz]; rfl)⟩
theorem Els.reverse {w : World} {zs : List (Option Addr × Nat × Nat)} {L : List (List Nd)} (h : Els w zs L) : Els w zs.reverse L.reverse := by
  refine ⟨by simp [h.1], fun k z l hz hl => ?_⟩
  have hk : k < zs.length := by have := (List.getElem?_eq_some_iff.1 hz).1; simpa using this
  rw [List.getElem?_reverse hk] at hz
  rw [List.getElem?_reverse (by rw [← h.1]; exact hk), ← h.1] at hl
  exact h.2 _ z l hz hl
theorem Els.snoc {w : World} {zs : List (Option Addr × Nat × Nat)} {L : List (List Nd)} {z : Option Addr × Nat × Nat} {l : List Nd} (h : Els w zs L) (hz : Nds w (.slice z.1 z.2.1 z.2.2) l) : Els w (zs ++ [z]) (L ++ [l]) := by
  refine ⟨by simp [h.1], fun k y m hy hm => ?_⟩
  rcases Nat.lt_or_ge k zs.length with hk | hk
  · rw [List.getElem?_append_left hk] at hy
    rw [List.getElem?_append_left (by rw [← h.1]; exact hk)] at hm
    exact h.2 k y m hy hm
  · rw [List.getElem?_append_right hk] at hy
    rw [List.getElem?_append_right (by rw [← h.1]; exact hk), ← h.1] at hm
    cases hkk : k - zs.length with
    | zero => rw [hkk] at hy hm; simp at hy hm; subst hy hm; exact hz
    | succ j => rw [hkk] at hy; simp at hy
/-- Two slices of the call's own: what is appended to one leaves the other as it was. -/
theorem Own.aside {α β : Type} {e1 : α → List Value} {s1 E1 : Nat} {e2 : β → List Value} {s2 E2 base base2 : Nat} {w w' : World} {v1 v2 : Value} {l1 : List α} {l2 : List β} (h1 : Own e1 s1 E1 base w v1 l1) (h2 : Own e2 s2 E2 base2 w v2 l2) (he : E1 ≠ E2)
    (hg : w.grownBy w' v2.ownBlock) : Own e1 s1 E1 base w' v1 l1 := by
  refine World.ownsRow.kept h1 (row := v2.ownBlock) hg ?_
  exact own_apart h1 h2 he
theorem GivesV.is {w w' : World} {L : List (List Nd)} {n : Nat} {e : Ending} (h : GivesV w L e w') (hn : L.length = n) : ∃ (A : Option Addr) (c : Nat), e = .returned (.slice A n c) ∧ Vls w' (.slice A n c) L ∧ Below w.heap.size w w' := by
  obtain ⟨v, rfl, ⟨us, h1, h2, h3⟩, h4⟩ := h
  obtain ⟨A, c, rfl, h5⟩ := h2
  have : us.length = n := h1.trans hn
  rw [this]
  exact ⟨A, c, rfl, ⟨us, h1, ⟨A, c, by rw [this], h5⟩, h3⟩, h4⟩
theorem GivesS.is {w w' : World} {L : List (List UInt8)} {n : Nat} {e : Ending} (h : GivesS w L e w') (hn : L.length = n) : ∃ (A : Option Addr) (c : Nat), e = .returned (.slice A n c) ∧ Sts w' (.slice A n c) L ∧ Below w.heap.size w w' := by
  obtain ⟨v, rfl, h2, h4⟩ := h
  obtain ⟨A, c, rfl, h5⟩ := h2
  rw [hn]
  exact ⟨A, c, rfl, ⟨A, c, by rw [hn], h5⟩, h4⟩
end Go.Proofs.YtdgcdemihalefaaGreatDoor

/-
  What path's Right and Apart answer.
-/
namespace Go.Proofs.YtdgcdemihalefaaGreatDoor
open Go.RowKit Np Rw Vp Pw

set_option maxRecDepth 100000 in
set_option maxHeartbeats 1000000 in
theorem rightStep_any (s : St) (w : World) (hs : s.name.length ≤ maxLen) (hT : Tabs w) : Calls Tryz.prog 211 #[sta s] w fun e w' => e = .returned (.bool (rightS s)) ∧ Below w.heap.size w w' := by
  obtain ⟨p, nm, n⟩ := s
  have hb := (Below.refl w.heap.size w).alloc (Nat.le_refl _) (.cells #[.bool p, .string ⟨nm.toArray⟩, .int .i64 n] 71)
  have HB := Lib.hid hb
  have HV := Lib.hid (valid_any ⟨nm.toArray⟩ (w.alloc (.cells #[.bool p, .string ⟨nm.toArray⟩, .int .i64 n] 71)) hs (hT.below hb))
  clear hb hT
  cases p with
  | true =>
    have HL : Hid (rightS ⟨true, nm, n⟩ = (decide (nm = []) && decide (0 ≤ n) && decide (n ≤ 1000000))) := Lib.hid (by unfold rightS; rw [if_pos rfl])
    generalize rightS ⟨true, nm, n⟩ = b at *
    by_cases h1 : nm = []
    · subst h1
      by_cases h2 : 0 ≤ n
      · have HR : Hid (b = decide (n ≤ 1000000)) := Lib.hid (by rw [HL.out]; simp [h2])
        go_enter Tryz.func211, Tryz.ntmps211
        go_wp2_with fail
        go_ret
        exact ⟨ret_bool HR.out.symm, HB.out⟩
      · have HR : Hid (b = false) := Lib.hid (by rw [HL.out]; simp [h2])
        go_enter Tryz.func211, Tryz.ntmps211
        go_wp2_with fail
        go_ret
        exact ⟨ret_bool HR.out.symm, HB.out⟩
    · have HR : Hid (b = false) := Lib.hid (by rw [HL.out]; simp [h1])
      have h2 : (nm == []) = false := by simpa using h1
      go_enter Tryz.func211, Tryz.ntmps211
      go_wp2_with fail
      go_ret
      exact ⟨ret_bool HR.out.symm, HB.out⟩
  | false =>
    have HL : Hid (rightS ⟨false, nm, n⟩ = (decide (n = 0) && vld nm)) := Lib.hid (by unfold rightS; rw [if_neg (by simp)])
    generalize rightS ⟨false, nm, n⟩ = b at *
    by_cases h1 : n = 0
    · subst h1
      have HR : Hid (b = vld nm) := Lib.hid (by rw [HL.out]; simp)
      go_enter Tryz.func211, Tryz.ntmps211
      go_wp2_with fail
      refine HV.out.mono ?_
      rintro e w1 ⟨rfl, hb1⟩
      have HB1 : Hid (Below w.heap.size w w1) := Lib.hid (HB.out.trans (hb1.mono HB.out.size))
      clear hb1
      go_wp2_with fail
      go_ret
      exact ⟨ret_bool HR.out.symm, HB1.out⟩
    · have HR : Hid (b = false) := Lib.hid (by rw [HL.out]; simp [h1])
      have h2 : (n == 0) = false := by simpa using h1
      go_enter Tryz.func211, Tryz.ntmps211
      go_wp2_with fail
      go_ret
      exact ⟨ret_bool HR.out.symm, HB.out⟩

end Go.Proofs.YtdgcdemihalefaaGreatDoor

/-
  What the document's own answers List and named are.
-/
namespace Go.Proofs.YtdgcdemihalefaaGreatDoor
open Go.RowKit Np Rw Vp

theorem own_head (w : World) (E : Nat) (hE : E = 43) (k n : Nat) : OwnN w.heap.size (w.alloc (.cells #[.int .i64 (k : Int), .int .i64 (n : Int), .string ⟨#[]⟩, .string ⟨#[]⟩, .bool false, .int .i64 0] E)) (.slice (some ⟨w.heap.size, 0, none⟩) 1 1) [hdN k n] := by
  subst hE
  exact Own.lit (base := w.heap.size) ndc_len w _ [hdN k n] (Nat.le_refl _) (by unfold maxLen; simp) rfl


set_option maxRecDepth 100000 in
set_option maxHeartbeats 4000000 in
theorem refNamed_any (v u : Value) (names : List (List UInt8)) (L : List (List Nd)) (w : World) (hv : Sts w v names) (hu : Vls w u L) (hl : names.length = L.length) (hb1 : L.length ≤ 65536) (hb2 : (L.map List.length).sum ≤ 131072) (hne : ∀ l ∈ L, l ≠ []) :
    Calls Tryz.prog 75 #[v, u] w (OwnsN w (hdN 6 L.length :: laid (names.zip L))) := by
  obtain ⟨us, hul, hu, hur⟩ := hu
  obtain ⟨A, c, rfl, -, -, -, H⟩ := hu
  obtain ⟨A0, c0, rfl, -, -, -, H0⟩ := hv
  have HUL := Lib.hid hul
  have HU := Lib.hid hur
  have HH := Lib.hid H
  have HH0 := Lib.hid H0
  have HB2 := Lib.hid hb2
  have HNE := Lib.hid hne
  have HLL := Lib.hid hl
  clear hur H hb2 hne H0
  rw [hl, ← hul]
  rw [← hul] at hb1
  clear hul hl
  generalize hn : us.length = n at *
  have HN := Lib.hid hn; clear hn
  have HO0 : Hid (OwnN w.heap.size (w.alloc (.cells #[.int .i64 6, .int .i64 (n : Int), .string ⟨#[]⟩, .string ⟨#[]⟩, .bool false, .int .i64 0] 43)) (.slice (some ⟨w.heap.size, 0, none⟩) 1 1) (hdN 6 n :: laid ((names.zip L).take 0))) := Lib.hid (own_head w _ rfl 6 n)
  go_enter Tryz.func75, Tryz.ntmps75
  go_wp2_with fail
  go_loopw [5, 6] (fun vv i wr => ∃ k : Nat, k ≤ n ∧ i = .int .i64 k ∧ OwnN w.heap.size wr vv (hdN 6 n :: laid ((names.zip L).take k)) ∧ Below w.heap.size w wr) (fun _ i _ => n - (intOf i).toNat)
  case atStart => exact ⟨0, Nat.zero_le _, rfl, HO0.out, (Below.refl _ _).alloc (Nat.le_refl _) _⟩
  case round =>
    obtain ⟨j, hj, rfl, hown, hbw⟩ := hrel
    have HO := Lib.hid hown
    have HBW := Lib.hid hbw
    by_cases hlt2 : j < n
    · obtain ⟨g, o, rfl, hg, hx⟩ := HH.out (by omega)
      obtain ⟨g0, o0, rfl, hg0, hx0⟩ := HH0.out (by rw [HLL.out, ← HUL.out]; omega)
      obtain ⟨x, hxk⟩ : ∃ a, us[j]? = some a := ⟨_, List.getElem?_eq_getElem (by rw [HN.out]; exact hlt2)⟩
      obtain ⟨nm, hnm⟩ : ∃ a, names[j]? = some a := ⟨_, List.getElem?_eq_getElem (by rw [HLL.out, ← HUL.out]; exact hlt2)⟩
      obtain ⟨a, ha⟩ : ∃ a, L[j]? = some a := ⟨_, List.getElem?_eq_getElem (by rw [← HUL.out]; exact hlt2)⟩
      have a0 := (hbw.cell (p := ⟨g, o + j, none⟩) hg).trans (hx j x hxk).one
      have HNC : Hid (w.cell? ⟨g0, o0 + j, none⟩ = some (.string ⟨nm.toArray⟩)) := Lib.hid (hx0 j nm hnm).st
      have HG0 := Lib.hid hg0
      obtain ⟨y, ys, hya⟩ : ∃ y ys, a = y :: ys := by
        cases a with
        | nil => exact absurd rfl (HNE.out [] (List.mem_of_getElem? ha))
        | cons y ys => exact ⟨y, ys, rfl⟩
      have HRA : Hid (Nds wr x a) := Lib.hid ((HU.out j x a hxk ha).below hbw)
      have HS : Hid (hdN 6 n :: laid ((names.zip L).take (j + 1)) = (hdN 6 n :: laid ((names.zip L).take j)) ++ setNm nm a) := Lib.hid (by
        have hz : (names.zip L)[j]? = some (nm, a) := by rw [List.getElem?_zip_eq_some]; exact ⟨hnm, ha⟩
        rw [List.take_add_one, hz]; simp [laid_snoc])
      have HLN : Hid ((hdN 6 n :: laid ((names.zip L).take j)).length + a.length ≤ 131073) := Lib.hid (by
        have h1 := sum_take ha
        have h2 := sum_take_le L (j + 1)
        have h3 := HB2.out
        have h4 : (((names.zip L).take j).map fun p : Pr => p.2.length).sum = ((L.take j).map List.length).sum := by
          have : ((names.zip L).take j).map (fun p : Pr => p.2.length) = (L.take j).map List.length := by
            rw [show (fun p : Pr => p.2.length) = List.length ∘ Prod.snd from rfl, ← List.map_map, List.map_take, List.map_snd_zip (by rw [HLL.out]; exact Nat.le_refl _)]
          rw [this]
        rw [List.length_cons, laid_len]; omega)
      generalize hdN 6 n :: laid ((names.zip L).take j) = l1 at HO HS HLN
      have HYA := Lib.hid hya
      have hapos : 0 < a.length := by rw [hya]; simp
      clear ha hxk hx hown hbw hnm hx0 hya
      obtain ⟨Ao, co, rfl, -⟩ := HO.out.form
      generalize hal : a.length = al at *
      have HAL := Lib.hid hal
      clear hal
      go_wp2_with (at_builtin; refine wpList_append_row (base := w.heap.size) elNode rfl _ _ rfl rfl HO.out rfl HRA.out ?_ ?_ ?_ ?_)
      · have := HLN.out; have := HAL.out; unfold maxLen; omega
      · have := HLN.out; have := HAL.out; omega
      · exact HBW.out.size
      · intro A' c' w2 hown2 hg2 hwh
        clear hwh
        rw [HAL.out]
        have HLA : Hid ((l1 ++ a).length = l1.length + al) := Lib.hid (by rw [List.length_append, HAL.out])
        have HO2 : Hid (OwnN w.heap.size w2 (.slice A' (l1 ++ a).length c') (l1 ++ a)) := Lib.hid (by simpa using hown2)
        have HB2' : Hid (Below w.heap.size w w2) := Lib.hid (HBW.out.trans (HO.out.kept hg2 HBW.out.size))
        clear hown2 hg2 a0
        obtain ⟨g', rfl, hc3, HG⟩ : ∃ g', A' = some ⟨g', 0, none⟩ ∧ l1.length + al ≤ c' ∧ Hid (w.heap.size ≤ g' ∧ g' < w2.heap.size) := by
          have h := HO2.out
          obtain ⟨g', cap, hv, h1, h2⟩ := h.opened (by rw [HLA.out]; omega)
          injection hv with e1 _ e3
          have := h.cap.2.1
          exact ⟨g', e1, by rw [← HLA.out]; exact this, Lib.hid ⟨h1, h2⟩⟩
        have hk0 : (l1 ++ a)[l1.length]? = some y := by rw [HYA.out]; simp
        have x0 := Own.cell ndc_len (j := 0) HO2.out hk0 rfl
        have x1 := Own.cell ndc_len (j := 1) HO2.out hk0 rfl
        have x2 := Own.cell ndc_len (j := 2) HO2.out hk0 rfl
        have x3 := Own.cell ndc_len (j := 3) HO2.out hk0 rfl
        have x4 := Own.cell ndc_len (j := 4) HO2.out hk0 rfl
        have x5 := Own.cell ndc_len (j := 5) HO2.out hk0 rfl
        simp only [Nat.add_zero] at x0
        have HTH : Hid (∀ ob : Obj, (w2.alloc ob).there g' (l1.length * 6) 6) := Lib.hid (fun ob => Own.there ndc_len (HO2.out.alloc ob) hk0)
        have HPU : Hid (∀ ob : Obj, OwnN w.heap.size ((w2.alloc ob).setCells g' (l1.length * 6) (ndc (nmN nm y))) (.slice (some ⟨g', 0, none⟩) (l1.length + al) c') (l1 ++ setNm nm a)) := Lib.hid (fun ob => by
          have h2 := Own.puts (y := nmN nm y) ndc_len (HO2.out.alloc ob) hk0
          rw [HLA.out] at h2
          have e : (l1 ++ a).set l1.length (nmN nm y) = l1 ++ setNm nm a := by rw [HYA.out, List.set_append_right _ _ (Nat.le_refl _)]; simp [setNm, nmN]
          rwa [e] at h2)
        have n0 := (HB2'.out.cell (p := ⟨g0, o0 + j, none⟩) HG0.out).trans HNC.out
        rw [HLA.out] at HO2
        clear hk0
        generalize hq : l1.length = q at *
        have HQ := Lib.hid hq
        clear hq
        have hqs : q ≤ 131073 := by have := HLN.out; omega
        have hqi : (q : Int) < q + al := by omega
        have hqn : q < q + al := by omega
        have hg02 : g0 < w2.heap.size := Nat.lt_of_lt_of_le HG0.out HB2'.out.size
        have hqi2 : (0 : Int) < al := by omega
        go_upto_region 9 with fail
        have HTH1 := Lib.hid (HTH.out (.cells #[.int .i64 y.kind, .int .i64 y.many, .string ⟨nm.toArray⟩, .string ⟨y.s.toArray⟩, .bool y.neg, .int .i64 y.e] 43))
        have HPU1 := Lib.hid (HPU.out (.cells #[.int .i64 y.kind, .int .i64 y.many, .string ⟨nm.toArray⟩, .string ⟨y.s.toArray⟩, .bool y.neg, .int .i64 y.e] 43))
        have HBA : Hid (Below w.heap.size w (w2.alloc (.cells #[.int .i64 y.kind, .int .i64 y.many, .string ⟨nm.toArray⟩, .string ⟨y.s.toArray⟩, .bool y.neg, .int .i64 y.e] 43))) := Lib.hid (HB2'.out.alloc HB2'.out.size _)
        have cB : (w2.alloc (.cells #[.int .i64 y.kind, .int .i64 y.many, .string ⟨nm.toArray⟩, .string ⟨y.s.toArray⟩, .bool y.neg, .int .i64 y.e] 43)).heap.size = w2.heap.size + 1 := by simp
        clear x0 x1 x2 x3 x4 x5 n0 cB
        go_wp2_with ((with_reducible refine wpList_store_node rfl _ _ rfl g' (q * 6) (nmN nm y) ?sx ?sy HTH1.out ?sz))
        case sx => simp [Act.eval]
        case sy => simp [Act.eval, nmN]
        all_goals
          go_roundw
          case rel => exact ⟨j + 1, by omega, by go_num, by rw [HS.out]; exact HPU1.out, Below.setCells HG.out.1 _ _ HBA.out⟩
          case measure => simp [intOf]; omega
    · have HE : Hid ((names.zip L).take j = names.zip L) := Lib.hid (List.take_of_length_le (by rw [List.length_zip, HLL.out, ← HUL.out]; omega))
      clear hown hbw
      go_wp2_with fail
      go_ret
      exact ⟨_, rfl, by have := HO.out; rwa [HE.out] at this, HBW.out⟩
end Go.Proofs.YtdgcdemihalefaaGreatDoor

/-
  The front and the rest of a row. Of no function.
-/
namespace Go.Proofs.YtdgcdemihalefaaGreatDoor
open Go.RowKit Np Rw Vp

end Go.Proofs.YtdgcdemihalefaaGreatDoor

/-
  What slices.Equal answers of paths; path's Apart; the document's own Apart and Same.
-/
namespace Go.Proofs.YtdgcdemihalefaaGreatDoor
open Go.RowKit Np Rw Vp Pw

theorem Sp3.quiet {w w' : World} {g o : Nat} {s : St} (h : Sp3 w g o s) (hq : ∃ m, w' = w.drewN m) : Sp3 w' g o s := by
  obtain ⟨m, rfl⟩ := hq
  exact ⟨h.c0, h.c1, h.c2⟩
set_option maxHeartbeats 1000000 in
theorem neq_st (a b : St) (w : World) :
    (binOp .neq 71 (.agg #[.bool a.part, .string ⟨a.name.toArray⟩, .int .i64 a.n]) (.agg #[.bool b.part, .string ⟨b.name.toArray⟩, .int .i64 b.n])).run Tryz.prog w
      = .ok (.bool (!decide (a = b))) w := by
  obtain ⟨p, nm, n⟩ := a
  obtain ⟨p2, nm2, n2⟩ := b
  simp only [St.mk.injEq]
  by_cases h1 : p = p2
  · by_cases h2 : nm = nm2
    · by_cases h3 : n = n2
      · subst h1 h2 h3; simp [go_sem]
      · subst h1 h2; simp [go_sem, h3]
    · subst h1; simp [go_sem, h2]
  · simp [go_sem, h1]
end Go.Proofs.YtdgcdemihalefaaGreatDoor

/-
  path's Apart (two paths with a common beginning).
-/
namespace Go.Proofs.YtdgcdemihalefaaGreatDoor
open Go.RowKit Np Rw Vp Pw

theorem apart_min : ∀ p q : List St, apartP p q = !decide (p.take (min p.length q.length) = q.take (min p.length q.length))
  | [], q => by simp [apartP]
  | s :: p, [] => by simp [apartP]
  | s :: p, s' :: q => by
    rw [apartP, List.length_cons, List.length_cons, show min (p.length + 1) (q.length + 1) = min p.length q.length + 1 by omega, List.take_succ_cons, List.take_succ_cons, apart_min p q]
    by_cases h : s = s'
    · rw [if_pos h, h]; simp
    · rw [if_neg h]; simp [h]
end Go.Proofs.YtdgcdemihalefaaGreatDoor

/-
  path's Apart: one of the two paths is empty; both cases together.
-/
namespace Go.Proofs.YtdgcdemihalefaaGreatDoor
open Go.RowKit Np Rw Vp Pw

end Go.Proofs.YtdgcdemihalefaaGreatDoor

/-
  The document's own Apart and Same of paths.
-/
namespace Go.Proofs.YtdgcdemihalefaaGreatDoor
open Go.RowKit Np Rw Vp Pw

theorem apart_at {p q : List St} {k : Nat} {a b : St} (ha : p[k]? = some a) (hb : q[k]? = some b) (hne : a ≠ b) : apartP p q = true := by
  rw [apart_min]
  have h1 := (List.getElem?_eq_some_iff.mp ha).1
  have h2 := (List.getElem?_eq_some_iff.mp hb).1
  simp only [Bool.not_eq_true', decide_eq_false_iff_not]
  intro h
  have e1 : (p.take (min p.length q.length))[k]? = some a := by rw [List.getElem?_take, if_pos (by omega), ha]
  have e2 : (q.take (min p.length q.length))[k]? = some b := by rw [List.getElem?_take, if_pos (by omega), hb]
  rw [h, e2] at e1
  exact hne (by cases e1; rfl)
theorem apart_none {p q : List St} {k : Nat} (h : p.take k = q.take k) (hk : k ≤ p.length ∧ k ≤ q.length) (hs : k = p.length ∨ k = q.length) : apartP p q = false := by
  rw [apart_min, show min p.length q.length = k by omega, h]
  simp
set_option maxRecDepth 100000 in
set_option maxHeartbeats 1000000 in
theorem refApart_any (va vb : Value) (la lb : List St) (w : World) (ha : Sps w va la) (hb : Sps w vb lb) :
    Calls Tryz.prog 22 #[va, vb] w fun e w' => e = .returned (.bool (apartP la lb)) ∧ ∃ n, w' = w.drewN n := by
  have hneq := neq_st
  have hlen := ha.len
  have hlen2 := hb.len
  have HA := Lib.hid ha
  have HB := Lib.hid hb
  obtain ⟨A, c, rfl, hc, hcm, -, -⟩ := ha
  obtain ⟨B, d, rfl, hd, hdm, -, -⟩ := hb
  have HAt := Lib.hid (fun k a b => @apart_at la lb k a b)
  have HNo := Lib.hid (fun k => @apart_none la lb k)
  generalize apartP la lb = R at *
  generalize hn : la.length = n at *
  generalize hm : lb.length = m at *
  have HN := Lib.hid hn
  have HM := Lib.hid hm
  clear hn hm
  unfold maxLen at hlen hlen2
  go_enter Tryz.func22, Tryz.ntmps22
  go_wp2
  go_loopw [5] (fun i wr => ∃ k : Nat, k ≤ n ∧ k ≤ m ∧ i = .int .i64 k ∧ (∃ m, wr = w.drewN m) ∧ la.take k = lb.take k) (fun i _ => n - (intOf i).toNat)
  case atStart => exact ⟨0, Nat.zero_le _, Nat.zero_le _, rfl, ⟨0, rfl⟩, rfl⟩
  case round =>
    obtain ⟨k, hk, hk2, rfl, hq, ht⟩ := hrel
    have HQ := Lib.hid hq; clear hq
    have HT := Lib.hid ht; clear ht
    by_cases hlt : k < n
    · by_cases hlt2 : k < m
      · obtain ⟨a, ha⟩ : ∃ a, la[k]? = some a := ⟨_, List.getElem?_eq_getElem (by rw [HN.out]; exact hlt)⟩
        obtain ⟨b, hb⟩ : ∃ b, lb[k]? = some b := ⟨_, List.getElem?_eq_getElem (by rw [HM.out]; exact hlt2)⟩
        obtain ⟨g, o, c', hv, -, -, -, hx⟩ := HA.out.opened (by rw [HN.out]; omega)
        obtain ⟨g2, o2, c2', hv2, -, -, -, hx2⟩ := HB.out.opened (by rw [HM.out]; omega)
        cases hv
        cases hv2
        obtain ⟨a0, a1, a2⟩ := (hx k a ha).sp.quiet HQ.out
        obtain ⟨b0, b1, b2⟩ := (hx2 k b hb).sp.quiet HQ.out
        clear hx hx2
        have HA' := Lib.hid ha
        have HB' := Lib.hid hb
        clear ha hb
        by_cases he : a = b
        · have HE : Hid (la.take (k + 1) = lb.take (k + 1)) := Lib.hid (take_eq_succ HT.out HA'.out HB'.out he)
          have hd' : decide (a = b) = true := by simp [he]
          clear he
          go_wp2
          go_quiet (fail)
          go_wp2
          go_roundw
          case rel => exact ⟨k + 1, by omega, by omega, by go_num, quiet_more HQ.out _, HE.out⟩
          case measure => simp [intOf]; omega
        · have HE : Hid (R = true) := Lib.hid (HAt.out k a b HA'.out HB'.out he)
          have hd' : decide (a = b) = false := by simp [he]
          clear he
          go_wp2
          go_quiet (fail)
          go_wp2
          go_ret
          exact ⟨ret_bool HE.out.symm, quiet_more HQ.out _⟩
      · have HE : Hid (R = false) := Lib.hid (HNo.out k HT.out ⟨hk, hk2⟩ (.inr (by omega)))
        go_wp2
        go_ret
        exact ⟨ret_bool HE.out.symm, HQ.out⟩
    · have HE : Hid (R = false) := Lib.hid (HNo.out k HT.out ⟨hk, hk2⟩ (.inl (by omega)))
      go_wp2
      go_ret
      exact ⟨ret_bool HE.out.symm, HQ.out⟩
end Go.Proofs.YtdgcdemihalefaaGreatDoor

/-
  The document's own Right of paths.
-/
namespace Go.Proofs.YtdgcdemihalefaaGreatDoor
open Go.RowKit Np Rw Vp Pw

set_option maxRecDepth 100000 in
set_option maxHeartbeats 1000000 in
theorem refRightP_any (pv : Value) (p : List St) (w : World) (hp : Sps w pv p) (hs : ∀ s ∈ p, s.name.length ≤ maxLen) :
    Calls Tryz.prog 16 #[pv] w fun e w' => e = .returned (.bool (rightP p)) ∧ w' = w := by
  have HS := Lib.hid hs
  have hlen := hp.len
  have HXP : Hid (∀ k s, p[k]? = some s → ∃ g o c, pv = .slice (some ⟨g, o, none⟩) p.length c ∧ g < w.heap.size ∧ Sp3 w g (o + k * 3) s) := Lib.hid fun k s hs => by
    obtain ⟨g, o, c, hv, -, -, hg, hx⟩ := hp.opened (by have := (List.getElem?_eq_some_iff.1 hs).1; omega)
    exact ⟨g, o, c, hv, hg, (hx k s hs).sp⟩
  obtain ⟨P, pc, rfl, -⟩ := hp
  clear hs
  generalize hRR : rightP p = R at *
  have HR : Hid (R = (p.all rightS && decide (p.length ≤ 20))) := Lib.hid (by rw [← hRR, rightP])
  clear hRR
  generalize hpp : p.length = n at *
  have HP := Lib.hid hpp
  clear hpp
  unfold maxLen at hlen
  go_enter Tryz.func16, Tryz.ntmps16
  go_wp2_with fail
  go_loopw [3] (fun iv wr => ∃ k : Nat, k ≤ n ∧ iv = .int .i64 k ∧ Hid ((p.take k).all rightS = true) ∧ wr = w) (fun iv _ => n - (intOf iv).toNat)
  case atStart => exact ⟨0, Nat.zero_le _, rfl, Lib.hid (by simp), rfl⟩
  case round =>
    obtain ⟨k, hk, rfl, HA, rfl⟩ := hrel
    by_cases hlt : k < n
    · have hkp : k < p.length := by rw [HP.out]; exact hlt
      obtain ⟨gp, op, cp, e1, hgp, hs3⟩ := HXP.out k _ (List.getElem?_eq_getElem hkp)
      injection e1 with e1 e2 e3
      subst e1 e3
      obtain ⟨s0, s1, s2⟩ := hs3
      have htk : p.take (k + 1) = p.take k ++ [p[k]] := List.take_succ_eq_append_getElem hkp
      have HTK := Lib.hid htk
      have HSN := Lib.hid (HS.out _ (List.getElem_mem hkp))
      have HMEM : Hid (p[k] ∈ p) := Lib.hid (List.getElem_mem hkp)
      have HBAD : Hid (rightS p[k] = false → R = false) := Lib.hid (fun hr => by
        rw [HR.out]
        have : p.all rightS = false := by
          rw [List.all_eq_false]
          exact ⟨p[k], HMEM.out, by rw [hr]; simp⟩
        rw [this]; rfl)
      clear e2 htk
      generalize p[k] = s at *
      obtain ⟨sp, nm, sn⟩ := s
      have HRE : Hid (rightS ⟨sp, nm, sn⟩ = if sp then decide (nm = []) && decide (0 ≤ sn) && decide (sn ≤ 1000000) else decide (sn = 0) && vld nm) := Lib.hid rfl
      cases sp with
      | true =>
        by_cases h1 : nm = []
        · subst h1
          by_cases h2 : 0 ≤ sn
          · by_cases h3 : sn ≤ 1000000
            · have HRS : Hid (rightS ⟨true, [], sn⟩ = true) := Lib.hid (by rw [HRE.out]; simp [h2, h3])
              have HA2 : Hid ((p.take (k + 1)).all rightS = true) := Lib.hid (by rw [HTK.out, List.all_append, HA.out]; simp [HRS.out])
              go_wp2_with fail
              go_roundw
              case rel => exact ⟨k + 1, by omega, by go_num, HA2, by first | trivial | rfl⟩
              case measure => simp [intOf]; omega
            · have HRS : Hid (rightS ⟨true, [], sn⟩ = false) := Lib.hid (by rw [HRE.out]; simp [h3])
              have HF : Hid (R = false) := Lib.hid (HBAD.out HRS.out)
              go_wp2_with fail
              go_ret
              exact ⟨ret_bool HF.out.symm, rfl⟩
          · have HRS : Hid (rightS ⟨true, [], sn⟩ = false) := Lib.hid (by rw [HRE.out]; simp [h2])
            have HF : Hid (R = false) := Lib.hid (HBAD.out HRS.out)
            go_wp2_with fail
            go_ret
            exact ⟨ret_bool HF.out.symm, rfl⟩
        · have HRS : Hid (rightS ⟨true, nm, sn⟩ = false) := Lib.hid (by rw [HRE.out]; simp [h1])
          have h2 : (nm == []) = false := by simpa using h1
          have HF : Hid (R = false) := Lib.hid (HBAD.out HRS.out)
          go_wp2_with fail
          go_ret
          exact ⟨ret_bool HF.out.symm, rfl⟩
      | false =>
        by_cases h1 : sn = 0
        · subst h1
          have HU := Lib.hid (refUtf_any ⟨nm.toArray⟩ wr HSN.out)
          cases hv : vld nm with
          | true =>
            have HRS : Hid (rightS ⟨false, nm, 0⟩ = true) := Lib.hid (by rw [HRE.out]; simp [hv])
            rw [show Lib.validD (ByteArray.mk nm.toArray).data.toList = true from hv] at HU
            clear hv
            have HA2 : Hid ((p.take (k + 1)).all rightS = true) := Lib.hid (by rw [HTK.out, List.all_append, HA.out]; simp [HRS.out])
            go_wp2_with (go_at_call 43; refine (HU.out).mono ?_; rintro e w3 ⟨rfl, rfl⟩)
            go_roundw
            case rel => exact ⟨k + 1, by omega, by go_num, HA2, by first | trivial | rfl⟩
            case measure => simp [intOf]; omega
          | false =>
            have HRS : Hid (rightS ⟨false, nm, 0⟩ = false) := Lib.hid (by rw [HRE.out]; simp [hv])
            rw [show Lib.validD (ByteArray.mk nm.toArray).data.toList = false from hv] at HU
            clear hv
            have HF : Hid (R = false) := Lib.hid (HBAD.out HRS.out)
            go_wp2_with (go_at_call 43; refine (HU.out).mono ?_; rintro e w3 ⟨rfl, rfl⟩)
            go_ret
            exact ⟨ret_bool HF.out.symm, rfl⟩
        · have HRS : Hid (rightS ⟨false, nm, sn⟩ = false) := Lib.hid (by rw [HRE.out]; simp [h1])
          have h2 : (sn == 0) = false := by simpa using h1
          have HF : Hid (R = false) := Lib.hid (HBAD.out HRS.out)
          go_wp2_with fail
          go_ret
          exact ⟨ret_bool HF.out.symm, rfl⟩
    · obtain rfl : k = n := by omega
      have HF : Hid (R = decide (k ≤ 20)) := Lib.hid (by
        have h1 := HA.out
        rw [List.take_of_length_le (by rw [HP.out]; omega)] at h1
        rw [HR.out, h1]; rfl)
      go_wp2_with fail
      go_ret
      exact ⟨ret_bool (by rw [HF.out]; simp; try omega), rfl⟩
end Go.Proofs.YtdgcdemihalefaaGreatDoor

/-
  Is a path of fields alone? The document's own answer.
-/
namespace Go.Proofs.YtdgcdemihalefaaGreatDoor
open Go.RowKit Np Rw Vp Pw Ev

set_option maxRecDepth 100000 in
set_option maxHeartbeats 1000000 in
theorem refFields_any (pv : Value) (p : List St) (w : World) (hp : Sps w pv p) :
    Calls Tryz.prog 17 #[pv] w fun e w' => e = .returned (.bool (fields p)) ∧ w' = w := by
  have hlen := hp.len
  have HXP : Hid (∀ k s, p[k]? = some s → ∃ g o c, pv = .slice (some ⟨g, o, none⟩) p.length c ∧ g < w.heap.size ∧ Sp3 w g (o + k * 3) s) := Lib.hid fun k s hs => by
    obtain ⟨g, o, c, hv, -, -, hg, hx⟩ := hp.opened (by have := (List.getElem?_eq_some_iff.1 hs).1; omega)
    exact ⟨g, o, c, hv, hg, (hx k s hs).sp⟩
  obtain ⟨P, pc, rfl, -⟩ := hp
  generalize hRR : fields p = R at *
  have HR : Hid (R = p.all fun s => !s.part) := Lib.hid (by rw [← hRR, fields])
  clear hRR
  generalize hpp : p.length = n at *
  have HP := Lib.hid hpp
  clear hpp
  unfold maxLen at hlen
  go_enter Tryz.func17, Tryz.ntmps17
  go_wp2_with fail
  go_loopw [3] (fun iv wr => ∃ k : Nat, k ≤ n ∧ iv = .int .i64 k ∧ Hid ((p.take k).all (fun s => !s.part) = true) ∧ wr = w) (fun iv _ => n - (intOf iv).toNat)
  case atStart => exact ⟨0, Nat.zero_le _, rfl, Lib.hid (by simp), rfl⟩
  case round =>
    obtain ⟨k, hk, rfl, HA, rfl⟩ := hrel
    by_cases hlt : k < n
    · have hkp : k < p.length := by rw [HP.out]; exact hlt
      obtain ⟨gp, op, cp, e1, hgp, hs3⟩ := HXP.out k _ (List.getElem?_eq_getElem hkp)
      injection e1 with e1 e2 e3
      subst e1 e3
      obtain ⟨s0, s1, s2⟩ := hs3
      have HTK : Hid (p.take (k + 1) = p.take k ++ [p[k]]) := Lib.hid (List.take_succ_eq_append_getElem hkp)
      have HMEM : Hid (p[k] ∈ p) := Lib.hid (List.getElem_mem hkp)
      have HBAD : Hid (p[k].part = true → R = false) := Lib.hid (fun hr => by
        rw [HR.out, List.all_eq_false]
        exact ⟨p[k], HMEM.out, by rw [hr]; simp⟩)
      clear e2
      generalize p[k] = s at *
      obtain ⟨sp, nm, sn⟩ := s
      cases sp with
      | true =>
        have HF := Lib.hid (HBAD.out rfl)
        clear HBAD HTK HMEM
        go_wp2_with fail
        go_ret
        exact ⟨ret_bool HF.out.symm, rfl⟩
      | false =>
        have HN : Hid ((p.take (k + 1)).all (fun s => !s.part) = true) := Lib.hid (by rw [HTK.out, List.all_append, HA.out]; rfl)
        clear HBAD HTK HMEM
        go_wp2_with fail
        refine ⟨⟨k + 1, by omega, by go_num, HN, by first | trivial | rfl⟩, ?_⟩
        simp [intOf]; omega
    · obtain rfl : k = n := by omega
      have HF : Hid (R = true) := Lib.hid (by
        have := HA.out
        rw [List.take_of_length_le (by rw [HP.out]; omega)] at this
        rw [HR.out]; exact this)
      go_wp2_with fail
      go_ret
      exact ⟨ret_bool HF.out.symm, rfl⟩
end Go.Proofs.YtdgcdemihalefaaGreatDoor
