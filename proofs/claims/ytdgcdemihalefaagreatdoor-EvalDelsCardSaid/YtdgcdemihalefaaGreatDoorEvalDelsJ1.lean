/-
  Joined: Own, Own2, NumOrdP, ObjP, CmpW, Round, Take, RowT, IntW, SortW, PaB0.
-/
import Derived.Test.YtdgcdemihalefaaGreatDoorMem
import Derived.WalkSmall
import Derived.Laws.AppendOwnNone
import Derived.Deep.DeepCutAuto
import Derived.ChangeAlike
import Derived.Deep.MidRow
import Derived.Deep.OwnRows
import Derived.Test.YtdgcdemihalefaaGreatDoorNumPlain5
import Derived.Sort.Walk0
import Derived.Test.YtdgcdemihalefaaGreatDoorValP2
import Derived.Deep.QuietTactic
import Derived.BigQuiet
import Derived.RangeFuncNested
import Derived.RangeFuncBound
import Derived.RangeFuncCalls
import Derived.RangeFuncLeaves
import Derived.RangeFuncBox
import Derived.OrdersHeld
import Derived.OrdersIn
import Derived.StillTail
import Derived.Shelf.Abstract
import Derived.Shelf.RegionOpen
import Derived.OwnWalkIn
import Derived.TacticsInMore
import Derived.LoopNIn
import Derived.LoopIn
import Derived.Test.YtdgcdemihalefaaGreatDoorShelf
import Derived.Lib.CutLaws
import Derived.Lib.IndexBytes
import Derived.Lib.Bytealg
import Derived.Shelf.RegionOpenPlain

/-
  Slices of the call's own: they read as a list, they are written and appended to, nothing else turns.
-/
namespace Go.Proofs.YtdgcdemihalefaaGreatDoor
open Go.RowKit Np

theorem flat_len {α : Type} {enc : α → List Value} {sz : Nat} (h : ∀ x, (enc x).length = sz) (l : List α) : (l.flatMap enc).length = l.length * sz := by
  induction l with
  | nil => simp
  | cons x l ih => simp [h x, ih, Nat.add_mul, Nat.add_comm]
theorem flat_at {α : Type} {enc : α → List Value} {sz : Nat} (h : ∀ x, (enc x).length = sz) : ∀ (l : List α) (k : Nat) (x : α) (j : Nat), l[k]? = some x → j < sz → (l.flatMap enc)[k * sz + j]? = (enc x)[j]?
  | [], _, _, _, hk, _ => by simp at hk
  | a :: l, 0, x, j, hk, hj => by
    simp at hk; subst hk
    rw [List.flatMap_cons, Nat.zero_mul, Nat.zero_add, List.getElem?_append_left (by rw [h]; exact hj)]
  | a :: l, k + 1, x, j, hk, hj => by
    rw [List.flatMap_cons, List.getElem?_append_right (by rw [h, Nat.add_mul]; omega), h, show (k + 1) * sz + j - sz = k * sz + j by rw [Nat.add_mul]; omega]
    exact flat_at h l k x j (by simpa using hk) hj
/-- Which element, and which cell of it. -/
theorem flat_split {α : Type} {enc : α → List Value} {sz : Nat} (h : ∀ x, (enc x).length = sz) (hp : 0 < sz) (l : List α) (i : Nat) (u : Value) (hi : (l.flatMap enc)[i]? = some u) : ∃ x, l[i / sz]? = some x ∧ (enc x)[i % sz]? = some u := by
  have hlt : i < l.length * sz := by
    have := (List.getElem?_eq_some_iff.1 hi).1
    rwa [flat_len h] at this
  have hk : i / sz < l.length := (Nat.div_lt_iff_lt_mul hp).2 hlt
  refine ⟨l[i / sz], List.getElem?_eq_getElem hk, ?_⟩
  rw [← flat_at h l (i / sz) l[i / sz] (i % sz) (List.getElem?_eq_getElem hk) (Nat.mod_lt _ hp), Nat.div_add_mod' i sz]
  exact hi
theorem flat_put {α : Type} {enc : α → List Value} {sz : Nat} (h : ∀ x, (enc x).length = sz) : ∀ (l : List α) (k : Nat) (x y : α) (j : Nat) (u : Value), l[k]? = some x → j < sz → (enc x).set j u = enc y →
    (l.flatMap enc).set (k * sz + j) u = (l.set k y).flatMap enc
  | [], _, _, _, _, _, hk, _, _ => by simp at hk
  | a :: l, 0, x, y, j, u, hk, hj, hy => by
    simp at hk; subst hk
    rw [List.flatMap_cons, Nat.zero_mul, Nat.zero_add, List.set_append_left _ _ (by rw [h]; exact hj), hy]; rfl
  | a :: l, k + 1, x, y, j, u, hk, hj, hy => by
    rw [List.flatMap_cons, List.set_append_right _ _ (by rw [h, Nat.add_mul]; omega), h, show (k + 1) * sz + j - sz = k * sz + j by rw [Nat.add_mul]; omega, flat_put h l k x y j u (by simpa using hk) hj hy]; rfl

/-- A slice of the call's own: it reads as this list. -/
def Own {α : Type} (enc : α → List Value) (sz : Nat) (E : TypeId) (base : Nat) (w : World) (v : Value) (l : List α) : Prop := w.ownsRow base E sz v l.length (l.flatMap enc)

/-- What elements a type of slices has. -/
structure Elem {α : Type} (P : Program) (T E : TypeId) (enc : α → List Value) (sz bys : Nat) : Prop where
  und : P.underlying T = some (.slice E)
  inf : ∃ i z, P.info? E = some i ∧ i.zero = some z ∧ i.size = sz ∧ i.bytes = bys ∧ z.cells.size = sz
  pos : 0 < sz
  len : ∀ x, (enc x).length = sz
  one : ∀ x, ∀ u ∈ enc x, u.oneCell' = true

section
variable {α : Type} {enc : α → List Value} {sz E base : Nat} {w w' : World} {v : Value} {l : List α}
theorem Own.nil (w : World) : Own enc sz E base w (.slice none 0 0) ([] : List α) := World.ownsRow_nil w base E sz
theorem Own.opened (h : Own enc sz E base w v l) (h0 : 0 < l.length) : ∃ g cap, v = .slice (some ⟨g, 0, none⟩) l.length cap ∧ base ≤ g ∧ g < w.heap.size := World.ownsRow.form h h0
theorem Own.form (h : Own enc sz E base w v l) : ∃ (A : Option Addr) (c : Nat), v = .slice A l.length c ∧ l.length ≤ c ∧ c ≤ maxLen ∧ (A = none → c = 0) := by
  rcases h.2 with ⟨rfl, h0⟩ | ⟨g, cap, cur, rfl, _, _, h1, h2, _⟩
  · exact ⟨none, 0, by rw [h0], by omega, Nat.zero_le _, fun _ => rfl⟩
  · exact ⟨_, cap, rfl, h1, h2, fun h => (by cases h)⟩
theorem Own.cap {A : Option Addr} {n c : Nat} (h : Own enc sz E base w (.slice A n c) l) : n = l.length ∧ n ≤ c ∧ c ≤ maxLen := by
  obtain ⟨B, d, hv, h1, h2, _⟩ := h.form
  injection hv with _ e2 e3
  subst e2 e3
  exact ⟨rfl, h1, h2⟩
theorem Own.row (hl : ∀ x, (enc x).length = sz) (h : Own enc sz E base w v l) : Row enc sz w v l := by
  obtain ⟨A, c, hv, h1, h2, h3⟩ := h.form
  refine ⟨A, c, hv, h1, h2, h3, fun h0 => ?_⟩
  obtain ⟨g, cap, hv', hg, hlt⟩ := h.opened h0
  rw [hv] at hv'
  injection hv' with e1 _ e3
  subst e1 e3
  refine ⟨g, 0, rfl, hlt, fun k x hk j u hu => ?_⟩
  have hj : j < sz := by rw [← hl x]; exact (List.getElem?_eq_some_iff.1 hu).1
  have hkl : k < l.length := (List.getElem?_eq_some_iff.1 hk).1
  subst hv
  have := World.ownsRow.cellAt h (k * sz + j) (by
    have : (k + 1) * sz ≤ l.length * sz := Nat.mul_le_mul_right _ hkl
    rw [Nat.add_mul] at this; omega)
  rw [flat_at hl l k x j hk hj, hu] at this
  rw [Nat.zero_add]
  exact this
/-- Nothing below turns, where only a slice of the call's own does. -/
theorem Own.kept (h : Own enc sz E base w v l) (hg : w.grownBy w' v.ownBlock) (hb : base ≤ w.heap.size) : Below base w w' :=
  (Below.refl base w).grown hg hb (fun k e => (World.ownsRow.lt h k e).1)
theorem Own.mono {base' : Nat} (h : Own enc sz E base w v l) (hb : base' ≤ base) : Own enc sz E base' w v l := by
  obtain ⟨h1, h2⟩ := h
  rcases h2 with h2 | ⟨g, cap, cur, a, b, c⟩
  · exact ⟨h1, .inl h2⟩
  · exact ⟨h1, .inr ⟨g, cap, cur, a, Nat.le_trans hb b, c⟩⟩
theorem Own.alloc (h : Own enc sz E base w v l) (o : Obj) : Own enc sz E base (w.alloc o) v l := World.ownsRow.alloc h o
theorem Own.drewN (h : Own enc sz E base w v l) (n : Nat) : Own enc sz E base (w.drewN n) v l := h
theorem Own.drew (h : Own enc sz E base w v l) : Own enc sz E base w.drew v l := h
theorem Own.below (h : Own enc sz E base w v l) (hb : Below w.heap.size w w') : Own enc sz E base w' v l := by
  refine World.ownsRow.kept h (row := none) ⟨hb.os, hb.tape, hb.output, hb.size, fun k hk _ => hb.block k hk⟩ ?_
  cases hv : v.ownBlock with
  | none => exact .inl rfl
  | some k => exact .inr (by simp)
/-- One cell of an element is written. -/
theorem Own.put (hl : ∀ x, (enc x).length = sz) {g cap k j : Nat} {x y : α} {u : Value} (h : Own enc sz E base w (.slice (some ⟨g, 0, none⟩) l.length cap) l) (hk : l[k]? = some x) (hj : j < sz) (hy : (enc x).set j u = enc y) :
    Own enc sz E base (w.setCell ⟨g, k * sz + j, none⟩ u) (.slice (some ⟨g, 0, none⟩) l.length cap) (l.set k y) := by
  have h1 := (World.ownsRow.stored h (k * sz + j) u).1
  rw [flat_put hl l k x y j u hk hj hy] at h1
  unfold Own
  rw [List.length_set]
  exact h1
theorem Own.cell (hl : ∀ x, (enc x).length = sz) {g cap k j : Nat} {x : α} {u : Value} (h : Own enc sz E base w (.slice (some ⟨g, 0, none⟩) l.length cap) l) (hk : l[k]? = some x) (hu : (enc x)[j]? = some u) : w.cell? ⟨g, k * sz + j, none⟩ = some u := by
  have hj : j < sz := by rw [← hl x]; exact (List.getElem?_eq_some_iff.1 hu).1
  have hkl : k < l.length := (List.getElem?_eq_some_iff.1 hk).1
  rw [World.ownsRow.cellAt h (k * sz + j) (by
    have : (k + 1) * sz ≤ l.length * sz := Nat.mul_le_mul_right _ hkl
    rw [Nat.add_mul] at this; omega), flat_at hl l k x j hk hj, hu]
theorem Own.free {g cap : Nat} (h : Own enc sz E base w (.slice (some ⟨g, 0, none⟩) l.length cap) l) (j : Nat) : w.frozen? ⟨g, j, none⟩ = false := World.ownsRow.frozenAt h j
theorem Own.lt {g cap : Nat} (h : Own enc sz E base w (.slice (some ⟨g, 0, none⟩) l.length cap) l) : base ≤ g ∧ g < w.heap.size := World.ownsRow.lt h g rfl
/-- The last one is taken off. -/
theorem Own.pop (hl : ∀ x, (enc x).length = sz) {g cap : Nat} {x : α} (h : Own enc sz E base w (.slice (some ⟨g, 0, none⟩) (l.length + 1) cap) (l ++ [x])) : Own enc sz E base w (.slice (some ⟨g, 0, none⟩) l.length cap) l := by
  unfold Own at h ⊢
  rw [List.length_append, List.length_singleton, List.flatMap_append] at h
  exact ownsRow_pop (flat_len hl l) h
/-- Made of a literal. -/
theorem Own.lit (hl : ∀ x, (enc x).length = sz) (w : World) (cs : Array Value) (l : List α) (hb : base ≤ w.heap.size) (hm : l.length ≤ maxLen) (hcs : cs.toList = l.flatMap enc) : Own enc sz E base (w.alloc (.cells cs E)) (.slice (some ⟨w.heap.size, 0, none⟩) l.length l.length) l := by
  unfold Own
  rw [← hcs]
  exact World.ownsRow_lit w cs l.length hb hm (by rw [← Array.length_toList, hcs, flat_len hl])
theorem Row.lit (hl : ∀ x, (enc x).length = sz) (w : World) (E : TypeId) (cs : Array Value) (l : List α) (hm : l.length ≤ maxLen) (hcs : cs.toList = l.flatMap enc) : Row enc sz (w.alloc (.cells cs E)) (.slice (some ⟨w.heap.size, 0, none⟩) l.length l.length) l :=
  (Own.lit (base := 0) hl w cs l (Nat.zero_le _) hm hcs).row hl
end

section
variable {α : Type} {P : Program} {enc : α → List Value} {T E sz bys base : Nat} {w : World}
/-- At the operation 'append(v, x...)': v is the call's own, x any slice. -/
theorem wpList_append_row (el : Elem P T E enc sz bys) {ops : Array Oper} {rest : List Oper} {o : Oper} {a : Act} {Q : Exit → Act → World → Prop} (hgd : o.guard = none) (s x : Operand)
    (ho : o.op = .call { callee := .builtin .append, args := #[s, x], argTypes := #[T, T] }) {v r : Value} {l l2 : List α} (hs : a.eval s = v) (hown : Own enc sz E base w v l) (hx : a.eval x = r) (hr : Row enc sz w r l2)
    (h63 : l.length + l2.length ≤ maxLen) (hby : (l.length + l2.length) * bys ≤ 140737488355328) (hbase : base ≤ w.heap.size)
    (h : ∀ (A : Option Addr) (c : Nat) (w' : World), Own enc sz E base w' (.slice A (l ++ l2).length c) (l ++ l2) → w.grownBy w' v.ownBlock → ((Value.slice A (l ++ l2).length c).ownBlock = v.ownBlock ∨ (Value.slice A (l ++ l2).length c).ownBlock = some w.heap.size) →
      wpList P ops Q rest (a.put o.dst (.slice A (l ++ l2).length c)) w') : wpList P ops Q (o :: rest) a w := by
  obtain ⟨i, z, hi, hz, hsize, hbytes, hzs⟩ := el.inf
  obtain ⟨A, c, rfl, hc, hcm, hnil, hcell⟩ := hr
  cases A with
  | none =>
    have h0 := hnil rfl
    have hl0 : l2.length = 0 := by omega
    have := List.eq_nil_of_length_eq_zero hl0
    subst this
    subst h0
    obtain ⟨B, d, hv, -, -, -⟩ := hown.form
    have h2 := h B d w (by rw [List.append_nil, ← hv]; exact hown) (World.grownBy.refl w _) (.inl (by rw [List.append_nil, hv]))
    rw [List.append_nil, ← hv] at h2
    exact wpList_append_own_none hgd s x T ho base E i sz el.und hi v l.length _ hs hown hx h2
  | some ad =>
    refine wpList_append_own_at w hgd s x T ho base E i z sz bys el.und hi hz hsize hbytes hzs el.pos v l.length _ hs hown ad l2.length c (l2.flatMap enc) hx (flat_len el.len l2) ?_ ?_ h63 hby hbase ?_
    · intro j u hu
      obtain ⟨y, hy, hyu⟩ := flat_split el.len el.pos l2 j u hu
      have h0 : 0 < l2.length := by
        rcases Nat.eq_zero_or_pos l2.length with h0 | h0
        · rw [List.eq_nil_of_length_eq_zero h0] at hu; simp at hu
        · exact h0
      obtain ⟨g, q, hA, _, hx'⟩ := hcell h0
      injection hA with hA
      subst hA
      have := hx' _ y hy _ u hyu
      rw [Nat.add_assoc, Nat.div_add_mod' j sz] at this
      unfold Addr.add
      split
      · rename_i h; subst h; exact this
      · exact this
    · intro u hu
      obtain ⟨y, _, hyu⟩ := List.mem_flatMap.1 hu
      exact el.one y u hyu
    · intro v' w' h1 h2 _ h4
      have h5 : Own enc sz E base w' v' (l ++ l2) := by unfold Own; rw [List.length_append, List.flatMap_append]; exact h1
      obtain ⟨B, d, hv, -, -, -⟩ := h5.form
      subst hv
      exact h B d w' h5 h2 h4
end

theorem ndc_len (n : Nd) : (ndc n).length = 6 := rfl
theorem stc_len (s : List UInt8) : (stc s).length = 1 := rfl
theorem inc_len (n : Int) : (inc n).length = 1 := rfl
theorem vac_len (x : Value) : [x].length = 1 := rfl
theorem node_info : (Tryz.prog.info? 43).map (fun i => (i.zero, i.size, i.bytes)) = some (some (.agg #[.int .i64 0, .int .i64 0, .string ⟨#[]⟩, .string ⟨#[]⟩, .bool false, .int .i64 0]), 6, 64) := by kernel_rfl
theorem string_info : (Tryz.prog.info? 9).map (fun i => (i.zero, i.size, i.bytes)) = some (some (.string ⟨#[]⟩), 1, 16) := by kernel_rfl
theorem val_info : (Tryz.prog.info? 35).map (fun i => (i.zero, i.size, i.bytes)) = some (some (.slice none 0 0), 1, 24) := by kernel_rfl
theorem elNode : Elem Tryz.prog 35 43 ndc 6 64 := by
  obtain ⟨i, hi, hz0, hz1, hz2⟩ := info_parts node_info
  refine ⟨Tryz.underlying35, ⟨i, _, hi, hz0, hz1, hz2, rfl⟩, by decide, ndc_len, fun n u hu => ?_⟩
  simp only [ndc, List.mem_cons, List.not_mem_nil, or_false] at hu
  rcases hu with rfl | rfl | rfl | rfl | rfl | rfl <;> rfl
theorem elText : Elem Tryz.prog 74 9 stc 1 16 := by
  obtain ⟨i, hi, hz0, hz1, hz2⟩ := info_parts string_info
  refine ⟨Tryz.underlying74, ⟨i, _, hi, hz0, hz1, hz2, rfl⟩, by decide, stc_len, fun n u hu => ?_⟩
  simp only [stc, List.mem_cons, List.not_mem_nil, or_false] at hu
  subst hu; rfl
/-- Values of slices. -/
def slc (x : Option Addr × Nat × Nat) : List Value := [.slice x.1 x.2.1 x.2.2]
theorem slc_len (x : Option Addr × Nat × Nat) : (slc x).length = 1 := rfl
theorem elVal : Elem Tryz.prog 79 35 slc 1 24 := by
  obtain ⟨i, hi, hz0, hz1, hz2⟩ := info_parts val_info
  refine ⟨Tryz.underlying79, ⟨i, _, hi, hz0, hz1, hz2, rfl⟩, by decide, slc_len, fun n u hu => ?_⟩
  simp only [slc, List.mem_cons, List.not_mem_nil, or_false] at hu
  subst hu; rfl
end Go.Proofs.YtdgcdemihalefaaGreatDoor

/-
  Slices of the call's own, further: made by make, a whole element written.
-/
namespace Go.Proofs.YtdgcdemihalefaaGreatDoor
open Go.RowKit Np

theorem made_take {α : Type} {enc : α → List Value} {sz : Nat} (hl : ∀ x, (enc x).length = sz) (hp : 0 < sz) (x : α) (zc : Array Value) (hz : zc.toList = enc x) (n c : Nat) (hn : n ≤ c) :
    (madeCells zc (c * sz)).toList.take (n * sz) = (List.replicate n x).flatMap enc := by
  have hzs : zc.size = sz := by rw [← Array.length_toList, hz, hl]
  apply List.ext_getElem?
  intro i
  by_cases hi : i < n * sz
  · have h1 : i / sz < n := (Nat.div_lt_iff_lt_mul hp).2 hi
    have h2 : i < c * sz := Nat.lt_of_lt_of_le hi (Nat.mul_le_mul_right _ hn)
    have hm := Nat.mod_lt i hp
    have := flat_at hl (List.replicate n x) (i / sz) x (i % sz) (by rw [List.getElem?_replicate, if_pos h1]) hm
    rw [Nat.div_add_mod' i sz] at this
    rw [this, List.getElem?_take, if_pos hi, ← hz, Array.getElem?_toList, Array.getElem?_toList]
    simp [madeCells, h2, hzs, hm]
  · rw [List.getElem?_take, if_neg hi, List.getElem?_eq_none (by rw [flat_len hl, List.length_replicate]; omega)]

section
variable {α : Type} {enc : α → List Value} {sz E base : Nat} {w : World} {l : List α}
theorem Own.made (hl : ∀ x, (enc x).length = sz) (hp : 0 < sz) (w : World) (x : α) (zc : Array Value) (hz : zc.toList = enc x) (n c : Nat) (hn : n ≤ c) (hm : c ≤ maxLen) (hb : base ≤ w.heap.size) :
    Own enc sz E base (w.alloc (.cells (madeCells zc (c * sz)) E)) (.slice (some ⟨w.heap.size, 0, none⟩) n c) (List.replicate n x) := by
  refine ⟨flat_len hl _, .inr ⟨w.heap.size, c, _, by simp, hb, heap_alloc_new w _, by simpa using hn, hm, size_madeCells _ _, ?_⟩⟩
  rw [List.length_replicate]
  exact made_take hl hp x zc hz n c hn
theorem Own.made1 (hl : ∀ x, (enc x).length = 1) (w : World) (x : α) (z : Value) (hz : [z] = enc x) (n : Nat) (hm : n ≤ maxLen) (hb : base ≤ w.heap.size) :
    Own enc 1 E base (w.alloc (.cells (madeCells #[z] n) E)) (.slice (some ⟨w.heap.size, 0, none⟩) n n) (List.replicate n x) := by
  have := Own.made (E := E) hl (by decide) w x #[z] hz n n (Nat.le_refl _) hm hb
  rwa [Nat.mul_one] at this

theorem set_row (xs : List Value) : ∀ (vs : List Value) (a : List Value) (o : Nat), a.length = o → ∀ (x b : List Value), x.length = vs.length → xs = a ++ x ++ b →
    ∀ {w : World} {g cap n : Nat}, w.ownsRow base E sz (.slice (some ⟨g, 0, none⟩) n cap) n xs → (w.setCells g o vs).ownsRow base E sz (.slice (some ⟨g, 0, none⟩) n cap) n (a ++ vs ++ b)
  | [], a, o, _, x, b, hx, hxs, w, g, cap, n, h => by
    have := List.eq_nil_of_length_eq_zero hx
    subst this
    rw [← hxs]; exact h
  | v :: vs, a, o, ho, [], b, hx, _, w, g, cap, n, h => by simp at hx
  | v :: vs, a, o, ho, c :: x, b, hx, hxs, w, g, cap, n, h => by
    have h1 := (World.ownsRow.stored h o v).1
    have e1 : xs.set o v = (a ++ [v]) ++ x ++ b := by
      rw [hxs, ← ho, List.append_assoc, List.set_append_right _ _ (Nat.le_refl _)]; simp
    have := set_row (xs.set o v) vs (a ++ [v]) (o + 1) (by simp [ho]) x b (by simpa using hx) e1 h1
    rw [World.setCells]
    simpa using this
theorem flat_split_at {k : Nat} {x : α} (hk : l[k]? = some x) : l = l.take k ++ x :: l.drop (k + 1) := by
  obtain ⟨h1, h2⟩ := List.getElem?_eq_some_iff.1 hk
  rw [← h2, List.getElem_cons_drop h1, List.take_append_drop]
/-- A whole element is written. -/
theorem Own.puts (hl : ∀ x, (enc x).length = sz) {g cap k : Nat} {x y : α} (h : Own enc sz E base w (.slice (some ⟨g, 0, none⟩) l.length cap) l) (hk : l[k]? = some x) :
    Own enc sz E base (w.setCells g (k * sz) (enc y)) (.slice (some ⟨g, 0, none⟩) l.length cap) (l.set k y) := by
  have hkl : k < l.length := (List.getElem?_eq_some_iff.1 hk).1
  have e1 : l.flatMap enc = (l.take k).flatMap enc ++ enc x ++ (l.drop (k + 1)).flatMap enc := by
    conv => lhs; rw [flat_split_at hk]
    simp
  have e2 : (l.set k y).flatMap enc = (l.take k).flatMap enc ++ enc y ++ (l.drop (k + 1)).flatMap enc := by
    rw [List.set_eq_take_append_cons_drop, if_pos hkl]; simp
  unfold Own
  rw [e2, List.length_set]
  exact set_row _ (enc y) _ _ (by rw [flat_len hl, List.length_take]; congr 1; omega) (enc x) _ (by rw [hl, hl]) e1 h
theorem Own.there (hl : ∀ x, (enc x).length = sz) {g cap k : Nat} {x : α} (h : Own enc sz E base w (.slice (some ⟨g, 0, none⟩) l.length cap) l) (hk : l[k]? = some x) : w.there g (k * sz) sz := by
  intro j hj
  have hj' : j < (enc x).length := by rw [hl]; exact hj
  refine ⟨?_, h.free _⟩
  rw [Own.cell hl h hk (List.getElem?_eq_getElem hj')]
  rfl
end
theorem Below.setCells {B : Nat} {a : World} {g : Nat} (hg : B ≤ g) : ∀ (vs : List Value) (o : Nat) {w : World}, Below B a w → Below B a (w.setCells g o vs)
  | [], _, _, h => h
  | v :: vs, o, _, h => Below.setCells hg vs (o + 1) (h.setCell (p := ⟨g, o, none⟩) hg v)
/-- At the operation that writes a whole node. -/
theorem wpList_store_node {ops : Array Oper} {rest : List Oper} {op : Oper} {a : Act} {w : World} {Q : Exit → Act → World → Prop} (hgd : op.guard = none) (x y : Operand) (ho : op.op = .store 43 x y)
    (g o : Nat) (n : Nd) (hx : a.eval x = .pointer (some ⟨g, o, none⟩)) (hy : a.eval y = nda n) (ht : w.there g o 6) (h : wpList Tryz.prog ops Q rest (a.put op.dst undef) (w.setCells g o (ndc n))) : wpList Tryz.prog ops Q (op :: rest) a w := by
  refine wpList_store_mid hgd 43 x y ho g o _ hx hy ht ?_ (all_oneCell_toArray (cs := ndc n) (elNode.one n)) h
  have := node_info
  cases h : Tryz.prog.info? 43 with
  | none => rw [h] at this; cases this
  | some i => rw [h] at this; simp at this; simp [this.2.1]
end Go.Proofs.YtdgcdemihalefaaGreatDoor

/-
  Plain words: which of two numbers is greater is an order. No program stands here.
-/
namespace Go.Proofs.YtdgcdemihalefaaGreatDoor
namespace Np
open Go.RowKit

theorem cmpB_lt (a b : List UInt8) : cmpB a b = -1 ↔ a < b := by
  unfold cmpB
  simp only [bytesLess_eq, decide_eq_true_eq]
  split
  · simp [*]
  · split <;> simp [*]
theorem cmpB_eq (a b : List UInt8) : cmpB a b = 0 ↔ a = b := by
  unfold cmpB
  simp only [bytesLess_eq, decide_eq_true_eq]
  split
  · rename_i h
    constructor
    · intro h; cases h
    · intro e; subst e; exact absurd h (List.lt_irrefl _)
  · split <;> simp [*]
theorem cmpB_gt (a b : List UInt8) : cmpB a b = 1 ↔ b < a := by
  have h0 := cmpB_cases a b
  have h1 := cmpB_lt a b
  have h2 := cmpB_eq a b
  constructor
  · intro h
    rcases Std.lt_trichotomy a b with h3 | h3 | h3
    · rw [h1.2 h3] at h; cases h
    · rw [h2.2 h3] at h; cases h
    · exact h3
  · intro h
    rcases h0 with h3 | h3 | h3
    · exact absurd (h1.1 h3) (List.lt_asymm h)
    · exact absurd h (by rw [h2.1 h3]; exact List.lt_irrefl _)
    · exact h3
theorem cmpI_lt (x y : Int) : Lib.compareInt x y = -1 ↔ x < y := by unfold Lib.compareInt; (repeat' split) <;> omega
theorem cmpI_eq (x y : Int) : Lib.compareInt x y = 0 ↔ x = y := by unfold Lib.compareInt; (repeat' split) <;> omega
theorem cmpI_gt (x y : Int) : Lib.compareInt x y = 1 ↔ y < x := by unfold Lib.compareInt; (repeat' split) <;> omega

theorem cmpSz_neg (a : List UInt8) (x : Int) (b : List UInt8) (y : Int) : cmpSz b y a x = -cmpSz a x b y := by
  have h1 := cmpI_lt (a.length + x) (b.length + y)
  have h2 := cmpI_eq (a.length + x) (b.length + y)
  have h2' := cmpI_gt (a.length + x) (b.length + y)
  have h1' := cmpI_lt (b.length + y) (a.length + x)
  have h3' := cmpI_eq (b.length + y) (a.length + x)
  have h4' := cmpI_gt (b.length + y) (a.length + x)
  have h3 := compareInt_cases (a.length + x) (b.length + y)
  have c1 := cmpB_lt a b
  have c2 := cmpB_eq a b
  have c3 := cmpB_gt a b
  have d1 := cmpB_lt b a
  have d2 := cmpB_eq b a
  have d3 := cmpB_gt b a
  have c4 := cmpB_cases a b
  unfold cmpSz
  by_cases h : a.length + x = b.length + y
  · rw [if_pos (h3'.2 h.symm), if_pos (h2.2 h)]
    rcases c4 with e | e | e
    · rw [e, d3.2 (c1.1 e)]; rfl
    · rw [e, d2.2 (c2.1 e).symm]; rfl
    · rw [e, d1.2 (c3.1 e)]
  · rw [if_neg (fun e => h (h3'.1 e).symm), if_neg (fun e => h (h2.1 e))]
    rcases h3 with e | e | e
    · rw [e, h4'.2 (h1.1 e)]; rfl
    · exact absurd (h2.1 e) h
    · rw [e, h1'.2 (h2'.1 e)]
theorem cmpN_neg (a : List UInt8) (g : Bool) (x : Int) (b : List UInt8) (g2 : Bool) (y : Int) : cmpN b g2 y a g x = -cmpN a g x b g2 y := by
  unfold cmpN
  have h1 := cmpI_lt (sgn a g) (sgn b g2)
  have h2 := cmpI_eq (sgn a g) (sgn b g2)
  have h2' := cmpI_gt (sgn a g) (sgn b g2)
  have h1' := cmpI_lt (sgn b g2) (sgn a g)
  have h3' := cmpI_eq (sgn b g2) (sgn a g)
  have h4' := cmpI_gt (sgn b g2) (sgn a g)
  have h3 := compareInt_cases (sgn a g) (sgn b g2)
  by_cases h : sgn a g = sgn b g2
  · rw [if_pos (h3'.2 h.symm), if_pos (h2.2 h), cmpSz_neg, h, Int.mul_neg]
  · rw [if_neg (fun e => h (h3'.1 e).symm), if_neg (fun e => h (h2.1 e))]
    rcases h3 with e | e | e
    · rw [e, h4'.2 (h1.1 e)]; rfl
    · exact absurd (h2.1 e) h
    · rw [e, h1'.2 (h2'.1 e)]
end Np
end Go.Proofs.YtdgcdemihalefaaGreatDoor

/-
  Plain words: rows that are laid of named parts; an object of any names and parts, by their names. No program stands here.
-/
namespace Go.Proofs.YtdgcdemihalefaaGreatDoor
open Go.RowKit Np Rw Vp

/-- A node without a name, of a kind and so many parts. -/
def hdN (kind : Int) (m : Nat) : Nd := ⟨kind, m, [], [], false, 0⟩
abbrev zeroN : Nd := ⟨0, 0, [], [], false, 0⟩
/-- A row whose first node has that name. -/
def setNm (nm : List UInt8) : List Nd → List Nd
  | [] => []
  | n :: l => { n with name := nm } :: l
theorem setNm_len (nm : List UInt8) (l : List Nd) : (setNm nm l).length = l.length := by cases l <;> rfl
abbrev Pr := List UInt8 × List Nd
/-- A list or an object of named parts. -/
def laid (ps : List Pr) : List Nd := (ps.map fun p => setNm p.1 p.2).flatten
theorem laid_snoc (ps : List Pr) (p : Pr) : laid (ps ++ [p]) = laid ps ++ setNm p.1 p.2 := by simp [laid]
theorem laid_cons (p : Pr) (ps : List Pr) : laid (p :: ps) = setNm p.1 p.2 ++ laid ps := by simp [laid]
theorem laid_len (ps : List Pr) : (laid ps).length = (ps.map fun p => p.2.length).sum := by
  induction ps with
  | nil => rfl
  | cons p ps ih => 
    rw [laid_cons, List.length_append, ih, setNm_len]; simp
/-- Named parts, by their names. -/
def srt (ps : List Pr) : List Pr := ps.mergeSort (fun a b => decide (a.1 ≤ b.1))
def rises (ps : List Pr) : Prop := ps.Pairwise (fun a b => a.1 < b.1)
theorem le_of_not {a b : List UInt8} (h : ¬ b < a) : a ≤ b := List.not_lt.1 h
theorem lt_of_ne {a b : List UInt8} (h : ¬ b < a) (hne : a ≠ b) : a < b := by
  rcases Classical.em (a < b) with h1 | h1
  · exact h1
  · exact absurd (List.le_antisymm (le_of_not h) (le_of_not h1)) hne
theorem srt_of {ps qs : List Pr} (hp : ps.Perm qs) (hr : rises ps) : srt qs = ps := by
  have h1 : (srt qs).Perm ps := (List.mergeSort_perm qs _).trans hp.symm
  have h2 : (srt qs).Pairwise (fun a b => decide (a.1 ≤ b.1) = true) := List.pairwise_mergeSort
    (fun a b c h1 h2 => by simp only [decide_eq_true_eq] at *; exact List.le_trans h1 h2)
    (fun a b => by
      rcases List.le_total a.1 b.1 with h | h
      · simp [h]
      · simp [h]) qs
  have h3 : ps.Pairwise (fun a b => decide (a.1 ≤ b.1) = true) := hr.imp fun h => by simpa using List.le_of_lt h
  refine List.Perm.eq_of_pairwise (le := fun a b => decide (a.1 ≤ b.1) = true) ?_ h2 h3 h1
  intro a b ha hb h4 h5
  simp only [decide_eq_true_eq] at h4 h5
  have ha' : a ∈ ps := h1.mem_iff.1 ha
  have he : a.1 = b.1 := List.le_antisymm h4 h5
  have key : ∀ (l : List Pr), rises l → ∀ a ∈ l, ∀ b ∈ l, a.1 = b.1 → a = b := by
    intro l
    induction l with
    | nil => intro _ a ha; simp at ha
    | cons x l ih =>
      intro hr a ha b hb he
      obtain ⟨hx, hl⟩ := List.pairwise_cons.1 hr
      rcases List.mem_cons.1 ha with h1 | h1 <;> rcases List.mem_cons.1 hb with h2 | h2
      · rw [h1, h2]
      · have := hx b h2; rw [← he, h1] at this; exact absurd this (List.lt_irrefl _)
      · have := hx a h1; rw [he, h2] at this; exact absurd this (List.lt_irrefl _)
      · exact ih hl a h1 b h2 he
  exact key ps hr a ha' b hb he
/-- No two of the same, and all are text. -/
def okNames (names : List (List UInt8)) : Bool := decide names.Nodup && names.all vld
def objB (names : List (List UInt8)) (L : List (List Nd)) : Bool := decide (names.length = L.length) && okNames names
def objV (names : List (List UInt8)) (L : List (List Nd)) : List Nd := if objB names L = true then hdN 6 L.length :: laid (srt (names.zip L)) else []
def objE (names : List (List UInt8)) (L : List (List Nd)) : Int := if objB names L = true then 0 else 4

theorem strict : ∀ (q : List (List UInt8)), q.Pairwise (fun a b => ¬ b < a) → (∀ i a b, q[i]? = some a → q[i + 1]? = some b → a ≠ b) → q.Pairwise (· < ·)
  | [], _, _ => List.Pairwise.nil
  | [a], _, _ => by simp
  | a :: c :: q, h, hn => by
    obtain ⟨h1, h2⟩ := List.pairwise_cons.1 h
    have ih := strict (c :: q) h2 (fun i x y hx hy => hn (i + 1) x y (by simpa using hx) (by simpa using hy))
    obtain ⟨h3, h4⟩ := List.pairwise_cons.1 ih
    have hac : a < c := lt_of_ne (h1 c (by simp)) (hn 0 a c rfl rfl)
    refine List.pairwise_cons.2 ⟨fun b hb => ?_, ih⟩
    rcases List.mem_cons.1 hb with rfl | hb
    · exact hac
    · exact List.lt_trans hac (h3 b hb)

abbrev atN (names : List (List UInt8)) (j : Nat) : List UInt8 := names.getD j []
abbrev atL (L : List (List Nd)) (j : Nat) : List Nd := L.getD j []
theorem range_names (names : List (List UInt8)) : (List.range names.length).map (atN names) = names := by
  apply List.ext_getElem
  · simp
  · intro i h1 h2
    simp [atN, List.getD_eq_getElem?_getD, h2]
theorem range_zip (names : List (List UInt8)) (L : List (List Nd)) (h : names.length = L.length) : (List.range names.length).map (fun j => (atN names j, atL L j)) = names.zip L := by
  apply List.ext_getElem
  · simp [h]
  · intro i h1 h2
    simp at h1
    simp [atN, atL, List.getD_eq_getElem?_getD, h1, show i < L.length by omega]
/-- The places, so that the names rise. -/
structure Places (names : List (List UInt8)) (p : List Nat) : Prop where
  perm : p.Perm (List.range names.length)
  rise : p.Pairwise (fun i j => ¬ atN names j < atN names i)
theorem Places.length {names : List (List UInt8)} {p : List Nat} (h : Places names p) : p.length = names.length := by rw [h.perm.length_eq]; simp
theorem Places.lt {names : List (List UInt8)} {p : List Nat} (h : Places names p) {j : Nat} (hj : j ∈ p) : j < names.length := by simpa using h.perm.mem_iff.1 hj
theorem Places.names {names : List (List UInt8)} {p : List Nat} (h : Places names p) : (p.map (atN names)).Perm names := by
  have := h.perm.map (atN names)
  rwa [range_names] at this
theorem Places.same {names : List (List UInt8)} {p : List Nat} (h : Places names p) {k i j : Nat} (hi : p[k]? = some i) (hj : p[k + 1]? = some j) (he : atN names i = atN names j) : okNames names = false := by
  have : ¬ names.Nodup := fun hn => by
    have h2 := h.names.nodup_iff.2 hn
    have h3 : (p.map (atN names))[k]? = some (atN names i) := by rw [List.getElem?_map, hi]; rfl
    have h4 : (p.map (atN names))[k + 1]? = some (atN names j) := by rw [List.getElem?_map, hj]; rfl
    obtain ⟨l3, e3⟩ := List.getElem?_eq_some_iff.1 h3
    obtain ⟨l4, e4⟩ := List.getElem?_eq_some_iff.1 h4
    have h5 := List.pairwise_iff_getElem.1 h2 k (k + 1) l3 l4 (by omega)
    rw [e3, e4] at h5
    exact h5 he
  unfold okNames
  simp [this]
theorem Places.wrong {names : List (List UInt8)} {p : List Nat} (h : Places names p) {i : Nat} (hi : i ∈ p) (hv : vld (atN names i) = false) : okNames names = false := by
  unfold okNames
  have hlt := h.lt hi
  have : names.all vld = false := by
    rw [List.all_eq_false]
    refine ⟨atN names i, ?_, by rw [hv]; decide⟩
    rw [atN, List.getD_eq_getElem?_getD, List.getElem?_eq_getElem hlt]
    exact List.getElem_mem hlt
  simp [this]
theorem Places.pairs {names : List (List UInt8)} {L : List (List Nd)} {p : List Nat} (h : Places names p) (hl : names.length = L.length) (hs : (p.map (atN names)).Pairwise (· < ·)) :
    srt (names.zip L) = p.map (fun j => (atN names j, atL L j)) := by
  refine srt_of ?_ (List.pairwise_map.2 (List.pairwise_map.1 hs))
  have := h.perm.map (fun j => (atN names j, atL L j))
  rwa [range_zip names L hl] at this
theorem Places.sum {names : List (List UInt8)} {L : List (List Nd)} {p : List Nat} (h : Places names p) (hl : names.length = L.length) : (p.map fun x => (atL L x).length).sum = (L.map List.length).sum := by
  rw [(h.perm.map (fun x => (atL L x).length)).sum_nat, hl]
  congr 1
  apply List.ext_getElem
  · simp
  · intro i h1 h2
    simp at h1
    simp [atL, List.getD_eq_getElem?_getD, h1]
end Go.Proofs.YtdgcdemihalefaaGreatDoor

/-
  What the library's Compare of two strings answers, and what val.byName compares by.
-/
namespace Go.Proofs.YtdgcdemihalefaaGreatDoor
open Go.RowKit Np

set_option maxHeartbeats 400000 in
theorem isNaNS_any (s : ByteArray) (w : World) :
    Calls Tryz.prog 236 #[.string s] w fun e w' => e = .returned (.bool false) ∧ w = w' := by
  go_enter Tryz.func236, Tryz.ntmps236
  go_wp2
  go_ret
  exact ⟨ret_bool (by simp), rfl⟩

set_option maxHeartbeats 400000 in
theorem cmpS_any (s t : ByteArray) (w : World) :
    Calls Tryz.prog 207 #[.string s, .string t] w fun e w' => e = .returned (.int .i64 (cmpB s.data.toList t.data.toList)) ∧ w = w' := by
  go_enter Tryz.func207, Tryz.ntmps207
  go_wp2_with (go_at_call 236; refine (isNaNS_any _ _).mono ?_; rintro e w' ⟨rfl, rfl⟩)
  · have h : Op.bytesLess s.toList t.toList = true := by assumption
    rw [ByteArray.toList_eq, ByteArray.toList_eq] at h
    go_ret
    exact ⟨ret_i64 (by rw [cmpB, if_pos h]), rfl⟩
  · have h : Op.bytesLess s.toList t.toList = false := by assumption
    have h2 : (!s.toList == t.toList) = true := by assumption
    rw [ByteArray.toList_eq, ByteArray.toList_eq] at h h2
    go_ret
    exact ⟨ret_i64 (by rw [cmpB, if_neg (by rw [h]; decide), if_neg (by simpa using h2)]), rfl⟩
  · have h : Op.bytesLess s.toList t.toList = false := by assumption
    have h2 : (!s.toList == t.toList) = false := by assumption
    rw [ByteArray.toList_eq, ByteArray.toList_eq] at h h2
    go_ret
    exact ⟨ret_i64 (by rw [cmpB, if_neg (by rw [h]; decide), if_pos (by simpa using h2)]), rfl⟩

end Go.Proofs.YtdgcdemihalefaaGreatDoor

/-
  A statement whose order is open, in the body of a loop over an iterator: what holds of it anywhere holds of it there (it defers nothing).
-/
namespace Go.Proofs.YtdgcdemihalefaaGreatDoor
open Go.RowKit

/-- An operation that reads is taken first: its value, whatever else has come up. -/
theorem take_read {P : Program} {md : Region.Mode} {l : List Oper} {Q : Exit → Act → World → Prop} {S : World → Prop} {T : List Value} {ds : List Deferred} (i d : Nat) (v : Value) {oi : Oper} {fuel : Nat} {listed : Array Bool} {w : World} (hi : l[i]? = some oi) (hd : oi.dst = some d)
    (hs : Region.noSelect l.toArray = true) (hf : Region.free md l.toArray listed i = true) (hr : (Region.ready md l.toArray listed).contains i = true) (hQ : ∀ c a w, Q (.panic c) (a.put oi.dst v) w → Q (.panic c) a w)
    (hw : Region.wanted oi (yielded l.toArray T.toArray) = true) (hrun : ∀ w, S w → (execOp (Act.eval { tmps := T.toArray, defers := ds }) oi).run P w = .ok (.value v) w) (hS : S w)
    (h : wpAnyH P md l.toArray Q S fuel (listed.setIfInBounds i true) { tmps := (T.set d v).toArray, defers := ds } w) : wpAnyH P md l.toArray Q S (fuel + 1) listed { tmps := T.toArray, defers := ds } w := by
  refine wpAnyH_take (i := i) (v := v) (by simpa using hi) hs hf hr hQ (.inl ⟨hw, hrun⟩) hS ?_
  rw [hd, Act.put]
  simpa using h
end Go.Proofs.YtdgcdemihalefaaGreatDoor

/-
  A drawn region walked by hand, in short: an operation that reads is taken first; one that is not wanted is passed by. Of no function.
-/
namespace Go.Proofs.YtdgcdemihalefaaGreatDoor
open Go.RowKit

section
variable {P : Program} {md : Region.Mode} {l : List Oper} {Q : Exit → Act → World → Prop} {S : World → Prop} {T : List Value} {ds : List Deferred} {d : Nat} {oi : Oper} {fuel : Nat} {listed : Array Bool} {w : World}
theorem rtk (i : Nat) (v : Value) (hrun : ∀ w', S w' → (execOp (Act.eval { tmps := T.toArray, defers := ds }) oi).run P w' = .ok (.value v) w')
    (h : wpAnyH P md l.toArray Q S fuel (listed.setIfInBounds i true) { tmps := (T.set d v).toArray, defers := ds } w)
    (hi : l[i]? = some oi := by rfl) (hd : oi.dst = some d := by rfl) (hs : Region.noSelect l.toArray = true := by kernel_rfl) (hf : Region.free md l.toArray listed i = true := by kernel_rfl)
    (hr : (Region.ready md l.toArray listed).contains i = true := by kernel_rfl) (hQ : ∀ c a w, Q (.panic c) (a.put oi.dst v) w → Q (.panic c) a w := by exact fun _ _ _ h => h)
    (hw : Region.wanted oi (yielded l.toArray T.toArray) = true := by kernel_rfl) (hS : S w := by assumption) :
    wpAnyH P md l.toArray Q S (fuel + 1) listed { tmps := T.toArray, defers := ds } w := take_read i d v hi hd hs hf hr hQ hw hrun hS h
end
end Go.Proofs.YtdgcdemihalefaaGreatDoor

/-
  Words for memory: what lies as it lay, where only what is no cells turns. Of no function.
-/
namespace Go.Proofs.YtdgcdemihalefaaGreatDoor
open Go.RowKit Go.Shelf Np
attribute [local go_sem] Oper.semAt_some

section
variable {α : Type} {enc : α → List Value} {sz : Nat} {W W' : World} {v : Value} {l : List α}
/-- A row reads on, where only what is no cells turns. -/
theorem Row.turned {row : Option Nat} (h : Row enc sz W v l) (hg : W.grownBy W' row) (hr : ∀ r, row = some r → ∃ o : Obj, W.heap[r]? = some o ∧ o.isCells = false) : Row enc sz W' v l := by
  obtain ⟨A, c, hv, hc, hm, hz, H⟩ := h
  refine ⟨A, c, hv, hc, hm, hz, fun h0 => ?_⟩
  obtain ⟨g, o, hA, hlt, hx⟩ := H h0
  exact ⟨g, o, hA, Nat.lt_of_lt_of_le hlt hg.size, fun k x hk j u hu => cell_kept (hx k x hk j u hu) hg hr⟩
end
theorem keeps_below {W W' : World} (h : Below W.heap.size W W') : KeepsOthers W W' :=
  ⟨h.size, fun k o hk _ => by
    rw [h.block k (Array.getElem?_eq_some_iff.1 hk).1]; exact hk⟩

theorem Own.turned {α : Type} {enc : α → List Value} {sz E base : Nat} {W W' : World} {v : Value} {l : List α} {row : Option Nat} (h : Own enc sz E base W v l) (hg : W.grownBy W' row) (hr : ∀ r, row = some r → ∃ o : Obj, W.heap[r]? = some o ∧ o.isCells = false) : Own enc sz E base W' v l := by
  refine World.ownsRow.kept h hg ?_
  rcases h.2 with ⟨rfl, _⟩ | ⟨g, cap, cur, rfl, _, hh, _⟩
  · exact .inl rfl
  · refine .inr (fun e => ?_)
    obtain ⟨o, ho, hc⟩ := hr g e.symm
    rw [hh] at ho
    injection ho with ho
    subst ho
    cases hc
theorem boxed_turned {W W' : World} {B t : Nat} {v : Value} {row : Option Nat} (h : Boxed W B t v) (hg : W.grownBy W' row) (hr : ∀ r, row = some r → ∃ o : Obj, W.heap[r]? = some o ∧ o.isCells = false) : Boxed W' B t v := by
  refine h.kept hg (fun e => ?_)
  obtain ⟨o, ho, hc⟩ := hr B e.symm
  rw [show W.heap[B]? = _ from h] at ho
  injection ho with ho
  subst ho
  cases hc
/-- Slices of the call's own, of different elements, share no block. -/
theorem own_apart {W : World} {b1 b2 e1 e2 s1 s2 n1 n2 : Nat} {v1 v2 : Value} {x1 x2 : List Value} (h1 : W.ownsRow b1 e1 s1 v1 n1 x1) (h2 : W.ownsRow b2 e2 s2 v2 n2 x2) (he : e1 ≠ e2) : v1.ownBlock = none ∨ v1.ownBlock ≠ v2.ownBlock := by
  rcases h1.2 with ⟨rfl, _⟩ | ⟨g1, c1, u1, rfl, _, k1, _⟩
  · exact .inl rfl
  · refine .inr (fun e => ?_)
    rcases h2.2 with ⟨rfl, _⟩ | ⟨g2, c2, u2, rfl, _, k2, _⟩
    · cases e
    · cases e
      rw [k1] at k2
      injection k2 with k2
      injection k2 with _ k2
      exact he k2
end Go.Proofs.YtdgcdemihalefaaGreatDoor

/-
  Words for rows of whole numbers: made by make, numbered one by one. Of no function.
-/
namespace Go.Proofs.YtdgcdemihalefaaGreatDoor
open Go.RowKit Np

end Go.Proofs.YtdgcdemihalefaaGreatDoor

/-
  What val.byName answers: the places of some names, so that the names rise.
-/
namespace Go.Proofs.YtdgcdemihalefaaGreatDoor




end Go.Proofs.YtdgcdemihalefaaGreatDoor

/-
  strings.Cut at a closing bracket.
-/
namespace Go.Proofs.YtdgcdemihalefaaGreatDoor
open Go.RowKit Np

set_option maxRecDepth 100000 in
set_option maxHeartbeats 2000000 in
theorem index93_any (s : ByteArray) (w : World) : Calls Tryz.prog 295 #[.string s, .string ⟨#[93]⟩] w fun e w' => e = .returned (.int .i64 (Lib.index s.data.toList [93])) ∧ w' = w := by
  have HIB : Hid (∀ W, Calls Tryz.prog 311 #[.string s, .int .u8 93] W fun e w' => e = .returned (.int .i64 (Lib.index s.data.toList [93])) ∧ w' = W) := Lib.hid (fun W => by
    have h := Tryz.stringslite_IndexByte s 93 W
    rwa [← Lib.index_one] at h)
  have HZ : Hid (s.data.toList = [93] → (0 : Int) = Lib.index s.data.toList [93]) := Lib.hid (fun h => by rw [h]; rfl)
  generalize Lib.index s.data.toList [93] = i at *
  go_enter Tryz.func295, Tryz.ntmps295
  go_wp2_with fail
  · have h : ([93] == s.toList) = true := by assumption
    rw [ByteArray.toList_eq, beq_iff_eq] at h
    go_ret
    exact ⟨ret_i64 (HZ.out h.symm), rfl⟩
  · refine (HIB.out _).mono ?_
    rintro e w1 ⟨rfl, rfl⟩
    go_wp2_with fail
    go_ret
    exact ⟨rfl, rfl⟩
set_option maxRecDepth 100000 in
set_option maxHeartbeats 2000000 in
theorem cut93l_any (s : ByteArray) (w : World) (hs : s.size ≤ maxLen) : Calls Tryz.prog 276 #[.string s, .string ⟨#[93]⟩] w fun e w' => e = .returned (.tuple #[.string ⟨(Lib.cut s.data.toList [93]).1.toArray⟩, .string ⟨(Lib.cut s.data.toList [93]).2.1.toArray⟩, .bool (Lib.cut s.data.toList [93]).2.2]) ∧ ∃ n, w' = w.drewN n := by
  have HIX := Lib.hid (index93_any s)
  unfold maxLen at hs
  rcases Lib.indexB_cases s ⟨#[93]⟩ with hix | ⟨i, hix, hroom⟩
  · have hix' : Lib.index s.data.toList [93] = -1 := hix
    obtain ⟨e1, e2, e3⟩ := Lib.cutB_miss s ⟨#[93]⟩ hix
    simp only at e1 e2 e3
    rw [e1, e2, e3]
    rw [hix'] at HIX
    clear hix hix' e1 e2 e3
    go_enter Tryz.func276, Tryz.ntmps276
    go_wp2_with fail
    refine (HIX.out _).mono ?_
    rintro e w1 ⟨rfl, rfl⟩
    go_wp2_with fail
    go_ret3
    exact ⟨rfl, 0, rfl⟩
  · have hix' : Lib.index s.data.toList [93] = (i : Int) := hix
    obtain ⟨e1, e2, e3⟩ := Lib.cutB_hit s ⟨#[93]⟩ i hix
    simp only at e1 e2 e3
    rw [e1, e2, e3]
    rw [hix'] at HIX
    have hr : i + 1 ≤ s.size := hroom
    clear hix hix' e1 e2 e3 hroom
    have c1 : (0 : Int) ≤ ↑i := by omega
    have c2 : (↑i : Int) ≤ ↑s.size := by omega
    have c3 : (0 : Int) ≤ ↑i + 1 := by omega
    have c4 : (↑i + 1 : Int) ≤ ↑s.size := by omega
    have c5 : IntKind.i64.wrap ((i : Int) + 1) = (i : Int) + 1 := by rw [IntKind.wrap_i64]; omega
    have mixed : Tryz.prog.follows Departure.mixedOrders = true := by kernel_rfl
    go_enter Tryz.func276, Tryz.ntmps276
    go_wp2_with fail
    refine (HIX.out _).mono ?_
    rintro e w1 ⟨rfl, rfl⟩
    go_wp2_with fail
    go_region_o
    go_wp2
    go_ret3
    exact ⟨rfl, 1, rfl⟩
set_option maxRecDepth 100000 in
set_option maxHeartbeats 2000000 in
theorem cut93_any (s : ByteArray) (w : World) (hs : s.size ≤ maxLen) : Calls Tryz.prog 241 #[.string s, .string ⟨#[93]⟩] w fun e w' => e = .returned (.tuple #[.string ⟨(Lib.cut s.data.toList [93]).1.toArray⟩, .string ⟨(Lib.cut s.data.toList [93]).2.1.toArray⟩, .bool (Lib.cut s.data.toList [93]).2.2]) ∧ ∃ n, w' = w.drewN n := by
  have HIX := Lib.hid (fun W => cut93l_any s W hs)
  generalize Lib.cut s.data.toList [93] = C at *
  obtain ⟨a, b, c⟩ := C
  go_enter Tryz.func241, Tryz.ntmps241
  go_wp2_with fail
  refine (HIX.out _).mono ?_
  rintro e w1 ⟨rfl, n, rfl⟩
  go_wp2_with fail
  go_ret3
  exact ⟨rfl, n, rfl⟩
end Go.Proofs.YtdgcdemihalefaaGreatDoor
