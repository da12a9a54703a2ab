/-
  Joined: Own, Own2, NumOrdP, ObjP, ValW2, ValW5, ValW10.
-/
import Derived.Test.YtbhgmfddjnkglaaGreatDoorMem
import Derived.WalkSmall
import Derived.Laws.AppendOwnNone
import Derived.Deep.DeepCutAuto
import Derived.ChangeAlike
import Derived.Deep.MidRow
import Derived.Deep.OwnRows
import Derived.Test.YtbhgmfddjnkglaaGreatDoorNumPlain5
import Derived.Sort.Walk0
import Derived.Test.YtbhgmfddjnkglaaGreatDoorValP2
import Derived.Test.YtbhgmfddjnkglaaGreatDoorAtomTellsJ3
import Derived.Test.YtbhgmfddjnkglaaGreatDoorAtomTellsJ4
import Derived.Test.YtbhgmfddjnkglaaGreatDoorRefW6

/-
  Slices of the call's own: they read as a list, they are written and appended to, nothing else turns.
-/
namespace Go.Proofs.YtbhgmfddjnkglaaGreatDoor
open Go.RowKit Np

theorem flat_len {α : Type} {enc : α → List Value} {sz : Nat} (h : ∀ x, (enc x).length = sz) (l : List α) : (l.flatMap enc).length = l.length * sz := by
  induction l with
  | nil => simp
  | cons x l ih => simp [h x, ih, Nat.add_mul, Nat.add_comm]
theorem flat_at {α : Type} {enc : α → List Value} {sz : Nat} (h : ∀ x, (enc x).length = sz) : ∀ (l : List α) (k : Nat) (x : α) (j : Nat), l[k]? = some x → j < sz → (l.flatMap enc)[k * sz + j]? = (enc x)[j]?
  | [], _, _, _, hk, _ => by simp at hk
  | a :: l, 0, x, j, hk, hj => by
    simp at hk; subst hk
    rw [List.flatMap_cons, Nat.zero_mul, Nat.zero_add, List.getElem?_append_left (by rw [h]; exact hj)]
  | a :: l, k + 1, x, j, hk, hj => by
    rw [List.flatMap_cons, List.getElem?_append_right (by rw [h, Nat.add_mul]; omega), h, show (k + 1) * sz + j - sz = k * sz + j by rw [Nat.add_mul]; omega]
    exact flat_at h l k x j (by simpa using hk) hj
/-- Which element, and which cell of it. -/
theorem flat_split {α : Type} {enc : α → List Value} {sz : Nat} (h : ∀ x, (enc x).length = sz) (hp : 0 < sz) (l : List α) (i : Nat) (u : Value) (hi : (l.flatMap enc)[i]? = some u) : ∃ x, l[i / sz]? = some x ∧ (enc x)[i % sz]? = some u := by
  have hlt : i < l.length * sz := by
    have := (List.getElem?_eq_some_iff.1 hi).1
    rwa [flat_len h] at this
  have hk : i / sz < l.length := (Nat.div_lt_iff_lt_mul hp).2 hlt
  refine ⟨l[i / sz], List.getElem?_eq_getElem hk, ?_⟩
  rw [← flat_at h l (i / sz) l[i / sz] (i % sz) (List.getElem?_eq_getElem hk) (Nat.mod_lt _ hp), Nat.div_add_mod' i sz]
  exact hi
theorem flat_put {α : Type} {enc : α → List Value} {sz : Nat} (h : ∀ x, (enc x).length = sz) : ∀ (l : List α) (k : Nat) (x y : α) (j : Nat) (u : Value), l[k]? = some x → j < sz → (enc x).set j u = enc y →
    (l.flatMap enc).set (k * sz + j) u = (l.set k y).flatMap enc
  | [], _, _, _, _, _, hk, _, _ => by simp at hk
  | a :: l, 0, x, y, j, u, hk, hj, hy => by
    simp at hk; subst hk
    rw [List.flatMap_cons, Nat.zero_mul, Nat.zero_add, List.set_append_left _ _ (by rw [h]; exact hj), hy]; rfl
  | a :: l, k + 1, x, y, j, u, hk, hj, hy => by
    rw [List.flatMap_cons, List.set_append_right _ _ (by rw [h, Nat.add_mul]; omega), h, show (k + 1) * sz + j - sz = k * sz + j by rw [Nat.add_mul]; omega, flat_put h l k x y j u (by simpa using hk) hj hy]; rfl

/-- A slice of the call's own: it reads as this list. -/
def Own {α : Type} (enc : α → List Value) (sz : Nat) (E : TypeId) (base : Nat) (w : World) (v : Value) (l : List α) : Prop := w.ownsRow base E sz v l.length (l.flatMap enc)

/-- What elements a type of slices has. -/
structure Elem {α : Type} (P : Program) (T E : TypeId) (enc : α → List Value) (sz bys : Nat) : Prop where
  und : P.underlying T = some (.slice E)
  inf : ∃ i z, P.info? E = some i ∧ i.zero = some z ∧ i.size = sz ∧ i.bytes = bys ∧ z.cells.size = sz
  pos : 0 < sz
  len : ∀ x, (enc x).length = sz
  one : ∀ x, ∀ u ∈ enc x, u.oneCell' = true

section
variable {α : Type} {enc : α → List Value} {sz E base : Nat} {w w' : World} {v : Value} {l : List α}
theorem Own.nil (w : World) : Own enc sz E base w (.slice none 0 0) ([] : List α) := World.ownsRow_nil w base E sz
theorem Own.opened (h : Own enc sz E base w v l) (h0 : 0 < l.length) : ∃ g cap, v = .slice (some ⟨g, 0, none⟩) l.length cap ∧ base ≤ g ∧ g < w.heap.size := World.ownsRow.form h h0
theorem Own.form (h : Own enc sz E base w v l) : ∃ (A : Option Addr) (c : Nat), v = .slice A l.length c ∧ l.length ≤ c ∧ c ≤ maxLen ∧ (A = none → c = 0) := by
  rcases h.2 with ⟨rfl, h0⟩ | ⟨g, cap, cur, rfl, _, _, h1, h2, _⟩
  · exact ⟨none, 0, by rw [h0], by omega, Nat.zero_le _, fun _ => rfl⟩
  · exact ⟨_, cap, rfl, h1, h2, fun h => (by cases h)⟩
theorem Own.cap {A : Option Addr} {n c : Nat} (h : Own enc sz E base w (.slice A n c) l) : n = l.length ∧ n ≤ c ∧ c ≤ maxLen := by
  obtain ⟨B, d, hv, h1, h2, _⟩ := h.form
  injection hv with _ e2 e3
  subst e2 e3
  exact ⟨rfl, h1, h2⟩
theorem Own.row (hl : ∀ x, (enc x).length = sz) (h : Own enc sz E base w v l) : Row enc sz w v l := by
  obtain ⟨A, c, hv, h1, h2, h3⟩ := h.form
  refine ⟨A, c, hv, h1, h2, h3, fun h0 => ?_⟩
  obtain ⟨g, cap, hv', hg, hlt⟩ := h.opened h0
  rw [hv] at hv'
  injection hv' with e1 _ e3
  subst e1 e3
  refine ⟨g, 0, rfl, hlt, fun k x hk j u hu => ?_⟩
  have hj : j < sz := by rw [← hl x]; exact (List.getElem?_eq_some_iff.1 hu).1
  have hkl : k < l.length := (List.getElem?_eq_some_iff.1 hk).1
  subst hv
  have := World.ownsRow.cellAt h (k * sz + j) (by
    have : (k + 1) * sz ≤ l.length * sz := Nat.mul_le_mul_right _ hkl
    rw [Nat.add_mul] at this; omega)
  rw [flat_at hl l k x j hk hj, hu] at this
  rw [Nat.zero_add]
  exact this
/-- Nothing below turns, where only a slice of the call's own does. -/
theorem Own.kept (h : Own enc sz E base w v l) (hg : w.grownBy w' v.ownBlock) (hb : base ≤ w.heap.size) : Below base w w' :=
  (Below.refl base w).grown hg hb (fun k e => (World.ownsRow.lt h k e).1)
theorem Own.mono {base' : Nat} (h : Own enc sz E base w v l) (hb : base' ≤ base) : Own enc sz E base' w v l := by
  obtain ⟨h1, h2⟩ := h
  rcases h2 with h2 | ⟨g, cap, cur, a, b, c⟩
  · exact ⟨h1, .inl h2⟩
  · exact ⟨h1, .inr ⟨g, cap, cur, a, Nat.le_trans hb b, c⟩⟩
theorem Own.alloc (h : Own enc sz E base w v l) (o : Obj) : Own enc sz E base (w.alloc o) v l := World.ownsRow.alloc h o
theorem Own.drewN (h : Own enc sz E base w v l) (n : Nat) : Own enc sz E base (w.drewN n) v l := h
theorem Own.drew (h : Own enc sz E base w v l) : Own enc sz E base w.drew v l := h
theorem Own.below (h : Own enc sz E base w v l) (hb : Below w.heap.size w w') : Own enc sz E base w' v l := by
  refine World.ownsRow.kept h (row := none) ⟨hb.os, hb.tape, hb.output, hb.size, fun k hk _ => hb.block k hk⟩ ?_
  cases hv : v.ownBlock with
  | none => exact .inl rfl
  | some k => exact .inr (by simp)
/-- One cell of an element is written. -/
theorem Own.put (hl : ∀ x, (enc x).length = sz) {g cap k j : Nat} {x y : α} {u : Value} (h : Own enc sz E base w (.slice (some ⟨g, 0, none⟩) l.length cap) l) (hk : l[k]? = some x) (hj : j < sz) (hy : (enc x).set j u = enc y) :
    Own enc sz E base (w.setCell ⟨g, k * sz + j, none⟩ u) (.slice (some ⟨g, 0, none⟩) l.length cap) (l.set k y) := by
  have h1 := (World.ownsRow.stored h (k * sz + j) u).1
  rw [flat_put hl l k x y j u hk hj hy] at h1
  unfold Own
  rw [List.length_set]
  exact h1
theorem Own.cell (hl : ∀ x, (enc x).length = sz) {g cap k j : Nat} {x : α} {u : Value} (h : Own enc sz E base w (.slice (some ⟨g, 0, none⟩) l.length cap) l) (hk : l[k]? = some x) (hu : (enc x)[j]? = some u) : w.cell? ⟨g, k * sz + j, none⟩ = some u := by
  have hj : j < sz := by rw [← hl x]; exact (List.getElem?_eq_some_iff.1 hu).1
  have hkl : k < l.length := (List.getElem?_eq_some_iff.1 hk).1
  rw [World.ownsRow.cellAt h (k * sz + j) (by
    have : (k + 1) * sz ≤ l.length * sz := Nat.mul_le_mul_right _ hkl
    rw [Nat.add_mul] at this; omega), flat_at hl l k x j hk hj, hu]
theorem Own.free {g cap : Nat} (h : Own enc sz E base w (.slice (some ⟨g, 0, none⟩) l.length cap) l) (j : Nat) : w.frozen? ⟨g, j, none⟩ = false := World.ownsRow.frozenAt h j
theorem Own.lt {g cap : Nat} (h : Own enc sz E base w (.slice (some ⟨g, 0, none⟩) l.length cap) l) : base ≤ g ∧ g < w.heap.size := World.ownsRow.lt h g rfl
/-- The last one is taken off. -/
theorem Own.pop (hl : ∀ x, (enc x).length = sz) {g cap : Nat} {x : α} (h : Own enc sz E base w (.slice (some ⟨g, 0, none⟩) (l.length + 1) cap) (l ++ [x])) : Own enc sz E base w (.slice (some ⟨g, 0, none⟩) l.length cap) l := by
  unfold Own at h ⊢
  rw [List.length_append, List.length_singleton, List.flatMap_append] at h
  exact ownsRow_pop (flat_len hl l) h
/-- Made of a literal. -/
theorem Own.lit (hl : ∀ x, (enc x).length = sz) (w : World) (cs : Array Value) (l : List α) (hb : base ≤ w.heap.size) (hm : l.length ≤ maxLen) (hcs : cs.toList = l.flatMap enc) : Own enc sz E base (w.alloc (.cells cs E)) (.slice (some ⟨w.heap.size, 0, none⟩) l.length l.length) l := by
  unfold Own
  rw [← hcs]
  exact World.ownsRow_lit w cs l.length hb hm (by rw [← Array.length_toList, hcs, flat_len hl])
theorem Row.lit (hl : ∀ x, (enc x).length = sz) (w : World) (E : TypeId) (cs : Array Value) (l : List α) (hm : l.length ≤ maxLen) (hcs : cs.toList = l.flatMap enc) : Row enc sz (w.alloc (.cells cs E)) (.slice (some ⟨w.heap.size, 0, none⟩) l.length l.length) l :=
  (Own.lit (base := 0) hl w cs l (Nat.zero_le _) hm hcs).row hl
end

section
variable {α : Type} {P : Program} {enc : α → List Value} {T E sz bys base : Nat} {w : World}
/-- At the operation 'append(v, x...)': v is the call's own, x any slice. -/
theorem wpList_append_row (el : Elem P T E enc sz bys) {ops : Array Oper} {rest : List Oper} {o : Oper} {a : Act} {Q : Exit → Act → World → Prop} (hgd : o.guard = none) (s x : Operand)
    (ho : o.op = .call { callee := .builtin .append, args := #[s, x], argTypes := #[T, T] }) {v r : Value} {l l2 : List α} (hs : a.eval s = v) (hown : Own enc sz E base w v l) (hx : a.eval x = r) (hr : Row enc sz w r l2)
    (h63 : l.length + l2.length ≤ maxLen) (hby : (l.length + l2.length) * bys ≤ 140737488355328) (hbase : base ≤ w.heap.size)
    (h : ∀ (A : Option Addr) (c : Nat) (w' : World), Own enc sz E base w' (.slice A (l ++ l2).length c) (l ++ l2) → w.grownBy w' v.ownBlock → ((Value.slice A (l ++ l2).length c).ownBlock = v.ownBlock ∨ (Value.slice A (l ++ l2).length c).ownBlock = some w.heap.size) →
      wpList P ops Q rest (a.put o.dst (.slice A (l ++ l2).length c)) w') : wpList P ops Q (o :: rest) a w := by
  obtain ⟨i, z, hi, hz, hsize, hbytes, hzs⟩ := el.inf
  obtain ⟨A, c, rfl, hc, hcm, hnil, hcell⟩ := hr
  cases A with
  | none =>
    have h0 := hnil rfl
    have hl0 : l2.length = 0 := by omega
    have := List.eq_nil_of_length_eq_zero hl0
    subst this
    subst h0
    obtain ⟨B, d, hv, -, -, -⟩ := hown.form
    have h2 := h B d w (by rw [List.append_nil, ← hv]; exact hown) (World.grownBy.refl w _) (.inl (by rw [List.append_nil, hv]))
    rw [List.append_nil, ← hv] at h2
    exact wpList_append_own_none hgd s x T ho base E i sz el.und hi v l.length _ hs hown hx h2
  | some ad =>
    refine wpList_append_own_at w hgd s x T ho base E i z sz bys el.und hi hz hsize hbytes hzs el.pos v l.length _ hs hown ad l2.length c (l2.flatMap enc) hx (flat_len el.len l2) ?_ ?_ h63 hby hbase ?_
    · intro j u hu
      obtain ⟨y, hy, hyu⟩ := flat_split el.len el.pos l2 j u hu
      have h0 : 0 < l2.length := by
        rcases Nat.eq_zero_or_pos l2.length with h0 | h0
        · rw [List.eq_nil_of_length_eq_zero h0] at hu; simp at hu
        · exact h0
      obtain ⟨g, q, hA, _, hx'⟩ := hcell h0
      injection hA with hA
      subst hA
      have := hx' _ y hy _ u hyu
      rw [Nat.add_assoc, Nat.div_add_mod' j sz] at this
      unfold Addr.add
      split
      · rename_i h; subst h; exact this
      · exact this
    · intro u hu
      obtain ⟨y, _, hyu⟩ := List.mem_flatMap.1 hu
      exact el.one y u hyu
    · intro v' w' h1 h2 _ h4
      have h5 : Own enc sz E base w' v' (l ++ l2) := by unfold Own; rw [List.length_append, List.flatMap_append]; exact h1
      obtain ⟨B, d, hv, -, -, -⟩ := h5.form
      subst hv
      exact h B d w' h5 h2 h4
end

theorem ndc_len (n : Nd) : (ndc n).length = 6 := rfl
theorem stc_len (s : List UInt8) : (stc s).length = 1 := rfl
theorem inc_len (n : Int) : (inc n).length = 1 := rfl
theorem vac_len (x : Value) : [x].length = 1 := rfl
theorem node_info : (Tryz.prog.info? 24).map (fun i => (i.zero, i.size, i.bytes)) = some (some (.agg #[.int .i64 0, .int .i64 0, .string ⟨#[]⟩, .string ⟨#[]⟩, .bool false, .int .i64 0]), 6, 64) := by kernel_rfl
theorem string_info : (Tryz.prog.info? 9).map (fun i => (i.zero, i.size, i.bytes)) = some (some (.string ⟨#[]⟩), 1, 16) := by kernel_rfl
theorem val_info : (Tryz.prog.info? 45).map (fun i => (i.zero, i.size, i.bytes)) = some (some (.slice none 0 0), 1, 24) := by kernel_rfl
theorem elNode : Elem Tryz.prog 45 24 ndc 6 64 := by
  obtain ⟨i, hi, hz0, hz1, hz2⟩ := info_parts node_info
  refine ⟨Tryz.underlying45, ⟨i, _, hi, hz0, hz1, hz2, rfl⟩, by decide, ndc_len, fun n u hu => ?_⟩
  simp only [ndc, List.mem_cons, List.not_mem_nil, or_false] at hu
  rcases hu with rfl | rfl | rfl | rfl | rfl | rfl <;> rfl
theorem elText : Elem Tryz.prog 64 9 stc 1 16 := by
  obtain ⟨i, hi, hz0, hz1, hz2⟩ := info_parts string_info
  refine ⟨Tryz.underlying64, ⟨i, _, hi, hz0, hz1, hz2, rfl⟩, by decide, stc_len, fun n u hu => ?_⟩
  simp only [stc, List.mem_cons, List.not_mem_nil, or_false] at hu
  subst hu; rfl
/-- Values of slices. -/
def slc (x : Option Addr × Nat × Nat) : List Value := [.slice x.1 x.2.1 x.2.2]
theorem slc_len (x : Option Addr × Nat × Nat) : (slc x).length = 1 := rfl
theorem elVal : Elem Tryz.prog 61 45 slc 1 24 := by
  obtain ⟨i, hi, hz0, hz1, hz2⟩ := info_parts val_info
  refine ⟨Tryz.underlying61, ⟨i, _, hi, hz0, hz1, hz2, rfl⟩, by decide, slc_len, fun n u hu => ?_⟩
  simp only [slc, List.mem_cons, List.not_mem_nil, or_false] at hu
  subst hu; rfl
end Go.Proofs.YtbhgmfddjnkglaaGreatDoor

/-
  Slices of the call's own, further: made by make, a whole element written.
-/
namespace Go.Proofs.YtbhgmfddjnkglaaGreatDoor
open Go.RowKit Np

theorem made_take {α : Type} {enc : α → List Value} {sz : Nat} (hl : ∀ x, (enc x).length = sz) (hp : 0 < sz) (x : α) (zc : Array Value) (hz : zc.toList = enc x) (n c : Nat) (hn : n ≤ c) :
    (madeCells zc (c * sz)).toList.take (n * sz) = (List.replicate n x).flatMap enc := by
  have hzs : zc.size = sz := by rw [← Array.length_toList, hz, hl]
  apply List.ext_getElem?
  intro i
  by_cases hi : i < n * sz
  · have h1 : i / sz < n := (Nat.div_lt_iff_lt_mul hp).2 hi
    have h2 : i < c * sz := Nat.lt_of_lt_of_le hi (Nat.mul_le_mul_right _ hn)
    have hm := Nat.mod_lt i hp
    have := flat_at hl (List.replicate n x) (i / sz) x (i % sz) (by rw [List.getElem?_replicate, if_pos h1]) hm
    rw [Nat.div_add_mod' i sz] at this
    rw [this, List.getElem?_take, if_pos hi, ← hz, Array.getElem?_toList, Array.getElem?_toList]
    simp [madeCells, h2, hzs, hm]
  · rw [List.getElem?_take, if_neg hi, List.getElem?_eq_none (by rw [flat_len hl, List.length_replicate]; omega)]

section
variable {α : Type} {enc : α → List Value} {sz E base : Nat} {w : World} {l : List α}
theorem Own.made (hl : ∀ x, (enc x).length = sz) (hp : 0 < sz) (w : World) (x : α) (zc : Array Value) (hz : zc.toList = enc x) (n c : Nat) (hn : n ≤ c) (hm : c ≤ maxLen) (hb : base ≤ w.heap.size) :
    Own enc sz E base (w.alloc (.cells (madeCells zc (c * sz)) E)) (.slice (some ⟨w.heap.size, 0, none⟩) n c) (List.replicate n x) := by
  refine ⟨flat_len hl _, .inr ⟨w.heap.size, c, _, by simp, hb, heap_alloc_new w _, by simpa using hn, hm, size_madeCells _ _, ?_⟩⟩
  rw [List.length_replicate]
  exact made_take hl hp x zc hz n c hn
theorem Own.made1 (hl : ∀ x, (enc x).length = 1) (w : World) (x : α) (z : Value) (hz : [z] = enc x) (n : Nat) (hm : n ≤ maxLen) (hb : base ≤ w.heap.size) :
    Own enc 1 E base (w.alloc (.cells (madeCells #[z] n) E)) (.slice (some ⟨w.heap.size, 0, none⟩) n n) (List.replicate n x) := by
  have := Own.made (E := E) hl (by decide) w x #[z] hz n n (Nat.le_refl _) hm hb
  rwa [Nat.mul_one] at this

theorem set_row (xs : List Value) : ∀ (vs : List Value) (a : List Value) (o : Nat), a.length = o → ∀ (x b : List Value), x.length = vs.length → xs = a ++ x ++ b →
    ∀ {w : World} {g cap n : Nat}, w.ownsRow base E sz (.slice (some ⟨g, 0, none⟩) n cap) n xs → (w.setCells g o vs).ownsRow base E sz (.slice (some ⟨g, 0, none⟩) n cap) n (a ++ vs ++ b)
  | [], a, o, _, x, b, hx, hxs, w, g, cap, n, h => by
    have := List.eq_nil_of_length_eq_zero hx
    subst this
    rw [← hxs]; exact h
  | v :: vs, a, o, ho, [], b, hx, _, w, g, cap, n, h => by simp at hx
  | v :: vs, a, o, ho, c :: x, b, hx, hxs, w, g, cap, n, h => by
    have h1 := (World.ownsRow.stored h o v).1
    have e1 : xs.set o v = (a ++ [v]) ++ x ++ b := by
      rw [hxs, ← ho, List.append_assoc, List.set_append_right _ _ (Nat.le_refl _)]; simp
    have := set_row (xs.set o v) vs (a ++ [v]) (o + 1) (by simp [ho]) x b (by simpa using hx) e1 h1
    rw [World.setCells]
    simpa using this
theorem flat_split_at {k : Nat} {x : α} (hk : l[k]? = some x) : l = l.take k ++ x :: l.drop (k + 1) := by
  obtain ⟨h1, h2⟩ := List.getElem?_eq_some_iff.1 hk
  rw [← h2, List.getElem_cons_drop h1, List.take_append_drop]
/-- A whole element is written. -/
theorem Own.puts (hl : ∀ x, (enc x).length = sz) {g cap k : Nat} {x y : α} (h : Own enc sz E base w (.slice (some ⟨g, 0, none⟩) l.length cap) l) (hk : l[k]? = some x) :
    Own enc sz E base (w.setCells g (k * sz) (enc y)) (.slice (some ⟨g, 0, none⟩) l.length cap) (l.set k y) := by
  have hkl : k < l.length := (List.getElem?_eq_some_iff.1 hk).1
  have e1 : l.flatMap enc = (l.take k).flatMap enc ++ enc x ++ (l.drop (k + 1)).flatMap enc := by
    conv => lhs; rw [flat_split_at hk]
    simp
  have e2 : (l.set k y).flatMap enc = (l.take k).flatMap enc ++ enc y ++ (l.drop (k + 1)).flatMap enc := by
    rw [List.set_eq_take_append_cons_drop, if_pos hkl]; simp
  unfold Own
  rw [e2, List.length_set]
  exact set_row _ (enc y) _ _ (by rw [flat_len hl, List.length_take]; congr 1; omega) (enc x) _ (by rw [hl, hl]) e1 h
theorem Own.there (hl : ∀ x, (enc x).length = sz) {g cap k : Nat} {x : α} (h : Own enc sz E base w (.slice (some ⟨g, 0, none⟩) l.length cap) l) (hk : l[k]? = some x) : w.there g (k * sz) sz := by
  intro j hj
  have hj' : j < (enc x).length := by rw [hl]; exact hj
  refine ⟨?_, h.free _⟩
  rw [Own.cell hl h hk (List.getElem?_eq_getElem hj')]
  rfl
end
theorem Below.setCells {B : Nat} {a : World} {g : Nat} (hg : B ≤ g) : ∀ (vs : List Value) (o : Nat) {w : World}, Below B a w → Below B a (w.setCells g o vs)
  | [], _, _, h => h
  | v :: vs, o, _, h => Below.setCells hg vs (o + 1) (h.setCell (p := ⟨g, o, none⟩) hg v)
theorem size_setCells (g : Nat) : ∀ (vs : List Value) (o : Nat) (w : World), (w.setCells g o vs).heap.size = w.heap.size
  | [], _, _ => rfl
  | v :: vs, o, w => by rw [World.setCells, size_setCells g vs]; simp
/-- At the operation that writes a whole node. -/
theorem wpList_store_node {ops : Array Oper} {rest : List Oper} {op : Oper} {a : Act} {w : World} {Q : Exit → Act → World → Prop} (hgd : op.guard = none) (x y : Operand) (ho : op.op = .store 24 x y)
    (g o : Nat) (n : Nd) (hx : a.eval x = .pointer (some ⟨g, o, none⟩)) (hy : a.eval y = nda n) (ht : w.there g o 6) (h : wpList Tryz.prog ops Q rest (a.put op.dst undef) (w.setCells g o (ndc n))) : wpList Tryz.prog ops Q (op :: rest) a w := by
  refine wpList_store_mid hgd 24 x y ho g o _ hx hy ht ?_ (all_oneCell_toArray (cs := ndc n) (elNode.one n)) h
  have := node_info
  cases h : Tryz.prog.info? 24 with
  | none => rw [h] at this; cases this
  | some i => rw [h] at this; simp at this; simp [this.2.1]
end Go.Proofs.YtbhgmfddjnkglaaGreatDoor

/-
  Plain words: which of two numbers is greater is an order. No program stands here.
-/
namespace Go.Proofs.YtbhgmfddjnkglaaGreatDoor
namespace Np
open Go.RowKit

theorem cmpB_lt (a b : List UInt8) : cmpB a b = -1 ↔ a < b := by
  unfold cmpB
  simp only [bytesLess_eq, decide_eq_true_eq]
  split
  · simp [*]
  · split <;> simp [*]
theorem cmpB_eq (a b : List UInt8) : cmpB a b = 0 ↔ a = b := by
  unfold cmpB
  simp only [bytesLess_eq, decide_eq_true_eq]
  split
  · rename_i h
    constructor
    · intro h; cases h
    · intro e; subst e; exact absurd h (List.lt_irrefl _)
  · split <;> simp [*]
theorem cmpB_gt (a b : List UInt8) : cmpB a b = 1 ↔ b < a := by
  have h0 := cmpB_cases a b
  have h1 := cmpB_lt a b
  have h2 := cmpB_eq a b
  constructor
  · intro h
    rcases Std.lt_trichotomy a b with h3 | h3 | h3
    · rw [h1.2 h3] at h; cases h
    · rw [h2.2 h3] at h; cases h
    · exact h3
  · intro h
    rcases h0 with h3 | h3 | h3
    · exact absurd (h1.1 h3) (List.lt_asymm h)
    · exact absurd h (by rw [h2.1 h3]; exact List.lt_irrefl _)
    · exact h3
theorem cmpI_lt (x y : Int) : Lib.compareInt x y = -1 ↔ x < y := by unfold Lib.compareInt; (repeat' split) <;> omega
theorem cmpI_eq (x y : Int) : Lib.compareInt x y = 0 ↔ x = y := by unfold Lib.compareInt; (repeat' split) <;> omega
theorem cmpI_gt (x y : Int) : Lib.compareInt x y = 1 ↔ y < x := by unfold Lib.compareInt; (repeat' split) <;> omega

/-- What lies at nought, below and above. -/
theorem sgn_zero {a : List UInt8} {g : Bool} : sgn a g = 0 ↔ a = [] := by
  unfold sgn; cases a <;> cases g <;> simp
theorem cmpSz_le (a : List UInt8) (x : Int) (b : List UInt8) (y : Int) : cmpSz a x b y ≤ 0 ↔ a.length + x < b.length + y ∨ a.length + x = b.length + y ∧ ¬ b < a := by
  have h1 := cmpI_lt (a.length + x) (b.length + y)
  have h2 := cmpI_eq (a.length + x) (b.length + y)
  have h3 := compareInt_cases (a.length + x) (b.length + y)
  have h4 := cmpB_cases a b
  have h5 := cmpB_gt a b
  unfold cmpSz
  split
  · rename_i h
    have := h2.1 h
    constructor
    · intro h6; exact .inr ⟨this, fun h7 => by have := h5.2 h7; omega⟩
    · rintro (h6 | ⟨_, h6⟩)
      · omega
      · rcases h4 with h7 | h7 | h7
        · omega
        · omega
        · exact absurd (h5.1 h7) h6
  · rename_i h
    constructor
    · intro h6; exact .inl (h1.1 (by omega))
    · rintro (h6 | ⟨h6, _⟩)
      · have := h1.2 h6; omega
      · exact absurd (h2.2 h6) h
theorem cmpSz_neg (a : List UInt8) (x : Int) (b : List UInt8) (y : Int) : cmpSz b y a x = -cmpSz a x b y := by
  have h1 := cmpI_lt (a.length + x) (b.length + y)
  have h2 := cmpI_eq (a.length + x) (b.length + y)
  have h2' := cmpI_gt (a.length + x) (b.length + y)
  have h1' := cmpI_lt (b.length + y) (a.length + x)
  have h3' := cmpI_eq (b.length + y) (a.length + x)
  have h4' := cmpI_gt (b.length + y) (a.length + x)
  have h3 := compareInt_cases (a.length + x) (b.length + y)
  have c1 := cmpB_lt a b
  have c2 := cmpB_eq a b
  have c3 := cmpB_gt a b
  have d1 := cmpB_lt b a
  have d2 := cmpB_eq b a
  have d3 := cmpB_gt b a
  have c4 := cmpB_cases a b
  unfold cmpSz
  by_cases h : a.length + x = b.length + y
  · rw [if_pos (h3'.2 h.symm), if_pos (h2.2 h)]
    rcases c4 with e | e | e
    · rw [e, d3.2 (c1.1 e)]; rfl
    · rw [e, d2.2 (c2.1 e).symm]; rfl
    · rw [e, d1.2 (c3.1 e)]
  · rw [if_neg (fun e => h (h3'.1 e).symm), if_neg (fun e => h (h2.1 e))]
    rcases h3 with e | e | e
    · rw [e, h4'.2 (h1.1 e)]; rfl
    · exact absurd (h2.1 e) h
    · rw [e, h1'.2 (h2'.1 e)]
theorem cmpSz_zero {a : List UInt8} {x : Int} {b : List UInt8} {y : Int} : cmpSz a x b y = 0 ↔ a = b ∧ x = y := by
  have h2 := cmpI_eq (a.length + x) (b.length + y)
  have c2 := cmpB_eq a b
  unfold cmpSz
  constructor
  · intro h
    by_cases e : a.length + x = b.length + y
    · rw [if_pos (h2.2 e)] at h
      have := c2.1 h
      subst this
      exact ⟨rfl, by omega⟩
    · rw [if_neg (fun h => e (h2.1 h))] at h
      exact absurd (h2.1 h) e
  · rintro ⟨rfl, rfl⟩
    rw [if_pos (h2.2 rfl)]; exact c2.2 rfl
theorem cmpSz_trans {a : List UInt8} {x : Int} {b : List UInt8} {y : Int} {c : List UInt8} {z : Int} (h1 : cmpSz a x b y ≤ 0) (h2 : cmpSz b y c z ≤ 0) : cmpSz a x c z ≤ 0 := by
  rw [cmpSz_le] at *
  rcases h1 with h1 | ⟨h1, h3⟩ <;> rcases h2 with h2 | ⟨h2, h4⟩
  · exact .inl (by omega)
  · exact .inl (by omega)
  · exact .inl (by omega)
  · refine .inr ⟨by omega, fun h => ?_⟩
    rcases Std.lt_trichotomy b c with h5 | h5 | h5
    · exact h3 (List.lt_trans h5 h)
    · subst h5; exact h3 h
    · exact h4 h5
theorem cmpN_range (a : List UInt8) (g : Bool) (x : Int) (b : List UInt8) (g2 : Bool) (y : Int) : cmpN a g x b g2 y = -1 ∨ cmpN a g x b g2 y = 0 ∨ cmpN a g x b g2 y = 1 := by
  unfold cmpN
  split
  · rcases sgn_cases a g with e | e | e <;> rcases cmpSz_cases a x b y with f | f | f <;> rw [e, f] <;> decide
  · exact compareInt_cases _ _
theorem cmpN_neg (a : List UInt8) (g : Bool) (x : Int) (b : List UInt8) (g2 : Bool) (y : Int) : cmpN b g2 y a g x = -cmpN a g x b g2 y := by
  unfold cmpN
  have h1 := cmpI_lt (sgn a g) (sgn b g2)
  have h2 := cmpI_eq (sgn a g) (sgn b g2)
  have h2' := cmpI_gt (sgn a g) (sgn b g2)
  have h1' := cmpI_lt (sgn b g2) (sgn a g)
  have h3' := cmpI_eq (sgn b g2) (sgn a g)
  have h4' := cmpI_gt (sgn b g2) (sgn a g)
  have h3 := compareInt_cases (sgn a g) (sgn b g2)
  by_cases h : sgn a g = sgn b g2
  · rw [if_pos (h3'.2 h.symm), if_pos (h2.2 h), cmpSz_neg, h, Int.mul_neg]
  · rw [if_neg (fun e => h (h3'.1 e).symm), if_neg (fun e => h (h2.1 e))]
    rcases h3 with e | e | e
    · rw [e, h4'.2 (h1.1 e)]; rfl
    · exact absurd (h2.1 e) h
    · rw [e, h1'.2 (h2'.1 e)]
theorem cmpN_le (a : List UInt8) (g : Bool) (x : Int) (b : List UInt8) (g2 : Bool) (y : Int) : cmpN a g x b g2 y ≤ 0 ↔ sgn a g < sgn b g2 ∨ sgn a g = sgn b g2 ∧ (sgn a g = 0 ∨ sgn a g = 1 ∧ cmpSz a x b y ≤ 0 ∨ sgn a g = -1 ∧ cmpSz b y a x ≤ 0) := by
  have h1 := cmpI_lt (sgn a g) (sgn b g2)
  have h2 := cmpI_eq (sgn a g) (sgn b g2)
  have h3 := compareInt_cases (sgn a g) (sgn b g2)
  rw [cmpSz_neg a x b y]
  unfold cmpN
  split
  · rename_i h
    have hh := h2.1 h
    clear h1 h2 h3 h
    rcases sgn_cases a g with e | e | e <;> rw [e] at hh ⊢ <;> omega
  · rename_i h
    omega
theorem cmpN_trans {a : List UInt8} {g : Bool} {x : Int} {b : List UInt8} {g2 : Bool} {y : Int} {c : List UInt8} {g3 : Bool} {z : Int} (h1 : cmpN a g x b g2 y ≤ 0) (h2 : cmpN b g2 y c g3 z ≤ 0) : cmpN a g x c g3 z ≤ 0 := by
  rw [cmpN_le] at *
  have t1 := @cmpSz_trans a x b y c z
  have t2 := @cmpSz_trans c z b y a x
  grind
theorem cmpN_flip (a : List UInt8) (g : Bool) (x : Int) (b : List UInt8) (g2 : Bool) (y : Int) : cmpN a (!g && !a.isEmpty) x b (!g2 && !b.isEmpty) y = -cmpN a g x b g2 y := by
  have e1 : sgn a (!g && !a.isEmpty) = -sgn a g := by unfold sgn; cases a <;> cases g <;> simp
  have e2 : sgn b (!g2 && !b.isEmpty) = -sgn b g2 := by unfold sgn; cases b <;> cases g2 <;> simp
  have h1 := cmpI_lt (sgn a g) (sgn b g2)
  have h2 := cmpI_eq (sgn a g) (sgn b g2)
  have h2' := cmpI_gt (sgn a g) (sgn b g2)
  have h1' := cmpI_lt (-sgn a g) (-sgn b g2)
  have h3' := cmpI_eq (-sgn a g) (-sgn b g2)
  have h4' := cmpI_gt (-sgn a g) (-sgn b g2)
  have h3 := compareInt_cases (sgn a g) (sgn b g2)
  unfold cmpN
  rw [e1, e2]
  by_cases h : sgn a g = sgn b g2
  · rw [if_pos (h3'.2 (by omega)), if_pos (h2.2 h), Int.neg_mul]
  · rw [if_neg (fun e => h (by have := h3'.1 e; omega)), if_neg (fun e => h (h2.1 e))]
    rcases h3 with e | e | e
    · rw [e, h4'.2 (by have := h1.1 e; omega)]; rfl
    · exact absurd (h2.1 e) h
    · rw [e, h1'.2 (by have := h2'.1 e; omega)]
theorem cmpN_zero {k m : Int} {nm a : List UInt8} {g : Bool} {x : Int} {k2 m2 : Int} {nm2 b : List UInt8} {g2 : Bool} {y : Int} (h1 : right ⟨k, m, nm, a, g, x⟩ = true) (h2 : right ⟨k2, m2, nm2, b, g2, y⟩ = true) :
    cmpN a g x b g2 y = 0 ↔ k = k2 ∧ m = m2 ∧ nm = nm2 ∧ a = b ∧ g = g2 ∧ x = y := by
  rw [right_iff] at h1 h2
  simp only at h1 h2
  obtain ⟨rfl, rfl, rfl, h1⟩ := h1
  obtain ⟨rfl, rfl, rfl, h2⟩ := h2
  have e0 := cmpI_eq (sgn a g) (sgn b g2)
  have z1 := @sgn_zero a g
  have z2 := @sgn_zero b g2
  have s1 : a ≠ [] → (sgn a g = -1 ↔ g = true) := by intro h; unfold sgn; cases a <;> cases g <;> simp at *
  have s2 : b ≠ [] → (sgn b g2 = -1 ↔ g2 = true) := by intro h; unfold sgn; cases b <;> cases g2 <;> simp at *
  have q := @cmpSz_zero a x b y
  have c1 := sgn_cases a g
  unfold cmpN
  constructor
  · intro h
    refine ⟨rfl, rfl, rfl, ?_⟩
    by_cases he : sgn a g = sgn b g2
    · rw [if_pos (e0.2 he)] at h
      rcases h1 with ⟨rfl, rfl, rfl⟩ | ⟨h1, _⟩
      · have : b = [] := z2.1 (by rw [← he]; exact z1.2 rfl)
        subst this
        rcases h2 with ⟨_, rfl, rfl⟩ | ⟨h2, _⟩
        · exact ⟨rfl, rfl, rfl⟩
        · exact absurd rfl h2
      · have hz : sgn a g ≠ 0 := fun e => h1 (z1.1 e)
        have hb : b ≠ [] := fun e => hz (by rw [he]; exact z2.2 e)
        have hc : cmpSz a x b y = 0 := by
          rcases Int.mul_eq_zero.1 h with h | h
          · exact absurd h hz
          · exact h
        obtain ⟨rfl, rfl⟩ := q.1 hc
        refine ⟨rfl, ?_, rfl⟩
        have := s1 h1
        have := s2 hb
        rw [he] at *
        cases g <;> cases g2 <;> simp_all
    · rw [if_neg (fun e => he (e0.1 e))] at h
      exact absurd (e0.1 h) he
  · rintro ⟨_, _, _, rfl, rfl, rfl⟩
    rw [if_pos (e0.2 rfl), q.2 ⟨rfl, rfl⟩, Int.mul_zero]

end Np
end Go.Proofs.YtbhgmfddjnkglaaGreatDoor

/-
  Plain words: rows that are laid of named parts; an object of any names and parts, by their names. No program stands here.
-/
namespace Go.Proofs.YtbhgmfddjnkglaaGreatDoor
open Go.RowKit Np Rw Vp

/-- A node without a name, of a kind and so many parts. -/
def hdN (kind : Int) (m : Nat) : Nd := ⟨kind, m, [], [], false, 0⟩
abbrev zeroN : Nd := ⟨0, 0, [], [], false, 0⟩
/-- A row whose first node has that name. -/
def setNm (nm : List UInt8) : List Nd → List Nd
  | [] => []
  | n :: l => { n with name := nm } :: l
theorem setNm_len (nm : List UInt8) (l : List Nd) : (setNm nm l).length = l.length := by cases l <;> rfl
abbrev Pr := List UInt8 × List Nd
/-- A list or an object of named parts. -/
def laid (ps : List Pr) : List Nd := (ps.map fun p => setNm p.1 p.2).flatten
theorem laid_snoc (ps : List Pr) (p : Pr) : laid (ps ++ [p]) = laid ps ++ setNm p.1 p.2 := by simp [laid]
theorem laid_nil : laid [] = [] := rfl
theorem laid_cons (p : Pr) (ps : List Pr) : laid (p :: ps) = setNm p.1 p.2 ++ laid ps := by simp [laid]
theorem laid_append (ps qs : List Pr) : laid (ps ++ qs) = laid ps ++ laid qs := by simp [laid]
theorem laid_len (ps : List Pr) : (laid ps).length = (ps.map fun p => p.2.length).sum := by
  induction ps with
  | nil => rfl
  | cons p ps ih => 
    rw [laid_cons, List.length_append, ih, setNm_len]; simp
theorem laid_len' (L : List (List Nd)) : (laid (L.map fun l => ([], l))).length = (L.map List.length).sum := by
  rw [laid_len, List.map_map]; rfl

/-- Named parts, by their names. -/
def srt (ps : List Pr) : List Pr := ps.mergeSort (fun a b => decide (a.1 ≤ b.1))
def rises (ps : List Pr) : Prop := ps.Pairwise (fun a b => a.1 < b.1)
theorem le_of_not {a b : List UInt8} (h : ¬ b < a) : a ≤ b := List.not_lt.1 h
theorem lt_of_ne {a b : List UInt8} (h : ¬ b < a) (hne : a ≠ b) : a < b := by
  rcases Classical.em (a < b) with h1 | h1
  · exact h1
  · exact absurd (List.le_antisymm (le_of_not h) (le_of_not h1)) hne
theorem srt_of {ps qs : List Pr} (hp : ps.Perm qs) (hr : rises ps) : srt qs = ps := by
  have h1 : (srt qs).Perm ps := (List.mergeSort_perm qs _).trans hp.symm
  have h2 : (srt qs).Pairwise (fun a b => decide (a.1 ≤ b.1) = true) := List.pairwise_mergeSort
    (fun a b c h1 h2 => by simp only [decide_eq_true_eq] at *; exact List.le_trans h1 h2)
    (fun a b => by
      rcases List.le_total a.1 b.1 with h | h
      · simp [h]
      · simp [h]) qs
  have h3 : ps.Pairwise (fun a b => decide (a.1 ≤ b.1) = true) := hr.imp fun h => by simpa using List.le_of_lt h
  refine List.Perm.eq_of_pairwise (le := fun a b => decide (a.1 ≤ b.1) = true) ?_ h2 h3 h1
  intro a b ha hb h4 h5
  simp only [decide_eq_true_eq] at h4 h5
  have ha' : a ∈ ps := h1.mem_iff.1 ha
  have he : a.1 = b.1 := List.le_antisymm h4 h5
  have key : ∀ (l : List Pr), rises l → ∀ a ∈ l, ∀ b ∈ l, a.1 = b.1 → a = b := by
    intro l
    induction l with
    | nil => intro _ a ha; simp at ha
    | cons x l ih =>
      intro hr a ha b hb he
      obtain ⟨hx, hl⟩ := List.pairwise_cons.1 hr
      rcases List.mem_cons.1 ha with h1 | h1 <;> rcases List.mem_cons.1 hb with h2 | h2
      · rw [h1, h2]
      · have := hx b h2; rw [← he, h1] at this; exact absurd this (List.lt_irrefl _)
      · have := hx a h1; rw [he, h2] at this; exact absurd this (List.lt_irrefl _)
      · exact ih hl a h1 b h2 he
  exact key ps hr a ha' b hb he
/-- No two of the same, and all are text. -/
def okNames (names : List (List UInt8)) : Bool := decide names.Nodup && names.all vld
def objB (names : List (List UInt8)) (L : List (List Nd)) : Bool := decide (names.length = L.length) && okNames names
def objV (names : List (List UInt8)) (L : List (List Nd)) : List Nd := if objB names L = true then hdN 6 L.length :: laid (srt (names.zip L)) else []
def objE (names : List (List UInt8)) (L : List (List Nd)) : Int := if objB names L = true then 0 else 4

theorem strict : ∀ (q : List (List UInt8)), q.Pairwise (fun a b => ¬ b < a) → (∀ i a b, q[i]? = some a → q[i + 1]? = some b → a ≠ b) → q.Pairwise (· < ·)
  | [], _, _ => List.Pairwise.nil
  | [a], _, _ => by simp
  | a :: c :: q, h, hn => by
    obtain ⟨h1, h2⟩ := List.pairwise_cons.1 h
    have ih := strict (c :: q) h2 (fun i x y hx hy => hn (i + 1) x y (by simpa using hx) (by simpa using hy))
    obtain ⟨h3, h4⟩ := List.pairwise_cons.1 ih
    have hac : a < c := lt_of_ne (h1 c (by simp)) (hn 0 a c rfl rfl)
    refine List.pairwise_cons.2 ⟨fun b hb => ?_, ih⟩
    rcases List.mem_cons.1 hb with rfl | hb
    · exact hac
    · exact List.lt_trans hac (h3 b hb)

abbrev atN (names : List (List UInt8)) (j : Nat) : List UInt8 := names.getD j []
abbrev atL (L : List (List Nd)) (j : Nat) : List Nd := L.getD j []
theorem range_names (names : List (List UInt8)) : (List.range names.length).map (atN names) = names := by
  apply List.ext_getElem
  · simp
  · intro i h1 h2
    simp [atN, List.getD_eq_getElem?_getD, h2]
theorem range_zip (names : List (List UInt8)) (L : List (List Nd)) (h : names.length = L.length) : (List.range names.length).map (fun j => (atN names j, atL L j)) = names.zip L := by
  apply List.ext_getElem
  · simp [h]
  · intro i h1 h2
    simp at h1
    simp [atN, atL, List.getD_eq_getElem?_getD, h1, show i < L.length by omega]
/-- The places, so that the names rise. -/
structure Places (names : List (List UInt8)) (p : List Nat) : Prop where
  perm : p.Perm (List.range names.length)
  rise : p.Pairwise (fun i j => ¬ atN names j < atN names i)
theorem Places.length {names : List (List UInt8)} {p : List Nat} (h : Places names p) : p.length = names.length := by rw [h.perm.length_eq]; simp
theorem Places.lt {names : List (List UInt8)} {p : List Nat} (h : Places names p) {j : Nat} (hj : j ∈ p) : j < names.length := by simpa using h.perm.mem_iff.1 hj
theorem Places.names {names : List (List UInt8)} {p : List Nat} (h : Places names p) : (p.map (atN names)).Perm names := by
  have := h.perm.map (atN names)
  rwa [range_names] at this
theorem Places.same {names : List (List UInt8)} {p : List Nat} (h : Places names p) {k i j : Nat} (hi : p[k]? = some i) (hj : p[k + 1]? = some j) (he : atN names i = atN names j) : okNames names = false := by
  have : ¬ names.Nodup := fun hn => by
    have h2 := h.names.nodup_iff.2 hn
    have h3 : (p.map (atN names))[k]? = some (atN names i) := by rw [List.getElem?_map, hi]; rfl
    have h4 : (p.map (atN names))[k + 1]? = some (atN names j) := by rw [List.getElem?_map, hj]; rfl
    obtain ⟨l3, e3⟩ := List.getElem?_eq_some_iff.1 h3
    obtain ⟨l4, e4⟩ := List.getElem?_eq_some_iff.1 h4
    have h5 := List.pairwise_iff_getElem.1 h2 k (k + 1) l3 l4 (by omega)
    rw [e3, e4] at h5
    exact h5 he
  unfold okNames
  simp [this]
theorem Places.wrong {names : List (List UInt8)} {p : List Nat} (h : Places names p) {i : Nat} (hi : i ∈ p) (hv : vld (atN names i) = false) : okNames names = false := by
  unfold okNames
  have hlt := h.lt hi
  have : names.all vld = false := by
    rw [List.all_eq_false]
    refine ⟨atN names i, ?_, by rw [hv]; decide⟩
    rw [atN, List.getD_eq_getElem?_getD, List.getElem?_eq_getElem hlt]
    exact List.getElem_mem hlt
  simp [this]
theorem Places.good {names : List (List UInt8)} {p : List Nat} (h : Places names p) (hv : ∀ i ∈ p, vld (atN names i) = true) (hn : ∀ k i j, p[k]? = some i → p[k + 1]? = some j → atN names i ≠ atN names j) :
    okNames names = true ∧ (p.map (atN names)).Pairwise (· < ·) := by
  have hs : (p.map (atN names)).Pairwise (· < ·) := by
    refine strict _ (List.pairwise_map.2 h.rise) fun k a b ha hb => ?_
    rw [List.getElem?_map] at ha hb
    obtain ⟨i, hi, rfl⟩ := Option.map_eq_some_iff.1 ha
    obtain ⟨j, hj, rfl⟩ := Option.map_eq_some_iff.1 hb
    exact hn k i j hi hj
  refine ⟨?_, hs⟩
  unfold okNames
  rw [Bool.and_eq_true, decide_eq_true_eq]
  refine ⟨h.names.nodup_iff.1 (List.Pairwise.imp (R := (· < ·)) (fun {a b} hab (e : a = b) => by subst e; exact List.lt_irrefl a hab) hs), ?_⟩
  rw [List.all_eq_true]
  intro x hx
  obtain ⟨i, hi, rfl⟩ := List.mem_map.1 (h.names.mem_iff.2 hx)
  exact hv i hi
theorem Places.pairs {names : List (List UInt8)} {L : List (List Nd)} {p : List Nat} (h : Places names p) (hl : names.length = L.length) (hs : (p.map (atN names)).Pairwise (· < ·)) :
    srt (names.zip L) = p.map (fun j => (atN names j, atL L j)) := by
  refine srt_of ?_ (List.pairwise_map.2 (List.pairwise_map.1 hs))
  have := h.perm.map (fun j => (atN names j, atL L j))
  rwa [range_zip names L hl] at this
theorem sum_part {α : Type} (f : α → Nat) (p : List α) (k : Nat) : ((p.take k).map f).sum ≤ (p.map f).sum := by
  conv => rhs; rw [← List.take_append_drop k p]
  rw [List.map_append, List.sum_append]
  omega
theorem Places.sum {names : List (List UInt8)} {L : List (List Nd)} {p : List Nat} (h : Places names p) (hl : names.length = L.length) : (p.map fun x => (atL L x).length).sum = (L.map List.length).sum := by
  rw [(h.perm.map (fun x => (atL L x).length)).sum_nat, hl]
  congr 1
  apply List.ext_getElem
  · simp
  · intro i h1 h2
    simp at h1
    simp [atL, List.getD_eq_getElem?_getD, h1]
theorem Places.long {names : List (List UInt8)} {L : List (List Nd)} {p : List Nat} (h : Places names p) (hl : names.length = L.length) (k : Nat) : (laid ((p.take k).map fun x => (atN names x, atL L x))).length ≤ (L.map List.length).sum := by
  rw [laid_len, List.map_map]
  have := sum_part (fun x => (atL L x).length) p k
  rw [h.sum hl] at this
  exact this
end Go.Proofs.YtbhgmfddjnkglaaGreatDoor

/-
  What val's begin and pass answer.
-/
namespace Go.Proofs.YtbhgmfddjnkglaaGreatDoor
open Go.RowKit Np Rw Vp

abbrev OwnH (base : Nat) (w : World) (v : Value) (l : List Hd) : Prop := Own hdc 4 79 base w v l
theorem hdc_len (h : Hd) : (hdc h).length = 4 := rfl
theorem holder_info : (Tryz.prog.info? 79).map (fun i => (i.zero, i.size, i.bytes)) = some (some (.agg #[.int .i64 0, .int .i64 0, .bool false, .string ⟨#[]⟩]), 4, 40) := by kernel_rfl
theorem elHolder : Elem Tryz.prog 76 79 hdc 4 40 := by
  obtain ⟨i, hi, hz0, hz1, hz2⟩ := info_parts holder_info
  refine ⟨Tryz.underlying76, ⟨i, _, hi, hz0, hz1, hz2, rfl⟩, by decide, hdc_len, fun n u hu => ?_⟩
  simp only [hdc, List.mem_cons, List.not_mem_nil, or_false] at hu
  rcases hu with rfl | rfl | rfl | rfl <;> rfl

/-- What comes out is a slice of the call's own. -/
def OwnsH (base : Nat) (w : World) (st : List Hd) (e : Ending) (w' : World) : Prop := ∃ v', e = .returned v' ∧ OwnH base w' v' st ∧ Below base w w'

theorem begin_any (w : World) : Calls Tryz.prog 51 #[] w (OwnsH w.heap.size w Vp.start) := by
  go_enter Tryz.func51, Tryz.ntmps51
  go_wp2
  go_ret
  exact ⟨_, rfl, Own.lit hdc_len w #[.int .i64 5, .int .i64 1, .bool false, .string ⟨#[]⟩] Vp.start (Nat.le_refl _) (by decide) rfl, (Below.refl _ _).alloc (Nat.le_refl _) _⟩

theorem own_stepped {w : World} {base g cap : Nat} {pre : List Hd} {h : Hd} {n : Nd} (hown : OwnH base w (.slice (some ⟨g, 0, none⟩) (pre ++ [h]).length cap) (pre ++ [h])) :
    OwnH base (((w.setCell ⟨g, pre.length * 4 + 1, none⟩ (.int .i64 (h.left - 1))).setCell ⟨g, pre.length * 4 + 2, none⟩ (.bool true)).setCell ⟨g, pre.length * 4 + 3, none⟩ (.string ⟨n.name.toArray⟩)) (.slice (some ⟨g, 0, none⟩) (pre.length + 1) cap) (pre ++ [stepH h n]) := by
  have hs : ∀ x y : Hd, (pre ++ [x]).set pre.length y = pre ++ [y] := fun x y => by simp [List.set_append_right]
  have hg : ∀ x : Hd, (pre ++ [x])[pre.length]? = some x := fun x => by simp
  have h1 := Own.put hdc_len (y := ⟨h.kind, h.left - 1, h.begun, h.ahead⟩) (u := .int .i64 (h.left - 1)) hown (hg h) (by decide : 1 < 4) rfl
  rw [hs, show (pre ++ [h]).length = (pre ++ [(⟨h.kind, h.left - 1, h.begun, h.ahead⟩ : Hd)]).length by simp] at h1
  have h2 := Own.put hdc_len (y := ⟨h.kind, h.left - 1, true, h.ahead⟩) (u := .bool true) h1 (hg _) (by decide : 2 < 4) rfl
  rw [hs, show (pre ++ [(⟨h.kind, h.left - 1, h.begun, h.ahead⟩ : Hd)]).length = (pre ++ [(⟨h.kind, h.left - 1, true, h.ahead⟩ : Hd)]).length by simp] at h2
  have h3 := Own.put hdc_len (y := stepH h n) (u := .string ⟨n.name.toArray⟩) h2 (hg _) (by decide : 3 < 4) rfl
  rw [hs] at h3
  simpa using h3

theorem pop_snoc (st : List Hd) (h : Hd) (h0 : h.left = 0) : (pop (h :: st.reverse)).reverse = (pop st.reverse).reverse := by rw [pop, if_pos h0]
theorem pop_stop (st : List Hd) (h : Hd) (h0 : h.left ≠ 0) : (pop (h :: st.reverse)).reverse = st ++ [h] := by rw [pop, if_neg h0]; simp

set_option maxHeartbeats 2000000 in
theorem pass_any (v : Value) (pre : List Hd) (h : Hd) (n : Nd) (w : World) (base : Nat) (hown : OwnH base w v (pre ++ [h])) (hb : base ≤ w.heap.size) (hlen : pre.length ≤ 65536) (hl1 : 1 ≤ h.left) (hl2 : h.left ≤ 9223372036854775807) :
    Calls Tryz.prog 54 #[v, nda n] w (OwnsH base w (passH (h :: pre.reverse) n).reverse) := by
  obtain ⟨g, cap, hv, hg, hglt⟩ := hown.opened (by simp)
  subst hv
  have HO := Lib.hid hown; clear hown
  have hat : (pre ++ [h])[pre.length]? = some h := by simp
  have k1 := Own.cell hdc_len (j := 1) HO.out hat rfl
  have k2 := Own.cell hdc_len (j := 2) HO.out hat rfl
  have k3 := Own.cell hdc_len (j := 3) HO.out hat rfl
  have f1 := HO.out.free (pre.length * 4 + 1)
  have f2 := HO.out.free (pre.length * 4 + 2)
  have f3 := HO.out.free (pre.length * 4 + 3)
  clear hat
  have hpl : (pre ++ [h]).length = pre.length + 1 := by simp
  rw [hpl]
  generalize hp : pre.length = p at *
  have HP := Lib.hid hp; clear hp hpl
  have hgne : g ≠ w.heap.size := by omega
  have e0 : ((p : Int) + 1 == 0) = false := by simp; omega
  go_enter Tryz.func54, Tryz.ntmps54
  go_wp2_with fail
  go_cut [] (fun wx => OwnH base wx (.slice (some ⟨g, 0, none⟩) (p + 1) cap) (pre ++ [stepH h n]) ∧ Below base w wx ∧ wx.cell? ⟨w.heap.size, 0, none⟩ = some (.int .i64 n.kind) ∧ wx.cell? ⟨w.heap.size, 1, none⟩ = some (.int .i64 n.many) ∧ w.heap.size < wx.heap.size)
  case first =>
    go_region
    go_wp2_with fail
    go_meet
    have hst := own_stepped (n := n) HO.out
    rw [HP.out] at hst
    refine ⟨(hst.alloc _).drew, ?_, ?_, ?_, ?_⟩
    · exact ((((Below.refl base w).setCell (p := ⟨g, p * 4 + 1, none⟩) hg _).setCell (p := ⟨g, p * 4 + 2, none⟩) hg _).setCell (p := ⟨g, p * 4 + 3, none⟩) hg _).alloc (by simpa using hb) _ |>.drew
    · simp [go_sem]
    · simp [go_sem]
    · simp
  case rest =>
    obtain ⟨ho, hB, c0, c1, hz⟩ := hcut
    have HO2 := Lib.hid ho
    clear ho HO k1 k2 k3 f1 f2 f3 e0 hgne
    by_cases hm : 0 < n.many
    · have HV : Hid ((passH (h :: pre.reverse) n).reverse = pre ++ [stepH h n, ⟨n.kind, n.many, false, []⟩]) := Lib.hid (by rw [passH_cons, if_pos hm]; simp)
      have hlen2 : (pre ++ [stepH h n]).length = p + 1 := by rw [← HP.out]; simp
      have HR : Hid (∀ W : World, Row hdc 4 (W.alloc (.cells #[.int .i64 n.kind, .int .i64 n.many, .bool false, .string ⟨#[]⟩] 79)) (.slice (some ⟨W.heap.size, 0, none⟩) 1 1) [⟨n.kind, n.many, false, []⟩]) := Lib.hid (fun W => Row.lit hdc_len W 79 _ [⟨n.kind, n.many, false, []⟩] (by show 1 ≤ maxLen; decide) rfl)
      go_wp2_with (at_builtin; refine wpList_append_row (base := base) elHolder rfl _ _ rfl rfl (HO2.out.alloc _) rfl (HR.out _) ?_ ?_ ?_ ?_)
      · rw [hlen2]; simp only [List.length_singleton]; unfold maxLen; omega
      · rw [hlen2]; simp only [List.length_singleton]; omega
      · have := hB.size; simp; omega
      · intro A c w2 hown2 hg2 hat2
        have HOW := Lib.hid hown2
        have HB2 : Hid (Below base w w2) := Lib.hid ((hB.alloc (by have := hB.size; omega) _).trans ((HO2.out.alloc _).kept hg2 (by have := hB.size; simp; omega)))
        clear hown2 hg2 hat2
        go_wp2_with fail
        go_ret
        exact ⟨_, rfl, by rw [HV.out]; exact HOW.out, HB2.out⟩
    · have HV : Hid ((passH (h :: pre.reverse) n).reverse = (pop (stepH h n :: pre.reverse)).reverse) := Lib.hid (by rw [passH_cons, if_neg hm])
      have hm' : n.many ≤ 0 := by omega
      go_wp2_with fail
      go_loopw [0] (fun s0 wr => ∃ st : List Hd, s0 = .slice (some ⟨g, 0, none⟩) st.length cap ∧ wr = wc ∧ st.length ≤ 65537 ∧ OwnH base wr (.slice (some ⟨g, 0, none⟩) st.length cap) st ∧ (pop st.reverse).reverse = (pop (stepH h n :: pre.reverse)).reverse) (fun s0 _ => lenOf s0)
      case atStart => exact ⟨pre ++ [stepH h n], by simp [HP.out], rfl, by simp [HP.out]; omega, by rw [show (pre ++ [stepH h n]).length = p + 1 by simp [HP.out]]; exact HO2.out, by simp⟩
      case round =>
        obtain ⟨st, rfl, rfl, hsl, hos, hpo⟩ := hrel
        have HPO := Lib.hid hpo
        have HOS := Lib.hid hos
        clear hpo hos
        rcases List.eq_nil_or_concat st with rfl | ⟨st', x, rfl⟩
        · have HE : Hid ((passH (h :: pre.reverse) n).reverse = []) := Lib.hid (by rw [HV.out, ← HPO.out]; rfl)
          simp only [List.length_nil] at HOS ⊢
          go_wp2
          go_ret
          exact ⟨_, rfl, by rw [HE.out]; exact HOS.out, hB⟩
        · rw [List.concat_eq_append] at *
          have hst : (st' ++ [x])[st'.length]? = some x := by simp
          have q1 := Own.cell hdc_len (j := 1) HOS.out hst rfl
          clear hst
          have hpl : (st' ++ [x]).length = st'.length + 1 := by simp
          rw [hpl] at hsl HOS ⊢
          obtain ⟨-, hcap, hcm⟩ := HOS.out.cap
          unfold maxLen at hcm
          by_cases hx0 : x.left = 0
          · have HE : Hid ((pop st'.reverse).reverse = (pop (stepH h n :: pre.reverse)).reverse) := Lib.hid (by rw [← HPO.out, List.reverse_append]; exact (pop_snoc st' x hx0).symm)
            have HOP := Lib.hid (Own.pop hdc_len HOS.out)
            rw [hx0] at q1
            clear hpl
            go_wp2
            go_roundw
            case rel => exact ⟨st', by simp, by simp, by omega, HOP.out, HE.out⟩
            case measure => simp [lenOf]
          · have HE : Hid ((passH (h :: pre.reverse) n).reverse = st' ++ [x]) := Lib.hid (by rw [HV.out, ← HPO.out, List.reverse_append]; exact pop_stop st' x hx0)
            have ex : (x.left == 0) = false := by simp [hx0]
            clear hpl
            go_wp2
            go_ret
            exact ⟨_, rfl, by rw [HE.out]; exact HOS.out, hB⟩
end Go.Proofs.YtbhgmfddjnkglaaGreatDoor

/-
  What val's size, Clone and own answer.
-/
namespace Go.Proofs.YtbhgmfddjnkglaaGreatDoor
open Go.RowKit Np Rw Vp


abbrev OwnN (base : Nat) (w : World) (v : Value) (l : List Nd) : Prop := Own ndc 6 24 base w v l
/-- What comes out is a row of the call's own. -/
def OwnsN (w : World) (l : List Nd) (e : Ending) (w' : World) : Prop := ∃ v', e = .returned v' ∧ OwnN w.heap.size w' v' l ∧ Below w.heap.size w w'


/-- A part as a value of its own: its first node has no name. -/
def noName (n : Nd) : Nd := { n with name := [] }

end Go.Proofs.YtbhgmfddjnkglaaGreatDoor

/-
  What val's head, lay and List answer.
-/
namespace Go.Proofs.YtbhgmfddjnkglaaGreatDoor
open Go.RowKit Np Rw Vp

theorem make_nodes (n c : Nat) (hn : n ≤ c) (hc : c ≤ 1000000) (w : World) : (Instr.makeSlice 45 (.int .i64 (n : Int)) (.int .i64 (c : Int))).run Tryz.prog w = .ok (.slice (some ⟨w.heap.size, 0, none⟩) n c) (w.alloc (.cells (madeCells (ndc zeroN).toArray (c * 6)) 24)) := by
  obtain ⟨i, hi, hz0, hz1, hz2⟩ := info_parts node_info
  have := run_make (P := Tryz.prog) w 45 24 i _ Tryz.underlying45 hi hz0 .i64 .i64 n c (by omega) (by omega) (by rw [hz2]; omega) (by omega)
  rw [hz1, Int.toNat_natCast, Int.toNat_natCast] at this
  exact this


/-- What comes out is the row that there was, with more behind it. -/
def LaysN (base : Nat) (w : World) (v : Value) (l : List Nd) (e : Ending) (w' : World) : Prop := ∃ v', e = .returned v' ∧ OwnN base w' v' l ∧ w.grownBy w' v.ownBlock

theorem grown_set {w w' : World} {row : Option Nat} {g : Nat} {c : Nat} (h : w.grownBy w' row) (hg : row = some g ∨ w.heap.size ≤ g) (u : Value) : w.grownBy (w'.setCell ⟨g, c, none⟩ u) row := by
  obtain ⟨h1, h2, h3, h4, h5⟩ := h
  refine ⟨h1, h2, h3, by simpa using h4, fun k hk hne => ?_⟩
  rw [← h5 k hk hne]
  refine heap_setCell_other _ ⟨g, c, none⟩ k u ?_
  rcases hg with e | e
  · intro h; subst h; exact hne e.symm
  · intro h; subst h; exact absurd hk (by simpa using e)


end Go.Proofs.YtbhgmfddjnkglaaGreatDoor
