/-
  Slices of the call's own, further: made by make, a whole element written.
-/
import Derived.Test.YtoomgpbfcpnefaaDoorOwn
import Derived.Deep.MidRow
import Derived.Deep.OwnRows
namespace Go.Proofs.YtoomgpbfcpnefaaDoor
open Go.RowKit Np

theorem made_take {α : Type} {enc : α → List Value} {sz : Nat} (hl : ∀ x, (enc x).length = sz) (hp : 0 < sz) (x : α) (zc : Array Value) (hz : zc.toList = enc x) (n c : Nat) (hn : n ≤ c) :
    (madeCells zc (c * sz)).toList.take (n * sz) = (List.replicate n x).flatMap enc := by
  have hzs : zc.size = sz := by rw [← Array.length_toList, hz, hl]
  apply List.ext_getElem?
  intro i
  by_cases hi : i < n * sz
  · have h1 : i / sz < n := (Nat.div_lt_iff_lt_mul hp).2 hi
    have h2 : i < c * sz := Nat.lt_of_lt_of_le hi (Nat.mul_le_mul_right _ hn)
    have hm := Nat.mod_lt i hp
    have := flat_at hl (List.replicate n x) (i / sz) x (i % sz) (by rw [List.getElem?_replicate, if_pos h1]) hm
    rw [Nat.div_add_mod' i sz] at this
    rw [this, List.getElem?_take, if_pos hi, ← hz, Array.getElem?_toList, Array.getElem?_toList]
    simp [madeCells, h2, hzs, hm]
  · rw [List.getElem?_take, if_neg hi, List.getElem?_eq_none (by rw [flat_len hl, List.length_replicate]; omega)]

section
variable {α : Type} {enc : α → List Value} {sz E base : Nat} {w : World} {l : List α}
theorem Own.made (hl : ∀ x, (enc x).length = sz) (hp : 0 < sz) (w : World) (x : α) (zc : Array Value) (hz : zc.toList = enc x) (n c : Nat) (hn : n ≤ c) (hm : c ≤ maxLen) (hb : base ≤ w.heap.size) :
    Own enc sz E base (w.alloc (.cells (madeCells zc (c * sz)) E)) (.slice (some ⟨w.heap.size, 0, none⟩) n c) (List.replicate n x) := by
  refine ⟨flat_len hl _, .inr ⟨w.heap.size, c, _, by simp, hb, heap_alloc_new w _, by simpa using hn, hm, size_madeCells _ _, ?_⟩⟩
  rw [List.length_replicate]
  exact made_take hl hp x zc hz n c hn
theorem Own.made1 (hl : ∀ x, (enc x).length = 1) (w : World) (x : α) (z : Value) (hz : [z] = enc x) (n : Nat) (hm : n ≤ maxLen) (hb : base ≤ w.heap.size) :
    Own enc 1 E base (w.alloc (.cells (madeCells #[z] n) E)) (.slice (some ⟨w.heap.size, 0, none⟩) n n) (List.replicate n x) := by
  have := Own.made (E := E) hl (by decide) w x #[z] hz n n (Nat.le_refl _) hm hb
  rwa [Nat.mul_one] at this

theorem set_row (xs : List Value) : ∀ (vs : List Value) (a : List Value) (o : Nat), a.length = o → ∀ (x b : List Value), x.length = vs.length → xs = a ++ x ++ b →
    ∀ {w : World} {g cap n : Nat}, w.ownsRow base E sz (.slice (some ⟨g, 0, none⟩) n cap) n xs → (w.setCells g o vs).ownsRow base E sz (.slice (some ⟨g, 0, none⟩) n cap) n (a ++ vs ++ b)
  | [], a, o, _, x, b, hx, hxs, w, g, cap, n, h => by
    have := List.eq_nil_of_length_eq_zero hx
    subst this
    rw [← hxs]; exact h
  | v :: vs, a, o, ho, [], b, hx, _, w, g, cap, n, h => by simp at hx
  | v :: vs, a, o, ho, c :: x, b, hx, hxs, w, g, cap, n, h => by
    have h1 := (World.ownsRow.stored h o v).1
    have e1 : xs.set o v = (a ++ [v]) ++ x ++ b := by
      rw [hxs, ← ho, List.append_assoc, List.set_append_right _ _ (Nat.le_refl _)]; simp
    have := set_row (xs.set o v) vs (a ++ [v]) (o + 1) (by simp [ho]) x b (by simpa using hx) e1 h1
    rw [World.setCells]
    simpa using this
theorem flat_split_at {k : Nat} {x : α} (hk : l[k]? = some x) : l = l.take k ++ x :: l.drop (k + 1) := by
  obtain ⟨h1, h2⟩ := List.getElem?_eq_some_iff.1 hk
  rw [← h2, List.getElem_cons_drop h1, List.take_append_drop]
/-- A whole element is written. -/
theorem Own.puts (hl : ∀ x, (enc x).length = sz) {g cap k : Nat} {x y : α} (h : Own enc sz E base w (.slice (some ⟨g, 0, none⟩) l.length cap) l) (hk : l[k]? = some x) :
    Own enc sz E base (w.setCells g (k * sz) (enc y)) (.slice (some ⟨g, 0, none⟩) l.length cap) (l.set k y) := by
  have hkl : k < l.length := (List.getElem?_eq_some_iff.1 hk).1
  have e1 : l.flatMap enc = (l.take k).flatMap enc ++ enc x ++ (l.drop (k + 1)).flatMap enc := by
    conv => lhs; rw [flat_split_at hk]
    simp
  have e2 : (l.set k y).flatMap enc = (l.take k).flatMap enc ++ enc y ++ (l.drop (k + 1)).flatMap enc := by
    rw [List.set_eq_take_append_cons_drop, if_pos hkl]; simp
  unfold Own
  rw [e2, List.length_set]
  exact set_row _ (enc y) _ _ (by rw [flat_len hl, List.length_take]; congr 1; omega) (enc x) _ (by rw [hl, hl]) e1 h
theorem Own.there (hl : ∀ x, (enc x).length = sz) {g cap k : Nat} {x : α} (h : Own enc sz E base w (.slice (some ⟨g, 0, none⟩) l.length cap) l) (hk : l[k]? = some x) : w.there g (k * sz) sz := by
  intro j hj
  have hj' : j < (enc x).length := by rw [hl]; exact hj
  refine ⟨?_, h.free _⟩
  rw [Own.cell hl h hk (List.getElem?_eq_getElem hj')]
  rfl
end
theorem Below.setCells {B : Nat} {a : World} {g : Nat} (hg : B ≤ g) : ∀ (vs : List Value) (o : Nat) {w : World}, Below B a w → Below B a (w.setCells g o vs)
  | [], _, _, h => h
  | v :: vs, o, _, h => Below.setCells hg vs (o + 1) (h.setCell (p := ⟨g, o, none⟩) hg v)
theorem size_setCells (g : Nat) : ∀ (vs : List Value) (o : Nat) (w : World), (w.setCells g o vs).heap.size = w.heap.size
  | [], _, _ => rfl
  | v :: vs, o, w => by rw [World.setCells, size_setCells g vs]; simp
/-- At the operation that writes a whole node. -/
theorem wpList_store_node {ops : Array Oper} {rest : List Oper} {op : Oper} {a : Act} {w : World} {Q : Exit → Act → World → Prop} (hgd : op.guard = none) (x y : Operand) (ho : op.op = .store 44 x y)
    (g o : Nat) (n : Nd) (hx : a.eval x = .pointer (some ⟨g, o, none⟩)) (hy : a.eval y = nda n) (ht : w.there g o 6) (h : wpList Tryd.prog ops Q rest (a.put op.dst undef) (w.setCells g o (ndc n))) : wpList Tryd.prog ops Q (op :: rest) a w := by
  refine wpList_store_mid hgd 44 x y ho g o _ hx hy ht ?_ (all_oneCell_toArray (cs := ndc n) (elNode.one n)) h
  have := node_info
  cases h : Tryd.prog.info? 44 with
  | none => rw [h] at this; cases this
  | some i => rw [h] at this; simp at this; simp [this.2.1]
end Go.Proofs.YtoomgpbfcpnefaaDoor
