/-
  Joined: Own, ValW5, Own2, ValW10, IntW, CmpW, ValW6, Round, ValW7.
-/
import Derived.Test.YtafbojiojeemoaaGreatDoorMem
import Derived.WalkSmall
import Derived.Laws.AppendOwnNone
import Derived.Deep.DeepCutAuto
import Derived.ChangeAlike
import Derived.Test.YtafbojiojeemoaaGreatDoorTextCutJ5
import Derived.Deep.MidRow
import Derived.Deep.OwnRows
import Derived.Test.YtafbojiojeemoaaGreatDoorRefW6
import Derived.Test.YtafbojiojeemoaaGreatDoorTextCutJ1
import Derived.Deep.QuietTactic
import Derived.BigQuiet
import Derived.RangeFuncNested
import Derived.RangeFuncBound
import Derived.RangeFuncCalls
import Derived.RangeFuncLeaves
import Derived.RangeFuncBox
import Derived.Shelf.Abstract
import Derived.Shelf.RegionOpen
import Derived.OwnWalkIn
import Derived.TacticsInMore
import Derived.LoopNIn
import Derived.LoopIn
import Derived.OrdersHeld
import Derived.OrdersIn
import Derived.StillTail

/-
  Slices of the call's own: they read as a list, they are written and appended to, nothing else turns.
-/
namespace Go.Proofs.YtafbojiojeemoaaGreatDoor
open Go.RowKit Np

theorem flat_len {α : Type} {enc : α → List Value} {sz : Nat} (h : ∀ x, (enc x).length = sz) (l : List α) : (l.flatMap enc).length = l.length * sz := by
  induction l with
  | nil => simp
  | cons x l ih => simp [h x, ih, Nat.add_mul, Nat.add_comm]
theorem flat_at {α : Type} {enc : α → List Value} {sz : Nat} (h : ∀ x, (enc x).length = sz) : ∀ (l : List α) (k : Nat) (x : α) (j : Nat), l[k]? = some x → j < sz → (l.flatMap enc)[k * sz + j]? = (enc x)[j]?
  | [], _, _, _, hk, _ => by simp at hk
  | a :: l, 0, x, j, hk, hj => by
    simp at hk; subst hk
    rw [List.flatMap_cons, Nat.zero_mul, Nat.zero_add, List.getElem?_append_left (by rw [h]; exact hj)]
  | a :: l, k + 1, x, j, hk, hj => by
    rw [List.flatMap_cons, List.getElem?_append_right (by rw [h, Nat.add_mul]; omega), h, show (k + 1) * sz + j - sz = k * sz + j by rw [Nat.add_mul]; omega]
    exact flat_at h l k x j (by simpa using hk) hj
/-- Which element, and which cell of it. -/
theorem flat_split {α : Type} {enc : α → List Value} {sz : Nat} (h : ∀ x, (enc x).length = sz) (hp : 0 < sz) (l : List α) (i : Nat) (u : Value) (hi : (l.flatMap enc)[i]? = some u) : ∃ x, l[i / sz]? = some x ∧ (enc x)[i % sz]? = some u := by
  have hlt : i < l.length * sz := by
    have := (List.getElem?_eq_some_iff.1 hi).1
    rwa [flat_len h] at this
  have hk : i / sz < l.length := (Nat.div_lt_iff_lt_mul hp).2 hlt
  refine ⟨l[i / sz], List.getElem?_eq_getElem hk, ?_⟩
  rw [← flat_at h l (i / sz) l[i / sz] (i % sz) (List.getElem?_eq_getElem hk) (Nat.mod_lt _ hp), Nat.div_add_mod' i sz]
  exact hi
theorem flat_put {α : Type} {enc : α → List Value} {sz : Nat} (h : ∀ x, (enc x).length = sz) : ∀ (l : List α) (k : Nat) (x y : α) (j : Nat) (u : Value), l[k]? = some x → j < sz → (enc x).set j u = enc y →
    (l.flatMap enc).set (k * sz + j) u = (l.set k y).flatMap enc
  | [], _, _, _, _, _, hk, _, _ => by simp at hk
  | a :: l, 0, x, y, j, u, hk, hj, hy => by
    simp at hk; subst hk
    rw [List.flatMap_cons, Nat.zero_mul, Nat.zero_add, List.set_append_left _ _ (by rw [h]; exact hj), hy]; rfl
  | a :: l, k + 1, x, y, j, u, hk, hj, hy => by
    rw [List.flatMap_cons, List.set_append_right _ _ (by rw [h, Nat.add_mul]; omega), h, show (k + 1) * sz + j - sz = k * sz + j by rw [Nat.add_mul]; omega, flat_put h l k x y j u (by simpa using hk) hj hy]; rfl

/-- A slice of the call's own: it reads as this list. -/
def Own {α : Type} (enc : α → List Value) (sz : Nat) (E : TypeId) (base : Nat) (w : World) (v : Value) (l : List α) : Prop := w.ownsRow base E sz v l.length (l.flatMap enc)

/-- What elements a type of slices has. -/
structure Elem {α : Type} (P : Program) (T E : TypeId) (enc : α → List Value) (sz bys : Nat) : Prop where
  und : P.underlying T = some (.slice E)
  inf : ∃ i z, P.info? E = some i ∧ i.zero = some z ∧ i.size = sz ∧ i.bytes = bys ∧ z.cells.size = sz
  pos : 0 < sz
  len : ∀ x, (enc x).length = sz
  one : ∀ x, ∀ u ∈ enc x, u.oneCell' = true

section
variable {α : Type} {enc : α → List Value} {sz E base : Nat} {w w' : World} {v : Value} {l : List α}
theorem Own.nil (w : World) : Own enc sz E base w (.slice none 0 0) ([] : List α) := World.ownsRow_nil w base E sz
theorem Own.opened (h : Own enc sz E base w v l) (h0 : 0 < l.length) : ∃ g cap, v = .slice (some ⟨g, 0, none⟩) l.length cap ∧ base ≤ g ∧ g < w.heap.size := World.ownsRow.form h h0
theorem Own.form (h : Own enc sz E base w v l) : ∃ (A : Option Addr) (c : Nat), v = .slice A l.length c ∧ l.length ≤ c ∧ c ≤ maxLen ∧ (A = none → c = 0) := by
  rcases h.2 with ⟨rfl, h0⟩ | ⟨g, cap, cur, rfl, _, _, h1, h2, _⟩
  · exact ⟨none, 0, by rw [h0], by omega, Nat.zero_le _, fun _ => rfl⟩
  · exact ⟨_, cap, rfl, h1, h2, fun h => (by cases h)⟩
theorem Own.cap {A : Option Addr} {n c : Nat} (h : Own enc sz E base w (.slice A n c) l) : n = l.length ∧ n ≤ c ∧ c ≤ maxLen := by
  obtain ⟨B, d, hv, h1, h2, _⟩ := h.form
  injection hv with _ e2 e3
  subst e2 e3
  exact ⟨rfl, h1, h2⟩
theorem Own.row (hl : ∀ x, (enc x).length = sz) (h : Own enc sz E base w v l) : Row enc sz w v l := by
  obtain ⟨A, c, hv, h1, h2, h3⟩ := h.form
  refine ⟨A, c, hv, h1, h2, h3, fun h0 => ?_⟩
  obtain ⟨g, cap, hv', hg, hlt⟩ := h.opened h0
  rw [hv] at hv'
  injection hv' with e1 _ e3
  subst e1 e3
  refine ⟨g, 0, rfl, hlt, fun k x hk j u hu => ?_⟩
  have hj : j < sz := by rw [← hl x]; exact (List.getElem?_eq_some_iff.1 hu).1
  have hkl : k < l.length := (List.getElem?_eq_some_iff.1 hk).1
  subst hv
  have := World.ownsRow.cellAt h (k * sz + j) (by
    have : (k + 1) * sz ≤ l.length * sz := Nat.mul_le_mul_right _ hkl
    rw [Nat.add_mul] at this; omega)
  rw [flat_at hl l k x j hk hj, hu] at this
  rw [Nat.zero_add]
  exact this
/-- Nothing below turns, where only a slice of the call's own does. -/
theorem Own.kept (h : Own enc sz E base w v l) (hg : w.grownBy w' v.ownBlock) (hb : base ≤ w.heap.size) : Below base w w' :=
  (Below.refl base w).grown hg hb (fun k e => (World.ownsRow.lt h k e).1)
theorem Own.mono {base' : Nat} (h : Own enc sz E base w v l) (hb : base' ≤ base) : Own enc sz E base' w v l := by
  obtain ⟨h1, h2⟩ := h
  rcases h2 with h2 | ⟨g, cap, cur, a, b, c⟩
  · exact ⟨h1, .inl h2⟩
  · exact ⟨h1, .inr ⟨g, cap, cur, a, Nat.le_trans hb b, c⟩⟩
theorem Own.alloc (h : Own enc sz E base w v l) (o : Obj) : Own enc sz E base (w.alloc o) v l := World.ownsRow.alloc h o
theorem Own.drewN (h : Own enc sz E base w v l) (n : Nat) : Own enc sz E base (w.drewN n) v l := h
theorem Own.drew (h : Own enc sz E base w v l) : Own enc sz E base w.drew v l := h
theorem Own.below (h : Own enc sz E base w v l) (hb : Below w.heap.size w w') : Own enc sz E base w' v l := by
  refine World.ownsRow.kept h (row := none) ⟨hb.os, hb.tape, hb.output, hb.size, fun k hk _ => hb.block k hk⟩ ?_
  cases hv : v.ownBlock with
  | none => exact .inl rfl
  | some k => exact .inr (by simp)
/-- One cell of an element is written. -/
theorem Own.put (hl : ∀ x, (enc x).length = sz) {g cap k j : Nat} {x y : α} {u : Value} (h : Own enc sz E base w (.slice (some ⟨g, 0, none⟩) l.length cap) l) (hk : l[k]? = some x) (hj : j < sz) (hy : (enc x).set j u = enc y) :
    Own enc sz E base (w.setCell ⟨g, k * sz + j, none⟩ u) (.slice (some ⟨g, 0, none⟩) l.length cap) (l.set k y) := by
  have h1 := (World.ownsRow.stored h (k * sz + j) u).1
  rw [flat_put hl l k x y j u hk hj hy] at h1
  unfold Own
  rw [List.length_set]
  exact h1
theorem Own.cell (hl : ∀ x, (enc x).length = sz) {g cap k j : Nat} {x : α} {u : Value} (h : Own enc sz E base w (.slice (some ⟨g, 0, none⟩) l.length cap) l) (hk : l[k]? = some x) (hu : (enc x)[j]? = some u) : w.cell? ⟨g, k * sz + j, none⟩ = some u := by
  have hj : j < sz := by rw [← hl x]; exact (List.getElem?_eq_some_iff.1 hu).1
  have hkl : k < l.length := (List.getElem?_eq_some_iff.1 hk).1
  rw [World.ownsRow.cellAt h (k * sz + j) (by
    have : (k + 1) * sz ≤ l.length * sz := Nat.mul_le_mul_right _ hkl
    rw [Nat.add_mul] at this; omega), flat_at hl l k x j hk hj, hu]
theorem Own.free {g cap : Nat} (h : Own enc sz E base w (.slice (some ⟨g, 0, none⟩) l.length cap) l) (j : Nat) : w.frozen? ⟨g, j, none⟩ = false := World.ownsRow.frozenAt h j
theorem Own.lt {g cap : Nat} (h : Own enc sz E base w (.slice (some ⟨g, 0, none⟩) l.length cap) l) : base ≤ g ∧ g < w.heap.size := World.ownsRow.lt h g rfl
/-- The last one is taken off. -/
theorem Own.pop (hl : ∀ x, (enc x).length = sz) {g cap : Nat} {x : α} (h : Own enc sz E base w (.slice (some ⟨g, 0, none⟩) (l.length + 1) cap) (l ++ [x])) : Own enc sz E base w (.slice (some ⟨g, 0, none⟩) l.length cap) l := by
  unfold Own at h ⊢
  rw [List.length_append, List.length_singleton, List.flatMap_append] at h
  exact ownsRow_pop (flat_len hl l) h
/-- Made of a literal. -/
theorem Own.lit (hl : ∀ x, (enc x).length = sz) (w : World) (cs : Array Value) (l : List α) (hb : base ≤ w.heap.size) (hm : l.length ≤ maxLen) (hcs : cs.toList = l.flatMap enc) : Own enc sz E base (w.alloc (.cells cs E)) (.slice (some ⟨w.heap.size, 0, none⟩) l.length l.length) l := by
  unfold Own
  rw [← hcs]
  exact World.ownsRow_lit w cs l.length hb hm (by rw [← Array.length_toList, hcs, flat_len hl])
theorem Row.lit (hl : ∀ x, (enc x).length = sz) (w : World) (E : TypeId) (cs : Array Value) (l : List α) (hm : l.length ≤ maxLen) (hcs : cs.toList = l.flatMap enc) : Row enc sz (w.alloc (.cells cs E)) (.slice (some ⟨w.heap.size, 0, none⟩) l.length l.length) l :=
  (Own.lit (base := 0) hl w cs l (Nat.zero_le _) hm hcs).row hl
end

section
variable {α : Type} {P : Program} {enc : α → List Value} {T E sz bys base : Nat} {w : World}
/-- At the operation 'append(v, x...)': v is the call's own, x any slice. -/
theorem wpList_append_row (el : Elem P T E enc sz bys) {ops : Array Oper} {rest : List Oper} {o : Oper} {a : Act} {Q : Exit → Act → World → Prop} (hgd : o.guard = none) (s x : Operand)
    (ho : o.op = .call { callee := .builtin .append, args := #[s, x], argTypes := #[T, T] }) {v r : Value} {l l2 : List α} (hs : a.eval s = v) (hown : Own enc sz E base w v l) (hx : a.eval x = r) (hr : Row enc sz w r l2)
    (h63 : l.length + l2.length ≤ maxLen) (hby : (l.length + l2.length) * bys ≤ 140737488355328) (hbase : base ≤ w.heap.size)
    (h : ∀ (A : Option Addr) (c : Nat) (w' : World), Own enc sz E base w' (.slice A (l ++ l2).length c) (l ++ l2) → w.grownBy w' v.ownBlock → ((Value.slice A (l ++ l2).length c).ownBlock = v.ownBlock ∨ (Value.slice A (l ++ l2).length c).ownBlock = some w.heap.size) →
      wpList P ops Q rest (a.put o.dst (.slice A (l ++ l2).length c)) w') : wpList P ops Q (o :: rest) a w := by
  obtain ⟨i, z, hi, hz, hsize, hbytes, hzs⟩ := el.inf
  obtain ⟨A, c, rfl, hc, hcm, hnil, hcell⟩ := hr
  cases A with
  | none =>
    have h0 := hnil rfl
    have hl0 : l2.length = 0 := by omega
    have := List.eq_nil_of_length_eq_zero hl0
    subst this
    subst h0
    obtain ⟨B, d, hv, -, -, -⟩ := hown.form
    have h2 := h B d w (by rw [List.append_nil, ← hv]; exact hown) (World.grownBy.refl w _) (.inl (by rw [List.append_nil, hv]))
    rw [List.append_nil, ← hv] at h2
    exact wpList_append_own_none hgd s x T ho base E i sz el.und hi v l.length _ hs hown hx h2
  | some ad =>
    refine wpList_append_own_at w hgd s x T ho base E i z sz bys el.und hi hz hsize hbytes hzs el.pos v l.length _ hs hown ad l2.length c (l2.flatMap enc) hx (flat_len el.len l2) ?_ ?_ h63 hby hbase ?_
    · intro j u hu
      obtain ⟨y, hy, hyu⟩ := flat_split el.len el.pos l2 j u hu
      have h0 : 0 < l2.length := by
        rcases Nat.eq_zero_or_pos l2.length with h0 | h0
        · rw [List.eq_nil_of_length_eq_zero h0] at hu; simp at hu
        · exact h0
      obtain ⟨g, q, hA, _, hx'⟩ := hcell h0
      injection hA with hA
      subst hA
      have := hx' _ y hy _ u hyu
      rw [Nat.add_assoc, Nat.div_add_mod' j sz] at this
      unfold Addr.add
      split
      · rename_i h; subst h; exact this
      · exact this
    · intro u hu
      obtain ⟨y, _, hyu⟩ := List.mem_flatMap.1 hu
      exact el.one y u hyu
    · intro v' w' h1 h2 _ h4
      have h5 : Own enc sz E base w' v' (l ++ l2) := by unfold Own; rw [List.length_append, List.flatMap_append]; exact h1
      obtain ⟨B, d, hv, -, -, -⟩ := h5.form
      subst hv
      exact h B d w' h5 h2 h4
end

theorem ndc_len (n : Nd) : (ndc n).length = 6 := rfl
theorem stc_len (s : List UInt8) : (stc s).length = 1 := rfl
theorem inc_len (n : Int) : (inc n).length = 1 := rfl
theorem vac_len (x : Value) : [x].length = 1 := rfl
theorem node_info : (Tryz.prog.info? 35).map (fun i => (i.zero, i.size, i.bytes)) = some (some (.agg #[.int .i64 0, .int .i64 0, .string ⟨#[]⟩, .string ⟨#[]⟩, .bool false, .int .i64 0]), 6, 64) := by kernel_rfl
theorem string_info : (Tryz.prog.info? 9).map (fun i => (i.zero, i.size, i.bytes)) = some (some (.string ⟨#[]⟩), 1, 16) := by kernel_rfl
theorem val_info : (Tryz.prog.info? 24).map (fun i => (i.zero, i.size, i.bytes)) = some (some (.slice none 0 0), 1, 24) := by kernel_rfl
theorem elNode : Elem Tryz.prog 24 35 ndc 6 64 := by
  obtain ⟨i, hi, hz0, hz1, hz2⟩ := info_parts node_info
  refine ⟨Tryz.underlying24, ⟨i, _, hi, hz0, hz1, hz2, rfl⟩, by decide, ndc_len, fun n u hu => ?_⟩
  simp only [ndc, List.mem_cons, List.not_mem_nil, or_false] at hu
  rcases hu with rfl | rfl | rfl | rfl | rfl | rfl <;> rfl
theorem elText : Elem Tryz.prog 40 9 stc 1 16 := by
  obtain ⟨i, hi, hz0, hz1, hz2⟩ := info_parts string_info
  refine ⟨Tryz.underlying40, ⟨i, _, hi, hz0, hz1, hz2, rfl⟩, by decide, stc_len, fun n u hu => ?_⟩
  simp only [stc, List.mem_cons, List.not_mem_nil, or_false] at hu
  subst hu; rfl
/-- Values of slices. -/
def slc (x : Option Addr × Nat × Nat) : List Value := [.slice x.1 x.2.1 x.2.2]
theorem slc_len (x : Option Addr × Nat × Nat) : (slc x).length = 1 := rfl
theorem elVal : Elem Tryz.prog 41 24 slc 1 24 := by
  obtain ⟨i, hi, hz0, hz1, hz2⟩ := info_parts val_info
  refine ⟨Tryz.underlying41, ⟨i, _, hi, hz0, hz1, hz2, rfl⟩, by decide, slc_len, fun n u hu => ?_⟩
  simp only [slc, List.mem_cons, List.not_mem_nil, or_false] at hu
  subst hu; rfl
end Go.Proofs.YtafbojiojeemoaaGreatDoor

/-
  What val's size, Clone and own answer.
-/
namespace Go.Proofs.YtafbojiojeemoaaGreatDoor
open Go.RowKit Np Rw Vp


abbrev OwnN (base : Nat) (w : World) (v : Value) (l : List Nd) : Prop := Own ndc 6 35 base w v l
/-- What comes out is a row of the call's own. -/
def OwnsN (w : World) (l : List Nd) (e : Ending) (w' : World) : Prop := ∃ v', e = .returned v' ∧ OwnN w.heap.size w' v' l ∧ Below w.heap.size w w'

set_option maxRecDepth 100000 in
set_option maxHeartbeats 1000000 in
theorem clone_any (v : Value) (l : List Nd) (w : World) (hv : Nds w v l) (hl : l.length ≤ 65536) :
    Calls Tryz.prog 78 #[v] w (OwnsN w l) := by
  have hvH := Lib.hid hv
  have hnil := fun (W : World) (a : Option Addr) (n c : Nat) => Lib.run_eql_slice_nil (P := Tryz.prog) W 24 35 a n c 0 0 Tryz.underlying24
  obtain ⟨A, c, rfl, hc, hcm, hz, -⟩ := hv
  cases A with
  | none =>
    have := hz rfl
    subst this
    have hl0 : l.length = 0 := by omega
    have := List.eq_nil_of_length_eq_zero hl0
    subst this
    simp only [List.length_nil]
    clear hl0 hz hc hvH
    go_enter Tryz.func78, Tryz.ntmps78
    go_wp2_with fail
    go_ret
    exact ⟨_, rfl, Own.nil _, Below.refl _ _⟩
  | some ad =>
    have HO : Hid (OwnN w.heap.size (w.alloc (.cells #[] 35)) (.slice (some ⟨w.heap.size, 0, none⟩) 0 0) []) := Lib.hid (Own.lit (l := []) ndc_len w #[] (Nat.le_refl _) (Nat.zero_le _) rfl)
    have HR : Hid (Nds (w.alloc (.cells #[] 35)) (.slice (some ad) l.length c) l) := Lib.hid (hvH.out.below ((Below.refl _ _).alloc (Nat.le_refl _) _))
    clear hz
    go_enter Tryz.func78, Tryz.ntmps78
    go_wp2_with (at_builtin; refine wpList_append_row (base := w.heap.size) elNode rfl _ _ rfl rfl HO.out rfl HR.out ?_ ?_ ?_ ?_)
    · unfold maxLen; simp only [List.length_nil]; omega
    · simp only [List.length_nil]; omega
    · simp
    · intro A' c' w2 hown2 hg2 _
      have HOW := Lib.hid hown2
      have HB2 : Hid (Below w.heap.size w w2) := Lib.hid (((Below.refl _ _).alloc (Nat.le_refl _) _).trans (HO.out.kept hg2 (by simp)))
      clear hown2 hg2
      go_wp2_with fail
      go_ret
      exact ⟨_, rfl, HOW.out, HB2.out⟩

/-- A part as a value of its own: its first node has no name. -/
def noName (n : Nd) : Nd := { n with name := [] }

end Go.Proofs.YtafbojiojeemoaaGreatDoor

/-
  Slices of the call's own, further: made by make, a whole element written.
-/
namespace Go.Proofs.YtafbojiojeemoaaGreatDoor
open Go.RowKit Np

theorem made_take {α : Type} {enc : α → List Value} {sz : Nat} (hl : ∀ x, (enc x).length = sz) (hp : 0 < sz) (x : α) (zc : Array Value) (hz : zc.toList = enc x) (n c : Nat) (hn : n ≤ c) :
    (madeCells zc (c * sz)).toList.take (n * sz) = (List.replicate n x).flatMap enc := by
  have hzs : zc.size = sz := by rw [← Array.length_toList, hz, hl]
  apply List.ext_getElem?
  intro i
  by_cases hi : i < n * sz
  · have h1 : i / sz < n := (Nat.div_lt_iff_lt_mul hp).2 hi
    have h2 : i < c * sz := Nat.lt_of_lt_of_le hi (Nat.mul_le_mul_right _ hn)
    have hm := Nat.mod_lt i hp
    have := flat_at hl (List.replicate n x) (i / sz) x (i % sz) (by rw [List.getElem?_replicate, if_pos h1]) hm
    rw [Nat.div_add_mod' i sz] at this
    rw [this, List.getElem?_take, if_pos hi, ← hz, Array.getElem?_toList, Array.getElem?_toList]
    simp [madeCells, h2, hzs, hm]
  · rw [List.getElem?_take, if_neg hi, List.getElem?_eq_none (by rw [flat_len hl, List.length_replicate]; omega)]

section
variable {α : Type} {enc : α → List Value} {sz E base : Nat} {w : World} {l : List α}
theorem Own.made (hl : ∀ x, (enc x).length = sz) (hp : 0 < sz) (w : World) (x : α) (zc : Array Value) (hz : zc.toList = enc x) (n c : Nat) (hn : n ≤ c) (hm : c ≤ maxLen) (hb : base ≤ w.heap.size) :
    Own enc sz E base (w.alloc (.cells (madeCells zc (c * sz)) E)) (.slice (some ⟨w.heap.size, 0, none⟩) n c) (List.replicate n x) := by
  refine ⟨flat_len hl _, .inr ⟨w.heap.size, c, _, by simp, hb, heap_alloc_new w _, by simpa using hn, hm, size_madeCells _ _, ?_⟩⟩
  rw [List.length_replicate]
  exact made_take hl hp x zc hz n c hn
theorem Own.made1 (hl : ∀ x, (enc x).length = 1) (w : World) (x : α) (z : Value) (hz : [z] = enc x) (n : Nat) (hm : n ≤ maxLen) (hb : base ≤ w.heap.size) :
    Own enc 1 E base (w.alloc (.cells (madeCells #[z] n) E)) (.slice (some ⟨w.heap.size, 0, none⟩) n n) (List.replicate n x) := by
  have := Own.made (E := E) hl (by decide) w x #[z] hz n n (Nat.le_refl _) hm hb
  rwa [Nat.mul_one] at this

theorem set_row (xs : List Value) : ∀ (vs : List Value) (a : List Value) (o : Nat), a.length = o → ∀ (x b : List Value), x.length = vs.length → xs = a ++ x ++ b →
    ∀ {w : World} {g cap n : Nat}, w.ownsRow base E sz (.slice (some ⟨g, 0, none⟩) n cap) n xs → (w.setCells g o vs).ownsRow base E sz (.slice (some ⟨g, 0, none⟩) n cap) n (a ++ vs ++ b)
  | [], a, o, _, x, b, hx, hxs, w, g, cap, n, h => by
    have := List.eq_nil_of_length_eq_zero hx
    subst this
    rw [← hxs]; exact h
  | v :: vs, a, o, ho, [], b, hx, _, w, g, cap, n, h => by simp at hx
  | v :: vs, a, o, ho, c :: x, b, hx, hxs, w, g, cap, n, h => by
    have h1 := (World.ownsRow.stored h o v).1
    have e1 : xs.set o v = (a ++ [v]) ++ x ++ b := by
      rw [hxs, ← ho, List.append_assoc, List.set_append_right _ _ (Nat.le_refl _)]; simp
    have := set_row (xs.set o v) vs (a ++ [v]) (o + 1) (by simp [ho]) x b (by simpa using hx) e1 h1
    rw [World.setCells]
    simpa using this
theorem flat_split_at {k : Nat} {x : α} (hk : l[k]? = some x) : l = l.take k ++ x :: l.drop (k + 1) := by
  obtain ⟨h1, h2⟩ := List.getElem?_eq_some_iff.1 hk
  rw [← h2, List.getElem_cons_drop h1, List.take_append_drop]
/-- A whole element is written. -/
theorem Own.puts (hl : ∀ x, (enc x).length = sz) {g cap k : Nat} {x y : α} (h : Own enc sz E base w (.slice (some ⟨g, 0, none⟩) l.length cap) l) (hk : l[k]? = some x) :
    Own enc sz E base (w.setCells g (k * sz) (enc y)) (.slice (some ⟨g, 0, none⟩) l.length cap) (l.set k y) := by
  have hkl : k < l.length := (List.getElem?_eq_some_iff.1 hk).1
  have e1 : l.flatMap enc = (l.take k).flatMap enc ++ enc x ++ (l.drop (k + 1)).flatMap enc := by
    conv => lhs; rw [flat_split_at hk]
    simp
  have e2 : (l.set k y).flatMap enc = (l.take k).flatMap enc ++ enc y ++ (l.drop (k + 1)).flatMap enc := by
    rw [List.set_eq_take_append_cons_drop, if_pos hkl]; simp
  unfold Own
  rw [e2, List.length_set]
  exact set_row _ (enc y) _ _ (by rw [flat_len hl, List.length_take]; congr 1; omega) (enc x) _ (by rw [hl, hl]) e1 h
theorem Own.there (hl : ∀ x, (enc x).length = sz) {g cap k : Nat} {x : α} (h : Own enc sz E base w (.slice (some ⟨g, 0, none⟩) l.length cap) l) (hk : l[k]? = some x) : w.there g (k * sz) sz := by
  intro j hj
  have hj' : j < (enc x).length := by rw [hl]; exact hj
  refine ⟨?_, h.free _⟩
  rw [Own.cell hl h hk (List.getElem?_eq_getElem hj')]
  rfl
end
theorem Below.setCells {B : Nat} {a : World} {g : Nat} (hg : B ≤ g) : ∀ (vs : List Value) (o : Nat) {w : World}, Below B a w → Below B a (w.setCells g o vs)
  | [], _, _, h => h
  | v :: vs, o, _, h => Below.setCells hg vs (o + 1) (h.setCell (p := ⟨g, o, none⟩) hg v)
theorem size_setCells (g : Nat) : ∀ (vs : List Value) (o : Nat) (w : World), (w.setCells g o vs).heap.size = w.heap.size
  | [], _, _ => rfl
  | v :: vs, o, w => by rw [World.setCells, size_setCells g vs]; simp
/-- At the operation that writes a whole node. -/
theorem wpList_store_node {ops : Array Oper} {rest : List Oper} {op : Oper} {a : Act} {w : World} {Q : Exit → Act → World → Prop} (hgd : op.guard = none) (x y : Operand) (ho : op.op = .store 35 x y)
    (g o : Nat) (n : Nd) (hx : a.eval x = .pointer (some ⟨g, o, none⟩)) (hy : a.eval y = nda n) (ht : w.there g o 6) (h : wpList Tryz.prog ops Q rest (a.put op.dst undef) (w.setCells g o (ndc n))) : wpList Tryz.prog ops Q (op :: rest) a w := by
  refine wpList_store_mid hgd 35 x y ho g o _ hx hy ht ?_ (all_oneCell_toArray (cs := ndc n) (elNode.one n)) h
  have := node_info
  cases h : Tryz.prog.info? 35 with
  | none => rw [h] at this; cases this
  | some i => rw [h] at this; simp at this; simp [this.2.1]
end Go.Proofs.YtafbojiojeemoaaGreatDoor

/-
  What val's head, lay and List answer.
-/
namespace Go.Proofs.YtafbojiojeemoaaGreatDoor
open Go.RowKit Np Rw Vp

theorem make_nodes (n c : Nat) (hn : n ≤ c) (hc : c ≤ 1000000) (w : World) : (Instr.makeSlice 24 (.int .i64 (n : Int)) (.int .i64 (c : Int))).run Tryz.prog w = .ok (.slice (some ⟨w.heap.size, 0, none⟩) n c) (w.alloc (.cells (madeCells (ndc zeroN).toArray (c * 6)) 35)) := by
  obtain ⟨i, hi, hz0, hz1, hz2⟩ := info_parts node_info
  have := run_make (P := Tryz.prog) w 24 35 i _ Tryz.underlying24 hi hz0 .i64 .i64 n c (by omega) (by omega) (by rw [hz2]; omega) (by omega)
  rw [hz1, Int.toNat_natCast, Int.toNat_natCast] at this
  exact this

set_option maxRecDepth 100000 in
set_option maxHeartbeats 2000000 in
theorem head_any (kind : Int) (v : Value) (L : List (List Nd)) (w : World) (hv : Vls w v L) (hb1 : L.length ≤ 262144) (hb2 : (L.map List.length).sum ≤ 262144) :
    Calls Tryz.prog 127 #[.int .i64 kind, v] w (OwnsN w [hdN kind L.length]) := by
  obtain ⟨us, hul, hu, hur⟩ := hv
  obtain ⟨A, c, rfl, -, -, -, H⟩ := hu
  have HUL := Lib.hid hul
  have HU := Lib.hid hur
  have HH := Lib.hid H
  have HLN : Hid (L.length = us.length) := Lib.hid hul.symm
  clear hur H
  rw [← hul] at hb1
  clear hul
  generalize hn : us.length = n at *
  have HN := Lib.hid hn; clear hn
  have hmk := fun (m : Nat) (h1 : 1 ≤ m) (hm : m ≤ 400000) (W : World) => make_nodes 1 m h1 (by omega) W
  have HMK := Lib.hid hmk; clear hmk
  go_enter Tryz.func127, Tryz.ntmps127
  go_wp2
  go_loopw [5, 11] (fun nn i wr => ∃ k q : Nat, k ≤ n ∧ i = .int .i64 k ∧ nn = .int .i64 (q : Nat) ∧ q = 1 + ((L.take k).map List.length).sum ∧ 1 ≤ q ∧ q ≤ 262145 ∧ wr = w) (fun _ i _ => n - (intOf i).toNat)
  case atStart => exact ⟨0, 1, Nat.zero_le _, rfl, rfl, rfl, by omega, by omega, rfl⟩
  case round =>
    obtain ⟨k, q, hk, rfl, rfl, hq, hq1, hqb, rfl⟩ := hrel
    have HQ := Lib.hid hq
    clear hq
    by_cases hlt : k < n
    · obtain ⟨g, o, rfl, hg, hx⟩ := HH.out (by omega)
      obtain ⟨x, hxk⟩ : ∃ a, us[k]? = some a := ⟨_, List.getElem?_eq_getElem (by rw [HN.out]; exact hlt)⟩
      obtain ⟨a, ha⟩ : ∃ a, L[k]? = some a := ⟨_, List.getElem?_eq_getElem (by rw [← HUL.out]; exact hlt)⟩
      have a0 := (hx k x hxk).one
      have hra : Nds wr x a := HU.out k x a hxk ha
      have HQ2 : Hid (q + a.length = 1 + ((L.take (k + 1)).map List.length).sum) := Lib.hid (by rw [sum_take ha, HQ.out]; omega)
      have hqa : q + a.length ≤ 262145 := by have := sum_take_le L (k + 1); rw [HQ2.out]; omega
      clear ha hxk hx
      obtain ⟨B, c', rfl, -⟩ := hra
      go_wp2_with fail
      go_roundw
      case rel => exact ⟨k + 1, q + a.length, by omega, by go_num, by go_num, HQ2.out, by omega, by omega, by simp⟩
      case measure => simp [intOf]; omega
    · have hmk := HMK.out q hq1 (by omega) wr
      simp only [Int.natCast_one] at hmk
      have HO : OwnN wr.heap.size (wr.alloc (.cells (madeCells (ndc zeroN).toArray (q * 6)) 35)) (.slice (some ⟨wr.heap.size, 0, none⟩) 1 q) [zeroN] := 
        Own.made (E := 35) (base := wr.heap.size) ndc_len (by decide) wr zeroN (ndc zeroN).toArray rfl 1 q (by omega) (by unfold maxLen; omega) (Nat.le_refl _)
      generalize madeCells (ndc zeroN).toArray (q * 6) = cs at hmk HO
      have HT : Hid ((wr.alloc (.cells cs 35)).there wr.heap.size 0 6) := Lib.hid (by have := Own.there (k := 0) ndc_len HO rfl; simpa using this)
      have HP : OwnN wr.heap.size ((wr.alloc (.cells cs 35)).setCells wr.heap.size 0 (ndc (hdN kind n))) (.slice (some ⟨wr.heap.size, 0, none⟩) 1 q) [hdN kind n] := by
        have := Own.puts (k := 0) (y := hdN kind n) ndc_len HO rfl
        simpa using this
      have HBW : Below wr.heap.size wr ((wr.alloc (.cells cs 35)).setCells wr.heap.size 0 (ndc (hdN kind n))) := Below.setCells (Nat.le_refl _) _ _ ((Below.refl _ _).alloc (Nat.le_refl _) _)
      have HPH := Lib.hid HP
      have HBH := Lib.hid HBW
      clear HO HP HBW
      go_wp2_with (refine wpList_store_node rfl _ _ rfl wr.heap.size 0 (hdN kind n) rfl rfl HT.out ?_; generalize (wr.alloc (.cells cs 35)).setCells wr.heap.size 0 (ndc (hdN kind n)) = W2 at HPH HBH ⊢)
      go_ret
      rw [HLN.out]
      exact ⟨_, rfl, HPH.out, HBH.out⟩

/-- What comes out is the row that there was, with more behind it. -/
def LaysN (base : Nat) (w : World) (v : Value) (l : List Nd) (e : Ending) (w' : World) : Prop := ∃ v', e = .returned v' ∧ OwnN base w' v' l ∧ w.grownBy w' v.ownBlock

theorem grown_set {w w' : World} {row : Option Nat} {g : Nat} {c : Nat} (h : w.grownBy w' row) (hg : row = some g ∨ w.heap.size ≤ g) (u : Value) : w.grownBy (w'.setCell ⟨g, c, none⟩ u) row := by
  obtain ⟨h1, h2, h3, h4, h5⟩ := h
  refine ⟨h1, h2, h3, by simpa using h4, fun k hk hne => ?_⟩
  rw [← h5 k hk hne]
  refine heap_setCell_other _ ⟨g, c, none⟩ k u ?_
  rcases hg with e | e
  · intro h; subst h; exact hne e.symm
  · intro h; subst h; exact absurd hk (by simpa using e)

set_option maxRecDepth 100000 in
set_option maxHeartbeats 2000000 in
theorem lay_any (base : Nat) (v p : Value) (l l2 : List Nd) (nm : List UInt8) (w : World) (hv : OwnN base w v l) (hp : Nds w p l2) (hb : base ≤ w.heap.size) (hl : l.length + l2.length ≤ 400000) :
    Calls Tryz.prog 128 #[v, .string ⟨nm.toArray⟩, p] w (LaysN base w v (l ++ setNm nm l2)) := by
  have HV := Lib.hid hv
  have HPR := Lib.hid hp
  obtain ⟨A, c, hve, hc, hcm, -⟩ := hv.form
  obtain ⟨A2, c2, rfl, hc2, hcm2, -, -⟩ := hp
  clear hv
  cases l2 with
  | nil =>
    simp only [List.length_nil] at hl hc2 HPR ⊢
    subst hve
    generalize hn : l.length = n at *
    have HN := Lib.hid hn; clear hn
    go_enter Tryz.func128, Tryz.ntmps128
    go_wp2_with (at_builtin; refine wpList_append_row (base := base) elNode rfl _ _ rfl rfl HV.out rfl HPR.out ?_ ?_ ?_ ?_)
    · unfold maxLen; simp only [List.length_nil, HN.out]; omega
    · simp only [List.length_nil, HN.out]; omega
    · exact hb
    · intro A' c' w2 hown2 hg2 _
      have HO2 := Lib.hid hown2
      have HG2 := Lib.hid hg2
      clear hown2 hg2
      rw [HN.out] at HO2 ⊢
      go_wp2_with fail
      go_ret
      exact ⟨_, rfl, by rw [setNm, List.append_nil]; exact HO2.out, HG2.out⟩
  | cons x l2 =>
    subst hve
    have HLEN : Hid ((l ++ x :: l2).length = l.length + (x :: l2).length) := Lib.hid (by simp)
    have hpos : 0 < (x :: l2).length := by simp
    generalize hn2 : (x :: l2).length = n2 at *
    generalize hn : l.length = n at *
    have HN := Lib.hid hn; clear hn
    have HN2 := Lib.hid hn2; clear hn2
    go_enter Tryz.func128, Tryz.ntmps128
    go_wp2_with (at_builtin; refine wpList_append_row (base := base) elNode rfl _ _ rfl rfl HV.out rfl HPR.out ?_ ?_ ?_ ?_)
    · unfold maxLen; rw [HN.out, HN2.out]; omega
    · rw [HN.out, HN2.out]; omega
    · exact hb
    · intro A' c' w2 hown2 hg2 hwh
      obtain ⟨g, cap, he, hgb, hglt⟩ := hown2.opened (by rw [HLEN.out]; omega)
      injection he with e1 _ e3
      subst e1 e3
      replace hown2 : OwnN base w2 (.slice (some ⟨g, 0, none⟩) (l ++ x :: l2).length c') (l ++ x :: l2) := by simpa using hown2
      have hk : (l ++ x :: l2)[n]? = some x := by rw [← HN.out]; simp
      have k2 := Own.cell ndc_len (j := 2) hown2 hk rfl
      have f2 := hown2.free (n * 6 + 2)
      have HPP : Hid (OwnN base (w2.setCell ⟨g, n * 6 + 2, none⟩ (.string ⟨nm.toArray⟩)) (.slice (some ⟨g, 0, none⟩) (l ++ x :: l2).length c') (l ++ setNm nm (x :: l2))) := Lib.hid (by
        have := Own.put ndc_len (j := 2) (y := { x with name := nm }) (u := .string ⟨nm.toArray⟩) hown2 hk (by decide) rfl
        have e : (l ++ x :: l2).set n { x with name := nm } = l ++ setNm nm (x :: l2) := by rw [← HN.out, List.set_append_right _ _ (Nat.le_refl _)]; simp [setNm]
        rwa [e] at this)
      have HG2 : Hid (w.grownBy (w2.setCell ⟨g, n * 6 + 2, none⟩ (.string ⟨nm.toArray⟩)) (Value.slice A n c).ownBlock) := Lib.hid (grown_set hg2 (by
        rcases hwh with e | e
        · exact .inl e.symm
        · injection e with e; exact .inr (by simp at e; omega)) _)
      clear hown2 hg2 hwh hk
      have e2 : l2.length + 1 = n2 := HN2.out
      rw [HLEN.out] at HPP
      rw [HN.out, e2]
      go_wp2_with fail
      go_ret
      exact ⟨_, rfl, HPP.out, HG2.out⟩

set_option maxRecDepth 100000 in
set_option maxHeartbeats 2000000 in
theorem list_any (v : Value) (L : List (List Nd)) (w : World) (hv : Vls w v L) (hb1 : L.length ≤ 262144) (hb2 : (L.map List.length).sum ≤ 262144) :
    Calls Tryz.prog 92 #[v] w (OwnsN w (hdN 5 L.length :: laid (L.map fun l => ([], l)))) := by
  have HV := Lib.hid hv
  obtain ⟨us, hul, hu, hur⟩ := hv
  obtain ⟨A, c, rfl, -, -, -, H⟩ := hu
  have HUL := Lib.hid hul
  have HU := Lib.hid hur
  have HH := Lib.hid H
  clear hur H
  have hb1' : us.length ≤ 262144 := by rw [hul]; exact hb1
  clear hul
  generalize hn : us.length = n at *
  have HN := Lib.hid hn; clear hn
  go_enter Tryz.func92, Tryz.ntmps92
  go_wp2_with (go_at_call 127; refine (head_any 5 _ L _ HV.out hb1 hb2).mono ?_; rintro e w1 ⟨v1, rfl, ho1, hB1⟩)
  have HO1 := Lib.hid ho1
  have HB1 := Lib.hid hB1
  clear ho1 hB1
  go_loopw [3, 10] (fun vv i wr => ∃ k : Nat, k ≤ n ∧ i = .int .i64 k ∧ OwnN w.heap.size wr vv (hdN 5 L.length :: laid ((L.take k).map fun l => ([], l))) ∧ Below w.heap.size w wr) (fun _ i _ => n - (intOf i).toNat)
  case atStart => exact ⟨0, Nat.zero_le _, rfl, HO1.out, HB1.out⟩
  case round =>
    obtain ⟨k, hk, rfl, hown, hbw⟩ := hrel
    have HO := Lib.hid hown
    have HBW := Lib.hid hbw
    by_cases hlt : k < n
    · obtain ⟨g, o, rfl, hg, hx⟩ := HH.out (by omega)
      obtain ⟨x, hxk⟩ : ∃ a, us[k]? = some a := ⟨_, List.getElem?_eq_getElem (by rw [HN.out]; exact hlt)⟩
      obtain ⟨a, ha⟩ : ∃ a, L[k]? = some a := ⟨_, List.getElem?_eq_getElem (by rw [← HUL.out]; exact hlt)⟩
      have a0 := (hbw.cell (p := ⟨g, o + k, none⟩) hg).trans (hx k x hxk).one
      have HRA : Hid (Nds wr x a) := Lib.hid ((HU.out k x a hxk ha).below hbw)
      have HS : Hid (laid ((L.take (k + 1)).map fun l => (([], l) : List UInt8 × List Nd)) = laid ((L.take k).map fun l => ([], l)) ++ setNm [] a) := Lib.hid (by rw [List.take_add_one, ha]; simp [laid_snoc])
      have HLN : Hid ((hdN 5 L.length :: laid ((L.take k).map fun l => ([], l))).length + a.length ≤ 400000) := Lib.hid (by
        have h1 := sum_take ha
        have h2 := sum_take_le L (k + 1)
        rw [List.length_cons, laid_len']; omega)
      clear ha hxk hx hown hbw
      go_wp2_with (go_at_call 128; refine (lay_any w.heap.size _ _ _ a [] _ HO.out HRA.out HBW.out.size HLN.out).mono ?_; rintro e w2 ⟨v2, rfl, ho2, hg2⟩)
      have HO2 := Lib.hid ho2
      have HG2 := Lib.hid hg2
      clear ho2 hg2
      go_roundw
      case rel => exact ⟨k + 1, by omega, by go_num, by rw [HS.out]; exact HO2.out, HBW.out.trans (HO.out.kept HG2.out HBW.out.size)⟩
      case measure => simp [intOf]; omega
    · have HE : Hid (L.take k = L) := Lib.hid (List.take_of_length_le (by rw [← HUL.out]; omega))
      clear hown hbw
      go_wp2_with fail
      go_ret
      exact ⟨_, rfl, by have := HO.out; rwa [HE.out] at this, HBW.out⟩
end Go.Proofs.YtafbojiojeemoaaGreatDoor

/-
  Words for rows of whole numbers: made by make, numbered one by one. Of no function.
-/
namespace Go.Proofs.YtafbojiojeemoaaGreatDoor
open Go.RowKit Np

theorem int_info : (Tryz.prog.info? 3).map (fun i => (i.zero, i.size, i.bytes)) = some (some (.int .i64 0), 1, 8) := by kernel_rfl
theorem elInt : Elem Tryz.prog 151 3 inc 1 8 := by
  obtain ⟨i, hi, hz0, hz1, hz2⟩ := info_parts int_info
  refine ⟨Tryz.underlying151, ⟨i, _, hi, hz0, hz1, hz2, rfl⟩, by decide, inc_len, fun n u hu => ?_⟩
  simp only [inc, List.mem_cons, List.not_mem_nil, or_false] at hu
  subst hu; rfl
theorem make_ints (n : Nat) (hn : n ≤ 1000000) (w : World) : (Instr.makeSlice 151 (.int .i64 (n : Int)) (.int .i64 (n : Int))).run Tryz.prog w = .ok (.slice (some ⟨w.heap.size, 0, none⟩) n n) (w.alloc (.cells (madeCells #[.int .i64 0] n) 3)) := by
  obtain ⟨i, hi, hz0, hz1, hz2⟩ := info_parts int_info
  have := run_make (P := Tryz.prog) w 151 3 i _ Tryz.underlying151 hi hz0 .i64 .i64 n n (by omega) (by omega) (by rw [hz2]; omega) (by omega)
  rw [hz1, Int.toNat_natCast, Nat.mul_one] at this
  exact this

/-- How far the places are numbered. -/
def nums (n k : Nat) : List Int := (List.range n).map fun i => if i < k then (i : Int) else 0
theorem nums_len (n k : Nat) : (nums n k).length = n := by simp [nums]
theorem nums_zero (n : Nat) : nums n 0 = List.replicate n 0 := by
  apply List.ext_getElem <;> simp [nums]
theorem nums_at {n k : Nat} (h : k < n) : (nums n k)[k]? = some 0 := by simp [nums, h]
theorem nums_set {n k : Nat} : (nums n k).set k (k : Int) = nums n (k + 1) := by
  apply List.ext_getElem
  · simp [nums]
  · intro i h1 h2
    simp only [nums, List.getElem_set, List.getElem_map, List.getElem_range]
    by_cases e : k = i
    · subst e; simp
    · rw [if_neg e]
      congr 1
      rw [eq_iff_iff]; omega
theorem nums_all (n : Nat) : nums n n = (List.range n).map Int.ofNat := by
  apply List.ext_getElem
  · simp [nums]
  · intro i h1 h2
    simp [nums] at h1 ⊢
    exact fun h => absurd h (by omega)

end Go.Proofs.YtafbojiojeemoaaGreatDoor

/-
  What the library's Compare of two strings answers, and what val.byName compares by.
-/
namespace Go.Proofs.YtafbojiojeemoaaGreatDoor
open Go.RowKit Np

set_option maxHeartbeats 400000 in
theorem isNaNS_any (s : ByteArray) (w : World) :
    Calls Tryz.prog 187 #[.string s] w fun e w' => e = .returned (.bool false) ∧ w = w' := by
  go_enter Tryz.func187, Tryz.ntmps187
  go_wp2
  go_ret
  exact ⟨ret_bool (by simp), rfl⟩

set_option maxHeartbeats 400000 in
theorem cmpS_any (s t : ByteArray) (w : World) :
    Calls Tryz.prog 158 #[.string s, .string t] w fun e w' => e = .returned (.int .i64 (cmpB s.data.toList t.data.toList)) ∧ w = w' := by
  go_enter Tryz.func158, Tryz.ntmps158
  go_wp2_with (go_at_call 187; refine (isNaNS_any _ _).mono ?_; rintro e w' ⟨rfl, rfl⟩)
  · have h : Op.bytesLess s.toList t.toList = true := by assumption
    rw [ByteArray.toList_eq, ByteArray.toList_eq] at h
    go_ret
    exact ⟨ret_i64 (by rw [cmpB, if_pos h]), rfl⟩
  · have h : Op.bytesLess s.toList t.toList = false := by assumption
    have h2 : (!s.toList == t.toList) = true := by assumption
    rw [ByteArray.toList_eq, ByteArray.toList_eq] at h h2
    go_ret
    exact ⟨ret_i64 (by rw [cmpB, if_neg (by rw [h]; decide), if_neg (by simpa using h2)]), rfl⟩
  · have h : Op.bytesLess s.toList t.toList = false := by assumption
    have h2 : (!s.toList == t.toList) = false := by assumption
    rw [ByteArray.toList_eq, ByteArray.toList_eq] at h h2
    go_ret
    exact ⟨ret_i64 (by rw [cmpB, if_neg (by rw [h]; decide), if_pos (by simpa using h2)]), rfl⟩

set_option maxRecDepth 100000 in
set_option maxHeartbeats 1000000 in
theorem byNameC_any (names : List (List UInt8)) (B : Nat) (v : Value) (i j : Nat) (a b : List UInt8) (W : World) (ha : names[i]? = some a) (hb : names[j]? = some b) (hbox : W.cell? ⟨B, 0, none⟩ = some v) (hv : Sts W v names) :
    Calls Tryz.prog 157 #[.int .i64 i, .int .i64 j, .pointer (some ⟨B, 0, none⟩)] W fun e w' => e = .returned (.int .i64 (cmpB a b)) ∧ ∃ q, w' = W.drewN q := by
  obtain ⟨hi, -⟩ := List.getElem?_eq_some_iff.1 ha
  obtain ⟨hj, -⟩ := List.getElem?_eq_some_iff.1 hb
  obtain ⟨g, o, c, rfl, hc, hcm, hg, hx⟩ := hv.opened (by omega)
  have a0 := (hx i a ha).st
  have b0 := (hx j b hb).st
  clear hx hv ha hb
  generalize names.length = n at *
  have hi' : (i : Int) < n := by omega
  have hj' : (j : Int) < n := by omega
  have HC : Hid (∀ m, Calls Tryz.prog 158 #[.string ⟨a.toArray⟩, .string ⟨b.toArray⟩] (W.drewN m) fun e w' => e = .returned (.int .i64 (cmpB a b)) ∧ w' = W.drewN m) := Lib.hid fun m => (cmpS_any ⟨a.toArray⟩ ⟨b.toArray⟩ _).mono fun _ _ ⟨h1, h2⟩ => ⟨h1, h2.symm⟩
  go_enter Tryz.func157, Tryz.ntmps157
  go_wp2_with fail
  go_quiet ((go_at_call 158; exact Calls.quiet_of_same (HC.out _)))
  go_wp2_with fail
  go_ret
  exact ⟨rfl, _, rfl⟩
end Go.Proofs.YtafbojiojeemoaaGreatDoor

/-
  What val's rows tells, one by one: a value's parts, in order, each as it stands in the row.
-/
namespace Go.Proofs.YtafbojiojeemoaaGreatDoor
open Go.RowKit Go.Shelf Np Rw Vp
attribute [local go_sem] Oper.semAt_some

/-- A piece of a slice. -/
theorem Row.piece {α : Type} {enc : α → List Value} {sz g o c : Nat} {w : World} {l : List α} (h : Row enc sz w (.slice (some ⟨g, o, none⟩) l.length c) l) (k m : Nat) (hk : k + m ≤ l.length) :
    Row enc sz w (.slice (some ⟨g, o + k * sz, none⟩) m (c - k)) ((l.drop k).take m) := by
  obtain ⟨A, c', hv, hc, hm, -, H⟩ := h
  injection hv with e1 _ e3
  subst e1 e3
  have hl : ((l.drop k).take m).length = m := by simp; omega
  refine ⟨_, c - k, by rw [hl], by rw [hl]; omega, by omega, fun h => (by cases h), fun h0 => ?_⟩
  rw [hl] at h0
  obtain ⟨g', o', hA, hg, hx⟩ := H (by omega)
  injection hA with hA
  injection hA with e1 e2
  subst e1 e2
  refine ⟨g, o + k * sz, rfl, hg, fun i x hi => ?_⟩
  rw [List.getElem?_take] at hi
  split at hi
  · rw [List.getElem?_drop] at hi
    have := hx _ x hi
    rwa [Nat.add_mul, ← Nat.add_assoc] at this
  · cases hi
theorem Row.rest {α : Type} {enc : α → List Value} {sz g o c : Nat} {w : World} {l : List α} (h : Row enc sz w (.slice (some ⟨g, o, none⟩) l.length c) l) (k : Nat) (hk : k ≤ l.length) :
    Row enc sz w (.slice (some ⟨g, o + k * sz, none⟩) (l.length - k) (c - k)) (l.drop k) := by
  have := h.piece k (l.length - k) (by omega)
  rwa [List.take_of_length_le (by simp)] at this

/-- A part of a row: where it stands, and its tree. -/
abbrev Pt (L : List Nd) := { x : Nat × Tr Nd // okT many x.2 ∧ ∃ r, L.drop x.1 = flat x.2 ++ r }
abbrev ptv (g o c : Nat) {L : List Nd} (x : Pt L) : Value := .slice (some ⟨g, o + x.1.1 * 6, none⟩) (flat x.1.2).length (c - x.1.1)
def Spread (L : List Nd) : Nat → List (Tr Nd) → List (Pt L) → Prop
  | _, [], [] => True
  | p, t :: ts, x :: xs => x.1 = (p, t) ∧ Spread L (p + (flat t).length) ts xs
  | _, _, _ => False
theorem spread_ex {L : List Nd} : ∀ (ts : List (Tr Nd)) (p : Nat) (r : List Nd), okTs many ts → L.drop p = flats ts ++ r → ∃ xs, Spread L p ts xs
  | [], _, _, _, _ => ⟨[], trivial⟩
  | t :: ts, p, r, h, hd => by
    obtain ⟨h1, h2⟩ := okTs_cons.1 h
    rw [flats_cons, List.append_assoc] at hd
    obtain ⟨xs, hx⟩ := spread_ex ts (p + (flat t).length) r h2 (by rw [← List.drop_drop, hd, List.drop_left])
    exact ⟨⟨(p, t), h1, _, hd⟩ :: xs, rfl, hx⟩
theorem spread_trees {L : List Nd} : ∀ {ts : List (Tr Nd)} {p : Nat} {xs : List (Pt L)}, Spread L p ts xs → xs.map (fun x => x.1.2) = ts
  | [], _, [], _ => rfl
  | t :: ts, p, x :: xs, h => by
    obtain ⟨h1, h2⟩ := h
    rw [List.map_cons, spread_trees h2, h1]
  | [], _, _ :: _, h => h.elim
  | _ :: _, _, [], h => h.elim
theorem pt_row {L : List Nd} {w : World} {g o c : Nat} (h : Nds w (.slice (some ⟨g, o, none⟩) L.length c) L) (x : Pt L) : Nds w (ptv g o c x) (flat x.1.2) := by
  obtain ⟨⟨p, t⟩, h1, r, h2⟩ := x
  have hl := part_lt h2
  have := h.piece p (flat t).length hl
  rwa [h2, List.take_left] at this

/-- How long a slice is. -/
def lenS : Value → Nat
  | .slice _ n _ => n
  | _ => 0



end Go.Proofs.YtafbojiojeemoaaGreatDoor

/-
  A statement whose order is open, in the body of a loop over an iterator: what holds of it anywhere holds of it there (it defers nothing).
-/
namespace Go.Proofs.YtafbojiojeemoaaGreatDoor
open Go.RowKit

theorem rowsIn_of {P : Program} {r n : Nat} {row : String} {args : Array Value} {w : World} {R : Value → World → Prop} (h : Go.Rows P row args w R) : RowsIn (Fence.wide.inRound r) n P row args w R := by
  intro c cs _
  obtain ⟨v, w', hr, hs⟩ := h c cs
  exact ⟨v, w', hr, stepsIn_wide.2 hs⟩

/-- One operation. -/
theorem oper_round {P : Program} {r n : Nat} {o : Oper} {a : Act} {w : World} {K : Act → World → Prop} {Q : Exit → Act → World → Prop} (hd : ∀ c, o.op ≠ .defer c) (h : o.wp P a w K Q) : o.wpIn (Fence.wide.inRound r) n P a w K Q := by
  refine ⟨fun _ _ => trivial, ?_⟩
  rw [show o.semAt (Fence.wide.inRound r).round a.eval = execOp a.eval o from Oper.semAt_some r a.eval o hd]
  unfold Oper.wp at h
  generalize (execOp a.eval o).run P w = res at h ⊢
  match res, h with
  | .ok (.value v) w', h => exact h
  | .ok .skip w', h => exact h
  | .ok (.defer d) w', h => exact h
  | .ok (.enter f args) w', h => exact ⟨fun h' => (by cases h'), CallsIn.inRound r (callsIn_wide.2 h)⟩
  | .ok (.row row args) w', h => exact ⟨fun h' => (by cases h'), rowsIn_of h⟩
  | .halt (.panic v) w', h => exact h

/-- Operations in whatever order. -/
theorem any_round {P : Program} {r n : Nat} {md : Region.Mode} {ops : Array Oper} {Q : Exit → Act → World → Prop} (hd : ∀ (i : Nat) (o : Oper), ops[i]? = some o → ∀ c, o.op ≠ .defer c) (hQ : ¬ LetsOut Q) :
    ∀ (fuel : Nat) (listed : Array Bool) (a : Act) (w : World), wpAny P md ops Q fuel listed a w → wpAnyIn (Fence.wide.inRound r) n P md ops Q fuel listed a w
  | 0, _, _, _, h => h
  | fuel + 1, listed, a, w, h => by
    refine ⟨h.1, fun i hi => ?_⟩
    have h1 := h.2 i hi
    unfold wpOp at h1
    unfold wpOpIn
    cases ho : ops[i]? with
    | none => rw [ho] at h1; exact any_round hd hQ fuel _ _ _ h1
    | some o =>
      rw [ho] at h1
      simp only at h1 ⊢
      by_cases hw : Region.wanted o (yielded ops a.tmps) = true
      · rw [if_pos hw] at h1 ⊢
        rcases h1 with h1 | ⟨_, h1⟩
        · exact Oper.wpIn_mono (fun a' w' h' => any_round hd hQ fuel _ a' w' h') (oper_round (hd i o ho) h1)
        · exact absurd h1 hQ
      · rw [if_neg hw] at h1 ⊢
        exact ⟨fun _ _ => trivial, any_round hd hQ fuel _ _ _ h1⟩
def noDefer (o : Oper) : Bool := match o.op with | .defer _ => false | _ => true
theorem region_round {P : Program} {r n id : Nat} {ops : Array Oper} {Q : Exit → Act → World → Prop} {a : Act} {w : World} (hm : P.follows .mixedOrders = true) (hd : ops.all noDefer = true) (hQ : ¬ LetsOut Q)
    (h : wpAny P .any ops Q ops.size (Array.replicate ops.size false) a w.drew) : (Code.region id ops true).wpIn (Fence.wide.inRound r) n P Q a w := by
  refine wpIn_region_any hm (any_round (fun i o ho c hc => ?_) hQ _ _ _ _ h)
  have h1 := Array.all_eq_true'.1 hd o (Array.mem_of_getElem? ho)
  unfold noDefer at h1
  rw [hc] at h1
  cases h1
theorem outgrown_no {α : Type} {B : Nat} {Kp : World → World → Prop} {I : List α → World → Prop} {Ix : Code → List α → World → Prop} {xs : List α} {W : World} : ¬ LetsOut (ownPostG B Kp I Ix xs W) := fun ⟨_, _, h⟩ => h
/-- What is left comes up in one order alone. -/
theorem any_tail {P : Program} {md : Region.Mode} {ops : Array Oper} {Q : Exit → Act → World → Prop} {listed : Array Bool} {a : Act} {w : World} (n fuel : Nat) (hf : ops.size = n + fuel) (hB : Region.seqB md ops fuel n listed = true)
    (h : wpList P ops Q (ops.toList.drop n) a w) : wpAny P md ops Q fuel listed a w := by
  have hl : (ops.toList.drop n).length = fuel := by simp; omega
  have := wpAny_of_seq (md := md) (ops.toList.drop n) n listed a w (fun j => by simp [List.getElem?_drop]) (by rw [hl]; exact hB) h
  rwa [hl] at this
/-- An operation that reads is taken first: its value, whatever else has come up. -/
theorem take_read {P : Program} {md : Region.Mode} {l : List Oper} {Q : Exit → Act → World → Prop} {S : World → Prop} {T : List Value} {ds : List Deferred} (i d : Nat) (v : Value) {oi : Oper} {fuel : Nat} {listed : Array Bool} {w : World} (hi : l[i]? = some oi) (hd : oi.dst = some d)
    (hs : Region.noSelect l.toArray = true) (hf : Region.free md l.toArray listed i = true) (hr : (Region.ready md l.toArray listed).contains i = true) (hQ : ∀ c a w, Q (.panic c) (a.put oi.dst v) w → Q (.panic c) a w)
    (hw : Region.wanted oi (yielded l.toArray T.toArray) = true) (hrun : ∀ w, S w → (execOp (Act.eval { tmps := T.toArray, defers := ds }) oi).run P w = .ok (.value v) w) (hS : S w)
    (h : wpAnyH P md l.toArray Q S fuel (listed.setIfInBounds i true) { tmps := (T.set d v).toArray, defers := ds } w) : wpAnyH P md l.toArray Q S (fuel + 1) listed { tmps := T.toArray, defers := ds } w := by
  refine wpAnyH_take (i := i) (v := v) (by simpa using hi) hs hf hr hQ (.inl ⟨hw, hrun⟩) hS ?_
  rw [hd, Act.put]
  simpa using h
theorem block_no {id : Nat} {Q : Exit → Act → World → Prop} (h : ¬ LetsOut Q) : ¬ LetsOut (Exit.inBlock id Q) := fun ⟨a, w, hq⟩ => h ⟨a, w, hq⟩
end Go.Proofs.YtafbojiojeemoaaGreatDoor

/-
  What val.Parts and val.Names answer.
-/
namespace Go.Proofs.YtafbojiojeemoaaGreatDoor
open Go.RowKit Go.Shelf Np Rw Vp
attribute [local go_sem] Oper.semAt_some

/-- A part as a value of its own. -/
def clr (t : Tr Nd) : Tr Nd := .mk (noName t.nd) t.ks
theorem flat_clr (t : Tr Nd) : flat (clr t) = noName t.nd :: flats t.ks := by rw [clr, flat_mk]
theorem flat_clr_len (t : Tr Nd) : (flat (clr t)).length = (flat t).length := by rw [flat_clr, flat_eq t]; rfl

section
variable {α : Type} {enc : α → List Value} {sz : Nat} {W W' : World} {v : Value} {l : List α}
/-- A row reads on, where only what is no cells turns. -/
theorem Row.turned {row : Option Nat} (h : Row enc sz W v l) (hg : W.grownBy W' row) (hr : ∀ r, row = some r → ∃ o : Obj, W.heap[r]? = some o ∧ o.isCells = false) : Row enc sz W' v l := by
  obtain ⟨A, c, hv, hc, hm, hz, H⟩ := h
  refine ⟨A, c, hv, hc, hm, hz, fun h0 => ?_⟩
  obtain ⟨g, o, hA, hlt, hx⟩ := H h0
  exact ⟨g, o, hA, Nat.lt_of_lt_of_le hlt hg.size, fun k x hk j u hu => cell_kept (hx k x hk j u hu) hg hr⟩
end
theorem keeps_below {W W' : World} (h : Below W.heap.size W W') : KeepsOthers W W' :=
  ⟨h.size, fun k o hk _ => by
    rw [h.block k (Array.getElem?_eq_some_iff.1 hk).1]; exact hk⟩

/-- Slices of the call's own, each of which reads as a row. -/
def Elems (base : Nat) (W : World) (zs : List (Option Addr × Nat × Nat)) (L : List (List Nd)) : Prop := zs.length = L.length ∧ ∀ (k : Nat) (z : Option Addr × Nat × Nat) (l : List Nd), zs[k]? = some z → L[k]? = some l → OwnN base W (.slice z.1 z.2.1 z.2.2) l
theorem Elems.below {base : Nat} {W W' : World} {zs : List (Option Addr × Nat × Nat)} {L : List (List Nd)} (h : Elems base W zs L) (hb : Below W.heap.size W W') : Elems base W' zs L := ⟨h.1, fun k z l h1 h2 => (h.2 k z l h1 h2).below hb⟩
theorem Elems.snoc {base : Nat} {W : World} {zs : List (Option Addr × Nat × Nat)} {L : List (List Nd)} {z : Option Addr × Nat × Nat} {l : List Nd} (h : Elems base W zs L) (hz : OwnN base W (.slice z.1 z.2.1 z.2.2) l) : Elems base W (zs ++ [z]) (L ++ [l]) := by
  refine ⟨by simp [h.1], fun k y m h1 h2 => ?_⟩
  rw [List.getElem?_append] at h1 h2
  rw [h.1] at h1
  split at h1
  · rename_i hk
    rw [if_pos hk] at h2
    exact h.2 k y m h1 h2
  · rename_i hk
    rw [if_neg hk] at h2
    have : k - L.length = 0 := by
      have := (List.getElem?_eq_some_iff.1 h1).1
      simp at this; omega
    rw [this] at h1 h2
    simp at h1 h2
    subst h1 h2
    exact hz
theorem Elems.vls {base : Nat} {W : World} {v : Value} {zs : List (Option Addr × Nat × Nat)} {L : List (List Nd)} (h : Elems base W zs L) (hr : Row slc 1 W v zs) : Vls W v L := by
  refine ⟨zs.map (fun z => .slice z.1 z.2.1 z.2.2), by simp [h.1], ?_, ?_⟩
  · obtain ⟨A, c, hv, hc, hm, hz, H⟩ := hr
    refine ⟨A, c, by simpa using hv, by simpa using hc, hm, hz, fun h0 => ?_⟩
    obtain ⟨g, o, hA, hlt, hx⟩ := H (by simpa using h0)
    refine ⟨g, o, hA, hlt, fun k x hk => ?_⟩
    rw [List.getElem?_map, Option.map_eq_some_iff] at hk
    obtain ⟨z, hz1, rfl⟩ := hk
    exact hx k z hz1
  · intro k x l hx hl
    rw [List.getElem?_map, Option.map_eq_some_iff] at hx
    obtain ⟨z, hz1, rfl⟩ := hx
    exact (h.2 k z l hz1 hl).row ndc_len

theorem Own.turned {α : Type} {enc : α → List Value} {sz E base : Nat} {W W' : World} {v : Value} {l : List α} {row : Option Nat} (h : Own enc sz E base W v l) (hg : W.grownBy W' row) (hr : ∀ r, row = some r → ∃ o : Obj, W.heap[r]? = some o ∧ o.isCells = false) : Own enc sz E base W' v l := by
  refine World.ownsRow.kept h hg ?_
  rcases h.2 with ⟨rfl, _⟩ | ⟨g, cap, cur, rfl, _, hh, _⟩
  · exact .inl rfl
  · refine .inr (fun e => ?_)
    obtain ⟨o, ho, hc⟩ := hr g e.symm
    rw [hh] at ho
    injection ho with ho
    subst ho
    cases hc
theorem boxed_turned {W W' : World} {B t : Nat} {v : Value} {row : Option Nat} (h : Boxed W B t v) (hg : W.grownBy W' row) (hr : ∀ r, row = some r → ∃ o : Obj, W.heap[r]? = some o ∧ o.isCells = false) : Boxed W' B t v := by
  refine h.kept hg (fun e => ?_)
  obtain ⟨o, ho, hc⟩ := hr B e.symm
  rw [show W.heap[B]? = _ from h] at ho
  injection ho with ho
  subst ho
  cases hc
/-- What comes out is a slice of rows. -/
def GivesV (w : World) (L : List (List Nd)) (e : Ending) (w' : World) : Prop := ∃ v', e = .returned v' ∧ Vls w' v' L ∧ Below w.heap.size w w'
def GivesS (w : World) (L : List (List UInt8)) (e : Ending) (w' : World) : Prop := ∃ v', e = .returned v' ∧ Sts w' v' L ∧ Below w.heap.size w w'

/-- Between two rounds of Parts. -/
def PI {L : List Nd} (w : World) (pre : List (Pt L)) (W : World) : Prop :=
  (∃ v zs, Boxed W w.heap.size 41 v ∧ Own slc 1 24 w.heap.size W v zs ∧ Elems w.heap.size W zs (pre.map fun x => flat (clr x.1.2))) ∧ Below w.heap.size w W
theorem PI.own {L : List Nd} (w : World) (B : Nat) (hB : w.heap.size ≤ B) : OwnFrom B (PI (L := L) w) := by
  intro s W W' row hs hg hr
  obtain ⟨⟨v, zs, h1, h2, h3⟩, h4⟩ := hs
  have hr' : ∀ r, row = some r → ∃ o : Obj, W.heap[r]? = some o ∧ o.isCells = false := fun r e => (hr r e).2
  refine ⟨⟨v, zs, boxed_turned h1 hg hr', h2.turned hg hr', h3.1, fun k z l a b => (h3.2 k z l a b).turned hg hr'⟩, ?_⟩
  exact ownFrom_below (β := Unit) (Nat.le_refl _) hB () W W' row h4 hg hr

/-- Slices of the call's own, of different elements, share no block. -/
theorem own_apart {W : World} {b1 b2 e1 e2 s1 s2 n1 n2 : Nat} {v1 v2 : Value} {x1 x2 : List Value} (h1 : W.ownsRow b1 e1 s1 v1 n1 x1) (h2 : W.ownsRow b2 e2 s2 v2 n2 x2) (he : e1 ≠ e2) : v1.ownBlock = none ∨ v1.ownBlock ≠ v2.ownBlock := by
  rcases h1.2 with ⟨rfl, _⟩ | ⟨g1, c1, u1, rfl, _, k1, _⟩
  · exact .inl rfl
  · refine .inr (fun e => ?_)
    rcases h2.2 with ⟨rfl, _⟩ | ⟨g2, c2, u2, rfl, _, k2, _⟩
    · cases e
    · cases e
      rw [k1] at k2
      injection k2 with k2
      injection k2 with _ k2
      exact he k2
/-- One more part is laid behind. -/
theorem PI.step {L : List Nd} {w W W1 W3 : World} {pre : List (Pt L)} {x : Pt L} {v0 : Value} {zs : List (Option Addr × Nat × Nat)} {z : Option Addr × Nat × Nat} {v3 : Value} (hb0 : Boxed W w.heap.size 41 v0) (hown : Own slc 1 24 w.heap.size W v0 zs)
    (hel : Elems w.heap.size W zs (pre.map fun x => flat (clr x.1.2))) (hB : Below w.heap.size w W) (h1 : Below W.heap.size W W1) (hz : OwnN w.heap.size W1 (.slice z.1 z.2.1 z.2.2) (flat (clr x.1.2)))
    (h3 : Own slc 1 24 w.heap.size W3 v3 (zs ++ [z])) (hg : (W1.alloc (.cells #[.slice z.1 z.2.1 z.2.2] 24)).grownBy W3 v0.ownBlock) :
    Boxed W3 w.heap.size 41 v0 ∧ KeepsOthers W (W3.setCell ⟨w.heap.size, 0, none⟩ v3) ∧ Below w.heap.size W (W3.setCell ⟨w.heap.size, 0, none⟩ v3) ∧ PI w (pre ++ [x]) (W3.setCell ⟨w.heap.size, 0, none⟩ v3) := by
  have hbx := hb0.lt
  have hBs := hB.size
  have h2 : Below W.heap.size W (W1.alloc (.cells #[.slice z.1 z.2.1 z.2.2] 24)) := h1.alloc h1.size _
  have hz2 := h2.size
  have hb2 : Boxed (W1.alloc (.cells #[.slice z.1 z.2.1 z.2.2] 24)) w.heap.size 41 v0 := (h2.block _ hbx).trans hb0
  have ho2 : Own slc 1 24 w.heap.size (W1.alloc (.cells #[.slice z.1 z.2.1 z.2.2] 24)) v0 zs := hown.below h2
  have hne : some w.heap.size ≠ v0.ownBlock := hb2.not_row (by decide) ho2
  have hb3 : Boxed W3 w.heap.size 41 v0 := hb2.kept hg hne
  have hne3 : v3.ownBlock ≠ some w.heap.size := fun e => (hb3.not_row (by decide) h3) e.symm
  have hlow : Below w.heap.size W W3 := (h2.mono hBs).trans (ho2.kept hg (by omega))
  have hset := hlow.setCell (p := ⟨w.heap.size, 0, none⟩) (Nat.le_refl _) v3
  refine ⟨hb3, ?_, hset, ⟨v3, zs ++ [z], hb3.set v3, ?_, ?_⟩, hB.trans hset⟩
  · refine ((keeps_below h2).trans (KeepsOthers.of_grownBy hg (fun j o e ho => ?_))).trans (KeepsOthers.setCell _ _ _)
    obtain ⟨g, cap, cur, hv, _, hh, _⟩ := (ho2.2).resolve_left (fun h => by rw [h.1] at e; cases e)
    rw [hv] at e
    cases e
    rw [hh] at ho
    cases ho
    rfl
  · exact ownsRow_setCell_other h3 hne3 v3
  · have hk : ∀ {v : Value} {l : List Nd}, OwnN w.heap.size (W1.alloc (.cells #[.slice z.1 z.2.1 z.2.2] 24)) v l → OwnN w.heap.size (W3.setCell ⟨w.heap.size, 0, none⟩ v3) v l := by
      intro v l hn
      have hn3 : OwnN w.heap.size W3 v l := World.ownsRow.kept hn hg (own_apart hn ho2 (by decide))
      exact ownsRow_setCell_other hn3 (fun e => (hb3.not_row (by decide) hn3) e.symm) v3
    rw [List.map_append, List.map_singleton]
    exact Elems.snoc ⟨hel.1, fun k y l a b => hk ((hel.2 k y l a b).below h2)⟩ (hk (hz.alloc _))

end Go.Proofs.YtafbojiojeemoaaGreatDoor
