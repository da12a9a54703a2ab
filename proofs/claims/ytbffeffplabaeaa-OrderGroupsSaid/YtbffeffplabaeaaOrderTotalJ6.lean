/-
  Joined: RefW4, Own, Own2.
-/
import Derived.Test.YtbffeffplabaeaaOrderTotalJ3
import Derived.Test.YtbffeffplabaeaaOrderTotalJ4
import Derived.Test.YtbffeffplabaeaaOrderTotalJ5
import Derived.Test.YtbffeffplabaeaaOrderTotalJ2
import Derived.WalkSmall
import Derived.Laws.AppendOwnNone
import Derived.Deep.DeepCutAuto
import Derived.ChangeAlike
import Derived.Deep.MidRow
import Derived.Deep.OwnRows

/-
  What the document's own answer plain is; what val's rightNode answers.
-/
namespace Go.Proofs.Ytbffeffplabaeaa
open Go.RowKit Np Rw Vp

theorem plainN_low {n : Nd} (h : n.kind = 0 ∨ n.kind = 1 ∨ n.kind = 2) : plainN n = (decide (n.many = 0) && decide (n.s = []) && !n.neg && decide (n.e = 0)) := by rw [plainN, if_pos h]
theorem plainN_num {n : Nd} (h : n.kind = 3) : plainN n = right { n with name := [] } := by rw [plainN, if_neg (by omega), if_pos h]
theorem plainN_str {n : Nd} (h : n.kind = 4) : plainN n = (decide (n.many = 0) && vld n.s && !n.neg && decide (n.e = 0)) := by rw [plainN, if_neg (by omega), if_neg (by omega), if_pos h]
theorem plainN_cont {n : Nd} (h : n.kind = 5 ∨ n.kind = 6) : plainN n = (decide (0 ≤ n.many) && decide (n.s = []) && !n.neg && decide (n.e = 0)) := by rw [plainN, if_neg (by omega), if_neg (by omega), if_neg (by omega), if_pos h]
theorem plainN_none {n : Nd} (h : n.kind < 0 ∨ 6 < n.kind) : plainN n = false := by rw [plainN, if_neg (by omega), if_neg (by omega), if_neg (by omega), if_neg (by omega)]

theorem sameNode_self (k m : Int) (s : List UInt8) (g : Bool) (x : Int) (m2 : Int) (s2 : ByteArray) : sameNode k m ⟨#[]⟩ ⟨s.toArray⟩ g x k m2 ⟨#[]⟩ s2 false 0 = (decide (m = m2) && decide (s = s2.data.toList) && !g && decide (x = 0)) := by
  unfold sameNode
  have : (ByteArray.mk s.toArray = s2) = (s = s2.data.toList) := by
    apply propext
    constructor
    · rintro rfl; rfl
    · rintro rfl; rfl
  rw [Bool.eq_iff_iff]
  simp [this]
  cases g <;> simp [and_assoc]

set_option maxHeartbeats 2000000 in
theorem refPlain_any (n : Nd) (w : World) (hs : n.s.length ≤ maxLen) :
    Calls Try.prog 41 #[nda n] w fun e w' => e = .returned (.bool (plainN n)) ∧ Below w.heap.size w w' := by
  have hB : Below w.heap.size w w := Below.refl _ _
  have heql := eql_node
  obtain ⟨k, m, nm, s, g, x⟩ := n
  simp only at hs ⊢
  have hs' : (ByteArray.mk s.toArray).size ≤ maxLen := hs
  by_cases h3 : k = 3
  · have HP := Lib.hid (plainN_num (n := ⟨k, m, nm, s, g, x⟩) h3)
    subst h3
    go_enter Try.func41, Try.ntmps41
    go_wp2_with fail
    refine (refRight_any _ _ _ _ _ _ _ hs').mono ?_
    rintro e w1 ⟨rfl, hb1⟩
    go_wp2_with fail
    go_ret
    refine ⟨ret_bool (by rw [HP.out]), ?_⟩
    exact (hB.alloc (Nat.le_refl _) _).trans (hb1.mono (by simp))
  by_cases h4 : k = 4
  · have HP := Lib.hid (plainN_str (n := ⟨k, m, nm, s, g, x⟩) h4)
    subst h4
    cases hv : vld s
    · have HV := Lib.hid hv; clear hv
      go_enter Try.func41, Try.ntmps41
      go_wp2_with fail
      refine (refUtf_any _ _ hs').mono ?_
      rintro e w1 ⟨rfl, rfl⟩
      rw [show Lib.validD (ByteArray.mk s.toArray).data.toList = false from HV.out]
      go_wp2_with fail
      go_ret
      exact ⟨ret_bool (by rw [HP.out]; simp [HV.out]), hB.alloc (Nat.le_refl _) _⟩
    · have HV := Lib.hid hv; clear hv
      go_enter Try.func41, Try.ntmps41
      go_wp2_with fail
      refine (refUtf_any _ _ hs').mono ?_
      rintro e w1 ⟨rfl, rfl⟩
      rw [show Lib.validD (ByteArray.mk s.toArray).data.toList = true from HV.out]
      go_wp2_with fail
      go_ret
      refine ⟨ret_bool ?_, hB.alloc (Nat.le_refl _) _⟩
      rw [HP.out, sameNode_self]
      simp [HV.out]
  by_cases h0 : k = 0 ∨ k = 1 ∨ k = 2
  · have HP := Lib.hid (plainN_low (n := ⟨k, m, nm, s, g, x⟩) h0)
    rcases h0 with rfl | rfl | rfl
    all_goals
      go_enter Try.func41, Try.ntmps41
      go_wp2_with fail
      go_ret
      refine ⟨ret_bool ?_, hB.alloc (Nat.le_refl _) _⟩
      rw [HP.out, sameNode_self]
  by_cases h5 : k = 5 ∨ k = 6
  · have HP := Lib.hid (plainN_cont (n := ⟨k, m, nm, s, g, x⟩) h5)
    rcases h5 with rfl | rfl
    all_goals
      clear h0
      go_enter Try.func41, Try.ntmps41
      go_wp2_with fail
      · go_ret
        refine ⟨ret_bool ?_, hB.alloc (Nat.le_refl _) _⟩
        have h : 0 ≤ m := by assumption
        rw [HP.out, sameNode_self]
        simp [h]
      · go_ret
        refine ⟨ret_bool ?_, hB.alloc (Nat.le_refl _) _⟩
        have h : m < 0 := by assumption
        rw [HP.out, show decide (0 ≤ m) = false by simp; omega]
        rfl
  · have HP := Lib.hid (plainN_none (n := ⟨k, m, nm, s, g, x⟩) (by simp only; omega))
    have e0 : (k == 0) = false := by simp; omega
    have e1 : (k == 1) = false := by simp; omega
    have e2 : (k == 2) = false := by simp; omega
    have e3 : (k == 3) = false := by simp; omega
    have e4 : (k == 4) = false := by simp; omega
    have e5 : (k == 5) = false := by simp; omega
    have e6 : (k == 6) = false := by simp; omega
    clear h0 h3 h4 h5
    go_enter Try.func41, Try.ntmps41
    go_wp2_with fail
    go_ret
    exact ⟨ret_bool HP.out.symm, hB.alloc (Nat.le_refl _) _⟩
end Go.Proofs.Ytbffeffplabaeaa

/-
  Slices of the call's own: they read as a list, they are written and appended to, nothing else turns.
-/
namespace Go.Proofs.Ytbffeffplabaeaa
open Go.RowKit Np

theorem flat_len {α : Type} {enc : α → List Value} {sz : Nat} (h : ∀ x, (enc x).length = sz) (l : List α) : (l.flatMap enc).length = l.length * sz := by
  induction l with
  | nil => simp
  | cons x l ih => simp [h x, ih, Nat.add_mul, Nat.add_comm]
theorem flat_at {α : Type} {enc : α → List Value} {sz : Nat} (h : ∀ x, (enc x).length = sz) : ∀ (l : List α) (k : Nat) (x : α) (j : Nat), l[k]? = some x → j < sz → (l.flatMap enc)[k * sz + j]? = (enc x)[j]?
  | [], _, _, _, hk, _ => by simp at hk
  | a :: l, 0, x, j, hk, hj => by
    simp at hk; subst hk
    rw [List.flatMap_cons, Nat.zero_mul, Nat.zero_add, List.getElem?_append_left (by rw [h]; exact hj)]
  | a :: l, k + 1, x, j, hk, hj => by
    rw [List.flatMap_cons, List.getElem?_append_right (by rw [h, Nat.add_mul]; omega), h, show (k + 1) * sz + j - sz = k * sz + j by rw [Nat.add_mul]; omega]
    exact flat_at h l k x j (by simpa using hk) hj
/-- Which element, and which cell of it. -/
theorem flat_split {α : Type} {enc : α → List Value} {sz : Nat} (h : ∀ x, (enc x).length = sz) (hp : 0 < sz) (l : List α) (i : Nat) (u : Value) (hi : (l.flatMap enc)[i]? = some u) : ∃ x, l[i / sz]? = some x ∧ (enc x)[i % sz]? = some u := by
  have hlt : i < l.length * sz := by
    have := (List.getElem?_eq_some_iff.1 hi).1
    rwa [flat_len h] at this
  have hk : i / sz < l.length := (Nat.div_lt_iff_lt_mul hp).2 hlt
  refine ⟨l[i / sz], List.getElem?_eq_getElem hk, ?_⟩
  rw [← flat_at h l (i / sz) l[i / sz] (i % sz) (List.getElem?_eq_getElem hk) (Nat.mod_lt _ hp), Nat.div_add_mod' i sz]
  exact hi
theorem flat_put {α : Type} {enc : α → List Value} {sz : Nat} (h : ∀ x, (enc x).length = sz) : ∀ (l : List α) (k : Nat) (x y : α) (j : Nat) (u : Value), l[k]? = some x → j < sz → (enc x).set j u = enc y →
    (l.flatMap enc).set (k * sz + j) u = (l.set k y).flatMap enc
  | [], _, _, _, _, _, hk, _, _ => by simp at hk
  | a :: l, 0, x, y, j, u, hk, hj, hy => by
    simp at hk; subst hk
    rw [List.flatMap_cons, Nat.zero_mul, Nat.zero_add, List.set_append_left _ _ (by rw [h]; exact hj), hy]; rfl
  | a :: l, k + 1, x, y, j, u, hk, hj, hy => by
    rw [List.flatMap_cons, List.set_append_right _ _ (by rw [h, Nat.add_mul]; omega), h, show (k + 1) * sz + j - sz = k * sz + j by rw [Nat.add_mul]; omega, flat_put h l k x y j u (by simpa using hk) hj hy]; rfl

/-- A slice of the call's own: it reads as this list. -/
def Own {α : Type} (enc : α → List Value) (sz : Nat) (E : TypeId) (base : Nat) (w : World) (v : Value) (l : List α) : Prop := w.ownsRow base E sz v l.length (l.flatMap enc)

/-- What elements a type of slices has. -/
structure Elem {α : Type} (P : Program) (T E : TypeId) (enc : α → List Value) (sz bys : Nat) : Prop where
  und : P.underlying T = some (.slice E)
  inf : ∃ i z, P.info? E = some i ∧ i.zero = some z ∧ i.size = sz ∧ i.bytes = bys ∧ z.cells.size = sz
  pos : 0 < sz
  len : ∀ x, (enc x).length = sz
  one : ∀ x, ∀ u ∈ enc x, u.oneCell' = true

section
variable {α : Type} {enc : α → List Value} {sz E base : Nat} {w w' : World} {v : Value} {l : List α}
theorem Own.nil (w : World) : Own enc sz E base w (.slice none 0 0) ([] : List α) := World.ownsRow_nil w base E sz
theorem Own.opened (h : Own enc sz E base w v l) (h0 : 0 < l.length) : ∃ g cap, v = .slice (some ⟨g, 0, none⟩) l.length cap ∧ base ≤ g ∧ g < w.heap.size := World.ownsRow.form h h0
theorem Own.form (h : Own enc sz E base w v l) : ∃ (A : Option Addr) (c : Nat), v = .slice A l.length c ∧ l.length ≤ c ∧ c ≤ maxLen ∧ (A = none → c = 0) := by
  rcases h.2 with ⟨rfl, h0⟩ | ⟨g, cap, cur, rfl, _, _, h1, h2, _⟩
  · exact ⟨none, 0, by rw [h0], by omega, Nat.zero_le _, fun _ => rfl⟩
  · exact ⟨_, cap, rfl, h1, h2, fun h => (by cases h)⟩
theorem Own.cap {A : Option Addr} {n c : Nat} (h : Own enc sz E base w (.slice A n c) l) : n = l.length ∧ n ≤ c ∧ c ≤ maxLen := by
  obtain ⟨B, d, hv, h1, h2, _⟩ := h.form
  injection hv with _ e2 e3
  subst e2 e3
  exact ⟨rfl, h1, h2⟩
theorem Own.row (hl : ∀ x, (enc x).length = sz) (h : Own enc sz E base w v l) : Row enc sz w v l := by
  obtain ⟨A, c, hv, h1, h2, h3⟩ := h.form
  refine ⟨A, c, hv, h1, h2, h3, fun h0 => ?_⟩
  obtain ⟨g, cap, hv', hg, hlt⟩ := h.opened h0
  rw [hv] at hv'
  injection hv' with e1 _ e3
  subst e1 e3
  refine ⟨g, 0, rfl, hlt, fun k x hk j u hu => ?_⟩
  have hj : j < sz := by rw [← hl x]; exact (List.getElem?_eq_some_iff.1 hu).1
  have hkl : k < l.length := (List.getElem?_eq_some_iff.1 hk).1
  subst hv
  have := World.ownsRow.cellAt h (k * sz + j) (by
    have : (k + 1) * sz ≤ l.length * sz := Nat.mul_le_mul_right _ hkl
    rw [Nat.add_mul] at this; omega)
  rw [flat_at hl l k x j hk hj, hu] at this
  rw [Nat.zero_add]
  exact this
/-- Nothing below turns, where only a slice of the call's own does. -/
theorem Own.kept (h : Own enc sz E base w v l) (hg : w.grownBy w' v.ownBlock) (hb : base ≤ w.heap.size) : Below base w w' :=
  (Below.refl base w).grown hg hb (fun k e => (World.ownsRow.lt h k e).1)
theorem Own.mono {base' : Nat} (h : Own enc sz E base w v l) (hb : base' ≤ base) : Own enc sz E base' w v l := by
  obtain ⟨h1, h2⟩ := h
  rcases h2 with h2 | ⟨g, cap, cur, a, b, c⟩
  · exact ⟨h1, .inl h2⟩
  · exact ⟨h1, .inr ⟨g, cap, cur, a, Nat.le_trans hb b, c⟩⟩
theorem Own.alloc (h : Own enc sz E base w v l) (o : Obj) : Own enc sz E base (w.alloc o) v l := World.ownsRow.alloc h o
theorem Own.drewN (h : Own enc sz E base w v l) (n : Nat) : Own enc sz E base (w.drewN n) v l := h
theorem Own.drew (h : Own enc sz E base w v l) : Own enc sz E base w.drew v l := h
theorem Own.below (h : Own enc sz E base w v l) (hb : Below w.heap.size w w') : Own enc sz E base w' v l := by
  refine World.ownsRow.kept h (row := none) ⟨hb.os, hb.tape, hb.output, hb.size, fun k hk _ => hb.block k hk⟩ ?_
  cases hv : v.ownBlock with
  | none => exact .inl rfl
  | some k => exact .inr (by simp)
/-- One cell of an element is written. -/
theorem Own.put (hl : ∀ x, (enc x).length = sz) {g cap k j : Nat} {x y : α} {u : Value} (h : Own enc sz E base w (.slice (some ⟨g, 0, none⟩) l.length cap) l) (hk : l[k]? = some x) (hj : j < sz) (hy : (enc x).set j u = enc y) :
    Own enc sz E base (w.setCell ⟨g, k * sz + j, none⟩ u) (.slice (some ⟨g, 0, none⟩) l.length cap) (l.set k y) := by
  have h1 := (World.ownsRow.stored h (k * sz + j) u).1
  rw [flat_put hl l k x y j u hk hj hy] at h1
  unfold Own
  rw [List.length_set]
  exact h1
theorem Own.cell (hl : ∀ x, (enc x).length = sz) {g cap k j : Nat} {x : α} {u : Value} (h : Own enc sz E base w (.slice (some ⟨g, 0, none⟩) l.length cap) l) (hk : l[k]? = some x) (hu : (enc x)[j]? = some u) : w.cell? ⟨g, k * sz + j, none⟩ = some u := by
  have hj : j < sz := by rw [← hl x]; exact (List.getElem?_eq_some_iff.1 hu).1
  have hkl : k < l.length := (List.getElem?_eq_some_iff.1 hk).1
  rw [World.ownsRow.cellAt h (k * sz + j) (by
    have : (k + 1) * sz ≤ l.length * sz := Nat.mul_le_mul_right _ hkl
    rw [Nat.add_mul] at this; omega), flat_at hl l k x j hk hj, hu]
theorem Own.free {g cap : Nat} (h : Own enc sz E base w (.slice (some ⟨g, 0, none⟩) l.length cap) l) (j : Nat) : w.frozen? ⟨g, j, none⟩ = false := World.ownsRow.frozenAt h j
theorem Own.lt {g cap : Nat} (h : Own enc sz E base w (.slice (some ⟨g, 0, none⟩) l.length cap) l) : base ≤ g ∧ g < w.heap.size := World.ownsRow.lt h g rfl
/-- The last one is taken off. -/
theorem Own.pop (hl : ∀ x, (enc x).length = sz) {g cap : Nat} {x : α} (h : Own enc sz E base w (.slice (some ⟨g, 0, none⟩) (l.length + 1) cap) (l ++ [x])) : Own enc sz E base w (.slice (some ⟨g, 0, none⟩) l.length cap) l := by
  unfold Own at h ⊢
  rw [List.length_append, List.length_singleton, List.flatMap_append] at h
  exact ownsRow_pop (flat_len hl l) h
/-- Made of a literal. -/
theorem Own.lit (hl : ∀ x, (enc x).length = sz) (w : World) (cs : Array Value) (l : List α) (hb : base ≤ w.heap.size) (hm : l.length ≤ maxLen) (hcs : cs.toList = l.flatMap enc) : Own enc sz E base (w.alloc (.cells cs E)) (.slice (some ⟨w.heap.size, 0, none⟩) l.length l.length) l := by
  unfold Own
  rw [← hcs]
  exact World.ownsRow_lit w cs l.length hb hm (by rw [← Array.length_toList, hcs, flat_len hl])
theorem Row.lit (hl : ∀ x, (enc x).length = sz) (w : World) (E : TypeId) (cs : Array Value) (l : List α) (hm : l.length ≤ maxLen) (hcs : cs.toList = l.flatMap enc) : Row enc sz (w.alloc (.cells cs E)) (.slice (some ⟨w.heap.size, 0, none⟩) l.length l.length) l :=
  (Own.lit (base := 0) hl w cs l (Nat.zero_le _) hm hcs).row hl
end

section
variable {α : Type} {P : Program} {enc : α → List Value} {T E sz bys base : Nat} {w : World}
/-- At the operation 'append(v, x...)': v is the call's own, x any slice. -/
theorem wpList_append_row (el : Elem P T E enc sz bys) {ops : Array Oper} {rest : List Oper} {o : Oper} {a : Act} {Q : Exit → Act → World → Prop} (hgd : o.guard = none) (s x : Operand)
    (ho : o.op = .call { callee := .builtin .append, args := #[s, x], argTypes := #[T, T] }) {v r : Value} {l l2 : List α} (hs : a.eval s = v) (hown : Own enc sz E base w v l) (hx : a.eval x = r) (hr : Row enc sz w r l2)
    (h63 : l.length + l2.length ≤ maxLen) (hby : (l.length + l2.length) * bys ≤ 140737488355328) (hbase : base ≤ w.heap.size)
    (h : ∀ (A : Option Addr) (c : Nat) (w' : World), Own enc sz E base w' (.slice A (l ++ l2).length c) (l ++ l2) → w.grownBy w' v.ownBlock → ((Value.slice A (l ++ l2).length c).ownBlock = v.ownBlock ∨ (Value.slice A (l ++ l2).length c).ownBlock = some w.heap.size) →
      wpList P ops Q rest (a.put o.dst (.slice A (l ++ l2).length c)) w') : wpList P ops Q (o :: rest) a w := by
  obtain ⟨i, z, hi, hz, hsize, hbytes, hzs⟩ := el.inf
  obtain ⟨A, c, rfl, hc, hcm, hnil, hcell⟩ := hr
  cases A with
  | none =>
    have h0 := hnil rfl
    have hl0 : l2.length = 0 := by omega
    have := List.eq_nil_of_length_eq_zero hl0
    subst this
    subst h0
    obtain ⟨B, d, hv, -, -, -⟩ := hown.form
    have h2 := h B d w (by rw [List.append_nil, ← hv]; exact hown) (World.grownBy.refl w _) (.inl (by rw [List.append_nil, hv]))
    rw [List.append_nil, ← hv] at h2
    exact wpList_append_own_none hgd s x T ho base E i sz el.und hi v l.length _ hs hown hx h2
  | some ad =>
    refine wpList_append_own_at w hgd s x T ho base E i z sz bys el.und hi hz hsize hbytes hzs el.pos v l.length _ hs hown ad l2.length c (l2.flatMap enc) hx (flat_len el.len l2) ?_ ?_ h63 hby hbase ?_
    · intro j u hu
      obtain ⟨y, hy, hyu⟩ := flat_split el.len el.pos l2 j u hu
      have h0 : 0 < l2.length := by
        rcases Nat.eq_zero_or_pos l2.length with h0 | h0
        · rw [List.eq_nil_of_length_eq_zero h0] at hu; simp at hu
        · exact h0
      obtain ⟨g, q, hA, _, hx'⟩ := hcell h0
      injection hA with hA
      subst hA
      have := hx' _ y hy _ u hyu
      rw [Nat.add_assoc, Nat.div_add_mod' j sz] at this
      unfold Addr.add
      split
      · rename_i h; subst h; exact this
      · exact this
    · intro u hu
      obtain ⟨y, _, hyu⟩ := List.mem_flatMap.1 hu
      exact el.one y u hyu
    · intro v' w' h1 h2 _ h4
      have h5 : Own enc sz E base w' v' (l ++ l2) := by unfold Own; rw [List.length_append, List.flatMap_append]; exact h1
      obtain ⟨B, d, hv, -, -, -⟩ := h5.form
      subst hv
      exact h B d w' h5 h2 h4
end

theorem ndc_len (n : Nd) : (ndc n).length = 6 := rfl
theorem stc_len (s : List UInt8) : (stc s).length = 1 := rfl
theorem inc_len (n : Int) : (inc n).length = 1 := rfl
theorem vac_len (x : Value) : [x].length = 1 := rfl
theorem node_info : (Try.prog.info? 38).map (fun i => (i.zero, i.size, i.bytes)) = some (some (.agg #[.int .i64 0, .int .i64 0, .string ⟨#[]⟩, .string ⟨#[]⟩, .bool false, .int .i64 0]), 6, 64) := by kernel_rfl
theorem string_info : (Try.prog.info? 9).map (fun i => (i.zero, i.size, i.bytes)) = some (some (.string ⟨#[]⟩), 1, 16) := by kernel_rfl
theorem val_info : (Try.prog.info? 23).map (fun i => (i.zero, i.size, i.bytes)) = some (some (.slice none 0 0), 1, 24) := by kernel_rfl
theorem elNode : Elem Try.prog 23 38 ndc 6 64 := by
  obtain ⟨i, hi, hz0, hz1, hz2⟩ := info_parts node_info
  refine ⟨Try.underlying23, ⟨i, _, hi, hz0, hz1, hz2, rfl⟩, by decide, ndc_len, fun n u hu => ?_⟩
  simp only [ndc, List.mem_cons, List.not_mem_nil, or_false] at hu
  rcases hu with rfl | rfl | rfl | rfl | rfl | rfl <;> rfl
theorem elText : Elem Try.prog 47 9 stc 1 16 := by
  obtain ⟨i, hi, hz0, hz1, hz2⟩ := info_parts string_info
  refine ⟨Try.underlying47, ⟨i, _, hi, hz0, hz1, hz2, rfl⟩, by decide, stc_len, fun n u hu => ?_⟩
  simp only [stc, List.mem_cons, List.not_mem_nil, or_false] at hu
  subst hu; rfl
/-- Values of slices. -/
def slc (x : Option Addr × Nat × Nat) : List Value := [.slice x.1 x.2.1 x.2.2]
theorem slc_len (x : Option Addr × Nat × Nat) : (slc x).length = 1 := rfl
theorem elVal : Elem Try.prog 24 23 slc 1 24 := by
  obtain ⟨i, hi, hz0, hz1, hz2⟩ := info_parts val_info
  refine ⟨Try.underlying24, ⟨i, _, hi, hz0, hz1, hz2, rfl⟩, by decide, slc_len, fun n u hu => ?_⟩
  simp only [slc, List.mem_cons, List.not_mem_nil, or_false] at hu
  subst hu; rfl
end Go.Proofs.Ytbffeffplabaeaa

/-
  Slices of the call's own, further: made by make, a whole element written.
-/
namespace Go.Proofs.Ytbffeffplabaeaa
open Go.RowKit Np

theorem made_take {α : Type} {enc : α → List Value} {sz : Nat} (hl : ∀ x, (enc x).length = sz) (hp : 0 < sz) (x : α) (zc : Array Value) (hz : zc.toList = enc x) (n c : Nat) (hn : n ≤ c) :
    (madeCells zc (c * sz)).toList.take (n * sz) = (List.replicate n x).flatMap enc := by
  have hzs : zc.size = sz := by rw [← Array.length_toList, hz, hl]
  apply List.ext_getElem?
  intro i
  by_cases hi : i < n * sz
  · have h1 : i / sz < n := (Nat.div_lt_iff_lt_mul hp).2 hi
    have h2 : i < c * sz := Nat.lt_of_lt_of_le hi (Nat.mul_le_mul_right _ hn)
    have hm := Nat.mod_lt i hp
    have := flat_at hl (List.replicate n x) (i / sz) x (i % sz) (by rw [List.getElem?_replicate, if_pos h1]) hm
    rw [Nat.div_add_mod' i sz] at this
    rw [this, List.getElem?_take, if_pos hi, ← hz, Array.getElem?_toList, Array.getElem?_toList]
    simp [madeCells, h2, hzs, hm]
  · rw [List.getElem?_take, if_neg hi, List.getElem?_eq_none (by rw [flat_len hl, List.length_replicate]; omega)]

section
variable {α : Type} {enc : α → List Value} {sz E base : Nat} {w : World} {l : List α}
theorem Own.made (hl : ∀ x, (enc x).length = sz) (hp : 0 < sz) (w : World) (x : α) (zc : Array Value) (hz : zc.toList = enc x) (n c : Nat) (hn : n ≤ c) (hm : c ≤ maxLen) (hb : base ≤ w.heap.size) :
    Own enc sz E base (w.alloc (.cells (madeCells zc (c * sz)) E)) (.slice (some ⟨w.heap.size, 0, none⟩) n c) (List.replicate n x) := by
  refine ⟨flat_len hl _, .inr ⟨w.heap.size, c, _, by simp, hb, heap_alloc_new w _, by simpa using hn, hm, size_madeCells _ _, ?_⟩⟩
  rw [List.length_replicate]
  exact made_take hl hp x zc hz n c hn
theorem Own.made1 (hl : ∀ x, (enc x).length = 1) (w : World) (x : α) (z : Value) (hz : [z] = enc x) (n : Nat) (hm : n ≤ maxLen) (hb : base ≤ w.heap.size) :
    Own enc 1 E base (w.alloc (.cells (madeCells #[z] n) E)) (.slice (some ⟨w.heap.size, 0, none⟩) n n) (List.replicate n x) := by
  have := Own.made (E := E) hl (by decide) w x #[z] hz n n (Nat.le_refl _) hm hb
  rwa [Nat.mul_one] at this

theorem set_row (xs : List Value) : ∀ (vs : List Value) (a : List Value) (o : Nat), a.length = o → ∀ (x b : List Value), x.length = vs.length → xs = a ++ x ++ b →
    ∀ {w : World} {g cap n : Nat}, w.ownsRow base E sz (.slice (some ⟨g, 0, none⟩) n cap) n xs → (w.setCells g o vs).ownsRow base E sz (.slice (some ⟨g, 0, none⟩) n cap) n (a ++ vs ++ b)
  | [], a, o, _, x, b, hx, hxs, w, g, cap, n, h => by
    have := List.eq_nil_of_length_eq_zero hx
    subst this
    rw [← hxs]; exact h
  | v :: vs, a, o, ho, [], b, hx, _, w, g, cap, n, h => by simp at hx
  | v :: vs, a, o, ho, c :: x, b, hx, hxs, w, g, cap, n, h => by
    have h1 := (World.ownsRow.stored h o v).1
    have e1 : xs.set o v = (a ++ [v]) ++ x ++ b := by
      rw [hxs, ← ho, List.append_assoc, List.set_append_right _ _ (Nat.le_refl _)]; simp
    have := set_row (xs.set o v) vs (a ++ [v]) (o + 1) (by simp [ho]) x b (by simpa using hx) e1 h1
    rw [World.setCells]
    simpa using this
theorem flat_split_at {k : Nat} {x : α} (hk : l[k]? = some x) : l = l.take k ++ x :: l.drop (k + 1) := by
  obtain ⟨h1, h2⟩ := List.getElem?_eq_some_iff.1 hk
  rw [← h2, List.getElem_cons_drop h1, List.take_append_drop]
/-- A whole element is written. -/
theorem Own.puts (hl : ∀ x, (enc x).length = sz) {g cap k : Nat} {x y : α} (h : Own enc sz E base w (.slice (some ⟨g, 0, none⟩) l.length cap) l) (hk : l[k]? = some x) :
    Own enc sz E base (w.setCells g (k * sz) (enc y)) (.slice (some ⟨g, 0, none⟩) l.length cap) (l.set k y) := by
  have hkl : k < l.length := (List.getElem?_eq_some_iff.1 hk).1
  have e1 : l.flatMap enc = (l.take k).flatMap enc ++ enc x ++ (l.drop (k + 1)).flatMap enc := by
    conv => lhs; rw [flat_split_at hk]
    simp
  have e2 : (l.set k y).flatMap enc = (l.take k).flatMap enc ++ enc y ++ (l.drop (k + 1)).flatMap enc := by
    rw [List.set_eq_take_append_cons_drop, if_pos hkl]; simp
  unfold Own
  rw [e2, List.length_set]
  exact set_row _ (enc y) _ _ (by rw [flat_len hl, List.length_take]; congr 1; omega) (enc x) _ (by rw [hl, hl]) e1 h
theorem Own.there (hl : ∀ x, (enc x).length = sz) {g cap k : Nat} {x : α} (h : Own enc sz E base w (.slice (some ⟨g, 0, none⟩) l.length cap) l) (hk : l[k]? = some x) : w.there g (k * sz) sz := by
  intro j hj
  have hj' : j < (enc x).length := by rw [hl]; exact hj
  refine ⟨?_, h.free _⟩
  rw [Own.cell hl h hk (List.getElem?_eq_getElem hj')]
  rfl
end
theorem Below.setCells {B : Nat} {a : World} {g : Nat} (hg : B ≤ g) : ∀ (vs : List Value) (o : Nat) {w : World}, Below B a w → Below B a (w.setCells g o vs)
  | [], _, _, h => h
  | v :: vs, o, _, h => Below.setCells hg vs (o + 1) (h.setCell (p := ⟨g, o, none⟩) hg v)
theorem size_setCells (g : Nat) : ∀ (vs : List Value) (o : Nat) (w : World), (w.setCells g o vs).heap.size = w.heap.size
  | [], _, _ => rfl
  | v :: vs, o, w => by rw [World.setCells, size_setCells g vs]; simp
/-- At the operation that writes a whole node. -/
theorem wpList_store_node {ops : Array Oper} {rest : List Oper} {op : Oper} {a : Act} {w : World} {Q : Exit → Act → World → Prop} (hgd : op.guard = none) (x y : Operand) (ho : op.op = .store 38 x y)
    (g o : Nat) (n : Nd) (hx : a.eval x = .pointer (some ⟨g, o, none⟩)) (hy : a.eval y = nda n) (ht : w.there g o 6) (h : wpList Try.prog ops Q rest (a.put op.dst undef) (w.setCells g o (ndc n))) : wpList Try.prog ops Q (op :: rest) a w := by
  refine wpList_store_mid hgd 38 x y ho g o _ hx hy ht ?_ (all_oneCell_toArray (cs := ndc n) (elNode.one n)) h
  have := node_info
  cases h : Try.prog.info? 38 with
  | none => rw [h] at this; cases this
  | some i => rw [h] at this; simp at this; simp [this.2.1]
end Go.Proofs.Ytbffeffplabaeaa
