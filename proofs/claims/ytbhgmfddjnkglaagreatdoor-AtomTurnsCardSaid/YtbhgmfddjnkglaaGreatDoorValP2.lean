/-
  Plain words: the place behind a value in a row. No program stands here.
-/
import Derived.Test.YtbhgmfddjnkglaaGreatDoorValP
namespace Go.Proofs.YtbhgmfddjnkglaaGreatDoor
namespace Vp
open Go.RowKit Np Rw

/-- The place behind so many values; below 0: there is none. -/
def nxtL (N : Nat) : List Nd → Nat → Nat → Int
  | _, 0, i => i
  | [], _ + 1, _ => -1
  | n :: l, o + 1, i => if n.many < 0 ∨ (N : Int) < n.many then -1 else nxtL N l (o + n.many.toNat) (i + 1)
@[simp] theorem nxtL_zero (N : Nat) (l : List Nd) (i : Nat) : nxtL N l 0 i = i := by cases l <;> simp [nxtL]
@[simp] theorem nxtL_nil (N o i : Nat) : nxtL N [] (o + 1) i = -1 := by simp [nxtL]
theorem nxtL_cons (N : Nat) (n : Nd) (l : List Nd) (o i : Nat) : nxtL N (n :: l) (o + 1) i = if n.many < 0 ∨ (N : Int) < n.many then -1 else nxtL N l (o + n.many.toNat) (i + 1) := by simp [nxtL]

mutual
theorem nxt_flat : ∀ (t : Tr Nd) (N : Nat) (r : List Nd) (k i : Nat), okT many t → (flat t).length ≤ N → nxtL N (flat t ++ r) (k + 1) i = nxtL N r k (i + (flat t).length)
  | .mk n ks, N, r, k, i, h, hl => by
    obtain ⟨h1, h2⟩ := okT_mk.1 h
    have h1' : n.many = ks.length := h1
    have h3 := flats_len ks
    rw [flat_mk, List.length_cons] at hl
    rw [flat_mk, List.cons_append, nxtL_cons, if_neg (by omega), h1', Int.toNat_natCast, Nat.add_comm k, nxt_flats ks N r k (i + 1) h2 (by omega), List.length_cons]
    congr 1; omega
theorem nxt_flats : ∀ (ts : List (Tr Nd)) (N : Nat) (r : List Nd) (k i : Nat), okTs many ts → (flats ts).length ≤ N → nxtL N (flats ts ++ r) (ts.length + k) i = nxtL N r k (i + (flats ts).length)
  | [], N, r, k, i, _, _ => by simp
  | t :: ts, N, r, k, i, h, hl => by
    obtain ⟨h1, h2⟩ := okTs_cons.1 h
    rw [flats_cons, List.length_append] at hl
    rw [flats_cons, List.append_assoc, List.length_cons, show ts.length + 1 + k = ts.length + k + 1 by omega, nxt_flat t N _ _ i h1 (by omega), nxt_flats ts N r k _ h2 (by omega), List.length_append]
    congr 1; omega
end
theorem nxt_inv (N : Nat) : ∀ (l : List Nd) (k i : Nat), 0 ≤ nxtL N l k i → ∃ r, skip many l k = some r ∧ nxtL N l k i + r.length = i + l.length
  | l, 0, i, _ => ⟨l, by simp, by simp⟩
  | [], k + 1, i, h => by simp at h
  | n :: l, k + 1, i, h => by
    rw [nxtL_cons] at h ⊢
    by_cases hn : n.many < 0 ∨ (N : Int) < n.many
    · rw [if_pos hn] at h; omega
    · rw [if_neg hn] at h ⊢
      obtain ⟨r, h1, h2⟩ := nxt_inv N l _ _ h
      refine ⟨r, ?_, ?_⟩
      · rw [skip_cons, if_neg (by show ¬ n.many < 0; omega)]; exact h1
      · rw [h2, List.length_cons]; omega
theorem nxt_whole {l : List Nd} : nxtL l.length l 1 0 = l.length ↔ skip many l 1 = some [] := by
  constructor
  · intro h
    obtain ⟨r, h1, h2⟩ := nxt_inv l.length l 1 0 (by omega)
    rw [h] at h2
    have : r = [] := List.eq_nil_of_length_eq_zero (by omega)
    rw [h1, this]
  · intro h
    obtain ⟨t, ht, rfl⟩ := skip_one h
    have := nxt_flat t (flat t).length [] 0 0 ht (Nat.le_refl _)
    simpa using this
/-- Is a row a right value? (As the document reckons it.) -/
theorem rightL_eq (l : List Nd) : rightL l = (decide (l ≠ []) && decide ((l.headD ⟨0, 0, [], [], false, 0⟩).name = []) && decide (nxtL l.length l 1 0 = l.length) && rightL l) := by
  cases h : rightL l
  · simp
  · obtain ⟨t, ht, rfl⟩ := val_of_rightL h
    have h1 : nxtL (flat t).length (flat t) 1 0 = (flat t).length := nxt_whole.2 (skip_flat_one ht.ok)
    have h2 := ht.nm
    rw [h1, flat_eq]
    simp [h2]
theorem rightL_empty : rightL [] = false := rfl
theorem rightL_name {n : Nd} {l : List Nd} (h : n.name ≠ []) : rightL (n :: l) = false := by rw [rightL_eq]; simp [h]
theorem rightL_next {l : List Nd} (h : nxtL l.length l 1 0 ≠ l.length) : rightL l = false := rightL_no_skip (fun h' => h (nxt_whole.2 h'))
end Vp
end Go.Proofs.YtbhgmfddjnkglaaGreatDoor
