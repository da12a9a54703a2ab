/-
  Joined: ORef5.
-/
import Derived.Test.YtbhgmfddjnkglaaGreatDoorAtomTellsJ20

/-
  What the document's own Cmp, Rises and Sort are, of right values of any depth.
-/
namespace Go.Proofs.YtbhgmfddjnkglaaGreatDoor
open Go.RowKit Np Rw Vp Ov

theorem flat_le_flats {a : Tr Nd} {ts : List (Tr Nd)} (h : a ∈ ts) : (flat a).length ≤ (flats ts).length := by
  induction ts with
  | nil => cases h
  | cons b ts ih =>
    rw [flats_cons, List.length_append]
    rcases List.mem_cons.1 h with rfl | h
    · omega
    · have := ih h; omega
theorem part_val {t a : Tr Nd} (h : Val t) (ha : a ∈ t.ks) : Val (nmd [] a) := by
  obtain ⟨h1, h2⟩ := h.parts a ha
  exact ⟨okT_nmd h1, by rw [rightT_nmd]; exact h2, nmd_name _ _⟩
theorem part_len {t a : Tr Nd} (ha : a ∈ t.ks) : (flat (nmd [] a)).length + 1 ≤ (flat t).length := by
  have h1 := flat_le_flats ha
  rw [flat_nmd_len, flat_eq t, List.length_cons]
  omega
theorem refCmpV_upto : ∀ (n : Nat) (t u : Tr Nd), (flat t).length ≤ n → (flat t).length ≤ 60000 → (flat u).length ≤ 60000 → Val t → Val u → RefQ t u := by
  intro n
  induction n with
  | zero => intro t u h; have := flat_pos t; omega
  | succ n ih =>
    intro t u h h1 h2 ht hu
    refine refCmpV_of ht hu h1 h2 fun a ha b hb => ?_
    have l1 := part_len ha
    have l2 := part_len hb
    exact ih _ _ (by omega) (by omega) (by omega) (part_val ht ha) (part_val hu hb)
theorem refCmpV_any {t u : Tr Nd} (h1 : (flat t).length ≤ 60000) (h2 : (flat u).length ≤ 60000) (ht : Val t) (hu : Val u) : RefQ t u := refCmpV_upto _ t u (Nat.le_refl _) h1 h2 ht hu


/-! Sort. -/
theorem plc_cnt {c : Nat → Nat → Int} (h : Cp c) {n i : Nat} (hi : i < n) : (plc c n)[cnt c n i]? = some i := by
  have hm : i ∈ plc c n := (plc_perm c n).mem_iff.2 (by simpa using hi)
  obtain ⟨j, hj⟩ := List.mem_iff_getElem?.1 hm
  rw [cnt_at h hj]; exact hj
theorem cnt_inj {c : Nat → Nat → Int} (h : Cp c) {n i k : Nat} (hi : i < n) (hk : k < n) (e : cnt c n i = cnt c n k) : i = k := by
  have h1 := plc_cnt h hi
  rw [e, plc_cnt h hk] at h1
  injection h1 with h1
  exact h1.symm
/-- How many of the first ones stand ahead. -/
def cntU (c : Nat → Nat → Int) (k i : Nat) : Nat := (List.range k).countP fun j => decide (Bf c j i)
theorem cntU_zero (c : Nat → Nat → Int) (i : Nat) : cntU c 0 i = 0 := rfl
theorem cntU_step (c : Nat → Nat → Int) (k i : Nat) : cntU c (k + 1) i = cntU c k i + (if Bf c k i then 1 else 0) := by
  unfold cntU
  rw [List.range_succ, List.countP_append]
  by_cases h : Bf c k i <;> simp [h]
theorem cntU_le (c : Nat → Nat → Int) (k i : Nat) : cntU c k i ≤ k := by
  have := List.countP_le_length (p := fun j => decide (Bf c j i)) (l := List.range k)
  simpa [cntU] using this
/-- The places laid so far. -/
structure SrS (ts : List (Tr Nd)) (n : Nat) (w : World) (i : Nat) (ov : Value) (wr : World) : Prop where
  ow : ∃ L : List Nat, L.length = n ∧ (∀ j, j < i → L[cnt (cat ts) n j]? = some j) ∧ Own inc 1 3 w.heap.size wr ov (L.map Int.ofNat)
  bl : Below w.heap.size w wr
structure SrR (ts : List (Tr Nd)) (n : Nat) (w : World) (ov iv : Value) (wr : World) : Prop where
  ex : ∃ i : Nat, i ≤ n ∧ iv = .int .i64 i ∧ Hid (SrS ts n w i ov wr)
structure CnR (ts : List (Tr Nd)) (n : Nat) (i : Nat) (w : World) (kv nv : Value) (wr : World) : Prop where
  ex : ∃ k q : Nat, k ≤ n ∧ q ≤ k ∧ kv = .int .i64 k ∧ nv = .int .i64 q ∧ Hid (q = cntU (cat ts) k i) ∧ Hid (Below w.heap.size w wr)

end Go.Proofs.YtbhgmfddjnkglaaGreatDoor
