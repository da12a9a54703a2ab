/-
  Joined: IntW.
-/
import Derived.Test.YtbhgmfddjnkglaaGreatDoorAtomTellsJ1

/-
  Words for rows of whole numbers: made by make, numbered one by one. Of no function.
-/
namespace Go.Proofs.YtbhgmfddjnkglaaGreatDoor
open Go.RowKit Np

theorem int_info : (Tryz.prog.info? 3).map (fun i => (i.zero, i.size, i.bytes)) = some (some (.int .i64 0), 1, 8) := by kernel_rfl
theorem elInt : Elem Tryz.prog 46 3 inc 1 8 := by
  obtain ⟨i, hi, hz0, hz1, hz2⟩ := info_parts int_info
  refine ⟨Tryz.underlying46, ⟨i, _, hi, hz0, hz1, hz2, rfl⟩, by decide, inc_len, fun n u hu => ?_⟩
  simp only [inc, List.mem_cons, List.not_mem_nil, or_false] at hu
  subst hu; rfl
theorem make_ints (n : Nat) (hn : n ≤ 1000000000000) (w : World) : (Instr.makeSlice 46 (.int .i64 (n : Int)) (.int .i64 (n : Int))).run Tryz.prog w = .ok (.slice (some ⟨w.heap.size, 0, none⟩) n n) (w.alloc (.cells (madeCells #[.int .i64 0] n) 3)) := by
  obtain ⟨i, hi, hz0, hz1, hz2⟩ := info_parts int_info
  have := run_make (P := Tryz.prog) w 46 3 i _ Tryz.underlying46 hi hz0 .i64 .i64 n n (by omega) (by omega) (by rw [hz2]; omega) (by omega)
  rw [hz1, Int.toNat_natCast, Nat.mul_one] at this
  exact this

/-- How far the places are numbered. -/
def nums (n k : Nat) : List Int := (List.range n).map fun i => if i < k then (i : Int) else 0
theorem nums_len (n k : Nat) : (nums n k).length = n := by simp [nums]
theorem nums_zero (n : Nat) : nums n 0 = List.replicate n 0 := by
  apply List.ext_getElem <;> simp [nums]
theorem nums_at {n k : Nat} (h : k < n) : (nums n k)[k]? = some 0 := by simp [nums, h]
theorem nums_set {n k : Nat} : (nums n k).set k (k : Int) = nums n (k + 1) := by
  apply List.ext_getElem
  · simp [nums]
  · intro i h1 h2
    simp only [nums, List.getElem_set, List.getElem_map, List.getElem_range]
    by_cases e : k = i
    · subst e; simp
    · rw [if_neg e]
      congr 1
      rw [eq_iff_iff]; omega
theorem nums_all (n : Nat) : nums n n = (List.range n).map Int.ofNat := by
  apply List.ext_getElem
  · simp [nums]
  · intro i h1 h2
    simp [nums] at h1 ⊢
    exact fun h => absurd h (by omega)

end Go.Proofs.YtbhgmfddjnkglaaGreatDoor
