/-
  Small words that all texts share: what a call answers, what lay below stays. Of no function.
-/
import Derived.Test.YtbhgmfddjnkglaaGreatDoorRows
import Derived.WalkKit
import Derived.WalkSpells
import Derived.WalkLawsBesides
import Derived.Lib.Hide
import Derived.Deep.QuietTactic
import Derived.BigQuiet
import Derived.Below
namespace Go.Proofs.YtbhgmfddjnkglaaGreatDoor
open Go.RowKit

theorem ret_bool {a b : Bool} (h : a = b) : Ending.returned (.bool a) = .returned (.bool b) := by rw [h]
theorem ret_i64 {a b : Int} (h : a = b) : Ending.returned (.int .i64 a) = .returned (.int .i64 b) := by rw [h]
theorem ret_str {a b : ByteArray} (h : a = b) : Ending.returned (.string a) = .returned (.string b) := by rw [h]
theorem ret_list {a b : List UInt8} (h : a = b) : Ending.returned (.string ⟨a.toArray⟩) = .returned (.string ⟨b.toArray⟩) := by rw [h]
theorem kept_cells {a b : World} (h : Below a.heap.size a b) : (∀ k i, k < a.heap.size → b.cell? ⟨k, i, none⟩ = a.cell? ⟨k, i, none⟩) ∧ (∀ k i, k < a.heap.size → b.frozen? ⟨k, i, none⟩ = a.frozen? ⟨k, i, none⟩) := by
  refine ⟨fun k i hk => ?_, fun k i hk => ?_⟩
  · exact h.cell (p := ⟨k, i, none⟩) hk
  · exact h.frozen (p := ⟨k, i, none⟩) hk
theorem drewN_below {B : Nat} {a w : World} (h : Below B a w) (n : Nat) : Below B a (w.drewN n) := ⟨h.os, h.tape, h.output, h.size, h.block⟩
theorem below_quiet {w w' : World} (h : ∃ n, w' = w.drewN n) : Below w.heap.size w w' := by
  obtain ⟨n, rfl⟩ := h
  exact drewN_below (Below.refl _ _) n
/-- One call behind another. -/
theorem Below.after {a b c : World} (h : Below a.heap.size a b) (k : Below b.heap.size b c) : Below a.heap.size a c := h.trans (k.mono h.size)
theorem mk_toList (a : List UInt8) : (ByteArray.mk a.toArray).toList = a := by rw [ByteArray.toList_eq]
theorem mk_data (a : List UInt8) : (ByteArray.mk a.toArray).data.toList = a := rfl
theorem mk_size (a : List UInt8) : (ByteArray.mk a.toArray).size = a.length := rfl
theorem ba_eq (s : ByteArray) : s = ⟨s.data.toList.toArray⟩ := rfl
theorem any_byte (W : World) (b : Nat) (v : Int) (h : W.cell? ⟨b, 0, none⟩ = some (.int .u8 v)) : (convert 112 9 (.slice (some ⟨b, 0, none⟩) 1 1)).run Tryz.prog W = .ok (.string ⟨#[UInt8.ofNat v.toNat]⟩) W :=
  run_convert_bytes_arg _ 112 5 Tryz.underlying112 Tryz.underlying5 b 0 1 1 [v] rfl (fun i hi => by
    obtain rfl : i = 0 := by omega
    simpa using h) 9 Tryz.underlying9
end Go.Proofs.YtbhgmfddjnkglaaGreatDoor
