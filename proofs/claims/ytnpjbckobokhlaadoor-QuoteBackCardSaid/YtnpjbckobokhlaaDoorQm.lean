/-
  Words for memory: what lay below stays, what a call answers. Of no function.
-/
import Derived.Test.YtnpjbckobokhlaaDoorRows
import Derived.Test.YtnpjbckobokhlaaDoorNumPlain
import Derived.WalkKit
import Derived.WalkSpells
import Derived.WalkLawsBesides
import Derived.Lib.Hide
import Derived.Deep.QuietTactic
import Derived.BigQuiet
import Derived.BigCall
import Derived.BigGuard
import Derived.Below
import Derived.RegionTactic
import Derived.OwnWalk
import Derived.Deep.Light
import Derived.Lib.OthersKept
import Derived.Maps.OwnSet
import Derived.Outline
namespace Go.Proofs.YtnpjbckobokhlaaDoor
open Go.RowKit Np

theorem ret_bool {a b : Bool} (h : a = b) : Ending.returned (.bool a) = .returned (.bool b) := by rw [h]
theorem ret_i64 {a b : Int} (h : a = b) : Ending.returned (.int .i64 a) = .returned (.int .i64 b) := by rw [h]
theorem ret_str {a b : ByteArray} (h : a = b) : Ending.returned (.string a) = .returned (.string b) := by rw [h]
theorem ret_list {a b : List UInt8} (h : a = b) : Ending.returned (.string ⟨a.toArray⟩) = .returned (.string ⟨b.toArray⟩) := by rw [h]
theorem kept_cells {a b : World} (h : Below a.heap.size a b) : (∀ k i, k < a.heap.size → b.cell? ⟨k, i, none⟩ = a.cell? ⟨k, i, none⟩) ∧ (∀ k i, k < a.heap.size → b.frozen? ⟨k, i, none⟩ = a.frozen? ⟨k, i, none⟩) := by
  refine ⟨fun k i hk => ?_, fun k i hk => ?_⟩
  · exact h.cell (p := ⟨k, i, none⟩) hk
  · exact h.frozen (p := ⟨k, i, none⟩) hk
theorem drewN_below {B : Nat} {a w : World} (h : Below B a w) (n : Nat) : Below B a (w.drewN n) := ⟨h.os, h.tape, h.output, h.size, h.block⟩
theorem below_quiet {w w' : World} (h : ∃ n, w' = w.drewN n) : Below w.heap.size w w' := by
  obtain ⟨n, rfl⟩ := h
  exact drewN_below (Below.refl _ _) n
/-- One call behind another. -/
theorem Below.after {a b c : World} (h : Below a.heap.size a b) (k : Below b.heap.size b c) : Below a.heap.size a c := h.trans (k.mono h.size)
/-- The library's ErrSyntax holds an error, or nothing. -/
def Er (w : World) : Prop := ∃ ev, w.cell? ⟨0, 0, none⟩ = some ev ∧ (ev = .nilIface ∨ ∃ te pe, ev = .iface te pe)
theorem Er.below {w w' : World} (h : Er w) (hb : Below w.heap.size w w') : Er w' := by
  obtain ⟨ev, h1, h2⟩ := h
  have hlt := World.block_lt_of_cell? _ _ h1
  exact ⟨ev, (hb.cell (p := ⟨0, 0, none⟩) hlt).trans h1, h2⟩
theorem any_byte (W : World) (b : Nat) (v : Int) (h : W.cell? ⟨b, 0, none⟩ = some (.int .u8 v)) : (convert 35 9 (.slice (some ⟨b, 0, none⟩) 1 1)).run Tryd.prog W = .ok (.string ⟨#[UInt8.ofNat v.toNat]⟩) W :=
  run_convert_bytes_arg _ 35 5 Tryd.underlying35 Tryd.underlying5 b 0 1 1 [v] rfl (fun i hi => by
    obtain rfl : i = 0 := by omega
    simpa using h) 9 Tryd.underlying9
theorem mk_toList (a : List UInt8) : (ByteArray.mk a.toArray).toList = a := by rw [ByteArray.toList_eq]
theorem mk_data (a : List UInt8) : (ByteArray.mk a.toArray).data.toList = a := rfl
theorem mk_size (a : List UInt8) : (ByteArray.mk a.toArray).size = a.length := by simp [ByteArray.size]
theorem ba_eq (s : ByteArray) : s = ⟨s.data.toList.toArray⟩ := rfl
end Go.Proofs.YtnpjbckobokhlaaDoor
