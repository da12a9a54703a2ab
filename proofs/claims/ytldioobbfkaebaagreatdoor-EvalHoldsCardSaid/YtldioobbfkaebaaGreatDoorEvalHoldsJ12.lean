/-
  Joined: IntW, CmpW, SortW, ValW11.
-/
import Derived.Test.YtldioobbfkaebaaGreatDoorEvalHoldsJ8
import Derived.Deep.QuietTactic
import Derived.BigQuiet
import Derived.Test.YtldioobbfkaebaaGreatDoorEvalHoldsJ1
import Derived.Test.YtldioobbfkaebaaGreatDoorEvalHoldsJ11
import Derived.IntWalk
import Derived.StillTailTactics
set_option maxHeartbeats 400000
namespace Go.Proofs.YtldioobbfkaebaaGreatDoor
section
open Go.RowKit Np
end
section
open Go.RowKit Np
theorem isNaNS_any (s : ByteArray) (w : World) :
  Calls Tryz.prog 184 #[.string s] w fun e w' => e = .returned (.bool false) ∧ w = w' := by
 go_enter Tryz.func184, Tryz.ntmps184
 go_wp2
 go_ret
 exact ⟨ret_bool (by simp), rfl⟩
theorem cmpS_any (s t : ByteArray) (w : World) :
  Calls Tryz.prog 162 #[.string s, .string t] w fun e w' => e = .returned (.int .i64 (cmpB s.data.toList t.data.toList)) ∧ w = w' := by
 go_enter Tryz.func162, Tryz.ntmps162
 go_wp2_with (go_at_call 184; refine (isNaNS_any _ _).mono ?_; rintro e w' ⟨rfl, rfl⟩)
 ·have h : Op.bytesLess s.toList t.toList = true := by assumption
  rw [ByteArray.toList_eq, ByteArray.toList_eq] at h
  go_ret
  exact ⟨ret_i64 (by rw [cmpB, if_pos h]), rfl⟩
 ·have h : Op.bytesLess s.toList t.toList = false := by assumption
  have h2 : (!s.toList == t.toList) = true := by assumption
  rw [ByteArray.toList_eq, ByteArray.toList_eq] at h h2
  go_ret
  exact ⟨ret_i64 (by rw [cmpB, if_neg (by rw [h]; decide), if_neg (by simpa using h2)]), rfl⟩
 ·have h : Op.bytesLess s.toList t.toList = false := by assumption
  have h2 : (!s.toList == t.toList) = false := by assumption
  rw [ByteArray.toList_eq, ByteArray.toList_eq] at h h2
  go_ret
  exact ⟨ret_i64 (by rw [cmpB, if_neg (by rw [h]; decide), if_pos (by simpa using h2)]), rfl⟩
end
section
end
end Go.Proofs.YtldioobbfkaebaaGreatDoor
namespace Go.Proofs.YtldioobbfkaebaaGreatDoor
open Go.RowKit Np Rw Vp
def GivesO (w : World) (names : List (List UInt8)) (L : List (List Nd)) (e : Ending) (w' : World) : Prop := ∃ v', e = .returned (.tuple #[v', .int .i64 (objE names L)]) ∧ OwnN w.heap.size w' v' (objV names L) ∧ Below w.heap.size w w'
theorem GivesO.bad {w w' : World} {names : List (List UInt8)} {L : List (List Nd)} {e : Ending} (h : objB names L = false) (he : e = .returned (.tuple #[.slice none 0 0, .int .i64 4])) (hb : Below w.heap.size w w') : GivesO w names L e w' :=
 ⟨_, by rw [objE, h]; exact he, by rw [objV, h]; exact Own.nil _, hb⟩
def GoodTo (names : List (List UInt8)) (p : List Nat) (k : Nat) : Prop :=
 (∀ i j, i < k → p[i]? = some j → vld (atN names j) = true) ∧ (∀ i a b, i + 1 < k → p[i]? = some a → p[i + 1]? = some b → atN names a ≠ atN names b)
theorem GoodTo.next {names : List (List UInt8)} {p : List Nat} {k at_ : Nat} (h : GoodTo names p k) (ha : p[k]? = some at_) (hv : vld (atN names at_) = true) (hn : ∀ a, 0 < k → p[k - 1]? = some a → atN names a ≠ atN names at_) : GoodTo names p (k + 1) := by
 refine ⟨fun i j hi hj => ?_, fun i a b hi h1 h2 => ?_⟩
 ·by_cases e : i = k
  ·subst e; rw [ha] at hj; injection hj with hj; rw [← hj]; exact hv
  ·exact h.1 i j (by omega) hj
 ·by_cases e : i + 1 = k
  ·subst e; rw [ha] at h2; injection h2 with h2; rw [← h2]; exact hn a (by omega) h1
  ·exact h.2 i a b (by omega) h1 h2
end Go.Proofs.YtldioobbfkaebaaGreatDoor
