/-
  Joined: ValW9, ValW12.
-/
import Derived.Test.YtdgcdemihalefaaGreatDoorEvalDelsJ8
import Derived.Test.YtdgcdemihalefaaGreatDoorEvalDelsJ2
import Derived.Sort.Walk0

/-
  What val.find answers.
-/
namespace Go.Proofs.YtdgcdemihalefaaGreatDoor
open Go.RowKit Go.Shelf Np Rw Vp
attribute [local go_sem] Oper.semAt_some

def lenP {L : List Nd} (pre : List (Pt L)) : Nat := (flats (pre.map fun x => x.1.2)).length
/-- Between two rounds of find. -/
def FI {L : List Nd} (nm : List UInt8) (w : World) (pre : List (Pt L)) (W : World) : Prop :=
  ((∀ y ∈ pre, passes nm y.1.2) ∧ Boxed W w.heap.size 9 (.string ⟨nm.toArray⟩) ∧ Boxed W (w.heap.size + 1) 3 (.int .i64 0) ∧ Boxed W (w.heap.size + 1 + 1) 3 (.int .i64 0) ∧ Boxed W (w.heap.size + 1 + 1 + 1) 3 (.int .i64 (1 + lenP pre : Nat))) ∧ Below w.heap.size w W
/-- Where a round of find has left. -/
def FX {L : List Nd} (nm : List UInt8) (w : World) (c : Code) (pre : List (Pt L)) (W : World) : Prop :=
  ((c = .ret ∧ ∃ p y, pre = p ++ [y] ∧ (∀ z ∈ p, passes nm z.1.2) ∧ y.1.2.nd.name = nm ∧ Boxed W (w.heap.size + 1) 3 (.int .i64 (1 + lenP p : Nat)) ∧ Boxed W (w.heap.size + 1 + 1) 3 (.int .i64 (1 + lenP p + (flat y.1.2).length : Nat))) ∨
   (c = .exit 0 ∧ ∃ p y, pre = p ++ [y] ∧ (∀ z ∈ p, passes nm z.1.2) ∧ nm < y.1.2.nd.name ∧ Boxed W (w.heap.size + 1) 3 (.int .i64 0) ∧ Boxed W (w.heap.size + 1 + 1) 3 (.int .i64 0) ∧ Boxed W (w.heap.size + 1 + 1 + 1) 3 (.int .i64 (1 + lenP p : Nat)))) ∧ Below w.heap.size w W
theorem FI.own {L : List Nd} (nm : List UInt8) (w : World) (B : Nat) (hB : w.heap.size ≤ B) : OwnFrom B (FI (L := L) nm w) := by
  intro s W W' row hs hg hr
  obtain ⟨⟨h0, h1, h2, h3, h4⟩, h5⟩ := hs
  have hr' : ∀ r, row = some r → ∃ o : Obj, W.heap[r]? = some o ∧ o.isCells = false := fun r e => (hr r e).2
  exact ⟨⟨h0, boxed_turned h1 hg hr', boxed_turned h2 hg hr', boxed_turned h3 hg hr', boxed_turned h4 hg hr'⟩, ownFrom_below (β := Unit) (Nat.le_refl _) hB () W W' row h5 hg hr⟩
theorem FX.own {L : List Nd} (nm : List UInt8) (w : World) (c : Code) (B : Nat) (hB : w.heap.size ≤ B) : OwnFrom B (FX (L := L) nm w c) := by
  intro s W W' row hs hg hr
  obtain ⟨hs, h5⟩ := hs
  have hr' : ∀ r, row = some r → ∃ o : Obj, W.heap[r]? = some o ∧ o.isCells = false := fun r e => (hr r e).2
  refine ⟨?_, ownFrom_below (β := Unit) (Nat.le_refl _) hB () W W' row h5 hg hr⟩
  rcases hs with ⟨hc, p, y, h1, h2, h3, h4, h5⟩ | ⟨hc, p, y, h1, h2, h3, h4, h5, h6⟩
  · exact .inl ⟨hc, p, y, h1, h2, h3, boxed_turned h4 hg hr', boxed_turned h5 hg hr'⟩
  · exact .inr ⟨hc, p, y, h1, h2, h3, boxed_turned h4 hg hr', boxed_turned h5 hg hr', boxed_turned h6 hg hr'⟩

end Go.Proofs.YtdgcdemihalefaaGreatDoor

/-
  What val's Field answers.
-/
namespace Go.Proofs.YtdgcdemihalefaaGreatDoor
open Go.RowKit Np Rw Vp

end Go.Proofs.YtdgcdemihalefaaGreatDoor
