/-
  Joined: TxD, TxF, TxK.
-/
import Derived.Test.YtdgcdemihalefaaGreatDoorTermTellsJ5
import Derived.Defers
import Derived.Recover
import Derived.Test.YtdgcdemihalefaaGreatDoorTermTellsJ19
namespace Go.Proofs.YtdgcdemihalefaaGreatDoor
open Go.RowKit Np Up Qp Tp
end Go.Proofs.YtdgcdemihalefaaGreatDoor
namespace Go.Proofs.YtdgcdemihalefaaGreatDoor
open Go.RowKit Np Rw Vp Up Qp Tp
def PrE (w : World) (S : List UInt8) (e : Ending) (w' : World) : Prop :=
  ∃ V, e = .returned (.tuple #[V, .int .i64 (prsR S).2.1, .int .i64 (prsR S).2.2]) ∧ OwnN w.heap.size w' V (prsR S).1 ∧ Below w.heap.size w w'
theorem PrE.mk {w w' : World} {S : List UInt8} {v : List Nd} {p : Nat} {e : Int} {V : Value} (h : prsR S = (v, p, e)) (h1 : OwnN w.heap.size w' V v) (h2 : Below w.heap.size w w') : PrE w S (.returned (.tuple #[V, .int .i64 p, .int .i64 e])) w' := by
  unfold PrE; rw [h]; exact ⟨V, rfl, h1, h2⟩
section
variable {n i k : Nat} {s : ByteArray} {w : World} {v : Value} {W W' : World}
end
end Go.Proofs.YtdgcdemihalefaaGreatDoor
namespace Go.Proofs.YtdgcdemihalefaaGreatDoor
open Go.RowKit Np Rw Vp Up Qp Tp
structure Tv (w : World) : Prop where
  pow : PowTab w
  wds : Wds w
  tabs : Tabs w
  er : Er w
theorem Tv.below {w w' : World} (h : Tv w) (hb : Below w.heap.size w w') : Tv w' := ⟨h.pow.below hb, h.wds.below hb, h.tabs.below hb, h.er.below hb⟩
end Go.Proofs.YtdgcdemihalefaaGreatDoor
