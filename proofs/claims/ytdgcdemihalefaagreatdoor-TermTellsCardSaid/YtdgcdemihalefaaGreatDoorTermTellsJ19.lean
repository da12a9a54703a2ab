/-
  Joined: Tx4, Tx5, Tx6, Tx7, Tx8, Tx9, TxC, TxE.
-/
import Derived.Test.YtdgcdemihalefaaGreatDoorTermTellsJ5
import Derived.Shelf.Abstract
import Derived.Test.YtdgcdemihalefaaGreatDoorTermTellsJ1
import Derived.Deep.RegionLaw
import Derived.StringKeys
namespace Go.Proofs.YtdgcdemihalefaaGreatDoor
open Go.RowKit Np Rw Vp Up Qp Tp
end Go.Proofs.YtdgcdemihalefaaGreatDoor
namespace Go.Proofs.YtdgcdemihalefaaGreatDoor
open Go.RowKit Np Rw Vp Up Qp Tp
theorem Elems.mono {b b' : Nat} {w : World} {zs : List (Option Addr × Nat × Nat)} {L : List (List Nd)} (h : Elems b w zs L) (hb : b' ≤ b) : Elems b' w zs L := ⟨h.1, fun k z l h1 h2 => (h.2 k z l h1 h2).mono hb⟩
theorem Elems.alloc {b : Nat} {w : World} {zs : List (Option Addr × Nat × Nat)} {L : List (List Nd)} (h : Elems b w zs L) (o : Obj) : Elems b (w.alloc o) zs L := ⟨h.1, fun k z l h1 h2 => (h.2 k z l h1 h2).alloc o⟩
theorem Box.apart {b1 b2 T1 T2 : Nat} {v1 v2 : Value} {w : World} (h1 : Box b1 T1 v1 w) (h2 : Box b2 T2 v2 w) (hT : T1 ≠ T2) : b1 ≠ b2 := by
  rintro rfl
  unfold Box at h1 h2
  rw [h1] at h2
  injection h2 with h
  injection h with _ h _
  exact hT h
section
variable {b0 b1 b2 rb j k d m c g cap : Nat} {s : ByteArray} {acc : List (List Nd)} {vv : List Nd} {zs : List (Option Addr × Nat × Nat)} {v : Value} {A : Option Addr} {base W2 w3 : World}
end
end Go.Proofs.YtdgcdemihalefaaGreatDoor
namespace Go.Proofs.YtdgcdemihalefaaGreatDoor
open Go.RowKit Np Rw Vp Up Qp Tp
end Go.Proofs.YtdgcdemihalefaaGreatDoor
namespace Go.Proofs.YtdgcdemihalefaaGreatDoor
open Go.RowKit Go.Maps Np Rw Vp Up Qp Tp
section
variable {b0 b1 bN bL bP bm n rb : Nat} {uN uL : Value} {f : List UInt8 → Option Int} {X X' : World} {vN : Value} {ns : List (List UInt8)} {vL : Value} {zs : List (Option Addr × Nat × Nat)} {L : List (List Nd)}
end
section
variable {base : World} {s : ByteArray} {k d b0 b1 bN bL bP bm n rb : Nat} {uN uL : Value} {f : List UInt8 → Option Int} {A : Option Addr} {m c : Nat} {vv : List Nd} {X X' : World} {vN : Value} {ns : List (List UInt8)} {vL : Value} {zs : List (Option Addr × Nat × Nat)} {L : List (List Nd)}
end
end Go.Proofs.YtdgcdemihalefaaGreatDoor
namespace Go.Proofs.YtdgcdemihalefaaGreatDoor
open Go.RowKit Go.Maps Np Rw Vp Up Qp Tp
section
variable {base : World} {s : ByteArray} {j k d b0 b1 bN bL bP bm n rb m c : Nat} {uN uL : Value} {A : Option Addr} {vv : List Nd} {X : World} {vN : Value} {ns : List (List UInt8)} {vL : Value} {zs : List (Option Addr × Nat × Nat)} {L : List (List Nd)} {acc : List Pr}
end
end Go.Proofs.YtdgcdemihalefaaGreatDoor
namespace Go.Proofs.YtdgcdemihalefaaGreatDoor
open Go.RowKit Go.Maps Np Rw Vp Up Qp Tp
end Go.Proofs.YtdgcdemihalefaaGreatDoor
namespace Go.Proofs.YtdgcdemihalefaaGreatDoor
open Go.RowKit Np Rw Vp Up Qp Tp
end Go.Proofs.YtdgcdemihalefaaGreatDoor
namespace Go.Proofs.YtdgcdemihalefaaGreatDoor
open Go.RowKit Np Rw Vp Up Qp Tp
end Go.Proofs.YtdgcdemihalefaaGreatDoor
