/-
  Plain words on numbers: a number's text. No program stands here.
-/
import Derived.Test.YtfmoigbiohbocaaDoorNumPlain3
import Derived.Lib.Repeat
import Derived.Lib.ItoaNum
import Derived.Lib.ItoaLen
namespace Go.Proofs.YtfmoigbiohbocaaDoor
namespace Np
open Go.RowKit

/-- Figures with so many behind the point. -/
def padF (f : List UInt8) (b : Nat) : List UInt8 := Lib.repeatL [48] (b + 1 - f.length) ++ f
def pointF (f : List UInt8) (b : Nat) : List UInt8 := (padF f b).take ((padF f b).length - b) ++ 46 :: (padF f b).drop ((padF f b).length - b)
def printS (f : List UInt8) (e : Int) : List UInt8 :=
  if f.isEmpty = true then [48] else if 0 ≤ e ∧ e ≤ 20 - f.length then f ++ Lib.repeatL [48] e.toNat
  else if -20 ≤ e ∧ e ≤ -1 then pointF f (-e).toNat else f ++ 101 :: Lib.itoa e
def printN (f : List UInt8) (g : Bool) (e : Int) : List UInt8 := if g = true then 45 :: printS f e else printS f e
theorem padF_long {f : List UInt8} {b : Nat} (h : b < f.length) : padF f b = f := by
  unfold padF; rw [show b + 1 - f.length = 0 by omega]; rfl
theorem padF_len (f : List UInt8) (b : Nat) : b < (padF f b).length := by
  unfold padF; rw [List.length_append, Lib.repeatL_length]; simp; omega
theorem padF_le (f : List UInt8) (b : Nat) : (padF f b).length ≤ f.length + b + 1 := by
  unfold padF; rw [List.length_append, Lib.repeatL_length]; simp; omega

theorem printS_len (f : List UInt8) (e : Int) (hf : f.length ≤ 1000000) (he : -1000000 ≤ e) (he2 : e ≤ 1000000) : (printS f e).length ≤ 1000100 := by
  unfold printS
  split
  · simp
  split
  · rw [List.length_append, Lib.repeatL_length]; simp; omega
  split
  · have h := padF_le f (-e).toNat
    have h2 := padF_len f (-e).toNat
    unfold pointF
    simp only [List.length_append, List.length_take, List.length_cons, List.length_drop]
    omega
  · have := Lib.itoa_length_le e (by omega) (by omega)
    simp only [List.length_append, List.length_cons]
    omega

end Np
end Go.Proofs.YtfmoigbiohbocaaDoor
