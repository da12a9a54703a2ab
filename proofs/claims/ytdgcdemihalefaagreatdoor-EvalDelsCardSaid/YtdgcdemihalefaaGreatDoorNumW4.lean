/-
  What num's reading functions answer: worth, scan's closures.
-/
import Derived.Test.YtdgcdemihalefaaGreatDoorNumW3
import Derived.Test.YtdgcdemihalefaaGreatDoorNumPlain2
import Derived.Deep.LoopGhost
namespace Go.Proofs.YtdgcdemihalefaaGreatDoor
open Go.RowKit Np

theorem setCell_same (w : World) (a : Addr) (v : Value) (h : w.cell? a = some v) : w.setCell a v = w := by
  unfold World.cell? at h
  have hh : (w.setCell a v).heap = w.heap := by
    unfold World.setCell
    apply Array.ext
    · simp
    intro i h1 h2
    simp only [Array.getElem_modify]
    split
    · rename_i hi
      subst hi
      rw [Array.getElem?_eq_getElem h2] at h
      split at h
      · rename_i c t f e
        simp only [Option.some.injEq] at e
        rw [e]
        split at h
        · simp at h
        · rename_i hs
          simp only [hs]
          congr 1
          apply Array.ext
          · simp
          intro j hj1 hj2
          simp only [Bool.false_eq_true, if_false] 
          rw [Array.getElem_setIfInBounds]
          split
          · rename_i hj; subst hj
            rw [Array.getElem?_eq_getElem hj2] at h
            exact (Option.some.inj h).symm
          · rfl
      · simp at h
    · rfl
  exact (show w.setCell a v = { w with heap := (w.setCell a v).heap } from rfl).trans (by rw [hh])
theorem setCell_two (w : World) (a : Addr) (v v' : Value) : (w.setCell a v).setCell a v' = w.setCell a v' := by
  unfold World.setCell
  congr 1
  apply Array.ext
  · simp
  intro i h1 h2
  simp only [Array.getElem_modify]
  split
  · split
    · rename_i c t f e
      split at e
      · rename_i c' t' f' e'
        rw [e']
        simp only [Obj.cells.injEq] at e
        obtain ⟨e1, e2, e3⟩ := e
        subst e1 e2 e3
        by_cases hs : a.spot.isSome = true
        · simp [hs]
        · simp [hs]
      · rename_i hn
        exact absurd e (hn _ _ _)
    · rename_i hn
      split
      · rename_i c' t' f' e'
        rw [e'] at hn
        exact absurd rfl (hn _ _ _)
      · rfl
  · rfl




theorem extract_run (s : ByteArray) (n j : Nat) (l : List UInt8) (h : l = (s.data.toList.drop n).take (j - n)) : s.extract n j = ⟨l.toArray⟩ := by
  rw [h, ← Lib.extract_toList, ByteArray.toList_eq]


end Go.Proofs.YtdgcdemihalefaaGreatDoor
