/-
  Joined: NumPlain6, NumPlain7, NumPlain8, NumPlain9, NumPlain10, NumPlain11, PrS.
-/
import Derived.Test.YtmajkafoenfceaaGreatDoorNumPlain5
import Derived.Lib.Strings
import Derived.Test.YtmajkafoenfceaaGreatDoorTermPipeJ3

/-
  Plain words: noughts are taken off figures one by one; what a power comes to. No program stands here.
-/
namespace Go.Proofs.YtmajkafoenfceaaGreatDoor
namespace Np
open Go.RowKit

end Np
end Go.Proofs.YtmajkafoenfceaaGreatDoor

/-
  Plain words: where a number's figures end, in the document's words. No program stands here.
-/
namespace Go.Proofs.YtmajkafoenfceaaGreatDoor
namespace Np
open Go.RowKit

end Np
end Go.Proofs.YtmajkafoenfceaaGreatDoor

/-
  Plain words: a nought ahead makes no other number. No program stands here.
-/
namespace Go.Proofs.YtmajkafoenfceaaGreatDoor
namespace Np
open Go.RowKit

end Np
end Go.Proofs.YtmajkafoenfceaaGreatDoor

/-
  Plain words: one number, many writings. No program stands here.
-/
namespace Go.Proofs.YtmajkafoenfceaaGreatDoor
namespace Np
open Go.RowKit

end Np
end Go.Proofs.YtmajkafoenfceaaGreatDoor

/-
  Plain words: a number's text is read as it was printed. No program stands here.
-/
namespace Go.Proofs.YtmajkafoenfceaaGreatDoor
namespace Np
open Go.RowKit

end Np
end Go.Proofs.YtmajkafoenfceaaGreatDoor

/-
  Plain words: what is printed is read as it was; what is read is right. No program stands here.
-/
namespace Go.Proofs.YtmajkafoenfceaaGreatDoor
namespace Np
open Go.RowKit

theorem dec_len (u : Nat) (h : u ≤ 1000) : (Lib.decDigits u).length ≤ 4 := by
  rw [Lib.decDigits]
  split
  · simp
  · rw [Lib.decDigits]
    split
    · simp
    · rw [Lib.decDigits]
      split
      · simp
      · rw [Lib.decDigits]
        split
        · simp
        · omega
end Np
end Go.Proofs.YtmajkafoenfceaaGreatDoor

/-
  Plain words: how long a number is written. No program stands here.
-/
namespace Go.Proofs.YtmajkafoenfceaaGreatDoor
open Go.RowKit Np

theorem print_short (f : List UInt8) (g : Bool) (e : Int) (h1 : -9223372036854775808 ≤ e) (h2 : e ≤ 9223372036854775807) : (printN f g e).length ≤ f.length + 60 := by
  have hS : (printS f e).length ≤ f.length + 50 := by
    unfold printS
    split
    · simp
    split
    · rw [List.length_append, Lib.repeatL_length]; simp; omega
    split
    · have h := padF_le f (-e).toNat
      have h2 := padF_len f (-e).toNat
      unfold pointF
      simp only [List.length_append, List.length_take, List.length_cons, List.length_drop]
      omega
    · have := Lib.itoa_length_le e h1 h2
      simp only [List.length_append, List.length_cons]
      omega
  unfold printN
  split
  · simp only [List.length_cons]; omega
  · omega
end Go.Proofs.YtmajkafoenfceaaGreatDoor
