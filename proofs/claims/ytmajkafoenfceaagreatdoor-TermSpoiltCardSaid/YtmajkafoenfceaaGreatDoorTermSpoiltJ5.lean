/-
  Joined: TermSpoiltCard.
-/
import Derived.Test.YtmajkafoenfceaaGreatDoorTermSpoiltJ4

/-
  The statement TermSpoilt holds: called with any filter, any term and any number, whatever lies in memory, it returns true, and each argument reads as it read before. Conditions: the listed variables of the library (two tables of bits, one of powers of ten, two of UTF-8, strconv's two errors) read as the program's text lays them (the tie is given).
-/
namespace Go.Proofs.YtmajkafoenfceaaGreatDoor
open Go.ChangeShapes Go.WideShapes Go.ChangeAt Go.RowKit Go.ChangeMaps Pw

theorem termSpoilt_card : Rows.TermSpoiltCardSaid :=
  Claim7.holds_tied_plain_at .later [] Rows.termSpoiltCard.laidKinds true Rows.termSpoiltCard.stood.harness Rows.termSpoiltCard.stood.looks
    termSpoilt_holds (fun _ h => by cases h) (by as_aux_lemma => kernel_rfl) (fun _ h => by cases h) termSpoilt_row_tie rfl ⟨rfl, rfl⟩ (by as_aux_lemma => kernel_rfl) rfl
    (fun f fn hf hfn => by
      obtain rfl : f = 7 := Option.some.inj ((show Tryz.prog.funcNamed "loupe/loupelaw07.TermSpoilt" = some 7 by kernel_rfl).symm.trans hf) |>.symm
      obtain rfl : fn = Tryz.f7 := (Option.some.inj (Tryz.func7.symm.trans hfn)).symm
      exact ⟨by kernel_rfl, fun j t ht => by
        rw [Tryz.params7] at ht
        have hm : t ∈ [23, 37, 3] := by simpa using Array.mem_of_getElem? ht
        have hall : ([23, 37, 3].all fun u => !Tryz.prog.wantsStandIn u) = true := by kernel_rfl
        exact (show Tryz.prog.wantsStandIn t = false by simpa using List.all_eq_true.1 hall t hm)⟩)
    (by as_aux_lemma => kernel_rfl)
#print axioms termSpoilt_card
end Go.Proofs.YtmajkafoenfceaaGreatDoor
