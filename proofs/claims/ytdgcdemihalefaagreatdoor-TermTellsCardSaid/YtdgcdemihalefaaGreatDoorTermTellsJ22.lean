/-
  Joined: TermTellsCard.
-/
import Derived.Test.YtdgcdemihalefaaGreatDoorTermTellsJ18

/-
  The statement TermTells holds: called with any two filters, whatever lies in memory, it returns true, and each argument reads as it read before. Conditions: the listed variables of the library (two tables of bits, one of powers of ten, two of UTF-8, strconv's two errors) read as the program's text lays them (the tie is given).
-/
namespace Go.Proofs.YtdgcdemihalefaaGreatDoor
open Go.ChangeShapes Go.WideShapes Go.ChangeAt Go.RowKit Go.ChangeMaps Pw

theorem termTells_card : Rows.TermTellsCardSaid :=
  Claim7.holds_tied_plain_at .later [] Rows.termTellsCard.laidKinds true Rows.termTellsCard.stood.harness Rows.termTellsCard.stood.looks
    termTells_holds (fun _ h => by cases h) (by as_aux_lemma => kernel_rfl) (fun _ h => by cases h) termTells_row_tie rfl ⟨rfl, rfl⟩ (by as_aux_lemma => kernel_rfl) rfl
    (fun f fn hf hfn => by
      obtain rfl : f = 3 := Option.some.inj ((show Tryz.prog.funcNamed "loupe/loupelaw07.TermTells" = some 3 by kernel_rfl).symm.trans hf) |>.symm
      obtain rfl : fn = Tryz.f3 := (Option.some.inj (Tryz.func3.symm.trans hfn)).symm
      exact ⟨by kernel_rfl, fun j t ht => by
        rw [Tryz.params3] at ht
        have hm : t ∈ [23, 23] := by simpa using Array.mem_of_getElem? ht
        have hall : ([23, 23].all fun u => !Tryz.prog.wantsStandIn u) = true := by kernel_rfl
        exact (show Tryz.prog.wantsStandIn t = false by simpa using List.all_eq_true.1 hall t hm)⟩)
    (by as_aux_lemma => kernel_rfl)
#print axioms termTells_card
end Go.Proofs.YtdgcdemihalefaaGreatDoor
