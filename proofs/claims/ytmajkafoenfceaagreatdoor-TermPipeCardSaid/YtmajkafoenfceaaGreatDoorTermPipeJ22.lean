/-
  Joined: TermPipeCardA.
-/
import Derived.Test.YtmajkafoenfceaaGreatDoorTermPipeJ21
import Derived.Test.YtmajkafoenfceaaGreatDoorTermPipeJ12
import Derived.Test.YtmajkafoenfceaaGreatDoorTermPipeJ4

/-
  The statement TermPipe holds: called with any three filters, whatever lies in memory, it returns true, and each argument reads as it read before. Conditions: the listed variables of the library (two tables of bits, one of powers of ten, two of UTF-8, strconv's two errors) read as the program's text lays them (the tie is given).
-/
namespace Go.Proofs.YtmajkafoenfceaaGreatDoor
open Go.ChangeShapes Go.WideShapes Go.ChangeAt Go.RowKit Go.ChangeMaps Pw

set_option maxRecDepth 100000 in
theorem termPipe_lifted (os : Os) (started : os.Started) (H : Type) (enc : TypeId × Value → H) :
    ReturnsInHanded {} Tryz.checked os 5 .any (fun w args => (Rows.termPipeSpec.pre enc Tryz.prog Tryz.f5 [] false w args ∧ laidMetH Tryz.prog seatLaid w) ∧ sizedMet enc Tryz.prog Tryz.f5 (OpenSpec.ofChange Rows.termPipeSpec) false w args)
      (Rows.termPipeSpec.post enc Tryz.prog Tryz.f5 false true false false) := by
  refine returnsInHanded_of_change_and (C := Tryz.checked) (X := fun w _ => laidMetH Tryz.prog seatLaid w) (fun _ _ _ hh h => h.of_heap hh) ownKn started (by kernel_rfl) Tryz.func5
    (ChangeSpec.witness_shaped (enc := enc) (C := Tryz.checked) (os := os) (X := fun w _ => laidMetH Tryz.prog seatLaid w) false (World.laidAll Tryz.prog os seatLaid)
      #[.slice none 0 0, .slice none 0 0, .slice none 0 0] 8 (World.laidAll_os _ _ _)
      (World.shaped_of_ZipB (by kernel_rfl) (by kernel_rfl)) (by kernel_rfl) (by kernel_rfl) (by kernel_rfl) (laid_met os _)) ?_
  intro W base args ds gs before hval0 hW _ hwt0 hL _
  have hval : ∀ (j : Nat) t v, Tryz.f5.params[j]? = some t → args[j]? = some v → Value.okWide Tryz.prog W .any base t v := hval0
  have hW' := hW
  obtain ⟨p, q, hA0, hV, rfl, _, _⟩ := hW
  have hA : DataW.TrodAll enc Tryz.prog W 0 (fun _ => true) true Tryz.f5.params.toList args.toList ds p := hA0
  have hwt : (DataW.weightsEach Tryz.prog (Tryz.f5.params.toList ++ Rows.termPipeSpec.plain.varTypes Tryz.prog) (ds ++ gs)).all (· ≤ reachBytes) = true := hwt0
  rw [Tryz.params5] at hA hval
  obtain ⟨v0, v1, v2, d0, d1, d2, p0, p1, p2, rfl, rfl, rfl, h0, h1, h2⟩ := trodAll_three hA
  obtain ⟨rfl, rfl⟩ := trodVars_none hV
  obtain ⟨p0, hp0, hs0⟩ := open_filter (base := 0) (sp := fun _ => true) (held := true) (hval 0 _ v0 rfl rfl) h0
  obtain ⟨p1, hp1, hs1⟩ := open_filter (base := 0) (sp := fun _ => true) (held := true) (hval 1 _ v1 rfl rfl) h1
  obtain ⟨p2, hp2, hs2⟩ := open_filter (base := 0) (sp := fun _ => true) (held := true) (hval 2 _ v2 rfl rfl) h2
  refine (termPipe_any v0 v1 v2 p0 p1 p2 W hp0 hp1 hp2 hs0 hs1 hs2 (fv_of_laid hL)).mono fun e W' ⟨he, hb⟩ => ?_
  subst he
  exact ⟨_, rfl, law_post (tb := 4) laidOut hW' rfl Tryz.underlying4 (by kernel_rfl) rfl (by
    rw [Tryz.params5]
    intro t ht
    have hall : ([23, 23, 23].all fun t => Tryz.prog.readableRec t && decide (t < Tryz.prog.types.size)) = true := by kernel_rfl
    obtain ⟨h1, h2⟩ := Bool.and_eq_true_iff.1 (List.all_eq_true.1 hall t ht)
    exact ⟨h1, of_decide_eq_true h2⟩) hb⟩

end Go.Proofs.YtmajkafoenfceaaGreatDoor
