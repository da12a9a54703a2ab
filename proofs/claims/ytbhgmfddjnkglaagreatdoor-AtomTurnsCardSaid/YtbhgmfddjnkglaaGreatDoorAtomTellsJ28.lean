/-
  Joined: NumW3.
-/
import Derived.Test.YtbhgmfddjnkglaaGreatDoorAtomTellsJ3

/-
  What num.Make answers.
-/
namespace Go.Proofs.YtbhgmfddjnkglaaGreatDoor
open Go.RowKit Np

set_option maxHeartbeats 400000 in
theorem make_any (g : Bool) (f : ByteArray) (e : Int) (w : World) (hf : f.size ≤ maxLen) :
    Calls Tryz.prog 42 #[.bool g, .string f, .int .i64 e] w
      fun x w' => x = .returned (.tuple #[ndv (mk g f.data.toList e).1, .int .i64 (mk g f.data.toList e).2]) ∧ Below w.heap.size w w' := by
  have hB : Below w.heap.size w w := Below.refl _ _
  cases hfi : figs f.data.toList
  · have HF := Lib.hid hfi; clear hfi
    have HV := Lib.hid (mk_arg g f.data.toList e HF.out)
    go_enter Tryz.func42, Tryz.ntmps42
    go_wp2_with (go_at_call 61; refine (onlyFigures_any _ _ hf).mono ?_; rintro e w' ⟨rfl, rfl⟩; rw [HF.out])
    rw [HV.out]
    exact bodyPost_ret (v := .tuple #[ndv ⟨0, 0, [], [], false, 0⟩, .int .i64 4]) (by simp [results, Tryz.results42, go_sem, ndv]) rfl ⟨rfl, hB.alloc (Nat.le_refl _) _⟩
  · have HF := Lib.hid hfi; clear hfi
    go_enter Tryz.func42, Tryz.ntmps42
    go_wp2_with (go_at_call 61; refine (onlyFigures_any _ _ hf).mono ?_; rintro e w' ⟨rfl, rfl⟩; rw [HF.out])
    refine (Tryz.strings_TrimLeft_one _ 48 (by decide) _).mono ?_
    rintro e w' ⟨rfl, rfl⟩
    have HN := Lib.hid (mk_nought g f.data.toList e HF.out)
    have HO := Lib.hid (mk_ok g f.data.toList e HF.out)
    have HL := Lib.hid (mk_large g f.data.toList e HF.out)
    have HM : Hid (mkN g f.data.toList e = ⟨3, 0, [], Lib.trimRightB (Lib.trimLeftB f.data.toList 48) 48, g, wrap64 (wrap64 (e + (Lib.trimLeftB f.data.toList 48).length) - (Lib.trimRightB (Lib.trimLeftB f.data.toList 48) 48).length)⟩) := Lib.hid rfl
    have hz : (Lib.trimLeftB f.data.toList 48).length ≤ maxLen := Nat.le_trans (List.IsSuffix.length_le (List.dropWhile_suffix _)) (by rw [size_toList]; exact hf)
    generalize Lib.trimLeftB f.data.toList 48 = led at HN HO HL HM hz ⊢
    cases led with
    | nil =>
      have HV := Lib.hid (HN.out rfl); clear HN HO HL HM
      go_wp2_with fail
      rw [HV.out]
      exact bodyPost_ret (v := .tuple #[ndv nought, .int .i64 0]) (by simp [results, Tryz.results42, go_sem, ndv, nought]) rfl ⟨rfl, hB.alloc (Nat.le_refl _) _⟩
    | cons c t =>
      clear HN
      have hz2 : (c :: t).length ≤ 9223372036854775807 := hz
      generalize hled : c :: t = led at HO HL HM hz hz2 ⊢
      have HLed := Lib.hid hled; clear hled
      have hne : led.isEmpty = false := by rw [← HLed.out]; rfl
      go_wp2_with fail
      refine (Tryz.strings_TrimRight_one _ 48 (by decide) _ (by show led.length ≤ _; exact hz2)).mono ?_
      rintro e2 w' ⟨rfl, rfl⟩
      go_wp2_with fail
      have hy : (Lib.trimRightB led 48).length ≤ maxLen := by
        refine Nat.le_trans ?_ hz
        rw [Lib.trimRightB, List.length_reverse]
        refine Nat.le_trans (List.IsSuffix.length_le (List.dropWhile_suffix _)) ?_
        rw [List.length_reverse]; exact Nat.le_refl _
      refine (right_any _ _ _ _ _ _ _ (by show List.length _ ≤ _; exact hy)).mono ?_
      rintro e3 w3 ⟨rfl, hb3⟩
      obtain ⟨hc3, hf3⟩ := kept_cells hb3
      have hz3 : w.heap.size + 2 ≤ w3.heap.size := by have := hb3.size; simp at this; omega
      have hB3 : Below w.heap.size w w3 := ((hB.alloc (Nat.le_refl _) _).alloc (by simp) _).trans (hb3.mono (by simp; omega))
      clear hb3
      have k0 : w3.cell? ⟨w.heap.size, 0, none⟩ = some (.int .i64 0) := by rw [hc3 _ _ (by simp; omega)]; simp
      have k1 : w3.cell? ⟨w.heap.size, 1, none⟩ = some (.int .i64 0) := by rw [hc3 _ _ (by simp; omega)]; simp
      have k2 : w3.cell? ⟨w.heap.size, 2, none⟩ = some (.string ⟨#[]⟩) := by rw [hc3 _ _ (by simp; omega)]; simp
      have k3 : w3.cell? ⟨w.heap.size, 3, none⟩ = some (.string ⟨#[]⟩) := by rw [hc3 _ _ (by simp; omega)]; simp
      have k4 : w3.cell? ⟨w.heap.size, 4, none⟩ = some (.bool false) := by rw [hc3 _ _ (by simp; omega)]; simp
      have k5 : w3.cell? ⟨w.heap.size, 5, none⟩ = some (.int .i64 0) := by rw [hc3 _ _ (by simp; omega)]; simp
      have HR : Hid (right ⟨3, 0, (ByteArray.mk #[]).data.toList, (ByteArray.mk (Lib.trimRightB led 48).toArray).data.toList, g, wrap64 (wrap64 (e + led.length) - (Lib.trimRightB led 48).length)⟩ = right (mkN g f.data.toList e)) := Lib.hid (by rw [HM.out])
      rw [HR.out]
      cases hr : right (mkN g f.data.toList e)
      · have HV := Lib.hid (HL.out hne hr)
        clear hr HO HL HR HM
        go_wp2_with fail
        rw [HV.out]
        refine bodyPost_ret (v := .tuple #[ndv nd0, .int .i64 2]) ?_ rfl ⟨rfl, ?_⟩
        · simp [results, Tryz.results42, go_sem, ndv, nd0, k0, k1, k2, k3, k4, k5]
        · exact ((((((hB3.setCell (Nat.le_refl _) _).setCell (Nat.le_refl _) _).setCell (Nat.le_refl _) _).setCell (Nat.le_refl _) _).setCell (Nat.le_refl _) _).setCell (Nat.le_refl _) _)
      · have HV := Lib.hid (HO.out hne hr)
        clear hr HO HL HR
        go_wp2_with fail
        rw [HV.out]
        refine bodyPost_ret (v := .tuple #[ndv (mkN g f.data.toList e), .int .i64 0]) ?_ rfl ⟨rfl, ?_⟩
        · simp [results, Tryz.results42, go_sem, ndv, HM.out, k0, k1, k2, k3, k4, k5]
        · exact ((((((hB3.setCell (Nat.le_refl _) _).setCell (Nat.le_refl _) _).setCell (Nat.le_refl _) _).setCell (Nat.le_refl _) _).setCell (Nat.le_refl _) _).setCell (Nat.le_refl _) _)

end Go.Proofs.YtbhgmfddjnkglaaGreatDoor
