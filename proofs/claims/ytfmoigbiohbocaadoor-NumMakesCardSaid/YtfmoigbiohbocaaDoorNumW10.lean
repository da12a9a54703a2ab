/-
  What the document's own answer Make is: as num's.
-/
import Derived.Test.YtfmoigbiohbocaaDoorNumW9
import Derived.Test.YtfmoigbiohbocaaDoorNumPlain6
namespace Go.Proofs.YtfmoigbiohbocaaDoor
open Go.RowKit Np

/-- How the document's Make ends. -/
def MakeEnd (w : World) (g : Bool) (f : ByteArray) (e : Int) (x : Ending) (w' : World) : Prop :=
  x = .returned (.tuple #[ndv (mk g f.data.toList e).1, .int .i64 (mk g f.data.toList e).2]) ∧ Below w.heap.size w w'
theorem makeEnd_of {w w' : World} {g : Bool} {f : ByteArray} {e : Int} {n : Nd} {c : Int} (h : mk g f.data.toList e = (n, c)) (hb : Below w.heap.size w w') : MakeEnd w g f e (.returned (.tuple #[ndv n, .int .i64 c])) w' := by
  unfold MakeEnd; rw [h]; exact ⟨rfl, hb⟩
theorem byte48 {c : UInt8} (h : (c.toNat : Int) = 48) : c = 48 := UInt8.toNat_inj.1 (by simp; omega)
theorem byteNot48 {c : UInt8} (h : ¬ (c.toNat : Int) = 48) : c ≠ 48 := fun e => h (by rw [e]; rfl)

set_option maxHeartbeats 1000000 in
theorem refMake_any (g : Bool) (f : ByteArray) (e : Int) (w : World) (hf : f.size ≤ 1000000) (h0 : -9223372036854775808 ≤ e) (h1 : e ≤ 9223372036854775807) :
    Calls Tryd.prog 12 #[.bool g, .string f, .int .i64 e] w (MakeEnd w g f e) := by
  have hB : Below w.heap.size w w := Below.refl _ _
  have hfm : f.size ≤ maxLen := by unfold maxLen; omega
  cases hfi : figs f.data.toList
  · have HF := Lib.hid hfi; clear hfi
    have HV := Lib.hid (mk_arg g f.data.toList e HF.out)
    go_enter Tryd.func12, Tryd.ntmps12
    go_wp2_with (go_at_call 25; refine (refFigures_any _ _ hfm).mono ?_; rintro e w' ⟨rfl, rfl⟩; rw [HF.out])
    exact bodyPost_ret (v := .tuple #[ndv nd0, .int .i64 4]) (by simp [results, Tryd.results12, go_sem, ndv, nd0]) rfl (makeEnd_of HV.out (hB.alloc (Nat.le_refl _) _))
  · have HF := Lib.hid hfi; clear hfi
    go_enter Tryd.func12, Tryd.ntmps12
    go_wp2_with (go_at_call 25; refine (refFigures_any _ _ hfm).mono ?_; rintro e w' ⟨rfl, rfl⟩; rw [HF.out])
    go_loop [1] (fun v => ∃ s : ByteArray, v = .string s ∧ s.size ≤ f.size ∧ Lib.trimLeftB s.data.toList 48 = Lib.trimLeftB f.data.toList 48) (fun v => match v with | .string s => s.size | _ => 0)
    case atStart => exact ⟨f, rfl, Nat.le_refl _, rfl⟩
    case round =>
      obtain ⟨s, rfl, hs, hq⟩ := hrel
      have HQ := Lib.hid hq; clear hq
      by_cases hp : 0 < s.size
      · by_cases hc : (s[0].toNat : Int) = 48
        · have HS := Lib.hid ((trimLeft_step s hp (byte48 hc)).trans HQ.out)
          have hlen := extract_len s 1 s.size (by omega) (Nat.le_refl _)
          have HL := Lib.hid hlen; clear hlen
          have hcb : ((s[0].toNat : Int) == 48) = true := by simpa using hc
          clear hc
          go_wp2_with fail
          go_round
          case rel => exact ⟨_, rfl, by rw [HL.out]; omega, HS.out⟩
          case measure => simp only; rw [HL.out]; omega
        · have HT := Lib.hid ((trimLeft_stop s (fun _ => byteNot48 hc)).symm.trans HQ.out)
          have hcb : ((s[0].toNat : Int) == 48) = false := by simpa using hc
          have hne : s.toList.isEmpty = false := by
            rw [ByteArray.toList_eq, first_split s hp]; rfl
          have hled : Lib.trimLeftB f.data.toList 48 ≠ [] := by
            rw [← HT.out, first_split s hp]; simp
          have HD := Lib.hid hled; clear hled hc
          have hc0 := Lib.hid (byteNot48 (c := s[0]) (by intro h; rw [h] at hcb; cases hcb))
          by_cases hfar : e < -100000000 ∨ 100000000 < e
          · have HV := Lib.hid (mk_large g f.data.toList e HF.out (by simpa using HD.out) (mkN_far g f.data.toList e HF.out HD.out (by rw [size_toList]; exact hf) h0 h1 hfar))
            rcases hfar with hfar | hfar
            · go_wp2_with fail
              exact bodyPost_ret (v := .tuple #[ndv nd0, .int .i64 2]) (by simp [results, Tryd.results12, go_sem, ndv, nd0]) rfl (makeEnd_of HV.out (hB.alloc (Nat.le_refl _) _))
            · go_wp2_with fail
              exact bodyPost_ret (v := .tuple #[ndv nd0, .int .i64 2]) (by simp [results, Tryd.results12, go_sem, ndv, nd0]) rfl (makeEnd_of HV.out (hB.alloc (Nat.le_refl _) _))
          · have g1 : -100000000 ≤ e := by omega
            have g2 : e ≤ 100000000 := by omega
            clear hfar
            have HE := Lib.hid (mkN_e g f.data.toList e (by rw [size_toList]; exact hf) g1 g2)
            have HR := Lib.hid (mkN_right g f.data.toList e HF.out HD.out)
            have HM : Hid (mkN g f.data.toList e = ⟨3, 0, [], Lib.trimRightB (Lib.trimLeftB f.data.toList 48) 48, g, (mkN g f.data.toList e).e⟩) := Lib.hid rfl
            have HO := Lib.hid (mk_ok g f.data.toList e HF.out (by simpa using HD.out))
            have HG := Lib.hid (mk_large g f.data.toList e HF.out (by simpa using HD.out))
            have HNe : Hid (Lib.trimRightB s.data.toList 48 ≠ []) := Lib.hid (by rw [first_split s hp]; exact trimRight_ne hc0.out)
            rw [← HT.out] at HE HR HM
            go_wp2_with fail
            go_loop [1, 2] (fun v z => ∃ (u : ByteArray) (y : Int), v = .string u ∧ z = .int .i64 y ∧ 0 < u.size ∧ u.size ≤ s.size ∧ Lib.trimRightB u.data.toList 48 = Lib.trimRightB s.data.toList 48 ∧ y = e + (s.size - u.size : Nat)) (fun v _ => match v with | .string s => s.size | _ => 0)
            case atStart => exact ⟨s, e, rfl, rfl, hp, Nat.le_refl _, rfl, by omega⟩
            case round =>
              obtain ⟨u, y, rfl, rfl, hu, hus, hq, hy⟩ := hrel
              have HQ2 := Lib.hid hq; clear hq
              have HY := Lib.hid hy
              have hy1 : -100000000 ≤ y := by omega
              have hy2 : y ≤ 101000000 := by omega
              clear hy
              by_cases hc : (u[u.size - 1].toNat : Int) = 48
              · have HS := Lib.hid ((trimRight_step u hu (byte48 hc)).trans HQ2.out)
                have HL := Lib.hid (extract_len u 0 (u.size - 1) (by omega) (by omega))
                have hpos : 0 < u.size - 1 := by
                  rcases Nat.eq_zero_or_pos (u.size - 1) with h | h
                  · exfalso
                    apply HNe.out
                    rw [← HS.out]
                    have : (u.extract 0 (u.size - 1)).data.toList = [] := by rw [← List.length_eq_zero_iff, size_toList, HL.out]; omega
                    rw [this]; rfl
                  · exact h
                have hcb : ((u[u.size - 1].toNat : Int) == 48) = true := by simpa using hc
                clear hc
                go_wp2_with fail
                go_round
                case rel => exact ⟨_, _, rfl, rfl, by rw [HL.out]; omega, by rw [HL.out]; omega, HS.out, by rw [HL.out, HY.out]; omega⟩
                case measure => simp only; rw [HL.out]; omega
              · have hcb : ((u[u.size - 1].toNat : Int) == 48) = false := by simpa using hc
                have HU := Lib.hid ((trimRight_stop u hu (byteNot48 hc)).symm.trans HQ2.out)
                clear hc
                have HE2 : Hid ((mkN g f.data.toList e).e = y) := Lib.hid (by rw [HE.out, ← HU.out, size_toList, size_toList, HY.out])
                have HRR : Hid (right (mkN g f.data.toList e) = (decide (u.size ≤ 100) && decide (-1000 ≤ y) && decide (y ≤ 1000 - u.size))) := Lib.hid (by rw [HR.out, HE2.out, ← HU.out, size_toList])
                have HMM : Hid (mkN g f.data.toList e = ⟨3, 0, [], u.data.toList, g, y⟩) := Lib.hid (by rw [HM.out, HE2.out, ← HU.out])
                clear HE HR HM
                go_wp2_with fail
                · exact bodyPost_ret (v := .tuple #[ndv nd0, .int .i64 2]) (by simp [results, Tryd.results12, go_sem, ndv, nd0]) rfl (makeEnd_of (HG.out (by rw [HRR.out, ← Bool.not_eq_true]; simp only [Bool.and_eq_true, decide_eq_true_eq]; omega)) (hB.alloc (Nat.le_refl _) _))
                · have HV := Lib.hid (HO.out (by rw [HRR.out]; simp only [Bool.and_eq_true, decide_eq_true_eq]; omega))
                  rw [HMM.out] at HV
                  exact bodyPost_ret (v := .tuple #[ndv ⟨3, 0, [], u.data.toList, g, y⟩, .int .i64 0]) (by simp [results, Tryd.results12, go_sem, ndv]) rfl (makeEnd_of HV.out (hB.alloc (Nat.le_refl _) _))
                · exact bodyPost_ret (v := .tuple #[ndv nd0, .int .i64 2]) (by simp [results, Tryd.results12, go_sem, ndv, nd0]) rfl (makeEnd_of (HG.out (by rw [HRR.out, ← Bool.not_eq_true]; simp only [Bool.and_eq_true, decide_eq_true_eq]; omega)) (hB.alloc (Nat.le_refl _) _))
                · exact bodyPost_ret (v := .tuple #[ndv nd0, .int .i64 2]) (by simp [results, Tryd.results12, go_sem, ndv, nd0]) rfl (makeEnd_of (HG.out (by rw [HRR.out, ← Bool.not_eq_true]; simp only [Bool.and_eq_true, decide_eq_true_eq]; omega)) (hB.alloc (Nat.le_refl _) _))
      · have HT := Lib.hid ((trimLeft_stop s (fun h => absurd h hp)).symm.trans HQ.out)
        have he : s.data.toList = [] := by rw [← List.length_eq_zero_iff, size_toList]; omega
        have HV := Lib.hid (mk_nought g f.data.toList e HF.out (by rw [← HT.out, he]; rfl))
        have hne : s.toList.isEmpty = true := by rw [ByteArray.toList_eq, he]; rfl
        clear he
        go_wp2_with fail
        exact bodyPost_ret (v := .tuple #[ndv nought, .int .i64 0]) (by simp [results, Tryd.results12, go_sem, ndv, nought]) rfl (makeEnd_of HV.out (hB.alloc (Nat.le_refl _) _))

end Go.Proofs.YtfmoigbiohbocaaDoor
