/-
  Joined: TqA, NumW10, NumW11, NumW12, NumW13, TqB, TqC.
-/
import Derived.Test.YtafbojiojeemoaaGreatDoorTextCutJ15
import Derived.Test.YtafbojiojeemoaaGreatDoorTextCutJ7
import Derived.Test.YtafbojiojeemoaaGreatDoorTextCutJ12
import Derived.Test.YtafbojiojeemoaaGreatDoorNumR
import Derived.Test.YtafbojiojeemoaaGreatDoorTextCutJ14
import Derived.Test.YtafbojiojeemoaaGreatDoorTextCutJ8
import Derived.Test.YtafbojiojeemoaaGreatDoorTextParsesJ1

/-
  The document's own reading of texts: what Blank, has and bad of louperef04 answer.
-/
namespace Go.Proofs.YtafbojiojeemoaaGreatDoor
open Go.RowKit Np Rw Vp Up Qp Tp

set_option maxRecDepth 100000 in
set_option maxHeartbeats 2000000 in
theorem refBlank_any (s : ByteArray) (i : Nat) (w : World) (hs : s.size ≤ 1000000) (hi : i ≤ s.size) : Calls Tryz.prog 33 #[.string s, .int .i64 i] w fun e w' => e = .returned (.int .i64 (sk s.data.toList i : Nat)) ∧ w' = w := by
  have HSB : Hid (∀ k, (h : k < s.size) → blk s[k].toNat = true → sk s.data.toList k = sk s.data.toList (k + 1)) := Lib.hid (fun k h hb => sk_blk (by rw [size_toList]; exact h) (by rw [bt_at s k h]; exact hb))
  have HSN : Hid (∀ k, (h : k < s.size) → blk s[k].toNat = false → sk s.data.toList k = k) := Lib.hid (fun k h hb => sk_not (by rw [bt_at s k h]; exact hb))
  have HSO : Hid (sk s.data.toList s.size = s.size) := Lib.hid (sk_over (by rw [size_toList]; exact Nat.le_refl _))
  generalize hK : sk s.data.toList i = K
  have HK := Lib.hid hK
  clear hK
  go_enter Tryz.func33, Tryz.ntmps33
  go_wp2_with fail
  go_loopw [1] (fun iv wr => ∃ k : Nat, k ≤ s.size ∧ iv = .int .i64 k ∧ Hid (sk s.data.toList k = K) ∧ wr = w) (fun iv _ => s.size - (intOf iv).toNat)
  case atStart => exact ⟨i, hi, rfl, HK, rfl⟩
  case round =>
    obtain ⟨k, hk, rfl, HR, rfl⟩ := hrel
    by_cases hlt : k < s.size
    · by_cases hb : s[k].toNat = 32 ∨ s[k].toNat = 9 ∨ s[k].toNat = 10 ∨ s[k].toNat = 13
      · have HN : Hid (sk s.data.toList (k + 1) = K) := Lib.hid (by rw [← HSB.out k hlt (by unfold blk; simp; omega), HR.out])
        have hfr : (s[k].toNat = 32) ∨ (¬ s[k].toNat = 32 ∧ s[k].toNat = 9) ∨ (¬ s[k].toNat = 32 ∧ ¬ s[k].toNat = 9 ∧ s[k].toNat = 10) ∨ (¬ s[k].toNat = 32 ∧ ¬ s[k].toNat = 9 ∧ ¬ s[k].toNat = 10 ∧ s[k].toNat = 13) := by omega
        clear hb
        rcases hfr with h1 | ⟨h1, h2⟩ | ⟨h1, h2, h3⟩ | ⟨h1, h2, h3, h4⟩
        all_goals
          have e1 : ((s[k].toNat : Int) == 32) = decide (s[k].toNat = 32) := by rw [Bool.eq_iff_iff]; simp; omega
          have e2 : ((s[k].toNat : Int) == 9) = decide (s[k].toNat = 9) := by rw [Bool.eq_iff_iff]; simp; omega
          have e3 : ((s[k].toNat : Int) == 10) = decide (s[k].toNat = 10) := by rw [Bool.eq_iff_iff]; simp; omega
          have e4 : ((s[k].toNat : Int) == 13) = decide (s[k].toNat = 13) := by rw [Bool.eq_iff_iff]; simp; omega
          simp only [*, decide_true] at e1 e2 e3 e4
          go_wp2_with fail
          refine ⟨⟨k + 1, by omega, by go_num, HN, by first | trivial | rfl⟩, ?_⟩
          simp [intOf]; omega
      · have HE : Hid (k = K) := Lib.hid (by rw [← HR.out, HSN.out k hlt (by unfold blk; simp; omega)])
        have e1 : ((s[k].toNat : Int) == 32) = false := by simp; omega
        have e2 : ((s[k].toNat : Int) == 9) = false := by simp; omega
        have e3 : ((s[k].toNat : Int) == 10) = false := by simp; omega
        have e4 : ((s[k].toNat : Int) == 13) = false := by simp; omega
        go_wp2_with fail
        go_ret
        exact ⟨by rw [← HE.out]; rfl, by first | trivial | rfl⟩
    · have hke : k = s.size := by omega
      subst hke
      have HE : Hid (s.size = K) := Lib.hid (by rw [← HR.out, HSO.out])
      go_wp2_with fail
      go_ret
      exact ⟨by rw [← HE.out]; rfl, by first | trivial | rfl⟩
theorem pre_take {l x : List UInt8} : Lib.hasPrefix l x = decide (l.take x.length = x) := by
  rw [Bool.eq_iff_iff, decide_eq_true_eq]
  unfold Lib.hasPrefix
  rw [List.isPrefixOf_iff_prefix]
  constructor
  · rintro ⟨r, rfl⟩
    simp
  · intro h
    exact ⟨l.drop x.length, by conv => lhs; lhs; rw [← h]
                               rw [List.take_append_drop]⟩
set_option maxRecDepth 100000 in
set_option maxHeartbeats 2000000 in
theorem refHas_any (s x : ByteArray) (i : Nat) (w : World) (hs : s.size ≤ 1000000) (hx : x.size ≤ 1000000) (hi : i ≤ s.size) : Calls Tryz.prog 59 #[.string s, .int .i64 i, .string x] w fun e w' => e = .returned (.bool (Lib.hasPrefix (s.data.toList.drop i) x.data.toList)) ∧ w' = w := by
  have hw1 : IntKind.i64.wrap ((i : Int) + (x.size : Int)) = (i : Int) + (x.size : Int) := IntWalk.i64_in _ ⟨by omega, by omega⟩
  by_cases hle : i + x.size ≤ s.size
  · have hle2 : (i : Int) + (x.size : Int) ≤ (s.size : Int) := by omega
    have h0 : (i : Int) ≤ (i : Int) + (x.size : Int) := by omega
    have HB : Hid ((((s.extract i (i + x.size)).toList == x.toList) : Bool) = Lib.hasPrefix (s.data.toList.drop i) x.data.toList) := Lib.hid (by
      have h := Lib.extract_toList s i (i + x.size)
      rw [ByteArray.toList_eq, Nat.add_sub_cancel_left] at h
      rw [ByteArray.toList_eq, ByteArray.toList_eq, pre_take, h, size_toList, Bool.eq_iff_iff]
      simp)
    generalize Lib.hasPrefix (s.data.toList.drop i) x.data.toList = B at *
    go_enter Tryz.func59, Tryz.ntmps59
    go_wp2_with fail
    go_ret
    exact ⟨ret_bool HB.out, rfl⟩
  · have hle2 : ¬ (i : Int) + (x.size : Int) ≤ (s.size : Int) := by omega
    have HB : Hid (Lib.hasPrefix (s.data.toList.drop i) x.data.toList = false) := Lib.hid (by
      cases h : Lib.hasPrefix (s.data.toList.drop i) x.data.toList with
      | false => rfl
      | true =>
        unfold Lib.hasPrefix at h
        have := (List.isPrefixOf_iff_prefix.1 h).length_le
        rw [List.length_drop, size_toList, size_toList] at this
        omega)
    generalize Lib.hasPrefix (s.data.toList.drop i) x.data.toList = B at *
    go_enter Tryz.func59, Tryz.ntmps59
    go_wp2_with fail
    go_ret
    exact ⟨ret_bool (by rw [HB.out]), rfl⟩
end Go.Proofs.YtafbojiojeemoaaGreatDoor

/-
  What the document's own answer Make is: as num's.
-/
namespace Go.Proofs.YtafbojiojeemoaaGreatDoor
open Go.RowKit Np

/-- How the document's Make ends. -/
def MakeEnd (w : World) (g : Bool) (f : ByteArray) (e : Int) (x : Ending) (w' : World) : Prop :=
  x = .returned (.tuple #[ndv (mk g f.data.toList e).1, .int .i64 (mk g f.data.toList e).2]) ∧ Below w.heap.size w w'
theorem makeEnd_of {w w' : World} {g : Bool} {f : ByteArray} {e : Int} {n : Nd} {c : Int} (h : mk g f.data.toList e = (n, c)) (hb : Below w.heap.size w w') : MakeEnd w g f e (.returned (.tuple #[ndv n, .int .i64 c])) w' := by
  unfold MakeEnd; rw [h]; exact ⟨rfl, hb⟩
theorem byte48 {c : UInt8} (h : (c.toNat : Int) = 48) : c = 48 := UInt8.toNat_inj.1 (by simp; omega)
theorem byteNot48 {c : UInt8} (h : ¬ (c.toNat : Int) = 48) : c ≠ 48 := fun e => h (by rw [e]; rfl)

set_option maxHeartbeats 1000000 in
theorem refMake_any (g : Bool) (f : ByteArray) (e : Int) (w : World) (hf : f.size ≤ 1000000) (h0 : -9223372036854775808 ≤ e) (h1 : e ≤ 9223372036854775807) :
    Calls Tryz.prog 144 #[.bool g, .string f, .int .i64 e] w (MakeEnd w g f e) := by
  have hB : Below w.heap.size w w := Below.refl _ _
  have hfm : f.size ≤ maxLen := by unfold maxLen; omega
  cases hfi : figs f.data.toList
  · have HF := Lib.hid hfi; clear hfi
    have HV := Lib.hid (mk_arg g f.data.toList e HF.out)
    go_enter Tryz.func144, Tryz.ntmps144
    go_wp2_with (go_at_call 145; refine (refFigures_any _ _ hfm).mono ?_; rintro e w' ⟨rfl, rfl⟩; rw [HF.out])
    exact bodyPost_ret (v := .tuple #[ndv nd0, .int .i64 4]) (by simp [results, Tryz.results144, go_sem, ndv, nd0]) rfl (makeEnd_of HV.out (hB.alloc (Nat.le_refl _) _))
  · have HF := Lib.hid hfi; clear hfi
    go_enter Tryz.func144, Tryz.ntmps144
    go_wp2_with (go_at_call 145; refine (refFigures_any _ _ hfm).mono ?_; rintro e w' ⟨rfl, rfl⟩; rw [HF.out])
    go_loop [1] (fun v => ∃ s : ByteArray, v = .string s ∧ s.size ≤ f.size ∧ Lib.trimLeftB s.data.toList 48 = Lib.trimLeftB f.data.toList 48) (fun v => match v with | .string s => s.size | _ => 0)
    case atStart => exact ⟨f, rfl, Nat.le_refl _, rfl⟩
    case round =>
      obtain ⟨s, rfl, hs, hq⟩ := hrel
      have HQ := Lib.hid hq; clear hq
      by_cases hp : 0 < s.size
      · by_cases hc : (s[0].toNat : Int) = 48
        · have HS := Lib.hid ((trimLeft_step s hp (byte48 hc)).trans HQ.out)
          have hlen := extract_len s 1 s.size (by omega) (Nat.le_refl _)
          have HL := Lib.hid hlen; clear hlen
          have hcb : ((s[0].toNat : Int) == 48) = true := by simpa using hc
          clear hc
          go_wp2_with fail
          go_round
          case rel => exact ⟨_, rfl, by rw [HL.out]; omega, HS.out⟩
          case measure => simp only; rw [HL.out]; omega
        · have HT := Lib.hid ((trimLeft_stop s (fun _ => byteNot48 hc)).symm.trans HQ.out)
          have hcb : ((s[0].toNat : Int) == 48) = false := by simpa using hc
          have hne : s.toList.isEmpty = false := by
            rw [ByteArray.toList_eq, first_split s hp]; rfl
          have hled : Lib.trimLeftB f.data.toList 48 ≠ [] := by
            rw [← HT.out, first_split s hp]; simp
          have HD := Lib.hid hled; clear hled hc
          have hc0 := Lib.hid (byteNot48 (c := s[0]) (by intro h; rw [h] at hcb; cases hcb))
          by_cases hfar : e < -100000000 ∨ 100000000 < e
          · have HV := Lib.hid (mk_large g f.data.toList e HF.out (by simpa using HD.out) (mkN_far g f.data.toList e HF.out HD.out (by rw [size_toList]; exact hf) h0 h1 hfar))
            rcases hfar with hfar | hfar
            · go_wp2_with fail
              exact bodyPost_ret (v := .tuple #[ndv nd0, .int .i64 2]) (by simp [results, Tryz.results144, go_sem, ndv, nd0]) rfl (makeEnd_of HV.out (hB.alloc (Nat.le_refl _) _))
            · go_wp2_with fail
              exact bodyPost_ret (v := .tuple #[ndv nd0, .int .i64 2]) (by simp [results, Tryz.results144, go_sem, ndv, nd0]) rfl (makeEnd_of HV.out (hB.alloc (Nat.le_refl _) _))
          · have g1 : -100000000 ≤ e := by omega
            have g2 : e ≤ 100000000 := by omega
            clear hfar
            have HE := Lib.hid (mkN_e g f.data.toList e (by rw [size_toList]; exact hf) g1 g2)
            have HR := Lib.hid (mkN_right g f.data.toList e HF.out HD.out)
            have HM : Hid (mkN g f.data.toList e = ⟨3, 0, [], Lib.trimRightB (Lib.trimLeftB f.data.toList 48) 48, g, (mkN g f.data.toList e).e⟩) := Lib.hid rfl
            have HO := Lib.hid (mk_ok g f.data.toList e HF.out (by simpa using HD.out))
            have HG := Lib.hid (mk_large g f.data.toList e HF.out (by simpa using HD.out))
            have HNe : Hid (Lib.trimRightB s.data.toList 48 ≠ []) := Lib.hid (by rw [first_split s hp]; exact trimRight_ne hc0.out)
            rw [← HT.out] at HE HR HM
            go_wp2_with fail
            go_loop [1, 2] (fun v z => ∃ (u : ByteArray) (y : Int), v = .string u ∧ z = .int .i64 y ∧ 0 < u.size ∧ u.size ≤ s.size ∧ Lib.trimRightB u.data.toList 48 = Lib.trimRightB s.data.toList 48 ∧ y = e + (s.size - u.size : Nat)) (fun v _ => match v with | .string s => s.size | _ => 0)
            case atStart => exact ⟨s, e, rfl, rfl, hp, Nat.le_refl _, rfl, by omega⟩
            case round =>
              obtain ⟨u, y, rfl, rfl, hu, hus, hq, hy⟩ := hrel
              have HQ2 := Lib.hid hq; clear hq
              have HY := Lib.hid hy
              have hy1 : -100000000 ≤ y := by omega
              have hy2 : y ≤ 101000000 := by omega
              clear hy
              by_cases hc : (u[u.size - 1].toNat : Int) = 48
              · have HS := Lib.hid ((trimRight_step u hu (byte48 hc)).trans HQ2.out)
                have HL := Lib.hid (extract_len u 0 (u.size - 1) (by omega) (by omega))
                have hpos : 0 < u.size - 1 := by
                  rcases Nat.eq_zero_or_pos (u.size - 1) with h | h
                  · exfalso
                    apply HNe.out
                    rw [← HS.out]
                    have : (u.extract 0 (u.size - 1)).data.toList = [] := by rw [← List.length_eq_zero_iff, size_toList, HL.out]; omega
                    rw [this]; rfl
                  · exact h
                have hcb : ((u[u.size - 1].toNat : Int) == 48) = true := by simpa using hc
                clear hc
                go_wp2_with fail
                go_round
                case rel => exact ⟨_, _, rfl, rfl, by rw [HL.out]; omega, by rw [HL.out]; omega, HS.out, by rw [HL.out, HY.out]; omega⟩
                case measure => simp only; rw [HL.out]; omega
              · have hcb : ((u[u.size - 1].toNat : Int) == 48) = false := by simpa using hc
                have HU := Lib.hid ((trimRight_stop u hu (byteNot48 hc)).symm.trans HQ2.out)
                clear hc
                have HE2 : Hid ((mkN g f.data.toList e).e = y) := Lib.hid (by rw [HE.out, ← HU.out, size_toList, size_toList, HY.out])
                have HRR : Hid (right (mkN g f.data.toList e) = (decide (u.size ≤ 100) && decide (-1000 ≤ y) && decide (y ≤ 1000 - u.size))) := Lib.hid (by rw [HR.out, HE2.out, ← HU.out, size_toList])
                have HMM : Hid (mkN g f.data.toList e = ⟨3, 0, [], u.data.toList, g, y⟩) := Lib.hid (by rw [HM.out, HE2.out, ← HU.out])
                clear HE HR HM
                go_wp2_with fail
                · exact bodyPost_ret (v := .tuple #[ndv nd0, .int .i64 2]) (by simp [results, Tryz.results144, go_sem, ndv, nd0]) rfl (makeEnd_of (HG.out (by rw [HRR.out, ← Bool.not_eq_true]; simp only [Bool.and_eq_true, decide_eq_true_eq]; omega)) (hB.alloc (Nat.le_refl _) _))
                · have HV := Lib.hid (HO.out (by rw [HRR.out]; simp only [Bool.and_eq_true, decide_eq_true_eq]; omega))
                  rw [HMM.out] at HV
                  exact bodyPost_ret (v := .tuple #[ndv ⟨3, 0, [], u.data.toList, g, y⟩, .int .i64 0]) (by simp [results, Tryz.results144, go_sem, ndv]) rfl (makeEnd_of HV.out (hB.alloc (Nat.le_refl _) _))
                · exact bodyPost_ret (v := .tuple #[ndv nd0, .int .i64 2]) (by simp [results, Tryz.results144, go_sem, ndv, nd0]) rfl (makeEnd_of (HG.out (by rw [HRR.out, ← Bool.not_eq_true]; simp only [Bool.and_eq_true, decide_eq_true_eq]; omega)) (hB.alloc (Nat.le_refl _) _))
                · exact bodyPost_ret (v := .tuple #[ndv nd0, .int .i64 2]) (by simp [results, Tryz.results144, go_sem, ndv, nd0]) rfl (makeEnd_of (HG.out (by rw [HRR.out, ← Bool.not_eq_true]; simp only [Bool.and_eq_true, decide_eq_true_eq]; omega)) (hB.alloc (Nat.le_refl _) _))
      · have HT := Lib.hid ((trimLeft_stop s (fun h => absurd h hp)).symm.trans HQ.out)
        have he : s.data.toList = [] := by rw [← List.length_eq_zero_iff, size_toList]; omega
        have HV := Lib.hid (mk_nought g f.data.toList e HF.out (by rw [← HT.out, he]; rfl))
        have hne : s.toList.isEmpty = true := by rw [ByteArray.toList_eq, he]; rfl
        clear he
        go_wp2_with fail
        exact bodyPost_ret (v := .tuple #[ndv nought, .int .i64 0]) (by simp [results, Tryz.results144, go_sem, ndv, nought]) rfl (makeEnd_of HV.out (hB.alloc (Nat.le_refl _) _))

end Go.Proofs.YtafbojiojeemoaaGreatDoor

/-
  What the document's own answers are: run, whole, power.
-/
namespace Go.Proofs.YtafbojiojeemoaaGreatDoor
open Go.RowKit Np

theorem stands_yes {s : ByteArray} {i : Nat} {c : UInt8} (h : stands s.data.toList i c = true) : ∃ hi : i < s.size, (s[i].toNat : Int) = c.toNat := by
  have hlt := stands_lt h
  rw [size_toList] at hlt
  unfold stands at h
  rw [List.getElem?_eq_getElem (by rw [size_toList]; exact hlt), get_toList s i hlt] at h
  exact ⟨hlt, by simp at h; rw [h]⟩
theorem stands_no {s : ByteArray} {i : Nat} {c : UInt8} (h : stands s.data.toList i c = false) (hi : i < s.size) : ¬ (s[i].toNat : Int) = c.toNat := by
  unfold stands at h
  rw [List.getElem?_eq_getElem (by rw [size_toList]; exact hi), get_toList s i hi] at h
  intro e
  simp at h
  exact h (UInt8.toNat_inj.1 (by omega))

set_option maxHeartbeats 1000000 in
theorem refRun_any (s : ByteArray) (i : Nat) (w : World) (hi : i ≤ s.size) (hs : s.size ≤ 1000000) :
    Calls Tryz.prog 142 #[.string s, .int .i64 i] w fun e w' => e = .returned (.int .i64 (i + (run s.data.toList i).length : Nat)) ∧ w' = w := by
  go_enter Tryz.func142, Tryz.ntmps142
  go_wp2
  go_loop [1] (fun v => ∃ j : Nat, i ≤ j ∧ j ≤ s.size ∧ v = .int .i64 j ∧ figs ((s.data.toList.drop i).take (j - i)) = true) (fun v => s.size - (intOf v).toNat)
  case atStart => exact ⟨i, Nat.le_refl _, hi, rfl, by simp [figs]⟩
  case round =>
    obtain ⟨j, hj1, hj2, rfl, hf⟩ := hrel
    have HF := Lib.hid hf; clear hf
    have hlen : (s.data.toList.drop i).length = s.size - i := by simp
    by_cases hlt : j < s.size
    · have hget : (s.data.toList.drop i)[j - i]'(by omega) = s[j] := by
        rw [List.getElem_drop]; simp only [show i + (j - i) = j by omega]; exact get_toList s j hlt
      have HN : Hid (fig s[j] = false → i + (run s.data.toList i).length = j) := Lib.hid (fun h => by
        rw [run, takeWhile_stop (s.data.toList.drop i) (j - i) (by omega) HF.out (fun _ => by rw [hget]; exact h), List.length_take, hlen]; omega)
      have HY : Hid (fig s[j] = true → figs ((s.data.toList.drop i).take (j + 1 - i)) = true) := Lib.hid (fun h => by
        rw [show j + 1 - i = (j - i) + 1 by omega, take_snoc _ _ (by omega), figs_snoc, HF.out, hget, h]; rfl)
      have HL := Lib.hid hlen; clear hlen hget
      go_wp2
      · go_round
        case rel => exact ⟨j + 1, by omega, by omega, by go_num, HY.out (fig_in (by omega) (by omega))⟩
        case measure => simp [intOf]; omega
      · go_ret
        exact ⟨ret_i64 (by have := HN.out (fig_out (by omega)); omega), rfl⟩
      · go_ret
        exact ⟨ret_i64 (by have := HN.out (fig_out (by omega)); omega), rfl⟩
    · have HT : Hid (i + (run s.data.toList i).length = j) := Lib.hid (by
        rw [run, takeWhile_stop (s.data.toList.drop i) (j - i) (by omega) HF.out (fun h => absurd h (by omega)), List.length_take, hlen]; omega)
      clear hlen
      go_wp2
      go_ret
      exact ⟨ret_i64 (by have := HT.out; omega), rfl⟩

theorem refRun_same (s : ByteArray) (i : Nat) (n : Int) (hn : n = i) (w : World) (hi : i ≤ s.size) (hs : s.size ≤ 1000000) :
    Calls Tryz.prog 142 #[.string s, .int .i64 n] w fun e w' => e = .returned (.int .i64 (i + (run s.data.toList i).length : Nat)) ∧ w' = w := by
  subst hn; exact refRun_any s i w hi hs

theorem lenNo {n : Nat} (h : ¬ 0 < n) : ((n : Int) == 0) = true ∧ ((1 + (n : Int)) == 1) = true := by
  constructor <;> rw [beq_iff_eq] <;> omega
theorem lenYes {n : Nat} (h : 0 < n) : ((n : Int) == 0) = false ∧ ((1 + (n : Int)) == 1) = false := by
  constructor <;> rw [beq_eq_false_iff_ne] <;> omega
/-- How the document's whole ends. -/
def WholeEnd (w : World) (s : ByteArray) (e : Ending) (w' : World) : Prop :=
  e = .returned (.tuple (if bad1 s.data.toList = true then #[.int .i64 (i0F s.data.toList), .int .i64 (i0F s.data.toList), .bool false] else #[.int .i64 (i0F s.data.toList), .int .i64 (i1F s.data.toList), .bool true])) ∧ w' = w
theorem wholeEnd_no {w : World} {s : ByteArray} {a b : Int} (h : bad1 s.data.toList = true) (ha : a = i0F s.data.toList) (hb : b = i0F s.data.toList) : WholeEnd w s (.returned (.tuple #[.int .i64 a, .int .i64 b, .bool false])) w := by
  unfold WholeEnd; rw [if_pos h, ha, hb]; exact ⟨rfl, rfl⟩
theorem wholeEnd_yes {w : World} {s : ByteArray} {a b : Int} (h : bad1 s.data.toList = false) (ha : a = i0F s.data.toList) (hb : b = i1F s.data.toList) : WholeEnd w s (.returned (.tuple #[.int .i64 a, .int .i64 b, .bool true])) w := by
  unfold WholeEnd; rw [if_neg (by rw [h]; decide), ha, hb]; exact ⟨rfl, rfl⟩
theorem i0_cases (s : ByteArray) : (∃ h : 0 < s.size, ((s[0].toNat : Int) == 45) = true ∧ i0F s.data.toList = 1) ∨ (∃ h : 0 < s.size, ((s[0].toNat : Int) == 45) = false ∧ i0F s.data.toList = 0) ∨ (¬ 0 < s.size ∧ i0F s.data.toList = 0) := by
  cases h : stands s.data.toList 0 45
  · have e : i0F s.data.toList = 0 := by simp [i0F, h]
    by_cases h0 : 0 < s.size
    · exact .inr (.inl ⟨h0, by simpa using stands_no h h0, e⟩)
    · exact .inr (.inr ⟨h0, e⟩)
  · obtain ⟨h0, h1⟩ := stands_yes h
    exact .inl ⟨h0, by simpa using h1, by simp [i0F, h]⟩

set_option maxHeartbeats 1000000 in
theorem refWhole_tail (s : ByteArray) (i : Nat) (hi : i ≤ s.size) (HB : Hid (bad1 s.data.toList = (run s.data.toList i).isEmpty)) (HI : Hid (i0F s.data.toList = i)) :
    (¬ 0 < (run s.data.toList i).length ∧ bad1 s.data.toList = true) ∨ (∃ h : i < s.size, 0 < (run s.data.toList i).length ∧ bad1 s.data.toList = false ∧ (((s[i].toNat : Int) == 48) = true ∧ i1F s.data.toList = i + 1 ∨ ((s[i].toNat : Int) == 48) = false ∧ i1F s.data.toList = i + (run s.data.toList i).length)) := by
  cases hr : (run s.data.toList i).isEmpty
  · right
    have hb : bad1 s.data.toList = false := by rw [HB.out, hr]
    have hp : 0 < (run s.data.toList i).length := by
      cases h : run s.data.toList i with
      | nil => rw [h] at hr; cases hr
      | cons a t => simp
    have hlt : i < s.size := by
      have := run_le s.data.toList i (by rw [size_toList]; exact hi)
      rw [size_toList] at this; omega
    refine ⟨hlt, hp, hb, ?_⟩
    cases h : stands s.data.toList i 48
    · right
      have e := (at1_no (l := s.data.toList) (by rw [HI.out]; exact h)).2.2
      rw [HI.out] at e
      exact ⟨by simpa using stands_no h hlt, e⟩
    · left
      have e := (at1_yes (l := s.data.toList) (by rw [HI.out]; exact h)).2.2
      rw [HI.out] at e
      obtain ⟨_, h1⟩ := stands_yes h
      exact ⟨by simpa using h1, e⟩
  · left
    refine ⟨?_, by rw [HB.out, hr]⟩
    rw [List.isEmpty_iff.1 hr]; simp

set_option maxHeartbeats 1000000 in
theorem refWhole_any (s : ByteArray) (w : World) (hs : s.size ≤ 1000000) :
    Calls Tryz.prog 141 #[.string s] w (WholeEnd w s) := by
  have hle0 := i0F_le s.data.toList
  rw [size_toList] at hle0
  rcases i0_cases s with ⟨hp, ht, he⟩ | ⟨hp, ht, he⟩ | ⟨hp, he⟩
  case inr.inr =>
    have HB := Lib.hid (bad1_run s.data.toList)
    have HI := Lib.hid he
    rw [he] at HB hle0
    have hC := refWhole_tail s _ hle0 HB HI
    clear he HB
    rcases hC with ⟨h1, h2⟩ | ⟨hlt, _⟩
    · have H2 := Lib.hid h2
      obtain ⟨q1, q2⟩ := lenNo h1
      clear h1 h2
      go_enter Tryz.func141, Tryz.ntmps141
      go_wp2_with (go_at_call 142; refine (refRun_same s _ _ rfl _ hle0 hs).mono ?_; rintro e w1 ⟨rfl, rfl⟩)
      go_ret3
      exact wholeEnd_no H2.out (by rw [HI.out]; rfl) (by rw [HI.out]; rfl)
    · exact absurd (Nat.lt_of_le_of_lt (Nat.zero_le _) hlt) hp
  all_goals
    have HB := Lib.hid (bad1_run s.data.toList)
    have HI := Lib.hid he
    rw [he] at HB hle0
    have hC := refWhole_tail s _ hle0 HB HI
    clear he HB
    rcases hC with ⟨h1, h2⟩ | ⟨hlt, h1, h2, ⟨h3, h4⟩ | ⟨h3, h4⟩⟩
    · have H2 := Lib.hid h2
      obtain ⟨q1, q2⟩ := lenNo h1
      clear h1 h2
      go_enter Tryz.func141, Tryz.ntmps141
      go_wp2_with (go_at_call 142; refine (refRun_same s _ _ rfl _ hle0 hs).mono ?_; rintro e w1 ⟨rfl, rfl⟩)
      go_ret3
      exact wholeEnd_no H2.out (by rw [HI.out]; rfl) (by rw [HI.out]; rfl)
    · have H2 := Lib.hid h2
      have H4 := Lib.hid h4
      obtain ⟨q1, q2⟩ := lenYes h1
      clear h1 h2 h4
      go_enter Tryz.func141, Tryz.ntmps141
      go_wp2_with (go_at_call 142; refine (refRun_same s _ _ rfl _ hle0 hs).mono ?_; rintro e w1 ⟨rfl, rfl⟩)
      go_ret3
      exact wholeEnd_yes H2.out (by rw [HI.out]; rfl) (by rw [H4.out]; rfl)
    · have H2 := Lib.hid h2
      have H4 := Lib.hid h4
      obtain ⟨q1, q2⟩ := lenYes h1
      clear h1 h2 h4
      go_enter Tryz.func141, Tryz.ntmps141
      go_wp2_with (go_at_call 142; refine (refRun_same s _ _ rfl _ hle0 hs).mono ?_; rintro e w1 ⟨rfl, rfl⟩)
      go_ret3
      exact wholeEnd_yes H2.out (by rw [HI.out]; rfl) (by rw [H4.out]; omega)

end Go.Proofs.YtafbojiojeemoaaGreatDoor

/-
  What the document's own answer power is.
-/
namespace Go.Proofs.YtafbojiojeemoaaGreatDoor
open Go.RowKit Np

/-- Which side a power is of; none: 0. -/
def sideF (l : List UInt8) : Int := if exF l = true then (if downF l = true then -1 else 1) else 0

theorem ex_cases (s : ByteArray) (i : Nat) (hi : i ≤ s.size) (HI : i3F s.data.toList = i) :
    ((((i : Int) == s.size) = true ∧ ¬ i < s.size) ∧ exF s.data.toList = false) ∨ (∃ h : i < s.size, ((i : Int) == s.size) = false ∧ (((s[i].toNat : Int) != 101) = true ∧ ((s[i].toNat : Int) != 69) = true ∧ exF s.data.toList = false ∨ ((s[i].toNat : Int) != 101) = false ∧ exF s.data.toList = true ∨ ((s[i].toNat : Int) != 101) = true ∧ ((s[i].toNat : Int) != 69) = false ∧ exF s.data.toList = true)) := by
  by_cases h : i < s.size
  · right
    refine ⟨h, by rw [beq_eq_false_iff_ne]; omega, ?_⟩
    have e : exF s.data.toList = (stands s.data.toList i 101 || stands s.data.toList i 69) := by unfold exF; rw [HI]
    cases h1 : stands s.data.toList i 101
    · have n1 := stands_no h1 h
      cases h2 : stands s.data.toList i 69
      · have n2 := stands_no h2 h
        exact .inl ⟨by simpa using n1, by simpa using n2, by rw [e, h1, h2]; rfl⟩
      · obtain ⟨_, y2⟩ := stands_yes h2
        exact .inr (.inr ⟨by simpa using n1, by simpa using y2, by rw [e, h1, h2]; rfl⟩)
    · obtain ⟨_, y1⟩ := stands_yes h1
      exact .inr (.inl ⟨by simpa using y1, by rw [e, h1]; rfl⟩)
  · left
    refine ⟨⟨by rw [beq_iff_eq]; omega, h⟩, ?_⟩
    unfold exF
    rw [HI, Bool.or_eq_false_iff]
    constructor
    · cases h1 : stands s.data.toList i 101
      · rfl
      · exact absurd (stands_yes h1).1 h
    · cases h1 : stands s.data.toList i 69
      · rfl
      · exact absurd (stands_yes h1).1 h
theorem pw_cases (s : ByteArray) (i : Nat) (HI : i3F s.data.toList = i) (hx : exF s.data.toList = true) :
    (∃ h : i + 1 < s.size, ((s[i + 1].toNat : Int) == 43) = true ∧ ((s[i + 1].toNat : Int) == 45) = false ∧ sideF s.data.toList = 1 ∧ i5F s.data.toList = i + 1 + 1) ∨
    (∃ h : i + 1 < s.size, ((s[i + 1].toNat : Int) == 43) = false ∧ ((s[i + 1].toNat : Int) == 45) = true ∧ sideF s.data.toList = -1 ∧ i5F s.data.toList = i + 1 + 1) ∨
    (∃ h : i + 1 < s.size, ((s[i + 1].toNat : Int) == 43) = false ∧ ((s[i + 1].toNat : Int) == 45) = false ∧ sideF s.data.toList = 1 ∧ i5F s.data.toList = i + 1) ∨
    (¬ i + 1 < s.size ∧ sideF s.data.toList = 1 ∧ i5F s.data.toList = i + 1) := by
  cases h1 : stands s.data.toList (i + 1) 43
  · have r := at5_rest hx (by rw [HI]; exact h1)
    rw [HI] at r
    cases h2 : stands s.data.toList (i + 1) 45
    · rw [h2] at r
      have hsd : sideF s.data.toList = 1 := by simp [sideF, hx, r.1]
      by_cases h : i + 1 < s.size
      · exact .inr (.inr (.inl ⟨h, by simpa using stands_no h1 h, by simpa using stands_no h2 h, hsd, by simpa using r.2⟩))
      · exact .inr (.inr (.inr ⟨h, hsd, by simpa using r.2⟩))
    · rw [h2] at r
      obtain ⟨h, y⟩ := stands_yes h2
      exact .inr (.inl ⟨h, by simpa using stands_no h1 h, by simpa using y, by simp [sideF, hx, r.1], by simpa using r.2⟩)
  · have r := at5_plus hx (by rw [HI]; exact h1)
    rw [HI] at r
    obtain ⟨h, y⟩ := stands_yes h1
    refine .inl ⟨h, by simpa using y, ?_, by simp [sideF, hx, r.1], r.2⟩
    have y' : (s[i + 1].toNat : Int) = 43 := y
    rw [y']; rfl

/-- How the document's power ends. -/
def PowerEnd (w : World) (s : ByteArray) (e : Ending) (w' : World) : Prop :=
  e = .returned (.tuple #[.int .i64 (sideF s.data.toList), .string ⟨(powF s.data.toList).toArray⟩, .int .i64 (i6F s.data.toList)]) ∧ Below w.heap.size w w'
theorem powerEnd_no {w : World} {s : ByteArray} {i : Nat} (HI : i3F s.data.toList = i) (hx : exF s.data.toList = false) : PowerEnd w s (.returned (.tuple #[.int .i64 0, .string ⟨#[]⟩, .int .i64 i])) w := by
  obtain ⟨_, _, e1, e2⟩ := at3_no hx
  unfold PowerEnd
  rw [e1, e2, HI]
  exact ⟨by simp [sideF, hx], Below.refl _ _⟩

theorem run_take (l : List UInt8) (i : Nat) : run l i = (l.drop i).take (run l i).length := List.prefix_iff_eq_take.1 (List.takeWhile_prefix fig)
theorem powerEnd_yes {w w' : World} {s : ByteArray} {a b : Int} {j k n : Nat} {rr : List UInt8} (h1 : sideF s.data.toList = a) (h2 : powF s.data.toList = rr) (h3 : i6F s.data.toList = n) (h4 : rr = (s.data.toList.drop j).take rr.length) (h5 : b = n) (h6 : k = j + rr.length) (hb : Below w.heap.size w w') :
    PowerEnd w s (.returned (.tuple #[.int .i64 a, .string (s.extract j k), .int .i64 b])) w' := by
  unfold PowerEnd
  rw [h1, h2, h3, extract_run s j k rr (by rw [h6, Nat.add_sub_cancel_left]; exact h4), h5]
  exact ⟨rfl, hb⟩

set_option maxHeartbeats 2000000 in
theorem refPower_any (s : ByteArray) (i : Nat) (w : World) (hs : s.size ≤ 1000000) (HI : Hid (i3F s.data.toList = i)) :
    Calls Tryz.prog 143 #[.string s, .int .i64 i] w (PowerEnd w s) := by
  have hi : i ≤ s.size := by have := i3F_le s.data.toList; rw [HI.out, size_toList] at this; exact this
  rcases ex_cases s i hi HI.out with ⟨⟨q1, q2⟩, hx⟩ | ⟨hlt, q1, ⟨q2, q3, hx⟩ | hq⟩
  · have HX := Lib.hid hx; clear hx
    go_enter Tryz.func143, Tryz.ntmps143
    go_wp2_with fail
    go_ret3
    exact powerEnd_no HI.out HX.out
  · have HX := Lib.hid hx; clear hx
    go_enter Tryz.func143, Tryz.ntmps143
    go_wp2_with fail
    go_ret3
    exact powerEnd_no HI.out HX.out
  · have HX : Hid (exF s.data.toList = true) := Lib.hid (by rcases hq with ⟨_, h⟩ | ⟨_, _, h⟩ <;> exact h)
    have HQ : Hid (((s[i].toNat : Int) != 101) = false ∨ ((s[i].toNat : Int) != 101) = true ∧ ((s[i].toNat : Int) != 69) = false) := Lib.hid (by
      rcases hq with ⟨h, _⟩ | ⟨h, h2, _⟩
      · exact .inl h
      · exact .inr ⟨h, h2⟩)
    clear hq
    obtain ⟨e1, e2, e3⟩ := at3_yes HX.out
    have HP := Lib.hid e2
    have HE := Lib.hid e3
    clear e1 e2 e3
    go_enter Tryz.func143, Tryz.ntmps143
    go_upto_region 1 with fail
    go_cut [23] (fun s23 wx => s23 = .bool false ∧ wx = w)
    case first =>
      rcases HQ.out with h | ⟨h, h2⟩
      · go_wp2_with fail
        go_meet
        exact ⟨rfl, rfl⟩
      · go_wp2_with fail
        go_meet
        exact ⟨rfl, rfl⟩
    case rest =>
      obtain ⟨rfl, rfl⟩ := hcut
      rcases pw_cases s i HI.out HX.out with ⟨hl, p1, p2, p3, p4⟩ | ⟨hl, p1, p2, p3, p4⟩ | ⟨hl, p1, p2, p3, p4⟩ | ⟨hl, p3, p4⟩
      · have H3 := Lib.hid p3
        have H4 := Lib.hid p4
        have hle := i5F_le s.data.toList
        rw [size_toList, p4] at hle
        clear p3 p4
        have hrl := run_le s.data.toList (i + 1 + 1) (by rw [size_toList]; exact hle)
        rw [size_toList] at hrl
        have HC := Lib.hid (fun W : World => refRun_same s (i + 1 + 1) ((i : Int) + 1 + 1) (by omega) W hle hs)
        have HR := Lib.hid (run_take s.data.toList (i + 1 + 1))
        rw [H4.out] at HP HE
        generalize run s.data.toList (i + 1 + 1) = rr at *
        go_wp2_with fail
        go_quiet ((go_at_call 142; exact Calls.quiet_of_same (HC.out _)))
        go_wp2_with fail
        go_ret3
        exact powerEnd_yes (j := i + 1 + 1) H3.out HP.out HE.out HR.out (by omega) (by omega) ⟨rfl, rfl, rfl, Nat.le_refl _, fun _ _ => rfl⟩
      · have H3 := Lib.hid p3
        have H4 := Lib.hid p4
        have hle := i5F_le s.data.toList
        rw [size_toList, p4] at hle
        clear p3 p4
        have hrl := run_le s.data.toList (i + 1 + 1) (by rw [size_toList]; exact hle)
        rw [size_toList] at hrl
        have HC := Lib.hid (fun W : World => refRun_same s (i + 1 + 1) ((i : Int) + 1 + 1) (by omega) W hle hs)
        have HR := Lib.hid (run_take s.data.toList (i + 1 + 1))
        rw [H4.out] at HP HE
        generalize run s.data.toList (i + 1 + 1) = rr at *
        go_wp2_with fail
        go_quiet ((go_at_call 142; exact Calls.quiet_of_same (HC.out _)))
        go_wp2_with fail
        go_ret3
        exact powerEnd_yes (j := i + 1 + 1) H3.out HP.out HE.out HR.out (by omega) (by omega) ⟨rfl, rfl, rfl, Nat.le_refl _, fun _ _ => rfl⟩
      · have H3 := Lib.hid p3
        have H4 := Lib.hid p4
        have hle := i5F_le s.data.toList
        rw [size_toList, p4] at hle
        clear p3 p4
        have hrl := run_le s.data.toList (i + 1) (by rw [size_toList]; exact hle)
        rw [size_toList] at hrl
        have HC := Lib.hid (fun W : World => refRun_same s (i + 1) ((i : Int) + 1) (by omega) W hle hs)
        have HR := Lib.hid (run_take s.data.toList (i + 1))
        rw [H4.out] at HP HE
        generalize run s.data.toList (i + 1) = rr at *
        go_wp2_with fail
        go_quiet ((go_at_call 142; exact Calls.quiet_of_same (HC.out _)))
        go_wp2_with fail
        go_ret3
        exact powerEnd_yes (j := i + 1) H3.out HP.out HE.out HR.out (by omega) (by omega) ⟨rfl, rfl, rfl, Nat.le_refl _, fun _ _ => rfl⟩
      · have H3 := Lib.hid p3
        have H4 := Lib.hid p4
        have hle := i5F_le s.data.toList
        rw [size_toList, p4] at hle
        clear p3 p4
        have hrl := run_le s.data.toList (i + 1) (by rw [size_toList]; exact hle)
        rw [size_toList] at hrl
        have HC := Lib.hid (fun W : World => refRun_same s (i + 1) ((i : Int) + 1) (by omega) W hle hs)
        have HR := Lib.hid (run_take s.data.toList (i + 1))
        rw [H4.out] at HP HE
        generalize run s.data.toList (i + 1) = rr at *
        go_wp2_with fail
        go_quiet ((go_at_call 142; exact Calls.quiet_of_same (HC.out _)))
        go_wp2_with fail
        go_ret3
        exact powerEnd_yes (j := i + 1) H3.out HP.out HE.out HR.out (by omega) (by omega) ⟨rfl, rfl, rfl, Nat.le_refl _, fun _ _ => rfl⟩

end Go.Proofs.YtafbojiojeemoaaGreatDoor

/-
  What the document's own answer Read is: as num's.
-/
namespace Go.Proofs.YtafbojiojeemoaaGreatDoor
open Go.RowKit Np

theorem side_cases (l : List UInt8) : sideF l = -1 ∨ sideF l = 0 ∨ sideF l = 1 := by
  unfold sideF; split
  · split
    · exact .inl rfl
    · exact .inr (.inr rfl)
  · exact .inr (.inl rfl)
theorem side_pow (l : List UInt8) : sideF l * (worth (Lib.trimLeftB (powF l) 48) : Int) = if downF l = true then -(worth (Lib.trimLeftB (powF l) 48) : Int) else (worth (Lib.trimLeftB (powF l) 48) : Int) := by
  unfold sideF
  cases hx : exF l
  · obtain ⟨_, _, e, _⟩ := at3_no hx
    rw [e]; simp [Lib.trimLeftB, worth]
  · cases hd : downF l <;> simp
theorem neg_byte (s : ByteArray) (h : 0 < s.size) : ((s[0].toNat : Int) == 45) = stands s.data.toList 0 45 := by
  cases h1 : stands s.data.toList 0 45
  · simpa using stands_no h1 h
  · obtain ⟨_, y⟩ := stands_yes h1
    simpa using y
theorem readEnd_at {w w' : World} {s : ByteArray} {r : Nd × Int × Int} {n : Nd} {i c : Int} (h : readF s.data.toList = r) (h2 : r = (n, i, c)) (hb : Below w.heap.size w w') : ReadEnd w s (.returned (.tuple #[ndv n, .int .i64 i, .int .i64 c])) w' := readEnd_of (h.trans h2) hb

set_option maxRecDepth 100000 in
set_option maxHeartbeats 4000000 in
theorem refRead_any (s : ByteArray) (w : World) (hs3 : s.size ≤ 300000) :
    Calls Tryz.prog 100 #[.string s] w (ReadEnd w s) := by
  have hs : s.size ≤ 1000000 := by omega
  have hB : Below w.heap.size w w := Below.refl _ _
  have hle0 := i0F_le s.data.toList
  have hle1 := i1F_le s.data.toList
  have hle3 := i3F_le s.data.toList
  have hle6 := i6F_le s.data.toList
  rw [size_toList] at hle0 hle1 hle3 hle6
  go_enter Tryz.func100, Tryz.ntmps100
  go_wp2_with fail
  refine (refWhole_any s _ hs).mono ?_
  rintro e w1 ⟨rfl, rfl⟩
  cases hb1 : bad1 s.data.toList
  case true =>
    have HV := Lib.hid (readF_form (scanF_1 hb1))
    rw [if_pos rfl]
    clear hb1
    go_wp2_with fail
    exact bodyPost_ret (v := .tuple #[ndv nd0, .int .i64 (i0F s.data.toList), .int .i64 1]) (by simp [results, Tryz.results100, go_sem, ndv, nd0]) rfl (readEnd_of HV.out (hB.alloc (Nat.le_refl _) _))
  have h01 : i0F s.data.toList < i1F s.data.toList := by
    have := bad1_run s.data.toList
    rw [hb1] at this
    cases h : stands s.data.toList (i0F s.data.toList) 48
    · have e := (at1_no h).2.2
      have : 0 < (run s.data.toList (i0F s.data.toList)).length := by
        cases hr : run s.data.toList (i0F s.data.toList) with
        | nil => rw [hr] at this; cases this
        | cons a t => simp
      omega
    · have e := (at1_yes h).2.2
      omega
  rw [if_neg (by simp)]
  have Hb1 := Lib.hid hb1
  clear hb1
  have hp : 0 < s.size := by omega
  go_upto_region 6 with fail
  go_cut [42] (fun s42 wx => s42 = .bool (stands s.data.toList (i1F s.data.toList) 46) ∧ wx = w.alloc (.cells #[.int .i64 0, .int .i64 0, .string ⟨#[]⟩, .string ⟨#[]⟩, .bool false, .int .i64 0] 35))
  case first =>
    cases hd : stands s.data.toList (i1F s.data.toList) 46
    · by_cases hlt : i1F s.data.toList < s.size
      · have hn : ((s[i1F s.data.toList].toNat : Int) == 46) = false := by simpa using stands_no hd hlt
        go_wp2_with fail
        go_meet
        exact ⟨by rw [hd], rfl⟩
      · go_wp2_with fail
        go_meet
        exact ⟨by rw [hd], rfl⟩
    · obtain ⟨hlt, hy⟩ := stands_yes hd
      have hn : ((s[i1F s.data.toList].toNat : Int) == 46) = true := by simpa using hy
      clear hy
      go_wp2_with fail
      go_meet
      exact ⟨by rw [hd], rfl⟩
  case rest =>
    obtain ⟨rfl, rfl⟩ := hcut
    go_upto_if 42 with fail
    go_cut [8, 9, 10] (fun s8 s9 s10 wx => bad2 s.data.toList = false ∧ s8 = .string ⟨(aheadF s.data.toList ++ partF s.data.toList).toArray⟩ ∧ s9 = .int .i64 (-((partF s.data.toList).length : Int)) ∧ s10 = .int .i64 (i3F s.data.toList) ∧ wx = w.alloc (.cells #[.int .i64 0, .int .i64 0, .string ⟨#[]⟩, .string ⟨#[]⟩, .bool false, .int .i64 0] 35))
    case first =>
      cases hd : stands s.data.toList (i1F s.data.toList) 46
      · obtain ⟨e1, e2, e3⟩ := at2_no hd
        have H1 := Lib.hid e1
        have H2 := Lib.hid e2
        have H3 := Lib.hid e3
        clear hd e1 e2 e3
        go_wp2_with fail
        go_meet
        refine ⟨H1.out, congrArg Value.string ?_, by rw [H2.out]; rfl, by rw [H3.out], rfl⟩
        rw [H2.out, List.append_nil]
        exact extract_run s _ _ _ rfl
      · obtain ⟨hlt, _⟩ := stands_yes hd
        obtain ⟨e1, e2, e3⟩ := at2_yes hd
        have H1 := Lib.hid e1
        have H2 := Lib.hid e2
        have H3 := Lib.hid e3
        clear hd e1 e2 e3
        have hrl := run_le s.data.toList (i1F s.data.toList + 1) (by rw [size_toList]; omega)
        rw [size_toList] at hrl
        have HR := Lib.hid (run_take s.data.toList (i1F s.data.toList + 1))
        go_wp2_with fail
        refine (refRun_same s (i1F s.data.toList + 1) _ (by omega) _ (by omega) hs).mono ?_
        rintro e w1 ⟨rfl, rfl⟩
        generalize run s.data.toList (i1F s.data.toList + 1) = rr at *
        cases hL : decide (rr.length = 0)
        · have hL' : ¬ rr.length = 0 := by simpa using hL
          have HBf : Hid (bad2 s.data.toList = false) := Lib.hid (by rw [H1.out]; cases rr with | nil => exact absurd rfl hL' | cons a t => rfl)
          have hq : (((i1F s.data.toList : Int) + 1 + (rr.length : Int)) == (i1F s.data.toList : Int) + 1) = false := by rw [beq_eq_false_iff_ne]; omega
          clear hL hL'
          have hal : (aheadF s.data.toList).length ≤ s.size := by unfold aheadF; rw [List.length_take, List.length_drop, size_toList]; omega
          have HA := Lib.hid (extract_run s (i0F s.data.toList) (i1F s.data.toList) (aheadF s.data.toList) rfl)
          go_wp2_with fail
          go_meet
          refine ⟨HBf.out, congrArg Value.string ?_, congrArg (Value.int .i64) (by rw [H2.out]; omega), congrArg (Value.int .i64) (by rw [H3.out]; omega), rfl⟩
          rw [HA.out, extract_run s (i1F s.data.toList + 1) (i1F s.data.toList + 1 + rr.length) rr (by rw [Nat.add_sub_cancel_left]; exact HR.out), H2.out]
          exact ByteArray.ext (by simp)
        · have hL' : rr.length = 0 := by simpa using hL
          obtain rfl := List.length_eq_zero_iff.1 hL'
          have HV := Lib.hid (readF_form (scanF_2 Hb1.out (by rw [H1.out]; rfl)))
          clear hL hL'
          go_wp2_with fail
          exact bodyPost_ret (v := .tuple #[ndv nd0, .int .i64 (i1F s.data.toList + 1 : Nat), .int .i64 1]) (by simp [results, Tryz.results100, go_sem, ndv, nd0]) rfl (readEnd_of HV.out (hB.alloc (Nat.le_refl _) _))
    case rest =>
      obtain ⟨hb2, rfl, rfl, rfl, rfl⟩ := hcut
      have Hb2 := Lib.hid hb2
      clear hb2
      go_wp2_with fail
      refine (refPower_any s (i3F s.data.toList) _ hs (Lib.hid rfl)).mono ?_
      rintro e w2 ⟨rfl, hb2⟩
      obtain ⟨hc2, hf2⟩ := kept_cells hb2
      have hz2 : w.heap.size + 1 ≤ w2.heap.size := by have := hb2.size; simp at this; omega
      have hz2' : w.heap.size < w2.heap.size := by omega
      have hB2 : Below w.heap.size w w2 := (hB.alloc (Nat.le_refl _) _).trans (hb2.mono (by simp))
      have k0 : w2.cell? ⟨w.heap.size, 0, none⟩ = some (.int .i64 0) := by rw [hc2 _ _ (by simp)]; simp
      have k1 : w2.cell? ⟨w.heap.size, 1, none⟩ = some (.int .i64 0) := by rw [hc2 _ _ (by simp)]; simp
      have k2 : w2.cell? ⟨w.heap.size, 2, none⟩ = some (.string ⟨#[]⟩) := by rw [hc2 _ _ (by simp)]; simp
      have k3 : w2.cell? ⟨w.heap.size, 3, none⟩ = some (.string ⟨#[]⟩) := by rw [hc2 _ _ (by simp)]; simp
      have k4 : w2.cell? ⟨w.heap.size, 4, none⟩ = some (.bool false) := by rw [hc2 _ _ (by simp)]; simp
      have k5 : w2.cell? ⟨w.heap.size, 5, none⟩ = some (.int .i64 0) := by rw [hc2 _ _ (by simp)]; simp
      have hfz : ∀ o, w2.frozen? ⟨w.heap.size, o, none⟩ = false := fun o => by rw [hf2 _ _ (by simp)]; simp
      clear hb2 hc2 hf2
      by_cases h6 : i6F s.data.toList < s.size
      · have HV := Lib.hid (read_short Hb1.out Hb2.out (by rw [size_toList]; exact h6))
        go_wp2_with fail
        refine bodyPost_ret (v := .tuple #[ndv nd0, .int .i64 (i6F s.data.toList), .int .i64 1]) ?_ rfl (readEnd_of HV.out ?_)
        · simp [results, Tryz.results100, go_sem, ndv, nd0, k0, k1, k2, k3, k4, k5]
        · exact ((((((hB2.setCell (Nat.le_refl _) _).setCell (Nat.le_refl _) _).setCell (Nat.le_refl _) _).setCell (Nat.le_refl _) _).setCell (Nat.le_refl _) _).setCell (Nat.le_refl _) _)
      · cases hb3 : bad3 s.data.toList
        · have Hb3 := Lib.hid hb3
          clear hb3
          have HS := Lib.hid (scan_all Hb1.out Hb2.out Hb3.out (by rw [size_toList]; omega))
          have hsd := side_cases s.data.toList
          have HP := Lib.hid (side_pow s.data.toList)
          have hfig := (scanF_figs s.data.toList).2.2
          have hplen := (scanF_len s.data.toList).2.2
          have hptl := (scanF_len s.data.toList).2.1
          rw [HS.out] at hfig hplen hptl
          rw [size_toList] at hplen hptl
          have HG := Lib.hid hfig
          have HL := Lib.hid (readF_large HS.out)
          have HO := Lib.hid (readF_ok HS.out)
          have hcond : sideF s.data.toList = 0 ∨ (powF s.data.toList).isEmpty = false := by
            have := Hb3.out
            unfold bad3 at this
            unfold sideF
            cases hx : exF s.data.toList
            · left; simp
            · right; rw [hx] at this; simpa using this
          clear hfig Hb3
          simp only at HG HL HO hplen hptl
          have hal : (aheadF s.data.toList).length ≤ s.size := by unfold aheadF; rw [List.length_take, List.length_drop, size_toList]; omega
          have HNg : Hid (((s[0].toNat : Int) == 45) = stands s.data.toList 0 45) := Lib.hid (neg_byte s hp)
          generalize powF s.data.toList = pw at *
          generalize hsf : sideF s.data.toList = sd at *
          clear hsf
          go_upto_region 13 with fail
          go_cut [82] (fun s82 wx => s82 = .bool false ∧ w2 = wx)
          case first =>
            rcases hsd with rfl | rfl | rfl
            · have hpe : pw.isEmpty = false := by rcases hcond with h | h; (cases h); exact h
              clear hcond
              go_wp2_with fail
              go_meet
              exact ⟨by simp, rfl⟩
            · clear hcond
              go_wp2_with fail
              go_meet
              exact ⟨by simp, rfl⟩
            · have hpe : pw.isEmpty = false := by rcases hcond with h | h; (cases h); exact h
              clear hcond
              go_wp2_with fail
              go_meet
              exact ⟨by simp, rfl⟩
          case rest =>
            obtain ⟨rfl, rfl⟩ := hcut
            clear hcond
            go_upto_block 0 with fail
            go_cut [12] (fun s12 wx => ∃ t : ByteArray, s12 = .string t ∧ t.data.toList = Lib.trimLeftB pw 48 ∧ t.size ≤ pw.length ∧ w2 = wx)
            case first =>
              go_wp2_with fail
              go_loop [12] (fun v => ∃ t : ByteArray, v = .string t ∧ t.size ≤ pw.length ∧ Lib.trimLeftB t.data.toList 48 = Lib.trimLeftB pw 48) (fun v => match v with | .string s => s.size | _ => 0)
              case atStart => exact ⟨⟨pw.toArray⟩, rfl, Nat.le_refl _, rfl⟩
              case round =>
                obtain ⟨t, rfl, ht, hq⟩ := hrel
                have HQ := Lib.hid hq; clear hq
                by_cases hp2 : 0 < t.size
                · by_cases hc : (t[0].toNat : Int) = 48
                  · have HT := Lib.hid ((trimLeft_step t hp2 (byte48 hc)).trans HQ.out)
                    have HLn := Lib.hid (extract_len t 1 t.size (by omega) (Nat.le_refl _))
                    have hcb : ((t[0].toNat : Int) == 48) = true := by simpa using hc
                    clear hc
                    go_wp2_with fail
                    go_round
                    case rel => exact ⟨_, rfl, by rw [HLn.out]; omega, HT.out⟩
                    case measure => simp only; rw [HLn.out]; omega
                  · have HT := Lib.hid ((trimLeft_stop t (fun _ => byteNot48 hc)).symm.trans HQ.out)
                    have hcb : ((t[0].toNat : Int) == 48) = false := by simpa using hc
                    clear hc
                    go_wp2_with fail
                    go_meet
                    exact ⟨t, rfl, HT.out, ht, rfl⟩
                · have HT := Lib.hid ((trimLeft_stop t (fun h => absurd h hp2)).symm.trans HQ.out)
                  go_wp2_with fail
                  go_meet
                  exact ⟨t, rfl, HT.out, ht, rfl⟩
            case rest =>
              obtain ⟨t, rfl, ht, htl, rfl⟩ := hcut
              have HT := Lib.hid ht
              clear ht
              by_cases h7 : 6 < t.size
              · have HV := Lib.hid (HL.out (by rw [← HT.out, size_toList]; exact h7))
                go_wp2_with fail
                refine bodyPost_ret (v := .tuple #[ndv nd0, .int .i64 0, .int .i64 2]) ?_ rfl (readEnd_of HV.out ?_)
                · simp [results, Tryz.results100, go_sem, ndv, nd0, k0, k1, k2, k3, k4, k5]
                · exact ((((((hB2.setCell (Nat.le_refl _) _).setCell (Nat.le_refl _) _).setCell (Nat.le_refl _) _).setCell (Nat.le_refl _) _).setCell (Nat.le_refl _) _).setCell (Nat.le_refl _) _)
              · have HV := Lib.hid (HO.out (by rw [← HT.out, size_toList]; exact h7))
                clear HO HL
                have HTF : Hid (figs t.data.toList = true) := Lib.hid (by rw [HT.out]; exact figs_trimLeft HG.out)
                go_wp2_with fail
                go_loop [14, 15] (fun n i => ∃ k : Nat, k ≤ t.size ∧ i = .int .i64 k ∧ n = .int .i64 (worth (t.data.toList.take k))) (fun _ i => t.size - (intOf i).toNat)
                case atStart => exact ⟨0, Nat.zero_le _, rfl, rfl⟩
                case round =>
                  obtain ⟨k, hk, rfl, rfl⟩ := hrel
                  by_cases hlt : k < t.size
                  · have hfk := (fig_iff _).1 (figs_at HTF.out (by simpa using hlt))
                    rw [get_toList t k hlt] at hfk
                    have HS2 : Hid (worth (t.data.toList.take (k + 1)) = 10 * worth (t.data.toList.take k) + (t[k].toNat - 48)) := Lib.hid (by
                      rw [take_snoc _ k (by simpa using hlt), worth_snoc, get_toList t k hlt])
                    have hwb := worth_small (t.data.toList.take k) (by simp; omega) (figs_take HTF.out k)
                    generalize worth (t.data.toList.take k) = n at HS2 hwb ⊢
                    obtain ⟨hf1, hf2⟩ := hfk
                    go_wp2
                    go_round
                    case rel => exact ⟨k + 1, by omega, by go_num, by rw [HS2.out]; go_num⟩
                    case measure => simp [intOf]; omega
                  · have HW : Hid (worth (t.data.toList.take k) = worth (Lib.trimLeftB pw 48)) := Lib.hid (by rw [List.take_of_length_le (by simp; omega), HT.out])
                    have hwb := worth_small (t.data.toList.take k) (by simp; omega) (figs_take HTF.out k)
                    generalize worth (t.data.toList.take k) = n at *
                    rcases hsd with rfl | rfl | rfl
                    · have HM : Hid (mkW ⟨stands s.data.toList 0 45, wholeF s.data.toList, partF s.data.toList, downF s.data.toList, pw⟩ = mk ((s[0].toNat : Int) == 45) (ByteArray.mk (aheadF s.data.toList ++ partF s.data.toList).toArray).data.toList (-((partF s.data.toList).length : Int) + -(n : Int))) := Lib.hid (by
                        show mk _ _ (powOf _ - _) = _
                        rw [HNg.out, show (ByteArray.mk (aheadF s.data.toList ++ partF s.data.toList).toArray).data.toList = aheadF s.data.toList ++ partF s.data.toList from rfl, mk_ahead]
                        congr 1
                        unfold powOf
                        simp only
                        rw [← HP.out, ← HW.out]; omega)
                      clear HP HW
                      go_wp2_with fail
                      refine (refMake_any _ _ _ _ (by rw [← size_toList]; simp; omega) (by omega) (by omega)).mono ?_
                      rintro e3 w3 ⟨rfl, hb3⟩
                      rw [← HM.out]
                      have hB3 : Below w.heap.size w w3 := hB2.trans (hb3.mono (by omega))
                      have hz3 : w.heap.size < w3.heap.size := by have := hb3.size; omega
                      have j0 := (hb3.cell (p := ⟨w.heap.size, 0, none⟩) hz2').trans k0
                      have j1 := (hb3.cell (p := ⟨w.heap.size, 1, none⟩) hz2').trans k1
                      have j2 := (hb3.cell (p := ⟨w.heap.size, 2, none⟩) hz2').trans k2
                      have j3 := (hb3.cell (p := ⟨w.heap.size, 3, none⟩) hz2').trans k3
                      have j4 := (hb3.cell (p := ⟨w.heap.size, 4, none⟩) hz2').trans k4
                      have j5 := (hb3.cell (p := ⟨w.heap.size, 5, none⟩) hz2').trans k5
                      have jf : ∀ o, w3.frozen? ⟨w.heap.size, o, none⟩ = false := fun o => (hb3.frozen (p := ⟨w.heap.size, o, none⟩) hz2').trans (hfz o)
                      clear hb3 k0 k1 k2 k3 k4 k5 hfz
                      generalize mkW ⟨stands s.data.toList 0 45, wholeF s.data.toList, partF s.data.toList, downF s.data.toList, pw⟩ = m at HV ⊢
                      obtain ⟨⟨a0, a1, a2, a3, a4, a5⟩, c⟩ := m
                      simp only [ndv]
                      go_wp2_with fail
                      refine bodyPost_ret (v := .tuple #[ndv ⟨a0, a1, a2, a3, a4, a5⟩, .int .i64 0, .int .i64 c]) ?_ rfl (readEnd_of HV.out ?_)
                      · simp [results, Tryz.results100, go_sem, ndv, j0, j1, j2, j3, j4, j5, hz3]
                      · exact ((((((hB3.setCell (Nat.le_refl _) _).setCell (Nat.le_refl _) _).setCell (Nat.le_refl _) _).setCell (Nat.le_refl _) _).setCell (Nat.le_refl _) _).setCell (Nat.le_refl _) _).alloc (by simp; omega) _
                    · have HM : Hid (mkW ⟨stands s.data.toList 0 45, wholeF s.data.toList, partF s.data.toList, downF s.data.toList, pw⟩ = mk ((s[0].toNat : Int) == 45) (ByteArray.mk (aheadF s.data.toList ++ partF s.data.toList).toArray).data.toList (-((partF s.data.toList).length : Int))) := Lib.hid (by
                        show mk _ _ (powOf _ - _) = _
                        rw [HNg.out, show (ByteArray.mk (aheadF s.data.toList ++ partF s.data.toList).toArray).data.toList = aheadF s.data.toList ++ partF s.data.toList from rfl, mk_ahead]
                        congr 1
                        unfold powOf
                        simp only
                        rw [← HP.out, ← HW.out]; omega)
                      clear HP HW
                      go_wp2_with fail
                      refine (refMake_any _ _ _ _ (by rw [← size_toList]; simp; omega) (by omega) (by omega)).mono ?_
                      rintro e3 w3 ⟨rfl, hb3⟩
                      rw [← HM.out]
                      have hB3 : Below w.heap.size w w3 := hB2.trans (hb3.mono (by omega))
                      have hz3 : w.heap.size < w3.heap.size := by have := hb3.size; omega
                      have j0 := (hb3.cell (p := ⟨w.heap.size, 0, none⟩) hz2').trans k0
                      have j1 := (hb3.cell (p := ⟨w.heap.size, 1, none⟩) hz2').trans k1
                      have j2 := (hb3.cell (p := ⟨w.heap.size, 2, none⟩) hz2').trans k2
                      have j3 := (hb3.cell (p := ⟨w.heap.size, 3, none⟩) hz2').trans k3
                      have j4 := (hb3.cell (p := ⟨w.heap.size, 4, none⟩) hz2').trans k4
                      have j5 := (hb3.cell (p := ⟨w.heap.size, 5, none⟩) hz2').trans k5
                      have jf : ∀ o, w3.frozen? ⟨w.heap.size, o, none⟩ = false := fun o => (hb3.frozen (p := ⟨w.heap.size, o, none⟩) hz2').trans (hfz o)
                      clear hb3 k0 k1 k2 k3 k4 k5 hfz
                      generalize mkW ⟨stands s.data.toList 0 45, wholeF s.data.toList, partF s.data.toList, downF s.data.toList, pw⟩ = m at HV ⊢
                      obtain ⟨⟨a0, a1, a2, a3, a4, a5⟩, c⟩ := m
                      simp only [ndv]
                      go_wp2_with fail
                      refine bodyPost_ret (v := .tuple #[ndv ⟨a0, a1, a2, a3, a4, a5⟩, .int .i64 0, .int .i64 c]) ?_ rfl (readEnd_of HV.out ?_)
                      · simp [results, Tryz.results100, go_sem, ndv, j0, j1, j2, j3, j4, j5, hz3]
                      · exact ((((((hB3.setCell (Nat.le_refl _) _).setCell (Nat.le_refl _) _).setCell (Nat.le_refl _) _).setCell (Nat.le_refl _) _).setCell (Nat.le_refl _) _).setCell (Nat.le_refl _) _).alloc (by simp; omega) _
                    · have HM : Hid (mkW ⟨stands s.data.toList 0 45, wholeF s.data.toList, partF s.data.toList, downF s.data.toList, pw⟩ = mk ((s[0].toNat : Int) == 45) (ByteArray.mk (aheadF s.data.toList ++ partF s.data.toList).toArray).data.toList (-((partF s.data.toList).length : Int) + (n : Int))) := Lib.hid (by
                        show mk _ _ (powOf _ - _) = _
                        rw [HNg.out, show (ByteArray.mk (aheadF s.data.toList ++ partF s.data.toList).toArray).data.toList = aheadF s.data.toList ++ partF s.data.toList from rfl, mk_ahead]
                        congr 1
                        unfold powOf
                        simp only
                        rw [← HP.out, ← HW.out]; omega)
                      clear HP HW
                      go_wp2_with fail
                      refine (refMake_any _ _ _ _ (by rw [← size_toList]; simp; omega) (by omega) (by omega)).mono ?_
                      rintro e3 w3 ⟨rfl, hb3⟩
                      rw [← HM.out]
                      have hB3 : Below w.heap.size w w3 := hB2.trans (hb3.mono (by omega))
                      have hz3 : w.heap.size < w3.heap.size := by have := hb3.size; omega
                      have j0 := (hb3.cell (p := ⟨w.heap.size, 0, none⟩) hz2').trans k0
                      have j1 := (hb3.cell (p := ⟨w.heap.size, 1, none⟩) hz2').trans k1
                      have j2 := (hb3.cell (p := ⟨w.heap.size, 2, none⟩) hz2').trans k2
                      have j3 := (hb3.cell (p := ⟨w.heap.size, 3, none⟩) hz2').trans k3
                      have j4 := (hb3.cell (p := ⟨w.heap.size, 4, none⟩) hz2').trans k4
                      have j5 := (hb3.cell (p := ⟨w.heap.size, 5, none⟩) hz2').trans k5
                      have jf : ∀ o, w3.frozen? ⟨w.heap.size, o, none⟩ = false := fun o => (hb3.frozen (p := ⟨w.heap.size, o, none⟩) hz2').trans (hfz o)
                      clear hb3 k0 k1 k2 k3 k4 k5 hfz
                      generalize mkW ⟨stands s.data.toList 0 45, wholeF s.data.toList, partF s.data.toList, downF s.data.toList, pw⟩ = m at HV ⊢
                      obtain ⟨⟨a0, a1, a2, a3, a4, a5⟩, c⟩ := m
                      simp only [ndv]
                      go_wp2_with fail
                      refine bodyPost_ret (v := .tuple #[ndv ⟨a0, a1, a2, a3, a4, a5⟩, .int .i64 0, .int .i64 c]) ?_ rfl (readEnd_of HV.out ?_)
                      · simp [results, Tryz.results100, go_sem, ndv, j0, j1, j2, j3, j4, j5, hz3]
                      · exact ((((((hB3.setCell (Nat.le_refl _) _).setCell (Nat.le_refl _) _).setCell (Nat.le_refl _) _).setCell (Nat.le_refl _) _).setCell (Nat.le_refl _) _).setCell (Nat.le_refl _) _).alloc (by simp; omega) _
        · have HV := Lib.hid (read_bad3 Hb1.out Hb2.out hb3)
          have hx : exF s.data.toList = true ∧ powF s.data.toList = [] := by
            unfold bad3 at hb3
            rw [Bool.and_eq_true] at hb3
            exact ⟨hb3.1, List.isEmpty_iff.1 hb3.2⟩
          clear hb3
          have hsd : sideF s.data.toList = -1 ∨ sideF s.data.toList = 1 := by
            unfold sideF
            rw [if_pos hx.1]
            split
            · exact .inl rfl
            · exact .inr rfl
          rw [hx.2]
          clear hx
          generalize sideF s.data.toList = sd at *
          rcases hsd with rfl | rfl
          · go_wp2_with fail
            refine bodyPost_ret (v := .tuple #[ndv nd0, .int .i64 (i6F s.data.toList), .int .i64 1]) ?_ rfl (readEnd_of HV.out ?_)
            · simp [results, Tryz.results100, go_sem, ndv, nd0, k0, k1, k2, k3, k4, k5]
            · exact ((((((hB2.setCell (Nat.le_refl _) _).setCell (Nat.le_refl _) _).setCell (Nat.le_refl _) _).setCell (Nat.le_refl _) _).setCell (Nat.le_refl _) _).setCell (Nat.le_refl _) _)
          · go_wp2_with fail
            refine bodyPost_ret (v := .tuple #[ndv nd0, .int .i64 (i6F s.data.toList), .int .i64 1]) ?_ rfl (readEnd_of HV.out ?_)
            · simp [results, Tryz.results100, go_sem, ndv, nd0, k0, k1, k2, k3, k4, k5]
            · exact ((((((hB2.setCell (Nat.le_refl _) _).setCell (Nat.le_refl _) _).setCell (Nat.le_refl _) _).setCell (Nat.le_refl _) _).setCell (Nat.le_refl _) _).setCell (Nat.le_refl _) _)

end Go.Proofs.YtafbojiojeemoaaGreatDoor

/-
  The document's own reading of texts: what bad and number of louperef04 answer.
-/
namespace Go.Proofs.YtafbojiojeemoaaGreatDoor
open Go.RowKit Np Rw Vp Up Qp Tp

/-- What one of the document's readers answers. -/
def GotE (w : World) (R : Rs (List Nd)) (e : Ending) (w' : World) : Prop := match R with
  | .ok v k => ∃ (A : Option Addr) (c : Nat), e = .returned (.agg #[.slice A v.length c, .int .i64 (k : Nat), .int .i64 0]) ∧ Hid (OwnN w.heap.size w' (.slice A v.length c) v) ∧ Hid (Below w.heap.size w w')
  | .bad er p => e = .returned (.agg #[.slice none 0 0, .int .i64 (p : Nat), .int .i64 er]) ∧ Hid (Below w.heap.size w w')
abbrev gotZ : Obj := .cells #[.slice none 0 0, .int .i64 0, .int .i64 0] 59
/-- The block of what is answered was laid, and what lay below stayed. -/
def Gz (w w' : World) : Prop := w'.heap[w.heap.size]? = some gotZ ∧ Below w.heap.size w w'
theorem Gz.new (w : World) : Gz w (w.alloc gotZ) := ⟨heap_alloc_new w _, (Below.refl _ _).alloc (Nat.le_refl _) _⟩
theorem Gz.step {w w' w'' : World} (h : Gz w w') (hb : Below w'.heap.size w' w'') : Gz w w'' := by
  obtain ⟨h1, h2⟩ := h
  have hs : w.heap.size < w'.heap.size := (Array.getElem?_eq_some_iff.1 h1).1
  exact ⟨(hb.block _ hs).trans h1, h2.trans (hb.mono h2.size)⟩
theorem Gz.cells {w w' : World} (h : Gz w w') : w'.cell? ⟨w.heap.size, 0, none⟩ = some (.slice none 0 0) ∧ w'.cell? ⟨w.heap.size, 1, none⟩ = some (.int .i64 0) ∧ w'.cell? ⟨w.heap.size, 2, none⟩ = some (.int .i64 0) ∧ (∀ o, w'.frozen? ⟨w.heap.size, o, none⟩ = false) ∧ w.heap.size < w'.heap.size := by
  obtain ⟨zz, -⟩ := h
  refine ⟨?_, ?_, ?_, fun o => Lib.frozen_of_heap zz o, (Array.getElem?_eq_some_iff.1 zz).1⟩ <;> (rw [Lib.cell_of_heap zz]; rfl)
theorem own_got {base b : Nat} {w : World} {V : Value} {l : List Nd} (h : OwnN base w V l) (hz : w.heap[b]? = some gotZ) (u0 u1 u2 : Value) : OwnN base (((w.setCell ⟨b, 0, none⟩ u0).setCell ⟨b, 1, none⟩ u1).setCell ⟨b, 2, none⟩ u2) V l := by
  refine World.ownsRow.kept h (row := some b) ⟨rfl, rfl, rfl, by simp, fun k hk hne => ?_⟩ ?_
  · have hk' : k ≠ b := fun e => hne (by rw [e])
    exact ((Below.heap_setCell _ _ _ _ hk').trans (Below.heap_setCell _ _ _ _ hk')).trans (Below.heap_setCell _ _ _ _ hk')
  · exact .inr (Own.ne h hz (by decide))
theorem cell0_set {w : World} {b t : Nat} {a0 a1 a2 u : Value} (h : w.heap[b]? = some (.cells #[a0, a1, a2] t (0, 0))) : (w.setCell ⟨b, 0, none⟩ u).heap[b]? = some (.cells #[u, a1, a2] t (0, 0)) := by
  obtain ⟨hlt, h'⟩ := Array.getElem?_eq_some_iff.1 h
  show (w.heap.modify b _)[b]? = _
  rw [Array.getElem?_eq_getElem (by simpa using hlt), Array.getElem_modify_self, h']
  rfl
theorem cell1_set {w : World} {b t : Nat} {a0 a1 a2 u : Value} (h : w.heap[b]? = some (.cells #[a0, a1, a2] t (0, 0))) : (w.setCell ⟨b, 1, none⟩ u).heap[b]? = some (.cells #[a0, u, a2] t (0, 0)) := by
  obtain ⟨hlt, h'⟩ := Array.getElem?_eq_some_iff.1 h
  show (w.heap.modify b _)[b]? = _
  rw [Array.getElem?_eq_getElem (by simpa using hlt), Array.getElem_modify_self, h']
  rfl
theorem cell2_set {w : World} {b t : Nat} {a0 a1 a2 u : Value} (h : w.heap[b]? = some (.cells #[a0, a1, a2] t (0, 0))) : (w.setCell ⟨b, 2, none⟩ u).heap[b]? = some (.cells #[a0, a1, u] t (0, 0)) := by
  obtain ⟨hlt, h'⟩ := Array.getElem?_eq_some_iff.1 h
  show (w.heap.modify b _)[b]? = _
  rw [Array.getElem?_eq_getElem (by simpa using hlt), Array.getElem_modify_self, h']
  rfl
theorem got_cells {w w1 : World} (h : Gz w w1) (u0 u1 u2 : Value) : (((w1.setCell ⟨w.heap.size, 0, none⟩ u0).setCell ⟨w.heap.size, 1, none⟩ u1).setCell ⟨w.heap.size, 2, none⟩ u2).heap[w.heap.size]? = some (.cells #[u0, u1, u2] 59 (0, 0)) := cell2_set (cell1_set (cell0_set h.1))
theorem got_below {w w' : World} (h : Gz w w') (u0 u1 u2 : Value) : Below w.heap.size w (((w'.setCell ⟨w.heap.size, 0, none⟩ u0).setCell ⟨w.heap.size, 1, none⟩ u1).setCell ⟨w.heap.size, 2, none⟩ u2) :=
  ((h.2.setCell (Nat.le_refl _) _).setCell (Nat.le_refl _) _).setCell (Nat.le_refl _) _
set_option maxRecDepth 100000 in
theorem refBad_any (er p : Int) (w : World) : Calls Tryz.prog 60 #[.int .i64 er, .int .i64 p] w fun e w' => e = .returned (.agg #[.slice none 0 0, .int .i64 p, .int .i64 er]) ∧ Below w.heap.size w w' := by
  go_enter Tryz.func60, Tryz.ntmps60
  go_wp2_with fail
  exact bodyPost_ret (v := .agg #[.slice none 0 0, .int .i64 p, .int .i64 er]) (by simp [results, Tryz.results60, go_sem]) rfl ⟨rfl, (Below.refl _ _).alloc (Nat.le_refl _) _⟩
theorem num_iff {c : UInt8} : numB.contains c = true ↔ (48 ≤ c.toNat ∧ c.toNat ≤ 57) ∨ c.toNat = 43 ∨ c.toNat = 45 ∨ c.toNat = 46 ∨ c.toNat = 101 ∨ c.toNat = 69 := by
  have key : ∀ n, n < 256 → (numB.contains (UInt8.ofNat n) = true ↔ (48 ≤ n ∧ n ≤ 57) ∨ n = 43 ∨ n = 45 ∨ n = 46 ∨ n = 101 ∨ n = 69) := by decide +kernel
  have h := key c.toNat c.toNat_lt
  rwa [UInt8.ofNat_toNat] at h
theorem take_at {q : UInt8 → Bool} : ∀ (l : List UInt8) (k : Nat), k < (l.takeWhile q).length → ∃ c, l[k]? = some c ∧ q c = true
  | [], k, h => by simp at h
  | c :: l, k, h => by
    rw [List.takeWhile_cons] at h
    by_cases hc : q c = true
    · rw [if_pos hc] at h
      cases k with
      | zero => exact ⟨c, rfl, hc⟩
      | succ k => exact take_at l k (by simpa using h)
    · rw [if_neg hc] at h; simp at h
theorem take_end {q : UInt8 → Bool} : ∀ (l : List UInt8) (c : UInt8), l[(l.takeWhile q).length]? = some c → q c = false
  | [], c, h => by simp at h
  | d :: l, c, h => by
    rw [List.takeWhile_cons] at h
    by_cases hc : q d = true
    · rw [if_pos hc] at h
      exact take_end l c (by simpa using h)
    · rw [if_neg hc] at h
      simp at h
      subst h
      simpa using hc
set_option maxRecDepth 100000 in
set_option maxHeartbeats 4000000 in
theorem refNumberG_any (s : ByteArray) (i : Nat) (w : World) (hs : s.size ≤ 10000) (hi : i ≤ s.size) : Calls Tryz.prog 62 #[.string s, .int .i64 i] w (GotE w (nuR s.data.toList i)) := by
  have hN := nuT_len s.data.toList i (by rw [size_toList]; exact hi)
  rw [size_toList] at hN
  have HT : Hid (∀ k, i ≤ k → k < i + (nuT s.data.toList i).length → ∀ h : k < s.size, numB.contains s[k] = true) := Lib.hid (fun k h1 h2 h => by
    obtain ⟨c, hc, hq⟩ := take_at (q := (numB.contains ·)) (s.data.toList.drop i) (k - i) (by show k - i < (nuT s.data.toList i).length; omega)
    rw [List.getElem?_drop, show i + (k - i) = k by omega, List.getElem?_eq_getElem (by rw [size_toList]; exact h)] at hc
    injection hc with hc
    rw [← hc] at hq
    exact hq)
  have HE : Hid (∀ h : i + (nuT s.data.toList i).length < s.size, numB.contains s[i + (nuT s.data.toList i).length] = false) := Lib.hid (fun h => by
    refine take_end (q := (numB.contains ·)) (s.data.toList.drop i) _ ?_
    rw [List.getElem?_drop]
    show s.data.toList[i + (nuT s.data.toList i).length]? = _
    rw [List.getElem?_eq_getElem (by rw [size_toList]; exact h)]; rfl)
  have HX : Hid ((s.extract i (i + (nuT s.data.toList i).length)).data.toList = nuT s.data.toList i) := Lib.hid (by
    have h := Lib.extract_toList s i (i + (nuT s.data.toList i).length)
    rw [ByteArray.toList_eq, Nat.add_sub_cancel_left] at h
    rw [h]
    exact take_len_takeWhile _ _)
  have HRD := Lib.hid (fun W => refRead_any (s.extract i (i + (nuT s.data.toList i).length)) W (by rw [ByteArray.size_extract]; omega))
  unfold ReadEnd ndv at HRD
  rw [HX.out] at HRD
  have HNU : Hid (nuR s.data.toList i = if (readF (nuT s.data.toList i)).2.2 = 0 then .ok [(readF (nuT s.data.toList i)).1] (i + (nuT s.data.toList i).length) else .bad (readF (nuT s.data.toList i)).2.2 (i + (readF (nuT s.data.toList i)).2.1.toNat)) := Lib.hid rfl
  have hat := readF_at (nuT s.data.toList i)
  have HRX : Hid ((readF (nuT s.data.toList i)).2.1.toNat = (readF (nuT s.data.toList i)).2.1) := Lib.hid (by omega)
  generalize readF (nuT s.data.toList i) = RF at *
  obtain ⟨nd, at0, er⟩ := RF
  simp only at HRD HNU hat HRX
  generalize hNN : (nuT s.data.toList i).length = N at *
  have hat2 : 0 ≤ at0 ∧ at0 ≤ 10000 := by omega
  clear hNN HX hat
  generalize hZ : s.extract i (i + N) = Z at *
  generalize nuR s.data.toList i = R at *
  go_enter Tryz.func62, Tryz.ntmps62
  go_wp2_with fail
  go_loopw [5] (fun tv wr => ∃ k : Nat, i ≤ k ∧ k ≤ i + N ∧ tv = .int .i64 k ∧ wr = w.alloc gotZ) (fun tv _ => s.size - (intOf tv).toNat)
  case atStart => exact ⟨i, Nat.le_refl _, by omega, rfl, rfl⟩
  case round =>
    obtain ⟨k, hk0, hk, rfl, rfl⟩ := hrel
    by_cases hlt : k < i + N
    · have hks : k < s.size := by omega
      have hc := num_iff.1 (HT.out k hk0 hlt hks)
      have hfr : (48 ≤ s[k].toNat ∧ s[k].toNat ≤ 57) ∨ (¬ 48 ≤ s[k].toNat ∧ s[k].toNat = 43) ∨ (¬ 48 ≤ s[k].toNat ∧ s[k].toNat = 45) ∨ (¬ 48 ≤ s[k].toNat ∧ s[k].toNat = 46) ∨ (48 ≤ s[k].toNat ∧ s[k].toNat = 101) ∨ (48 ≤ s[k].toNat ∧ s[k].toNat = 69) := by omega
      clear hc
      generalize hv : s[k].toNat = v at *
      rcases hfr with ⟨h1, h2⟩ | ⟨h1, h2⟩ | ⟨h1, h2⟩ | ⟨h1, h2⟩ | ⟨h1, h2⟩ | ⟨h1, h2⟩
      · have h1' : 48 ≤ (v : Int) := by omega
        have h2' : (v : Int) ≤ 57 := by omega
        go_wp2_with fail
        refine ⟨⟨k + 1, by omega, by omega, by go_num, by first | trivial | rfl⟩, ?_⟩
        simp [intOf]; omega
      all_goals
        subst h2
        go_wp2_with fail
        refine ⟨⟨k + 1, by omega, by omega, by go_num, by first | trivial | rfl⟩, ?_⟩
        simp [intOf]; omega
    · obtain rfl : k = i + N := by omega
      have HG := Lib.hid (Gz.new w)
      by_cases hks : i + N < s.size
      · have hc : ¬ numB.contains s[i + N] = true := by rw [HE.out hks]; decide
        rw [num_iff] at hc
        clear HE HT
        generalize hv : s[i + N].toNat = v at *
        have h43 : ((v : Int) == 43) = false := by simp; omega
        have h45 : ((v : Int) == 45) = false := by simp; omega
        have h46 : ((v : Int) == 46) = false := by simp; omega
        have h101 : ((v : Int) == 101) = false := by simp; omega
        have h69 : ((v : Int) == 69) = false := by simp; omega
        have HT : Hid True := Lib.hid trivial
        have HE : Hid True := Lib.hid trivial
        by_cases h48 : 48 ≤ v
        · have h57 : ¬ (v : Int) ≤ 57 := by omega
          have h48' : 48 ≤ (v : Int) := by omega
          clear hc
          by_cases he : er = 0
          · subst he
            have HRR : Hid (R = .ok [nd] (i + N)) := Lib.hid (by rw [HNU.out, if_pos rfl])
            clear HNU HT HE
            go_wp2_with fail
            refine (HRD.out _).mono ?_
            rintro e w1 ⟨rfl, hb1⟩
            have HG1 := Lib.hid (HG.out.step hb1)
            obtain ⟨k0, k1, k2, hfz, hz4⟩ := HG1.out.cells
            clear hb1
            go_wp2_with fail
            have hT := got_cells HG1.out (.slice (some ⟨w1.heap.size + 1, 0, none⟩) 1 1) (.int .i64 ((i : Int) + (N : Int))) (.int .i64 0)
            have hB := got_below HG1.out (.slice (some ⟨w1.heap.size + 1, 0, none⟩) 1 1) (.int .i64 ((i : Int) + (N : Int))) (.int .i64 0)
            have hzT : (((w1.setCell ⟨w.heap.size, 0, none⟩ (.slice (some ⟨w1.heap.size + 1, 0, none⟩) 1 1)).setCell ⟨w.heap.size, 1, none⟩ (.int .i64 ((i : Int) + (N : Int)))).setCell ⟨w.heap.size, 2, none⟩ (.int .i64 0)).heap.size = w1.heap.size := by simp
            generalize (((w1.setCell ⟨w.heap.size, 0, none⟩ (.slice (some ⟨w1.heap.size + 1, 0, none⟩) 1 1)).setCell ⟨w.heap.size, 1, none⟩ (.int .i64 ((i : Int) + (N : Int)))).setCell ⟨w.heap.size, 2, none⟩ (.int .i64 0)) = T at *
            have hTB : Below T.heap.size T ((T.alloc (.cells #[.int .i64 nd.kind, .int .i64 nd.many, .string ⟨nd.name.toArray⟩, .string ⟨nd.s.toArray⟩, .bool nd.neg, .int .i64 nd.e] 35)).alloc (.cells #[.int .i64 nd.kind, .int .i64 nd.many, .string ⟨nd.name.toArray⟩, .string ⟨nd.s.toArray⟩, .bool nd.neg, .int .i64 nd.e] 35)) := ((Below.refl _ _).alloc (Nat.le_refl _) _).alloc (by simp) _
            have hW := (hTB.block _ (Array.getElem?_eq_some_iff.1 hT).1).trans hT
            have c0 : ((T.alloc (.cells #[.int .i64 nd.kind, .int .i64 nd.many, .string ⟨nd.name.toArray⟩, .string ⟨nd.s.toArray⟩, .bool nd.neg, .int .i64 nd.e] 35)).alloc (.cells #[.int .i64 nd.kind, .int .i64 nd.many, .string ⟨nd.name.toArray⟩, .string ⟨nd.s.toArray⟩, .bool nd.neg, .int .i64 nd.e] 35)).cell? ⟨w.heap.size, 0, none⟩ = some (.slice (some ⟨w1.heap.size + 1, 0, none⟩) 1 1) := by rw [Lib.cell_of_heap hW]; rfl
            have c1 : ((T.alloc (.cells #[.int .i64 nd.kind, .int .i64 nd.many, .string ⟨nd.name.toArray⟩, .string ⟨nd.s.toArray⟩, .bool nd.neg, .int .i64 nd.e] 35)).alloc (.cells #[.int .i64 nd.kind, .int .i64 nd.many, .string ⟨nd.name.toArray⟩, .string ⟨nd.s.toArray⟩, .bool nd.neg, .int .i64 nd.e] 35)).cell? ⟨w.heap.size, 1, none⟩ = some (.int .i64 ((i : Int) + (N : Int))) := by rw [Lib.cell_of_heap hW]; rfl
            have c2 : ((T.alloc (.cells #[.int .i64 nd.kind, .int .i64 nd.many, .string ⟨nd.name.toArray⟩, .string ⟨nd.s.toArray⟩, .bool nd.neg, .int .i64 nd.e] 35)).alloc (.cells #[.int .i64 nd.kind, .int .i64 nd.many, .string ⟨nd.name.toArray⟩, .string ⟨nd.s.toArray⟩, .bool nd.neg, .int .i64 nd.e] 35)).cell? ⟨w.heap.size, 2, none⟩ = some (.int .i64 0) := by rw [Lib.cell_of_heap hW]; rfl
            have hsz : (T.alloc (.cells #[.int .i64 nd.kind, .int .i64 nd.many, .string ⟨nd.name.toArray⟩, .string ⟨nd.s.toArray⟩, .bool nd.neg, .int .i64 nd.e] 35)).heap.size = w1.heap.size + 1 := by simp [hzT]
            have hown := Own.lit (base := w.heap.size) (E := 35) ndc_len (T.alloc (.cells #[.int .i64 nd.kind, .int .i64 nd.many, .string ⟨nd.name.toArray⟩, .string ⟨nd.s.toArray⟩, .bool nd.neg, .int .i64 nd.e] 35)) #[.int .i64 nd.kind, .int .i64 nd.many, .string ⟨nd.name.toArray⟩, .string ⟨nd.s.toArray⟩, .bool nd.neg, .int .i64 nd.e] [nd] (by rw [hsz]; have := HG1.out.2.size; omega) (by unfold maxLen; simp) rfl
            rw [hsz] at hown
            have hBT := Below.after hB (hTB)
            clear hTB hW hT
            generalize (T.alloc (.cells #[.int .i64 nd.kind, .int .i64 nd.many, .string ⟨nd.name.toArray⟩, .string ⟨nd.s.toArray⟩, .bool nd.neg, .int .i64 nd.e] 35)).alloc (.cells #[.int .i64 nd.kind, .int .i64 nd.many, .string ⟨nd.name.toArray⟩, .string ⟨nd.s.toArray⟩, .bool nd.neg, .int .i64 nd.e] 35) = W5 at *
            exact bodyPost_ret (v := .agg #[.slice (some ⟨w1.heap.size + 1, 0, none⟩) 1 1, .int .i64 ((i : Int) + (N : Int)), .int .i64 0]) (by simp [results, Tryz.results62, go_sem, c0, c1, c2]) rfl (by rw [HRR.out]; exact ⟨some ⟨w1.heap.size + 1, 0, none⟩, 1, by rw [show (((i + N : Nat) : Int)) = (i : Int) + (N : Int) by omega]; rfl, Lib.hid hown, Lib.hid hBT⟩)
          · have heb : (er == 0) = false := by simpa using he
            have heb2 : (er != 0) = true := by simpa using he
            have HRR : Hid (R = .bad er (i + at0.toNat)) := Lib.hid (by rw [HNU.out, if_neg he])
            clear HNU HT HE
            go_wp2_with fail
            refine (HRD.out _).mono ?_
            rintro e w1 ⟨rfl, hb1⟩
            have HG1 := Lib.hid (HG.out.step hb1)
            obtain ⟨k0, k1, k2, hfz, hz4⟩ := HG1.out.cells
            clear hb1
            go_wp2_with fail
            refine (refBad_any er ((i : Int) + at0) _).mono ?_
            rintro e w2 ⟨rfl, hb2⟩
            have HG2 := Lib.hid ((HG1.out.step ((Below.refl _ _).alloc (Nat.le_refl _) _)).step hb2)
            obtain ⟨k0, k1, k2, hfz, hz4⟩ := HG2.out.cells
            clear hb2
            go_wp2_with fail
            exact bodyPost_ret (v := .agg #[.slice none 0 0, .int .i64 ((i : Int) + at0), .int .i64 er]) (by simp [results, Tryz.results62, go_sem, k0, k1, k2]) rfl (by rw [HRR.out]; exact ⟨by rw [show (((i + at0.toNat : Nat) : Int)) = (i : Int) + at0 by have := HRX.out; omega], Lib.hid (got_below HG2.out _ _ _)⟩)
        · have h48' : ¬ 48 ≤ (v : Int) := by omega
          clear hc
          by_cases he : er = 0
          · subst he
            have HRR : Hid (R = .ok [nd] (i + N)) := Lib.hid (by rw [HNU.out, if_pos rfl])
            clear HNU HT HE
            go_wp2_with fail
            refine (HRD.out _).mono ?_
            rintro e w1 ⟨rfl, hb1⟩
            have HG1 := Lib.hid (HG.out.step hb1)
            obtain ⟨k0, k1, k2, hfz, hz4⟩ := HG1.out.cells
            clear hb1
            go_wp2_with fail
            have hT := got_cells HG1.out (.slice (some ⟨w1.heap.size + 1, 0, none⟩) 1 1) (.int .i64 ((i : Int) + (N : Int))) (.int .i64 0)
            have hB := got_below HG1.out (.slice (some ⟨w1.heap.size + 1, 0, none⟩) 1 1) (.int .i64 ((i : Int) + (N : Int))) (.int .i64 0)
            have hzT : (((w1.setCell ⟨w.heap.size, 0, none⟩ (.slice (some ⟨w1.heap.size + 1, 0, none⟩) 1 1)).setCell ⟨w.heap.size, 1, none⟩ (.int .i64 ((i : Int) + (N : Int)))).setCell ⟨w.heap.size, 2, none⟩ (.int .i64 0)).heap.size = w1.heap.size := by simp
            generalize (((w1.setCell ⟨w.heap.size, 0, none⟩ (.slice (some ⟨w1.heap.size + 1, 0, none⟩) 1 1)).setCell ⟨w.heap.size, 1, none⟩ (.int .i64 ((i : Int) + (N : Int)))).setCell ⟨w.heap.size, 2, none⟩ (.int .i64 0)) = T at *
            have hTB : Below T.heap.size T ((T.alloc (.cells #[.int .i64 nd.kind, .int .i64 nd.many, .string ⟨nd.name.toArray⟩, .string ⟨nd.s.toArray⟩, .bool nd.neg, .int .i64 nd.e] 35)).alloc (.cells #[.int .i64 nd.kind, .int .i64 nd.many, .string ⟨nd.name.toArray⟩, .string ⟨nd.s.toArray⟩, .bool nd.neg, .int .i64 nd.e] 35)) := ((Below.refl _ _).alloc (Nat.le_refl _) _).alloc (by simp) _
            have hW := (hTB.block _ (Array.getElem?_eq_some_iff.1 hT).1).trans hT
            have c0 : ((T.alloc (.cells #[.int .i64 nd.kind, .int .i64 nd.many, .string ⟨nd.name.toArray⟩, .string ⟨nd.s.toArray⟩, .bool nd.neg, .int .i64 nd.e] 35)).alloc (.cells #[.int .i64 nd.kind, .int .i64 nd.many, .string ⟨nd.name.toArray⟩, .string ⟨nd.s.toArray⟩, .bool nd.neg, .int .i64 nd.e] 35)).cell? ⟨w.heap.size, 0, none⟩ = some (.slice (some ⟨w1.heap.size + 1, 0, none⟩) 1 1) := by rw [Lib.cell_of_heap hW]; rfl
            have c1 : ((T.alloc (.cells #[.int .i64 nd.kind, .int .i64 nd.many, .string ⟨nd.name.toArray⟩, .string ⟨nd.s.toArray⟩, .bool nd.neg, .int .i64 nd.e] 35)).alloc (.cells #[.int .i64 nd.kind, .int .i64 nd.many, .string ⟨nd.name.toArray⟩, .string ⟨nd.s.toArray⟩, .bool nd.neg, .int .i64 nd.e] 35)).cell? ⟨w.heap.size, 1, none⟩ = some (.int .i64 ((i : Int) + (N : Int))) := by rw [Lib.cell_of_heap hW]; rfl
            have c2 : ((T.alloc (.cells #[.int .i64 nd.kind, .int .i64 nd.many, .string ⟨nd.name.toArray⟩, .string ⟨nd.s.toArray⟩, .bool nd.neg, .int .i64 nd.e] 35)).alloc (.cells #[.int .i64 nd.kind, .int .i64 nd.many, .string ⟨nd.name.toArray⟩, .string ⟨nd.s.toArray⟩, .bool nd.neg, .int .i64 nd.e] 35)).cell? ⟨w.heap.size, 2, none⟩ = some (.int .i64 0) := by rw [Lib.cell_of_heap hW]; rfl
            have hsz : (T.alloc (.cells #[.int .i64 nd.kind, .int .i64 nd.many, .string ⟨nd.name.toArray⟩, .string ⟨nd.s.toArray⟩, .bool nd.neg, .int .i64 nd.e] 35)).heap.size = w1.heap.size + 1 := by simp [hzT]
            have hown := Own.lit (base := w.heap.size) (E := 35) ndc_len (T.alloc (.cells #[.int .i64 nd.kind, .int .i64 nd.many, .string ⟨nd.name.toArray⟩, .string ⟨nd.s.toArray⟩, .bool nd.neg, .int .i64 nd.e] 35)) #[.int .i64 nd.kind, .int .i64 nd.many, .string ⟨nd.name.toArray⟩, .string ⟨nd.s.toArray⟩, .bool nd.neg, .int .i64 nd.e] [nd] (by rw [hsz]; have := HG1.out.2.size; omega) (by unfold maxLen; simp) rfl
            rw [hsz] at hown
            have hBT := Below.after hB (hTB)
            clear hTB hW hT
            generalize (T.alloc (.cells #[.int .i64 nd.kind, .int .i64 nd.many, .string ⟨nd.name.toArray⟩, .string ⟨nd.s.toArray⟩, .bool nd.neg, .int .i64 nd.e] 35)).alloc (.cells #[.int .i64 nd.kind, .int .i64 nd.many, .string ⟨nd.name.toArray⟩, .string ⟨nd.s.toArray⟩, .bool nd.neg, .int .i64 nd.e] 35) = W5 at *
            exact bodyPost_ret (v := .agg #[.slice (some ⟨w1.heap.size + 1, 0, none⟩) 1 1, .int .i64 ((i : Int) + (N : Int)), .int .i64 0]) (by simp [results, Tryz.results62, go_sem, c0, c1, c2]) rfl (by rw [HRR.out]; exact ⟨some ⟨w1.heap.size + 1, 0, none⟩, 1, by rw [show (((i + N : Nat) : Int)) = (i : Int) + (N : Int) by omega]; rfl, Lib.hid hown, Lib.hid hBT⟩)
          · have heb : (er == 0) = false := by simpa using he
            have heb2 : (er != 0) = true := by simpa using he
            have HRR : Hid (R = .bad er (i + at0.toNat)) := Lib.hid (by rw [HNU.out, if_neg he])
            clear HNU HT HE
            go_wp2_with fail
            refine (HRD.out _).mono ?_
            rintro e w1 ⟨rfl, hb1⟩
            have HG1 := Lib.hid (HG.out.step hb1)
            obtain ⟨k0, k1, k2, hfz, hz4⟩ := HG1.out.cells
            clear hb1
            go_wp2_with fail
            refine (refBad_any er ((i : Int) + at0) _).mono ?_
            rintro e w2 ⟨rfl, hb2⟩
            have HG2 := Lib.hid ((HG1.out.step ((Below.refl _ _).alloc (Nat.le_refl _) _)).step hb2)
            obtain ⟨k0, k1, k2, hfz, hz4⟩ := HG2.out.cells
            clear hb2
            go_wp2_with fail
            exact bodyPost_ret (v := .agg #[.slice none 0 0, .int .i64 ((i : Int) + at0), .int .i64 er]) (by simp [results, Tryz.results62, go_sem, k0, k1, k2]) rfl (by rw [HRR.out]; exact ⟨by rw [show (((i + at0.toNat : Nat) : Int)) = (i : Int) + at0 by have := HRX.out; omega], Lib.hid (got_below HG2.out _ _ _)⟩)
      · have hke : i + N = s.size := by omega
        have hZ2 : s.extract i s.size = Z := by rw [← hke]; exact hZ
        have hke2 : (i : Int) + (N : Int) = (s.size : Int) := by omega
        by_cases he : er = 0
        · subst he
          have HRR : Hid (R = .ok [nd] (i + N)) := Lib.hid (by rw [HNU.out, if_pos rfl])
          clear HNU HT HE
          go_wp2_with fail
          refine (HRD.out _).mono ?_
          rintro e w1 ⟨rfl, hb1⟩
          have HG1 := Lib.hid (HG.out.step hb1)
          obtain ⟨k0, k1, k2, hfz, hz4⟩ := HG1.out.cells
          clear hb1
          go_wp2_with fail
          have hT := got_cells HG1.out (.slice (some ⟨w1.heap.size + 1, 0, none⟩) 1 1) (.int .i64 ((s.size : Int))) (.int .i64 0)
          have hB := got_below HG1.out (.slice (some ⟨w1.heap.size + 1, 0, none⟩) 1 1) (.int .i64 ((s.size : Int))) (.int .i64 0)
          have hzT : (((w1.setCell ⟨w.heap.size, 0, none⟩ (.slice (some ⟨w1.heap.size + 1, 0, none⟩) 1 1)).setCell ⟨w.heap.size, 1, none⟩ (.int .i64 ((s.size : Int)))).setCell ⟨w.heap.size, 2, none⟩ (.int .i64 0)).heap.size = w1.heap.size := by simp
          generalize (((w1.setCell ⟨w.heap.size, 0, none⟩ (.slice (some ⟨w1.heap.size + 1, 0, none⟩) 1 1)).setCell ⟨w.heap.size, 1, none⟩ (.int .i64 ((s.size : Int)))).setCell ⟨w.heap.size, 2, none⟩ (.int .i64 0)) = T at *
          have hTB : Below T.heap.size T ((T.alloc (.cells #[.int .i64 nd.kind, .int .i64 nd.many, .string ⟨nd.name.toArray⟩, .string ⟨nd.s.toArray⟩, .bool nd.neg, .int .i64 nd.e] 35)).alloc (.cells #[.int .i64 nd.kind, .int .i64 nd.many, .string ⟨nd.name.toArray⟩, .string ⟨nd.s.toArray⟩, .bool nd.neg, .int .i64 nd.e] 35)) := ((Below.refl _ _).alloc (Nat.le_refl _) _).alloc (by simp) _
          have hW := (hTB.block _ (Array.getElem?_eq_some_iff.1 hT).1).trans hT
          have c0 : ((T.alloc (.cells #[.int .i64 nd.kind, .int .i64 nd.many, .string ⟨nd.name.toArray⟩, .string ⟨nd.s.toArray⟩, .bool nd.neg, .int .i64 nd.e] 35)).alloc (.cells #[.int .i64 nd.kind, .int .i64 nd.many, .string ⟨nd.name.toArray⟩, .string ⟨nd.s.toArray⟩, .bool nd.neg, .int .i64 nd.e] 35)).cell? ⟨w.heap.size, 0, none⟩ = some (.slice (some ⟨w1.heap.size + 1, 0, none⟩) 1 1) := by rw [Lib.cell_of_heap hW]; rfl
          have c1 : ((T.alloc (.cells #[.int .i64 nd.kind, .int .i64 nd.many, .string ⟨nd.name.toArray⟩, .string ⟨nd.s.toArray⟩, .bool nd.neg, .int .i64 nd.e] 35)).alloc (.cells #[.int .i64 nd.kind, .int .i64 nd.many, .string ⟨nd.name.toArray⟩, .string ⟨nd.s.toArray⟩, .bool nd.neg, .int .i64 nd.e] 35)).cell? ⟨w.heap.size, 1, none⟩ = some (.int .i64 ((s.size : Int))) := by rw [Lib.cell_of_heap hW]; rfl
          have c2 : ((T.alloc (.cells #[.int .i64 nd.kind, .int .i64 nd.many, .string ⟨nd.name.toArray⟩, .string ⟨nd.s.toArray⟩, .bool nd.neg, .int .i64 nd.e] 35)).alloc (.cells #[.int .i64 nd.kind, .int .i64 nd.many, .string ⟨nd.name.toArray⟩, .string ⟨nd.s.toArray⟩, .bool nd.neg, .int .i64 nd.e] 35)).cell? ⟨w.heap.size, 2, none⟩ = some (.int .i64 0) := by rw [Lib.cell_of_heap hW]; rfl
          have hsz : (T.alloc (.cells #[.int .i64 nd.kind, .int .i64 nd.many, .string ⟨nd.name.toArray⟩, .string ⟨nd.s.toArray⟩, .bool nd.neg, .int .i64 nd.e] 35)).heap.size = w1.heap.size + 1 := by simp [hzT]
          have hown := Own.lit (base := w.heap.size) (E := 35) ndc_len (T.alloc (.cells #[.int .i64 nd.kind, .int .i64 nd.many, .string ⟨nd.name.toArray⟩, .string ⟨nd.s.toArray⟩, .bool nd.neg, .int .i64 nd.e] 35)) #[.int .i64 nd.kind, .int .i64 nd.many, .string ⟨nd.name.toArray⟩, .string ⟨nd.s.toArray⟩, .bool nd.neg, .int .i64 nd.e] [nd] (by rw [hsz]; have := HG1.out.2.size; omega) (by unfold maxLen; simp) rfl
          rw [hsz] at hown
          have hBT := Below.after hB (hTB)
          clear hTB hW hT
          generalize (T.alloc (.cells #[.int .i64 nd.kind, .int .i64 nd.many, .string ⟨nd.name.toArray⟩, .string ⟨nd.s.toArray⟩, .bool nd.neg, .int .i64 nd.e] 35)).alloc (.cells #[.int .i64 nd.kind, .int .i64 nd.many, .string ⟨nd.name.toArray⟩, .string ⟨nd.s.toArray⟩, .bool nd.neg, .int .i64 nd.e] 35) = W5 at *
          exact bodyPost_ret (v := .agg #[.slice (some ⟨w1.heap.size + 1, 0, none⟩) 1 1, .int .i64 ((s.size : Int)), .int .i64 0]) (by simp [results, Tryz.results62, go_sem, c0, c1, c2]) rfl (by rw [HRR.out]; exact ⟨some ⟨w1.heap.size + 1, 0, none⟩, 1, by rw [show (((i + N : Nat) : Int)) = (s.size : Int) by omega]; rfl, Lib.hid hown, Lib.hid hBT⟩)
        · have heb : (er == 0) = false := by simpa using he
          have heb2 : (er != 0) = true := by simpa using he
          have HRR : Hid (R = .bad er (i + at0.toNat)) := Lib.hid (by rw [HNU.out, if_neg he])
          clear HNU HT HE
          go_wp2_with fail
          refine (HRD.out _).mono ?_
          rintro e w1 ⟨rfl, hb1⟩
          have HG1 := Lib.hid (HG.out.step hb1)
          obtain ⟨k0, k1, k2, hfz, hz4⟩ := HG1.out.cells
          clear hb1
          go_wp2_with fail
          refine (refBad_any er ((i : Int) + at0) _).mono ?_
          rintro e w2 ⟨rfl, hb2⟩
          have HG2 := Lib.hid ((HG1.out.step ((Below.refl _ _).alloc (Nat.le_refl _) _)).step hb2)
          obtain ⟨k0, k1, k2, hfz, hz4⟩ := HG2.out.cells
          clear hb2
          go_wp2_with fail
          exact bodyPost_ret (v := .agg #[.slice none 0 0, .int .i64 ((i : Int) + at0), .int .i64 er]) (by simp [results, Tryz.results62, go_sem, k0, k1, k2]) rfl (by rw [HRR.out]; exact ⟨by rw [show (((i + at0.toNat : Nat) : Int)) = (i : Int) + at0 by have := HRX.out; omega], Lib.hid (got_below HG2.out _ _ _)⟩)
end Go.Proofs.YtafbojiojeemoaaGreatDoor

/-
  The document's own reading of texts: what list of louperef04 answers, over what value answers.
-/
namespace Go.Proofs.YtafbojiojeemoaaGreatDoor
open Go.RowKit Np Rw Vp Up Qp Tp

theorem has_one {l : List UInt8} {c : UInt8} (hc : c.toNat ≠ 0) (j : Nat) : Lib.hasPrefix (l.drop j) [c] = decide (bt l j = c.toNat) := by
  rw [Bool.eq_iff_iff, decide_eq_true_eq]
  have hb : bt l j = bt (l.drop j) 0 := by rw [bt_drop, Nat.add_zero]
  rw [hb]
  cases h : l.drop j with
  | nil => simp [Lib.hasPrefix, bt]; exact fun e => hc e.symm
  | cons a r =>
    simp only [Lib.hasPrefix, List.isPrefixOf, Bool.and_true, beq_iff_eq, bt_cons]
    exact ⟨fun e => by rw [e], fun e => (UInt8.toNat_inj.1 e).symm⟩
/-- Each is a value's row. -/
def RowsV (acc : List (List Nd)) : Prop := ∀ v ∈ acc, ∃ t, Val t ∧ v = flat t
theorem laid_rows : ∀ {acc : List (List Nd)}, RowsV acc → laid (acc.map fun l => ([], l)) = acc.flatten
  | [], _ => rfl
  | v :: acc, h => by
    obtain ⟨t, ht, rfl⟩ := h v (by simp)
    rw [List.map_cons, laid_cons, List.flatten_cons, setNm_val ht, laid_rows fun u hu => h u (List.mem_cons_of_mem _ hu)]
theorem liV_rows {acc : List (List Nd)} (h : RowsV acc) : liV acc = hdN 5 acc.length :: acc.flatten := by unfold liV; rw [laid_rows h]
/-- What value answers, at places where no blank stands. -/
def ValG (s : ByteArray) (rd : Nat → Rs (List Nd)) (dd : Int) : Prop := ∀ (k : Nat) (W : World), k ≤ s.size → sk s.data.toList k = k → Calls Tryz.prog 32 #[.string s, .int .i64 k, .int .i64 dd] W (GotE W (rd k))
theorem grown_at {w w' : World} {row : Option Nat} (h : w.grownBy w' row) {b : Nat} {o : Obj} (hz : w.heap[b]? = some o) (hne : row ≠ some b) : w'.heap[b]? = some o :=
  (h.block b (Array.getElem?_eq_some_iff.1 hz).1 (fun e => hne e.symm)).trans hz
theorem got_ok {w w1 : World} {A : Option Addr} {c k : Nat} {v : List Nd} {R : Rs (List Nd)} (hR : R = .ok v k) (hg : Gz w w1) (ho : OwnN w.heap.size w1 (.slice A v.length c) v) :
    GotE w R (.returned (.agg #[.slice A v.length c, .int .i64 (k : Nat), .int .i64 0])) (((w1.setCell ⟨w.heap.size, 0, none⟩ (.slice A v.length c)).setCell ⟨w.heap.size, 1, none⟩ (.int .i64 (k : Nat))).setCell ⟨w.heap.size, 2, none⟩ (.int .i64 0)) := by
  subst hR
  exact ⟨A, c, rfl, Lib.hid (own_got ho hg.1 _ _ _), Lib.hid (got_below hg _ _ _)⟩
theorem got_bad {w w1 : World} {p : Nat} {er : Int} {R : Rs (List Nd)} (hR : R = .bad er p) (hg : Gz w w1) :
    GotE w R (.returned (.agg #[.slice none 0 0, .int .i64 (p : Nat), .int .i64 er])) (((w1.setCell ⟨w.heap.size, 0, none⟩ (.slice none 0 0)).setCell ⟨w.heap.size, 1, none⟩ (.int .i64 (p : Nat))).setCell ⟨w.heap.size, 2, none⟩ (.int .i64 er)) := by
  subst hR
  exact ⟨rfl, Lib.hid (got_below hg _ _ _)⟩
/-- What one has so far. -/
structure Ls (w : World) (i kk : Nat) (acc : List (List Nd)) (zs : List (Option Addr × Nat × Nat)) (lv : Value) (W : World) : Prop where
  own : Own slc 1 24 w.heap.size W lv zs
  els : Elems w.heap.size W zs acc
  gz : Gz w W
  rows : RowsV acc
  few : LiP i kk acc
set_option maxRecDepth 100000 in
set_option maxHeartbeats 8000000 in
theorem refListG_any (s : ByteArray) (n : Nat) (i : Nat) (dd : Int) (w : World) (hs : s.size ≤ 600) (hi : i < s.size) (hd0 : 0 ≤ dd) (hd1 : dd ≤ 127) (hV : ValG s (vlR s.data.toList n) (dd + 1)) :
    Calls Tryz.prog 63 #[.string s, .int .i64 i, .int .i64 dd] w (GotE w (mapR liV (ptR (vlR s.data.toList n) snoc [] s.data.toList 93 i))) := by
  have HV := Lib.hid hV
  have hlen : s.data.toList.length = s.size := size_toList s
  have HBL := Lib.hid (fun (k : Nat) W (hk : k ≤ s.size) => refBlank_any s k W (by omega) hk)
  have HSK : Hid (∀ k, k ≤ s.size → k ≤ sk s.data.toList k ∧ sk s.data.toList k ≤ s.size) := Lib.hid (fun k hk => ⟨sk_ge _ _, by have := sk_le (S := s.data.toList) (i := k) (by omega); omega⟩)
  have HHA := Lib.hid (fun (c : UInt8) (hc : c.toNat ≠ 0) (k : Nat) W (hk : k ≤ s.size) => (by
    have h := refHas_any s ⟨#[c]⟩ k W (by omega) (by rw [show (ByteArray.mk #[c]).size = 1 from rfl]; decide) hk
    have e : Lib.hasPrefix (s.data.toList.drop k) (ByteArray.mk #[c]).data.toList = decide (bt s.data.toList k = c.toNat) := has_one hc k
    rw [e] at h
    exact h : Calls Tryz.prog 59 #[.string s, .int .i64 k, .string ⟨#[c]⟩] W fun e w' => e = .returned (.bool (decide (bt s.data.toList k = c.toNat))) ∧ w' = W))
  have HGO := Lib.hid (vlR_goes s.data.toList n)
  have HER := Lib.hid (fun j e q (hj : j ≤ s.size) h => vlR_err s.data.toList n j e q (by omega) h)
  have HGD := Lib.hid (fun j v k h => vlR_good s.data.toList n j v k h)
  obtain ⟨g1, g2⟩ := HSK.out (i + 1) (by omega)
  have HR0 : Hid (ptR (vlR s.data.toList n) snoc [] s.data.toList 93 i = if bt s.data.toList (sk s.data.toList (i + 1)) = 93 then .ok [] (sk s.data.toList (i + 1) + 1) else lpR (vlR s.data.toList n) snoc s.data.toList 93 (s.size + 1) (sk s.data.toList (i + 1)) []) := Lib.hid (by unfold ptR; rw [hlen])
  have hss : sk s.data.toList (sk s.data.toList (i + 1)) = sk s.data.toList (i + 1) := sk_sk _ _
  have HSS := Lib.hid hss
  generalize hj : sk s.data.toList (i + 1) = j at *
  have HJ := Lib.hid hj
  generalize ptR (vlR s.data.toList n) snoc [] s.data.toList 93 i = R at *
  clear hss hj hV hlen
  go_enter Tryz.func63, Tryz.ntmps63
  have HG := Lib.hid (Gz.new w)
  have HO0 : Hid (Own slc 1 24 w.heap.size ((w.alloc gotZ).alloc (.cells #[] 24)) (.slice (some ⟨w.heap.size + 1, 0, none⟩) 0 0) []) := Lib.hid (by
    have := Own.lit (base := w.heap.size) (E := 24) slc_len (w.alloc gotZ) #[] [] (by simp) (by simp) rfl
    simpa using this)
  go_wp2_with fail
  have hBL1 := HBL.out (i + 1) ((w.alloc gotZ).alloc (.cells #[] 24)) (by omega)
  rw [HJ.out, Int.natCast_add] at hBL1
  refine hBL1.mono ?_
  rintro e wb ⟨rfl, rfl⟩
  clear hBL1
  have HG1 : Hid (Gz w ((w.alloc gotZ).alloc (.cells #[] 24))) := Lib.hid (HG.out.step ((Below.refl _ _).alloc (Nat.le_refl _) _))
  generalize (w.alloc gotZ).alloc (.cells #[] 24) = wb at *
  go_wp2_with fail
  have hh1 := HHA.out 93 (by decide) j wb g2
  by_cases h93 : bt s.data.toList j = 93
  · rw [show decide (bt s.data.toList j = (93 : UInt8).toNat) = true from decide_eq_true h93] at hh1
    refine hh1.mono ?_
    rintro e wc ⟨rfl, rfl⟩
    clear hh1
    go_wp2_with fail
    refine (refList_any _ [] wc (Elems.vls (base := w.heap.size) (zs := []) ⟨rfl, fun k z l h => by simp at h⟩ (HO0.out.row slc_len)) (by simp) (by simp)).mono ?_
    rintro e wd ⟨v1, rfl, hv1, hb1⟩
    obtain ⟨A1, c1, rfl, -⟩ := hv1.form
    have HV1 : Hid (OwnN w.heap.size wd (.slice A1 1 c1) [hdN 5 0]) := Lib.hid (hv1.mono HG1.out.2.size)
    have HG2 := Lib.hid (HG1.out.step hb1)
    have HRR : Hid (mapR liV R = .ok [hdN 5 0] (j + 1)) := Lib.hid (by rw [HR0.out, if_pos h93]; rfl)
    clear hv1 hb1 h93 HR0
    obtain ⟨k0, k1, k2, hfz, hz4⟩ := HG2.out.cells
    simp only [List.length_cons, List.length_nil, List.flatten_nil, Nat.zero_add]
    go_wp2_with fail
    exact bodyPost_ret (v := .agg #[.slice A1 1 c1, .int .i64 ((j + 1 : Nat) : Int), .int .i64 0]) (by simp [results, Tryz.results63, go_sem, k0, k1, k2]) rfl (got_ok HRR.out HG2.out HV1.out)
  · rw [show decide (bt s.data.toList j = (93 : UInt8).toNat) = false from decide_eq_false h93] at hh1
    refine hh1.mono ?_
    rintro e wc ⟨rfl, rfl⟩
    clear hh1
    have HRR : Hid (lpR (vlR s.data.toList n) snoc s.data.toList 93 (s.size + 1) j [] = R) := Lib.hid (by rw [HR0.out, if_neg h93])
    have HL0 : Hid (Ls w i j [] [] (.slice (some ⟨w.heap.size + 1, 0, none⟩) 0 0) wc) := Lib.hid ⟨HO0.out, ⟨rfl, fun k z l h => by simp at h⟩, HG1.out, (fun v h => by simp at h), LiP.zero (by omega)⟩
    clear h93 HR0 HO0 HG1
    go_wp2_with fail
    go_loopw [1, 7] (fun iv lv wr => ∃ (m kk : Nat) (acc : List (List Nd)) (zs : List (Option Addr × Nat × Nat)), kk ≤ s.size ∧ s.size < m + kk ∧ iv = .int .i64 (sk s.data.toList kk : Nat) ∧ Hid (lpR (vlR s.data.toList n) snoc s.data.toList 93 m kk acc = R) ∧ Hid (Ls w i kk acc zs lv wr)) (fun iv _ _ => s.size - (intOf iv).toNat)
    case atStart => exact ⟨s.size + 1, j, [], [], g2, by omega, by rw [HSS.out], HRR, HL0⟩
    case round =>
      obtain ⟨m, kk, acc, zs, hk, hm, rfl, HF, HL⟩ := hrel
      obtain ⟨m, rfl⟩ : ∃ q, m = q + 1 := ⟨m - 1, by omega⟩
      obtain ⟨q1, q2⟩ := HSK.out kk hk
      have HC := Lib.hid (HV.out (sk s.data.toList kk) wr q2 (sk_sk _ _))
      rw [← vlR_sk] at HC
      obtain ⟨A, c, rfl, -⟩ := HL.out.own.form
      have HKK := Lib.hid (rfl : sk s.data.toList kk = sk s.data.toList kk)
      generalize hjj : sk s.data.toList kk = jj at *
      clear HKK
      cases hr : vlR s.data.toList n kk with
      | bad er p =>
        have hee := (HER.out kk er p hk hr).1
        have hep := (HER.out kk er p hk hr).2
        have her : (er != 0) = true := by simp; omega
        have her2 : (er == 0) = false := by simp; omega
        have HRX : Hid (mapR liV R = .bad er p) := Lib.hid (by rw [← HF.out, lpR_bad hr]; rfl)
        rw [hr] at HC
        clear hr hee hep
        go_wp2_with fail
        refine HC.out.mono ?_
        rintro e w1 ⟨rfl, hb1⟩
        have HG2 := Lib.hid ((HL.out.gz.step hb1.out).step ((Below.refl _ _).alloc (Nat.le_refl _) (.cells #[.slice none 0 0, .int .i64 (p : Nat), .int .i64 er] 59)))
        obtain ⟨k0, k1, k2, hfz, hz4⟩ := HG2.out.cells
        go_wp2_with fail
        exact bodyPost_ret (v := .agg #[.slice none 0 0, .int .i64 (p : Nat), .int .i64 er]) (by simp [results, Tryz.results63, go_sem, k0, k1, k2]) rfl (got_bad HRX.out HG2.out)
      | ok v k =>
        obtain ⟨t1, t2, t3, t4⟩ := HGO.out kk v k hr
        have t5 : jj < k := by rw [← hjj]; exact (HGO.out _ v k (by rw [← vlR_sk]; exact hr)).1
        rw [size_toList] at t2
        obtain ⟨⟨tt, htv, hvt, -⟩, -⟩ := HGD.out kk v k hr
        have HA : Hid (lpA (vlR s.data.toList n) snoc s.data.toList 93 m k (snoc acc v) = R) := Lib.hid (by rw [← HF.out, lpR_ok hr])
        rw [hr] at HC
        have HRV : Hid (RowsV (snoc acc v)) := Lib.hid (fun u hu => by
          rcases List.mem_append.1 hu with h | h
          · exact HL.out.rows u h
          · simp at h; exact ⟨tt, htv, h.trans hvt⟩)
        have HLI : Hid (∀ k', k < k' → LiP i k' (snoc acc v)) := Lib.hid (fun k' hk' => HL.out.few.snoc t3 t4 hk')
        obtain ⟨q3, q4⟩ := HSK.out k t2
        clear hr htv hvt t4 HF
        go_wp2_with fail
        refine HC.out.mono ?_
        rintro e w1 ⟨A1, c1, rfl, ho1, hb1⟩
        have HO1 := Lib.hid (HL.out.own.below hb1.out)
        have HE1 := Lib.hid (HL.out.els.below hb1.out)
        have HG1 := Lib.hid (HL.out.gz.step hb1.out)
        have HZ := Lib.hid (ho1.out.mono HL.out.gz.2.size)
        clear ho1 hb1 HC
        generalize hvl : v.length = vl at *
        have HZL : Hid (zs.length ≤ 600 ∧ (snoc acc v).length ≤ 601 ∧ ((snoc acc v).map List.length).sum ≤ 601) := Lib.hid (by
          have h1 := HE1.out.1
          have h2 := (HLI.out (k + 1) (by omega)).few
          have h3 : (snoc acc v).length = acc.length + 1 := by simp [snoc]
          omega)
        have hxz : (w1.alloc (.cells #[.slice A1 vl c1, .int .i64 (k : Nat), .int .i64 0] 59)).heap[w1.heap.size]? = some (.cells #[.slice A1 vl c1, .int .i64 (k : Nat), .int .i64 0] 59) := heap_alloc_new w1 _
        have HXZ := Lib.hid hxz
        clear hxz
        go_wp2_with (at_builtin; refine wpList_append_row (base := w.heap.size) elVal rfl _ _ rfl rfl ((HO1.out.alloc _).alloc _) rfl (row_one slc_len (w1.alloc (.cells #[.slice A1 vl c1, .int .i64 (k : Nat), .int .i64 0] 59)) (w1.heap.size + 1) (by simp) 24 #[.slice A1 vl c1] (A1, vl, c1) rfl) ?_ ?_ ?_ ?_)
        · have := HZL.out.1; unfold maxLen; simp only [List.length_singleton]; omega
        · have := HZL.out.1; simp only [List.length_singleton]; omega
        · have := HG1.out.2.size; simp; omega
        · intro A' c' w2 hown2 hg2 hwh
          clear hwh
          have HO2 : Hid (Own slc 1 24 w.heap.size w2 (.slice A' (zs.length + 1) c') (zs ++ [(A1, vl, c1)])) := Lib.hid hown2
          have hbA : Below w1.heap.size w1 ((w1.alloc (.cells #[.slice A1 vl c1, .int .i64 (k : Nat), .int .i64 0] 59)).alloc (.cells #[.slice A1 vl c1] 24)) := ((Below.refl _ _).alloc (Nat.le_refl _) _).alloc (by simp) _
          have hgA := HG1.out.step hbA
          have hxA : ((w1.alloc (.cells #[.slice A1 vl c1, .int .i64 (k : Nat), .int .i64 0] 59)).alloc (.cells #[.slice A1 vl c1] 24)).heap[w1.heap.size]? = some (.cells #[.slice A1 vl c1, .int .i64 (k : Nat), .int .i64 0] 59) := (((Below.refl (w1.alloc (.cells #[.slice A1 vl c1, .int .i64 (k : Nat), .int .i64 0] 59)).heap.size (w1.alloc (.cells #[.slice A1 vl c1, .int .i64 (k : Nat), .int .i64 0] 59))).alloc (Nat.le_refl _) _).block _ (by simp)).trans HXZ.out
          have HX2 := grown_at hg2 hxA (Own.ne ((HO1.out.alloc _).alloc _) hxA (by decide))
          have xa : w2.cell? ⟨w1.heap.size, 1, none⟩ = some (.int .i64 (k : Nat)) := by rw [Lib.cell_of_heap HX2]; rfl
          have HE2 : Hid (Elems w.heap.size w2 (zs ++ [(A1, vl, c1)]) (snoc acc v)) := Lib.hid (by
            have h1 : Elems w.heap.size w2 zs acc := ((HE1.out.alloc _).alloc _).aside ((HO1.out.alloc _).alloc _) hg2
            have h2 : OwnN w.heap.size w2 (.slice A1 vl c1) v := Own.aside ((HZ.out.alloc _).alloc _) ((HO1.out.alloc _).alloc _) (by decide) hg2
            exact h1.snoc h2)
          have HG2 : Hid (Gz w w2) := Lib.hid ⟨grown_at hg2 hgA.1 (Own.ne ((HO1.out.alloc _).alloc _) hgA.1 (by decide)), hgA.2.trans (((HO1.out.alloc _).alloc _).kept hg2 (by have := HG1.out.2.size; simp; omega))⟩
          clear hown2 hg2 hbA hgA hxA HX2 HXZ
          generalize hzl : zs.length + 1 = zl at HO2 ⊢
          have HBK := HBL.out k w2 t2
          go_wp2_with fail
          refine HBK.mono ?_
          rintro e w3 ⟨rfl, rfl⟩
          clear HBK
          have hsz1 := HZL.out.2.1
          have hh1 := HHA.out 93 (by decide) (sk s.data.toList k) w3 q4
          by_cases h93 : bt s.data.toList (sk s.data.toList k) = 93
          · rw [show decide (bt s.data.toList (sk s.data.toList k) = (93 : UInt8).toNat) = true from decide_eq_true h93] at hh1
            have HRX : Hid (mapR liV R = .ok (liV (snoc acc v)) (sk s.data.toList k + 1)) := Lib.hid (by rw [← HA.out, lpA, if_pos h93]; rfl)
            generalize sk s.data.toList k = j2 at *
            go_wp2_with fail
            refine hh1.mono ?_
            rintro e w4 ⟨rfl, rfl⟩
            clear hh1 h93
            go_wp2_with fail
            refine (refList_any _ (snoc acc v) w4 (Elems.vls HE2.out (HO2.out.row slc_len)) (by omega) (by have := HZL.out.2.2; omega)).mono ?_
            rintro e w5 ⟨v5, rfl, hv5, hb5⟩
            rw [← liV_rows HRV.out] at hv5
            obtain ⟨A5, c5, rfl, -⟩ := hv5.form
            have HV5 := Lib.hid (hv5.mono HG2.out.2.size)
            have HG5 := Lib.hid (HG2.out.step hb5)
            obtain ⟨k0, k1, k2, hfz, hz4⟩ := HG5.out.cells
            clear hv5 hb5
            generalize hlv : (liV (snoc acc v)).length = lv at *
            go_wp2_with fail
            exact bodyPost_ret (v := .agg #[.slice A5 lv c5, .int .i64 ((j2 + 1 : Nat) : Int), .int .i64 0]) (by simp [results, Tryz.results63, go_sem, k0, k1, k2]) rfl (by subst hlv; exact got_ok HRX.out HG5.out HV5.out)
          · rw [show decide (bt s.data.toList (sk s.data.toList k) = (93 : UInt8).toNat) = false from decide_eq_false h93] at hh1
            have hh2 := HHA.out 44 (by decide) (sk s.data.toList k) w3 q4
            by_cases h44 : bt s.data.toList (sk s.data.toList k) = 44
            · rw [show decide (bt s.data.toList (sk s.data.toList k) = (44 : UInt8).toNat) = true from decide_eq_true h44] at hh2
              have hj2 : sk s.data.toList k < s.size := by have := bt_lt (S := s.data.toList) (k := sk s.data.toList k) (by omega); rwa [size_toList] at this
              have HF2 : Hid (lpR (vlR s.data.toList n) snoc s.data.toList 93 m (sk s.data.toList k + 1) (snoc acc v) = R) := Lib.hid (by rw [← HA.out, lpA, if_neg h93, if_pos h44])
              have HLX : Hid (Ls w i (sk s.data.toList k + 1) (snoc acc v) (zs ++ [(A1, vl, c1)]) (.slice A' zl c') w3) := Lib.hid ⟨HO2.out, HE2.out, HG2.out, HRV.out, HLI.out _ (by omega)⟩
              have HBK := HBL.out (sk s.data.toList k + 1) w3 (by omega)
              obtain ⟨q5, q6⟩ := HSK.out (sk s.data.toList k + 1) (by omega)
              rw [Int.natCast_add] at HBK
              generalize sk s.data.toList k = j2 at *
              go_wp2_with fail
              refine hh1.mono ?_
              rintro e w4 ⟨rfl, rfl⟩
              go_wp2_with fail
              refine hh2.mono ?_
              rintro e w5 ⟨rfl, rfl⟩
              clear hh1 hh2 h93 h44
              go_wp2_with fail
              refine HBK.mono ?_
              rintro e w6 ⟨rfl, rfl⟩
              clear HBK
              go_wp2_with fail
              refine ⟨⟨m, j2 + 1, snoc acc v, zs ++ [(A1, vl, c1)], by omega, by omega, rfl, HF2, HLX⟩, ?_⟩
              simp [intOf]; omega
            · rw [show decide (bt s.data.toList (sk s.data.toList k) = (44 : UInt8).toNat) = false from decide_eq_false h44] at hh2
              have HRX : Hid (mapR liV R = .bad 1 (sk s.data.toList k)) := Lib.hid (by rw [← HA.out, lpA, if_neg h93, if_neg h44]; rfl)
              generalize sk s.data.toList k = j2 at *
              go_wp2_with fail
              refine hh1.mono ?_
              rintro e w4 ⟨rfl, rfl⟩
              go_wp2_with fail
              refine hh2.mono ?_
              rintro e w5 ⟨rfl, rfl⟩
              clear hh1 hh2 h93 h44
              go_wp2_with fail
              refine (refBad_any 1 (j2 : Int) _).mono ?_
              rintro e w6 ⟨rfl, hb6⟩
              have HG6 := Lib.hid (HG2.out.step hb6)
              obtain ⟨k0, k1, k2, hfz, hz4⟩ := HG6.out.cells
              clear hb6
              go_wp2_with fail
              exact bodyPost_ret (v := .agg #[.slice none 0 0, .int .i64 (j2 : Nat), .int .i64 1]) (by simp [results, Tryz.results63, go_sem, k0, k1, k2]) rfl (got_bad HRX.out HG6.out)
end Go.Proofs.YtafbojiojeemoaaGreatDoor
