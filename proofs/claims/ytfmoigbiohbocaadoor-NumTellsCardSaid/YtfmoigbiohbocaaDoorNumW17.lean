/-
  What the document's own answer Print is: as num's.
-/
import Derived.Test.YtfmoigbiohbocaaDoorNumW16
import Derived.Test.YtfmoigbiohbocaaDoorNumPlain11
import Derived.Deep.QuietTactic
import Derived.BigQuiet
namespace Go.Proofs.YtfmoigbiohbocaaDoor
open Go.RowKit Np

theorem nought_ahead1 (i : Nat) (l : List UInt8) : ByteArray.mk #[48] ++ ByteArray.mk (noughts i ++ l).toArray = ByteArray.mk (noughts (i + 1) ++ l).toArray :=
  ByteArray.ext (by simp [noughts, List.replicate_succ])
theorem nought_behind1 (i : Nat) (l : List UInt8) : ByteArray.mk (l ++ noughts i).toArray ++ ByteArray.mk #[48] = ByteArray.mk (l ++ noughts (i + 1)).toArray :=
  ByteArray.ext (by simp [noughts, List.replicate_succ'])
theorem noughts_len1 (i : Nat) : (noughts i).length = i := by simp [noughts]

/-- How the document's Print ends. -/
def PrintEnd (w : World) (t : List UInt8) (e : Ending) (w' : World) : Prop := e = .returned (.string ⟨t.toArray⟩) ∧ Below w.heap.size w w'
theorem printEnd_of {w w' : World} {t : List UInt8} {b : ByteArray} (h : b = ⟨t.toArray⟩) (hb : Below w.heap.size w w') : PrintEnd w t (.returned (.string b)) w' := ⟨by rw [h], hb⟩

set_option maxRecDepth 100000 in
set_option maxHeartbeats 4000000 in
theorem refPrint_any (k m : Int) (nm s : ByteArray) (g : Bool) (x : Int) (w : World) (hr : right ⟨k, m, nm.data.toList, s.data.toList, g, x⟩ = true) :
    Calls Tryd.prog 18 #[.agg #[.int .i64 k, .int .i64 m, .string nm, .string s, .bool g, .int .i64 x]] w (PrintEnd w (printN s.data.toList g x)) := by
  obtain ⟨p1, p2, p3⟩ := right_bounds hr
  simp only at p1 p2 p3
  rw [size_toList] at p1
  have hB := (Below.refl w.heap.size w).alloc (Nat.le_refl _) (.cells #[.int .i64 k, .int .i64 m, .string nm, .string s, .bool g, .int .i64 x] 23)
  have HG : Hid (s.data.toList = [] → g = false) := Lib.hid (fun h => by
    obtain ⟨_, _, _, ⟨_, h', _⟩ | ⟨h', _⟩⟩ := (right_iff _).1 hr
    · exact h'
    · exact absurd h h')
  clear hr
  have HP : Hid (printN s.data.toList g x = (if g = true then [45] else []) ++ printS s.data.toList x) := Lib.hid (by unfold printN; cases g <;> simp)
  go_enter Tryd.func18, Tryd.ntmps18
  go_upto_if 7 with fail
  go_cut [3] (fun s3 wx => s3 = .string ⟨(if g = true then [45] else []).toArray⟩ ∧ wx = w.alloc (.cells #[.int .i64 k, .int .i64 m, .string nm, .string s, .bool g, .int .i64 x] 23))
  case first =>
    cases g
    · go_wp2_with fail
      go_meet
      exact ⟨rfl, rfl⟩
    · go_wp2_with fail
      go_meet
      exact ⟨rfl, rfl⟩
  case rest =>
    obtain ⟨rfl, rfl⟩ := hcut
    have hsg : (if g = true then [45] else ([] : List UInt8)).length ≤ 1 := by split <;> simp
    have HSG : Hid (g = false → (if g = true then [45] else ([] : List UInt8)) = []) := Lib.hid (fun h => by rw [h]; rfl)
    generalize (if g = true then [45] else ([] : List UInt8)) = sg at *
    cases hne : s.toList.isEmpty
    · have HS : Hid (printS s.data.toList x = if 0 ≤ x ∧ x ≤ 20 - s.size then s.data.toList ++ Lib.repeatL [48] x.toNat
          else if -20 ≤ x ∧ x ≤ -1 then pointF s.data.toList (-x).toNat else s.data.toList ++ 101 :: Lib.itoa x) := Lib.hid (by rw [printS, if_neg (by rw [← ByteArray.toList_eq, hne]; decide), size_toList])
      by_cases c1 : 0 ≤ x ∧ x ≤ 20 - s.size
      · have HV := Lib.hid (HS.out.trans (if_pos c1))
        clear HS
        obtain ⟨c1, c2⟩ := c1
        go_wp2_with fail
        go_loop [4, 5] (fun a b => ∃ i : Nat, (i : Int) ≤ x ∧ b = .int .i64 i ∧ a = .string ⟨(s.data.toList ++ noughts i).toArray⟩) (fun _ b => x.toNat - (intOf b).toNat)
        case atStart => exact ⟨0, by omega, rfl, congrArg Value.string (by simp [noughts])⟩
        case round =>
          obtain ⟨i, hi, rfl, rfl⟩ := hrel
          have hln : (s.data.toList ++ noughts i).length ≤ 140 := by rw [List.length_append, noughts_len1, size_toList]; omega
          by_cases hlt : (i : Int) < x
          · have HN := Lib.hid (nought_behind1 i s.data.toList)
            generalize s.data.toList ++ noughts i = q at *
            go_wp2_with fail
            go_round
            case rel => exact ⟨i + 1, by omega, by go_num, congrArg Value.string HN.out⟩
            case measure => simp [intOf]; omega
          · have HF : Hid (printN s.data.toList g x = sg ++ (s.data.toList ++ noughts i)) := Lib.hid (by rw [HP.out, HV.out, repeat_noughts, show x.toNat = i by omega])
            generalize s.data.toList ++ noughts i = q at *
            go_wp2_with fail
            go_ret
            exact printEnd_of (b := ByteArray.mk sg.toArray ++ ByteArray.mk q.toArray) (by rw [HF.out]; exact ByteArray.ext (by simp)) hB
      · have HS2 := Lib.hid (HS.out.trans (if_neg c1))
        clear HS
        by_cases c2 : -20 ≤ x ∧ x ≤ -1
        · have HV := Lib.hid (HS2.out.trans (if_pos c2))
          clear HS2 c1
          obtain ⟨c2, c3⟩ := c2
          obtain ⟨b, hb⟩ : ∃ b : Nat, x = -(b : Int) := ⟨(-x).toNat, by omega⟩
          subst hb
          rw [show (-(-(b : Int))).toNat = b by omega] at HV
          have d1 : decide (0 ≤ -(b : Int)) = false := by simp; omega
          go_wp2_with fail
          go_loop [4] (fun a => ∃ j : Nat, j ≤ b + 1 - s.size ∧ a = .string ⟨(noughts j ++ s.data.toList).toArray⟩) (fun a => match a with | .string t => b + 1 - t.size | _ => 0)
          case atStart => exact ⟨0, by omega, congrArg Value.string (by rfl)⟩
          case round =>
            obtain ⟨j, hj, rfl⟩ := hrel
            have hln : (noughts j ++ s.data.toList).length = j + s.size := by rw [List.length_append, noughts_len1, size_toList]
            by_cases hlt : j < b + 1 - s.size
            · have HN := Lib.hid (nought_ahead1 j s.data.toList)
              have HLn := Lib.hid hln
              have hl1 : (noughts j ++ s.data.toList).length < b + 1 := by omega
              have HM : Hid ((ByteArray.mk #[48] ++ ByteArray.mk (noughts j ++ s.data.toList).toArray).size = j + 1 + s.size) := Lib.hid (by
                rw [HN.out]; show (noughts (j + 1) ++ s.data.toList).length = _; rw [List.length_append, noughts_len1, size_toList])
              clear hln
              generalize noughts j ++ s.data.toList = q at *
              go_wp2_with fail
              go_round
              case rel => exact ⟨j + 1, by omega, congrArg Value.string HN.out⟩
              case measure =>
                simp only
                rw [HM.out]
                show b + 1 - (j + 1 + s.size) < b + 1 - q.length
                rw [HLn.out]
                omega
            · have hje : j = b + 1 - s.size := by omega
              have HPd : Hid (padF s.data.toList b = noughts j ++ s.data.toList) := Lib.hid (by unfold padF; rw [repeat_noughts, size_toList, hje])
              have hpl := padF_len s.data.toList b
              have hpu := padF_le s.data.toList b
              rw [HPd.out] at hpl hpu
              rw [size_toList] at hpu
              have HQ : Hid (pointF s.data.toList b = (noughts j ++ s.data.toList).take ((noughts j ++ s.data.toList).length - b) ++ 46 :: (noughts j ++ s.data.toList).drop ((noughts j ++ s.data.toList).length - b)) := Lib.hid (by unfold pointF; rw [HPd.out])
              clear hln hje hlt HPd
              generalize noughts j ++ s.data.toList = pd at *
              obtain ⟨p, hp⟩ : ∃ p : Nat, pd.length - b = p := ⟨_, rfl⟩
              rw [hp] at HQ
              have hw : IntKind.i64.wrap ((pd.length : Int) + -(b : Int)) = (p : Int) := (IntWalk.i64_in _ ⟨by omega, by omega⟩).trans (by omega)
              have hp1 : p ≤ pd.length := by omega
              have HW := Lib.hid hw
              clear hp hw
              go_upto_region 16 with fail
              have hw := HW.out
              go_quiet (fail)
              go_wp2_with fail
              go_ret
              refine printEnd_of (b := ByteArray.mk sg.toArray ++ (ByteArray.mk pd.toArray).extract 0 p ++ ByteArray.mk #[46] ++ (ByteArray.mk pd.toArray).extract p pd.length) ?_ ⟨hB.os, hB.tape, hB.output, hB.size, hB.block⟩
              rw [HP.out, HV.out, HQ.out, extract_run (ByteArray.mk pd.toArray) 0 p (pd.take p) (by simp), extract_run (ByteArray.mk pd.toArray) p pd.length (pd.drop p) (by show pd.drop p = _; exact (List.take_of_length_le (by simp)).symm)]
              exact ByteArray.ext (by simp)
        · have HV := Lib.hid (HS2.out.trans (if_neg c2))
          clear HS2
          by_cases h0 : 0 ≤ x
          · obtain ⟨u, hu⟩ : ∃ u : Nat, x = u := ⟨x.toNat, by omega⟩
            subst hu
            have hit : Lib.itoa (u : Int) = Lib.decDigits u := by unfold Lib.itoa; rw [if_neg (by omega), Int.toNat_natCast]
            rw [hit] at HV
            have hil := dec_ten u (by omega)
            have d1 : decide ((s.size : Int) + u ≤ 20) = false := by simp; omega
            have d2 : decide ((u : Int) < 0) = false := by simp
            clear c1 c2 hit
            go_wp2_with fail
            refine (decimal_pos u _ (by omega)).mono ?_
            rintro e w2 ⟨rfl, hb2⟩
            have HF : Hid (printN s.data.toList g u = sg ++ (s.data.toList ++ 101 :: Lib.decDigits u)) := Lib.hid (by rw [HP.out, HV.out])
            generalize Lib.decDigits u = dd at *
            go_wp2_with fail
            go_ret
            exact printEnd_of (b := ByteArray.mk sg.toArray ++ s ++ ByteArray.mk #[101] ++ ByteArray.mk dd.toArray) (by rw [HF.out]; exact ByteArray.ext (by simp)) (hB.trans (hb2.mono hB.size))
          · obtain ⟨u, hu⟩ : ∃ u : Nat, x = -(u : Int) := ⟨(-x).toNat, by omega⟩
            subst hu
            have hit : Lib.itoa (-(u : Int)) = 45 :: Lib.decDigits u := by unfold Lib.itoa; rw [if_pos (by omega), Int.natAbs_neg, Int.natAbs_natCast]
            rw [hit] at HV
            have hil := dec_ten u (by omega)
            have d1 : decide (0 ≤ -(u : Int)) = false := by simp; omega
            have d2 : decide (-20 ≤ -(u : Int)) = false := by simp; omega
            have d3 : decide ((u : Int) ≤ 20) = false := by simp; omega
            have d4 : decide (u ≤ 20) = false := by simp; omega
            clear c1 c2 hit
            go_wp2_with fail
            refine (decimal_neg u (by omega) (by omega) _).mono ?_
            rintro e w2 ⟨rfl, hb2⟩
            have HF : Hid (printN s.data.toList g (-(u : Int)) = sg ++ (s.data.toList ++ 101 :: (45 :: Lib.decDigits u))) := Lib.hid (by rw [HP.out, HV.out])
            generalize Lib.decDigits u = dd at *
            go_wp2_with fail
            go_ret
            exact printEnd_of (b := ByteArray.mk sg.toArray ++ s ++ ByteArray.mk #[101] ++ ByteArray.mk (45 :: dd).toArray) (by rw [HF.out]; exact ByteArray.ext (by simp)) (hB.trans (hb2.mono hB.size))
    · have hg0 := HG.out (by rw [← ByteArray.toList_eq]; exact List.isEmpty_iff.1 hne)
      have hsg0 := HSG.out hg0
      have HV : Hid (printN s.data.toList g x = [48]) := Lib.hid (by
        rw [HP.out, hsg0, printS, if_pos (by rw [← ByteArray.toList_eq]; exact hne)]; rfl)
      clear hg0 hsg0
      go_wp2_with fail
      go_ret
      exact printEnd_of (b := ⟨#[48]⟩) (by rw [HV.out]) hB

end Go.Proofs.YtfmoigbiohbocaaDoor
