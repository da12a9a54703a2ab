/-
  What the document's own answer on escapes is.
-/
import Derived.Test.YtnpjbckobokhlaaDoorQRef3
namespace Go.Proofs.YtnpjbckobokhlaaDoor
open Go.RowKit Np Up Qp

/-- What is told of an escape. -/
def esS : Option (Nat × Nat) → List UInt8
  | some x => Lib.encodeRune (x.1 : Int)
  | none => []
def esN : Option (Nat × Nat) → Int
  | some x => x.2
  | none => 0
theorem unI_none {x : Option Nat} (h : x = none) : unI x = -1 := by rw [h]; rfl
theorem unI_some {x : Option Nat} {a : Nat} (h : x = some a) : unI x = a := by rw [h]; rfl
theorem ret_two {a b : List UInt8} {x y : Int} (h : a = b) (k : x = y) : Ending.returned (.tuple #[.string ⟨a.toArray⟩, .int .i64 x]) = .returned (.tuple #[.string ⟨b.toArray⟩, .int .i64 y]) := by rw [h, k]

/-- The letters of the short escapes, and their runes. -/
def shF : ByteArray := ⟨#[34, 92, 47, 98, 102, 110, 114, 116]⟩
def shT : ByteArray := ⟨#[34, 92, 47, 8, 12, 10, 13, 9]⟩
theorem shF_size : shF.size = 8 := rfl
theorem shT_size : shT.size = 8 := rfl
theorem sh_hit : ∀ j : Fin 8, sh (shF[j.val]'(by rw [shF_size]; exact j.2)).toNat = some (shT[j.val]'(by rw [shT_size]; exact j.2)).toNat ∧ shT.extract j.val (j.val + 1) = ⟨(Lib.encodeRune ((shT[j.val]'(by rw [shT_size]; exact j.2)).toNat : Int)).toArray⟩ := by decide +kernel
theorem sh_miss (c : Nat) (h : ∀ j : Fin 8, c ≠ (shF[j.val]'(by rw [shF_size]; exact j.2)).toNat) : sh c = none := by
  have h0 : c ≠ 34 := h 0
  have h1 : c ≠ 92 := h 1
  have h2 : c ≠ 47 := h 2
  have h3 : c ≠ 98 := h 3
  have h4 : c ≠ 102 := h 4
  have h5 : c ≠ 110 := h 5
  have h6 : c ≠ 114 := h 6
  have h7 : c ≠ 116 := h 7
  simp [sh, h0, h1, h2, h3, h4, h5, h6, h7]

theorem sh_hit' (j : Nat) (h : j < shF.size) (h' : j < shT.size) : sh shF[j].toNat = some shT[j].toNat ∧ shT.extract j (j + 1) = ⟨(Lib.encodeRune (shT[j].toNat : Int)).toArray⟩ := sh_hit ⟨j, h⟩
theorem sh_miss' (c : Nat) (h : ∀ (j : Nat) (h : j < shF.size), c ≠ shF[j].toNat) : sh c = none := sh_miss c fun j => h j.val j.2

set_option maxRecDepth 100000 in
set_option maxHeartbeats 4000000 in
theorem refEscape_any (s : ByteArray) (i : Nat) (w : World) (hs : s.size ≤ 4096) (hi : i < s.size) :
    Calls Tryd.prog 34 #[.string s, .int .i64 i] w fun e w' => e = .returned (.tuple #[.string ⟨(esS (es (s.data.toList.drop i))).toArray⟩, .int .i64 (esN (es (s.data.toList.drop i)))]) ∧ Below w.heap.size w w' := by
  have hB : Below w.heap.size w w := Below.refl _ _
  by_cases h2 : i + 1 < s.size
  · have hb1 := bt_at' s i 1 (by omega)
    have hln : ¬ (s.data.toList.drop i).length < 2 := by rw [List.length_drop, size_toList]; omega
    have HES : Hid (∀ x, sh s[i + 1].toNat = some x → es (s.data.toList.drop i) = some (x, 2)) := Lib.hid (fun x hx => by rw [es, if_neg hln, hb1, hx])
    have HEN : Hid (sh s[i + 1].toNat = none → es (s.data.toList.drop i) = match un (s.data.toList.drop i) with
      | none => none
      | some a => if a < 55296 ∨ 57344 ≤ a then some (a, 6) else
        match un (s.data.toList.drop (i + 6)) with
        | none => none
        | some b => if a < 56320 ∧ 56320 ≤ b ∧ b < 57344 then some (pr a b, 12) else none) := Lib.hid (fun hx => by rw [es, if_neg hln, hb1, hx, List.drop_drop]; rfl)
    clear hb1 hln
    obtain ⟨F, T, hF8, hT8, HHIT, HMISS, hFd, hTd⟩ : ∃ F T : ByteArray, F.size = 8 ∧ T.size = 8 ∧ Hid (∀ (j : Nat) (h : j < F.size) (h' : j < T.size), sh F[j].toNat = some T[j].toNat ∧ T.extract j (j + 1) = ⟨(Lib.encodeRune (T[j].toNat : Int)).toArray⟩) ∧
      Hid (∀ c : Nat, (∀ (j : Nat) (h : j < F.size), c ≠ F[j].toNat) → sh c = none) ∧ F = ⟨#[34, 92, 47, 98, 102, 110, 114, 116]⟩ ∧ T = ⟨#[34, 92, 47, 8, 12, 10, 13, 9]⟩ := ⟨shF, shT, rfl, rfl, Lib.hid sh_hit', Lib.hid sh_miss', rfl, rfl⟩
    go_enter Tryd.func34, Tryd.ntmps34
    go_wp2
    rw [← hFd, ← hTd]
    clear hFd hTd
    go_loopw [8] (fun k wx => ∃ j : Nat, j ≤ 8 ∧ k = .int .i64 j ∧ Hid (∀ (m : Nat) (h : m < F.size), m < j → s[i + 1].toNat ≠ F[m].toNat) ∧ Below w.heap.size w wx) (fun k _ => 8 - (intOf k).toNat)
    case atStart => exact ⟨0, by omega, rfl, Lib.hid (fun m h hm => by omega), hB⟩
    case round =>
      obtain ⟨j, hj, rfl, HJ, hb⟩ := hrel
      by_cases hj8 : j < 8
      · have hwi : IntKind.i64.wrap ((i : Int) + 1) = (i : Int) + 1 := by rw [IntKind.wrap_i64]; omega
        have hjF : j < F.size := by omega
        have hjF' : (j : Int) < (F.size : Int) := by omega
        have hiS' : ((i : Int) + 1) < (s.size : Int) := by omega
        by_cases hm : s[i + 1].toNat = F[j].toNat
        · have hh := HHIT.out j hjF (by omega)
          rw [← hm] at hh
          obtain ⟨hh1, hh2⟩ := hh
          have HR := Lib.hid (HES.out _ hh1)
          have HT := Lib.hid hh2
          have hme : ((s[i + 1].toNat : Int) == (F[j].toNat : Int)) = true := by rw [beq_iff_eq]; omega
          clear hh1 hh2 hm
          go_wp2_with fail
          have h01 : (0 : Int) ≤ (i : Int) + 1 := by omega
          go_quiet (fail)
          go_wp2_with fail
          go_ret2
          refine ⟨?_, hb.trans (below_quiet ⟨_, rfl⟩ |>.mono hb.size)⟩
          rw [HR.out, HT.out]
          rfl
        · have hme : ((s[i + 1].toNat : Int) == (F[j].toNat : Int)) = false := by rw [beq_eq_false_iff_ne]; omega
          have HJ' : Hid (∀ (m : Nat) (h : m < F.size), m < j + 1 → s[i + 1].toNat ≠ F[m].toNat) := Lib.hid (fun m h hmj => by
            rcases Nat.lt_or_ge m j with h1 | h1
            · exact HJ.out m h h1
            · obtain rfl : m = j := by omega
              exact hm)
          clear hm HJ
          go_wp2_with fail
          have h01 : (0 : Int) ≤ (i : Int) + 1 := by omega
          go_quiet (fail)
          go_wp2_with fail
          go_roundw
          case rel => exact ⟨j + 1, by omega, by go_num, HJ', hb.trans (below_quiet ⟨_, rfl⟩ |>.mono hb.size)⟩
          case measure => simp [intOf]; omega
      · have hsh := HMISS.out s[i + 1].toNat (fun m h => HJ.out m h (by omega))
        have HE := Lib.hid (HEN.out hsh)
        clear hsh HEN HES HHIT HMISS HJ
        obtain rfl : j = 8 := by omega
        cases hu : un (s.data.toList.drop i) with
        | none =>
          have HU := Lib.hid (unI_none hu)
          have HE2 : Hid (es (s.data.toList.drop i) = none) := Lib.hid (by rw [HE.out, hu])
          clear hu HE
          go_wp2_with (go_at_call 40; refine (refUnit_any s i _ hs (by omega)).mono ?_; rintro e w' ⟨rfl, rfl⟩; rw [HU.out])
          all_goals go_ret2
          all_goals exact ⟨by rw [HE2.out]; rfl, hb⟩
        | some a =>
          obtain ⟨u1, u2, -, -, -⟩ := un_some hu
          have HU := Lib.hid (unI_some hu)
          have HE1 := HE.out
          rw [hu] at HE1
          clear hu HE
          have HU' := HU.out
          clear HU
          obtain ⟨x, hx⟩ : ∃ x : Int, x = (a : Int) := ⟨_, rfl⟩
          rw [← hx] at HU'
          have HU := Lib.hid HU'
          have hx0 : 0 ≤ x := by omega
          have hx1 : x < 65536 := by omega
          clear HU'
          by_cases hr : a < 55296 ∨ 57344 ≤ a
          · have HE2 : Hid (es (s.data.toList.drop i) = some (a, 6)) := Lib.hid (HE1.trans (if_pos hr))
            have hr' : x < 55296 ∨ 57343 < x := by omega
            have HR := Lib.hid hr'
            have HXA := Lib.hid hx
            have c0 : ¬ x < 0 := by omega
            have hsur : ((decide ((56320 : Int) ≤ x) && decide (x < 57344))) = false := by
              rw [Bool.and_eq_false_iff, decide_eq_false_iff_not, decide_eq_false_iff_not]; omega
            have hsur2 : (decide (x < 55296) || decide ((57344 : Int) ≤ x)) = true := by
              rw [Bool.or_eq_true, decide_eq_true_eq, decide_eq_true_eq]; omega
            clear HE1 hr hr' hx u2
            go_wp2_with fail
            refine (refUnit_any s i _ hs (by omega)).mono ?_
            rintro e w' ⟨rfl, rfl⟩
            rw [HU.out]
            go_wp2_with (go_at_call 41; refine (refUtf_code _ _ (by omega) (by omega) HR.out).mono ?_; rintro e w' ⟨rfl, hb2⟩)
            all_goals go_ret2
            all_goals first
              | (refine ⟨?_, hb.trans (hb2.mono hb.size)⟩
                 rw [HE2.out]
                 show _ = Ending.returned (.tuple #[.string ⟨(Lib.encodeRune (a : Int)).toArray⟩, .int .i64 6])
                 rw [← HXA.out]
                 rfl)
              | (exfalso; have := HR.out; go_light; simp at *; omega)
          · have hxr : 55296 ≤ x ∧ x < 57344 := by omega
            have HER := Lib.hid (HE1.trans (if_neg hr))
            have c0 : ¬ x < 0 := by omega
            obtain ⟨hx2, hx3⟩ := hxr
            clear HE1 hr u2 hx0 hx1
            by_cases hlo : 56320 ≤ x
            · have HE2 : Hid (es (s.data.toList.drop i) = none) := Lib.hid (by
                rw [HER.out]
                split
                · rfl
                · rw [if_neg (by omega)])
              have hsur : ((decide ((56320 : Int) ≤ x) && decide (x < 57344))) = true := by
                rw [Bool.and_eq_true, decide_eq_true_eq, decide_eq_true_eq]; omega
              clear HER hx
              go_wp2_with fail
              refine (refUnit_any s i _ hs (by omega)).mono ?_
              rintro e w' ⟨rfl, rfl⟩
              rw [HU.out]
              go_wp2_with fail
              go_ret2
              refine ⟨?_, hb⟩
              rw [HE2.out]
              rfl
            · have hsur : ((decide ((56320 : Int) ≤ x) && decide (x < 57344))) = false := by
                rw [Bool.and_eq_false_iff, decide_eq_false_iff_not, decide_eq_false_iff_not]; omega
              have hsur2 : (decide (x < 55296) || decide ((57344 : Int) ≤ x)) = false := by
                rw [Bool.or_eq_false_iff, decide_eq_false_iff_not, decide_eq_false_iff_not]; omega
              have HUB : Hid (∀ w : World, Calls Tryd.prog 40 #[.string s, .int .i64 ((i : Int) + 6)] w fun e w' => e = .returned (.int .i64 (unI (un (s.data.toList.drop (i + 6))))) ∧ w = w') := Lib.hid (fun w => refUnit_any s (i + 6) w hs (by omega))
              cases hu2 : un (s.data.toList.drop (i + 6)) with
              | none =>
                have HE2 : Hid (es (s.data.toList.drop i) = none) := Lib.hid (by rw [HER.out, hu2])
                have HU2 := Lib.hid (unI_none hu2)
                clear HER hu2 hx
                go_wp2_with fail
                refine (refUnit_any s i _ hs (by omega)).mono ?_
                rintro e w' ⟨rfl, rfl⟩
                rw [HU.out]
                go_wp2_with fail
                refine (HUB.out _).mono ?_
                rintro e w' ⟨rfl, rfl⟩
                rw [HU2.out]
                go_wp2_with fail
                all_goals go_ret2
                all_goals exact ⟨by rw [HE2.out]; rfl, hb⟩
              | some b =>
                obtain ⟨v1, v2, -, -, -⟩ := un_some hu2
                have HE3 := HER.out
                rw [hu2] at HE3
                have HU3 := unI_some hu2
                obtain ⟨y, hy⟩ : ∃ y : Int, y = (b : Int) := ⟨_, rfl⟩
                rw [← hy] at HU3
                have HU2 := Lib.hid HU3
                have hy0 : 0 ≤ y := by omega
                have hy1 : y < 65536 := by omega
                by_cases hyr : 56320 ≤ y ∧ y < 57344
                · have HE2 : Hid (es (s.data.toList.drop i) = some (pr a b, 12)) := Lib.hid (HE3.trans (if_pos (by omega)))
                  have HXA : Hid (((pr a b : Nat) : Int) = 65536 + 1024 * (x - 55296) + y - 56320) := Lib.hid (by unfold pr; omega)
                  obtain ⟨hyr1, hyr2⟩ := hyr
                  have hysur : ((decide (y < (56320 : Int)) || decide ((57344 : Int) ≤ y))) = false := by
                    rw [Bool.or_eq_false_iff, decide_eq_false_iff_not, decide_eq_false_iff_not]; omega
                  clear HER hu2 hx hy HE3 HU3 v2
                  go_wp2_with fail
                  refine (refUnit_any s i _ hs (by omega)).mono ?_
                  rintro e w' ⟨rfl, rfl⟩
                  rw [HU.out]
                  go_wp2_with fail
                  refine (HUB.out _).mono ?_
                  rintro e w' ⟨rfl, rfl⟩
                  rw [HU2.out]
                  go_wp2_with (go_at_call 41; refine (refUtf_code _ _ (by omega) (by omega) (by omega)).mono ?_; rintro e w' ⟨rfl, hb2⟩)
                  all_goals go_ret2
                  all_goals (refine ⟨?_, hb.trans (hb2.mono hb.size)⟩)
                  all_goals (rw [HE2.out])
                  all_goals (show _ = Ending.returned (.tuple #[.string ⟨(Lib.encodeRune (pr a b : Nat)).toArray⟩, .int .i64 12]))
                  all_goals (rw [HXA.out]; rfl)
                · have HE2 : Hid (es (s.data.toList.drop i) = none) := Lib.hid (HE3.trans (if_neg (by omega)))
                  have hysur : ((decide (y < (56320 : Int)) || decide ((57344 : Int) ≤ y))) = true := by
                    rw [Bool.or_eq_true, decide_eq_true_eq, decide_eq_true_eq]; omega
                  clear HER hu2 hx hy HE3 HU3 v2 hyr
                  go_wp2_with fail
                  refine (refUnit_any s i _ hs (by omega)).mono ?_
                  rintro e w' ⟨rfl, rfl⟩
                  rw [HU.out]
                  go_wp2_with fail
                  refine (HUB.out _).mono ?_
                  rintro e w' ⟨rfl, rfl⟩
                  rw [HU2.out]
                  go_wp2_with (go_at_call 41; exfalso; go_light; simp at *; omega)
                  all_goals go_ret2
                  all_goals exact ⟨by rw [HE2.out]; rfl, hb⟩
  · have HE : Hid (es (s.data.toList.drop i) = none) := Lib.hid (by
      rw [es, if_pos (by rw [List.length_drop, size_toList]; omega)])
    go_enter Tryd.func34, Tryd.ntmps34
    go_wp2
    go_ret2
    refine ⟨?_, hB⟩
    rw [HE.out]
    rfl
end Go.Proofs.YtnpjbckobokhlaaDoor
