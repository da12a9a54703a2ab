/-
  Joined: QRef4, QRef5, PT5a, PT5b, PT5c, PT5d, PT5e.
-/
import Derived.Test.YtldioobbfkaebaaGreatDoorEvalHoldsJ3
import Derived.Test.YtldioobbfkaebaaGreatDoorEvalHoldsJ6
import Derived.Test.YtldioobbfkaebaaGreatDoorEvalHoldsJ10
import Derived.Test.YtldioobbfkaebaaGreatDoorEvalHoldsJ14
import Derived.Test.YtldioobbfkaebaaGreatDoorEvalHoldsJ11
import Derived.Deep.RegionHeld3
import Derived.Deep.RegionLaw
set_option maxHeartbeats 8000000
set_option maxRecDepth 100000
namespace Go.Proofs.YtldioobbfkaebaaGreatDoor
section
open Go.RowKit Np Up Qp
def esS : Option (Nat × Nat) → List UInt8
 | some x => Lib.encodeRune (x.1 : Int)
 | none => []
def esN : Option (Nat × Nat) → Int
 | some x => x.2
 | none => 0
theorem unI_none {x : Option Nat} (h : x = none) : unI x = -1 := by rw [h]; rfl
theorem unI_some {x : Option Nat} {a : Nat} (h : x = some a) : unI x = a := by rw [h]; rfl
def shF : ByteArray := ⟨#[34, 92, 47, 98, 102, 110, 114, 116]⟩
def shT : ByteArray := ⟨#[34, 92, 47, 8, 12, 10, 13, 9]⟩
theorem shF_size : shF.size = 8 := rfl
theorem shT_size : shT.size = 8 := rfl
theorem sh_hit : ∀ j : Fin 8, sh (shF[j.val]'(by rw [shF_size]; exact j.2)).toNat = some (shT[j.val]'(by rw [shT_size]; exact j.2)).toNat ∧ shT.extract j.val (j.val + 1) = ⟨(Lib.encodeRune ((shT[j.val]'(by rw [shT_size]; exact j.2)).toNat : Int)).toArray⟩ := by decide +kernel
theorem sh_miss (c : Nat) (h : ∀ j : Fin 8, c ≠ (shF[j.val]'(by rw [shF_size]; exact j.2)).toNat) : sh c = none := by
 have h0 : c ≠ 34 := h 0
 have h1 : c ≠ 92 := h 1
 have h2 : c ≠ 47 := h 2
 have h3 : c ≠ 98 := h 3
 have h4 : c ≠ 102 := h 4
 have h5 : c ≠ 110 := h 5
 have h6 : c ≠ 114 := h 6
 have h7 : c ≠ 116 := h 7
 simp [sh, h0, h1, h2, h3, h4, h5, h6, h7]
theorem sh_hit' (j : Nat) (h : j < shF.size) (h' : j < shT.size) : sh shF[j].toNat = some shT[j].toNat ∧ shT.extract j (j + 1) = ⟨(Lib.encodeRune (shT[j].toNat : Int)).toArray⟩ := sh_hit ⟨j, h⟩
theorem sh_miss' (c : Nat) (h : ∀ (j : Nat) (h : j < shF.size), c ≠ shF[j].toNat) : sh c = none := sh_miss c fun j => h j.val j.2
theorem refEscape_any (s : ByteArray) (i : Nat) (w : World) (hs : s.size ≤ 1073741824) (hi : i < s.size) :
  Calls Tryz.prog 227 #[.string s, .int .i64 i] w fun e w' => e = .returned (.tuple #[.string ⟨(esS (es (s.data.toList.drop i))).toArray⟩, .int .i64 (esN (es (s.data.toList.drop i)))]) ∧ Below w.heap.size w w' := by
 have hB : Below w.heap.size w w := Below.refl _ _
 by_cases h2 : i + 1 < s.size
 ·have hb1 := bt_at' s i 1 (by omega)
  have hln : ¬ (s.data.toList.drop i).length < 2 := by rw [List.length_drop, size_toList]; omega
  have HES : Hid (∀ x, sh s[i + 1].toNat = some x → es (s.data.toList.drop i) = some (x, 2)) := Lib.hid (fun x hx => by rw [es, if_neg hln, hb1, hx])
  have HEN : Hid (sh s[i + 1].toNat = none → es (s.data.toList.drop i) = match un (s.data.toList.drop i) with
   | none => none
   | some a => if a < 55296 ∨ 57344 ≤ a then some (a, 6) else
    match un (s.data.toList.drop (i + 6)) with
    | none => none
    | some b => if a < 56320 ∧ 56320 ≤ b ∧ b < 57344 then some (pr a b, 12) else none) := Lib.hid (fun hx => by rw [es, if_neg hln, hb1, hx, List.drop_drop]; rfl)
  clear hb1 hln
  obtain ⟨F, T, hF8, hT8, HHIT, HMISS, hFd, hTd⟩ : ∃ F T : ByteArray, F.size = 8 ∧ T.size = 8 ∧ Hid (∀ (j : Nat) (h : j < F.size) (h' : j < T.size), sh F[j].toNat = some T[j].toNat ∧ T.extract j (j + 1) = ⟨(Lib.encodeRune (T[j].toNat : Int)).toArray⟩) ∧
   Hid (∀ c : Nat, (∀ (j : Nat) (h : j < F.size), c ≠ F[j].toNat) → sh c = none) ∧ F = ⟨#[34, 92, 47, 98, 102, 110, 114, 116]⟩ ∧ T = ⟨#[34, 92, 47, 8, 12, 10, 13, 9]⟩ := ⟨shF, shT, rfl, rfl, Lib.hid sh_hit', Lib.hid sh_miss', rfl, rfl⟩
  go_enter Tryz.func227, Tryz.ntmps227
  go_wp2
  rw [← hFd, ← hTd]
  clear hFd hTd
  go_loopw [8] (fun k wx => ∃ j : Nat, j ≤ 8 ∧ k = .int .i64 j ∧ Hid (∀ (m : Nat) (h : m < F.size), m < j → s[i + 1].toNat ≠ F[m].toNat) ∧ Below w.heap.size w wx) (fun k _ => 8 - (intOf k).toNat)
  case atStart => exact ⟨0, by omega, rfl, Lib.hid (fun m h hm => by omega), hB⟩
  case round =>
   obtain ⟨j, hj, rfl, HJ, hb⟩ := hrel
   by_cases hj8 : j < 8
   ·have hwi : IntKind.i64.wrap ((i : Int) + 1) = (i : Int) + 1 := by rw [IntKind.wrap_i64]; omega
    have hjF : j < F.size := by omega
    have hjF' : (j : Int) < (F.size : Int) := by omega
    have hiS' : ((i : Int) + 1) < (s.size : Int) := by omega
    by_cases hm : s[i + 1].toNat = F[j].toNat
    ·have hh := HHIT.out j hjF (by omega)
     rw [← hm] at hh
     obtain ⟨hh1, hh2⟩ := hh
     have HR := Lib.hid (HES.out _ hh1)
     have HT := Lib.hid hh2
     have hme : ((s[i + 1].toNat : Int) == (F[j].toNat : Int)) = true := by rw [beq_iff_eq]; omega
     clear hh1 hh2 hm
     go_wp2_with fail
     have h01 : (0 : Int) ≤ (i : Int) + 1 := by omega
     go_quiet (fail)
     go_wp2_with fail
     go_ret2
     refine ⟨?_, hb.trans (below_quiet ⟨_, rfl⟩ |>.mono hb.size)⟩
     rw [HR.out, HT.out]
     rfl
    ·have hme : ((s[i + 1].toNat : Int) == (F[j].toNat : Int)) = false := by rw [beq_eq_false_iff_ne]; omega
     have HJ' : Hid (∀ (m : Nat) (h : m < F.size), m < j + 1 → s[i + 1].toNat ≠ F[m].toNat) := Lib.hid (fun m h hmj => by
      rcases Nat.lt_or_ge m j with h1 | h1
      ·exact HJ.out m h h1
      ·obtain rfl : m = j := by omega
       exact hm)
     clear hm HJ
     go_wp2_with fail
     have h01 : (0 : Int) ≤ (i : Int) + 1 := by omega
     go_quiet (fail)
     go_wp2_with fail
     go_roundw
     case rel => exact ⟨j + 1, by omega, by go_num, HJ', hb.trans (below_quiet ⟨_, rfl⟩ |>.mono hb.size)⟩
     case measure => simp [intOf]; omega
   ·have hsh := HMISS.out s[i + 1].toNat (fun m h => HJ.out m h (by omega))
    have HE := Lib.hid (HEN.out hsh)
    clear hsh HEN HES HHIT HMISS HJ
    obtain rfl : j = 8 := by omega
    cases hu : un (s.data.toList.drop i) with
    | none =>
     have HU := Lib.hid (unI_none hu)
     have HE2 : Hid (es (s.data.toList.drop i) = none) := Lib.hid (by rw [HE.out, hu])
     clear hu HE
     go_wp2_with (go_at_call 246; refine (refUnit_any s i _ hs (by omega)).mono ?_; rintro e w' ⟨rfl, rfl⟩; rw [HU.out])
     all_goals go_ret2
     all_goals exact ⟨by rw [HE2.out]; rfl, hb⟩
    | some a =>
     obtain ⟨u1, u2, -, -, -⟩ := un_some hu
     have HU := Lib.hid (unI_some hu)
     have HE1 := HE.out
     rw [hu] at HE1
     clear hu HE
     have HU' := HU.out
     clear HU
     obtain ⟨x, hx⟩ : ∃ x : Int, x = (a : Int) := ⟨_, rfl⟩
     rw [← hx] at HU'
     have HU := Lib.hid HU'
     have hx0 : 0 ≤ x := by omega
     have hx1 : x < 65536 := by omega
     clear HU'
     by_cases hr : a < 55296 ∨ 57344 ≤ a
     ·have HE2 : Hid (es (s.data.toList.drop i) = some (a, 6)) := Lib.hid (HE1.trans (if_pos hr))
      have hr' : x < 55296 ∨ 57343 < x := by omega
      have HR := Lib.hid hr'
      have HXA := Lib.hid hx
      have c0 : ¬ x < 0 := by omega
      have hsur : ((decide ((56320 : Int) ≤ x) && decide (x < 57344))) = false := by
       rw [Bool.and_eq_false_iff, decide_eq_false_iff_not, decide_eq_false_iff_not]; omega
      have hsur2 : (decide (x < 55296) || decide ((57344 : Int) ≤ x)) = true := by
       rw [Bool.or_eq_true, decide_eq_true_eq, decide_eq_true_eq]; omega
      clear HE1 hr hr' hx u2
      go_wp2_with fail
      refine (refUnit_any s i _ hs (by omega)).mono ?_
      rintro e w' ⟨rfl, rfl⟩
      rw [HU.out]
      go_wp2_with (go_at_call 247; refine (refUtf_code _ _ (by omega) (by omega) HR.out).mono ?_; rintro e w' ⟨rfl, hb2⟩)
      all_goals go_ret2
      all_goals first
       | (refine ⟨?_, hb.trans (hb2.mono hb.size)⟩
          rw [HE2.out]
          show _ = Ending.returned (.tuple #[.string ⟨(Lib.encodeRune (a : Int)).toArray⟩, .int .i64 6])
          rw [← HXA.out]
          rfl)
       | (exfalso; have := HR.out; go_light; simp at *; omega)
     ·have hxr : 55296 ≤ x ∧ x < 57344 := by omega
      have HER := Lib.hid (HE1.trans (if_neg hr))
      have c0 : ¬ x < 0 := by omega
      obtain ⟨hx2, hx3⟩ := hxr
      clear HE1 hr u2 hx0 hx1
      by_cases hlo : 56320 ≤ x
      ·have HE2 : Hid (es (s.data.toList.drop i) = none) := Lib.hid (by
        rw [HER.out]
        split
        ·rfl
        ·rw [if_neg (by omega)])
       have hsur : ((decide ((56320 : Int) ≤ x) && decide (x < 57344))) = true := by
        rw [Bool.and_eq_true, decide_eq_true_eq, decide_eq_true_eq]; omega
       clear HER hx
       go_wp2_with fail
       refine (refUnit_any s i _ hs (by omega)).mono ?_
       rintro e w' ⟨rfl, rfl⟩
       rw [HU.out]
       go_wp2_with fail
       go_ret2
       refine ⟨?_, hb⟩
       rw [HE2.out]
       rfl
      ·have hsur : ((decide ((56320 : Int) ≤ x) && decide (x < 57344))) = false := by
        rw [Bool.and_eq_false_iff, decide_eq_false_iff_not, decide_eq_false_iff_not]; omega
       have hsur2 : (decide (x < 55296) || decide ((57344 : Int) ≤ x)) = false := by
        rw [Bool.or_eq_false_iff, decide_eq_false_iff_not, decide_eq_false_iff_not]; omega
       have HUB : Hid (∀ w : World, Calls Tryz.prog 246 #[.string s, .int .i64 ((i : Int) + 6)] w fun e w' => e = .returned (.int .i64 (unI (un (s.data.toList.drop (i + 6))))) ∧ w = w') := Lib.hid (fun w => refUnit_any s (i + 6) w hs (by omega))
       cases hu2 : un (s.data.toList.drop (i + 6)) with
       | none =>
        have HE2 : Hid (es (s.data.toList.drop i) = none) := Lib.hid (by rw [HER.out, hu2])
        have HU2 := Lib.hid (unI_none hu2)
        clear HER hu2 hx
        go_wp2_with fail
        refine (refUnit_any s i _ hs (by omega)).mono ?_
        rintro e w' ⟨rfl, rfl⟩
        rw [HU.out]
        go_wp2_with fail
        refine (HUB.out _).mono ?_
        rintro e w' ⟨rfl, rfl⟩
        rw [HU2.out]
        go_wp2_with fail
        all_goals go_ret2
        all_goals exact ⟨by rw [HE2.out]; rfl, hb⟩
       | some b =>
        obtain ⟨v1, v2, -, -, -⟩ := un_some hu2
        have HE3 := HER.out
        rw [hu2] at HE3
        have HU3 := unI_some hu2
        obtain ⟨y, hy⟩ : ∃ y : Int, y = (b : Int) := ⟨_, rfl⟩
        rw [← hy] at HU3
        have HU2 := Lib.hid HU3
        have hy0 : 0 ≤ y := by omega
        have hy1 : y < 65536 := by omega
        by_cases hyr : 56320 ≤ y ∧ y < 57344
        ·have HE2 : Hid (es (s.data.toList.drop i) = some (pr a b, 12)) := Lib.hid (HE3.trans (if_pos (by omega)))
         have HXA : Hid (((pr a b : Nat) : Int) = 65536 + 1024 * (x - 55296) + y - 56320) := Lib.hid (by unfold pr; omega)
         obtain ⟨hyr1, hyr2⟩ := hyr
         have hysur : ((decide (y < (56320 : Int)) || decide ((57344 : Int) ≤ y))) = false := by
          rw [Bool.or_eq_false_iff, decide_eq_false_iff_not, decide_eq_false_iff_not]; omega
         clear HER hu2 hx hy HE3 HU3 v2
         go_wp2_with fail
         refine (refUnit_any s i _ hs (by omega)).mono ?_
         rintro e w' ⟨rfl, rfl⟩
         rw [HU.out]
         go_wp2_with fail
         refine (HUB.out _).mono ?_
         rintro e w' ⟨rfl, rfl⟩
         rw [HU2.out]
         go_wp2_with (go_at_call 247; refine (refUtf_code _ _ (by omega) (by omega) (by omega)).mono ?_; rintro e w' ⟨rfl, hb2⟩)
         all_goals go_ret2
         all_goals (refine ⟨?_, hb.trans (hb2.mono hb.size)⟩)
         all_goals (rw [HE2.out])
         all_goals (show _ = Ending.returned (.tuple #[.string ⟨(Lib.encodeRune (pr a b : Nat)).toArray⟩, .int .i64 12]))
         all_goals (rw [HXA.out]; rfl)
        ·have HE2 : Hid (es (s.data.toList.drop i) = none) := Lib.hid (HE3.trans (if_neg (by omega)))
         have hysur : ((decide (y < (56320 : Int)) || decide ((57344 : Int) ≤ y))) = true := by
          rw [Bool.or_eq_true, decide_eq_true_eq, decide_eq_true_eq]; omega
         clear HER hu2 hx hy HE3 HU3 v2 hyr
         go_wp2_with fail
         refine (refUnit_any s i _ hs (by omega)).mono ?_
         rintro e w' ⟨rfl, rfl⟩
         rw [HU.out]
         go_wp2_with fail
         refine (HUB.out _).mono ?_
         rintro e w' ⟨rfl, rfl⟩
         rw [HU2.out]
         go_wp2_with (go_at_call 247; exfalso; go_light; simp at *; omega)
         all_goals go_ret2
         all_goals exact ⟨by rw [HE2.out]; rfl, hb⟩
 ·have HE : Hid (es (s.data.toList.drop i) = none) := Lib.hid (by
   rw [es, if_pos (by rw [List.length_drop, size_toList]; omega)])
  go_enter Tryz.func227, Tryz.ntmps227
  go_wp2
  go_ret2
  refine ⟨?_, hB⟩
  rw [HE.out]
  rfl
end
section
open Go.RowKit Np Up Qp
def tkS : Option (List UInt8 × Nat) → List UInt8
 | some x => x.1
 | none => []
def tkN : Option (List UInt8 × Nat) → Int
 | some x => x.2
 | none => 0
theorem ext_run (s : ByteArray) (i r : Nat) : s.extract i (i + r) = ⟨((s.data.toList.drop i).take r).toArray⟩ := by
 have h := Lib.extract_toList s i (i + r)
 rw [ByteArray.toList_eq, Nat.add_sub_cancel_left] at h
 rw [← h]
theorem refTaken_any (s : ByteArray) (i : Nat) (w : World) (hs : s.size ≤ 1073741824) (hi : i < s.size) (hlow : s[i].toNat = 92 ∨ 32 ≤ s[i].toNat) :
  Calls Tryz.prog 196 #[.string s, .int .i64 i] w fun e w' => e = .returned (.tuple #[.string ⟨(tkS (tk (s.data.toList.drop i))).toArray⟩, .int .i64 (tkN (tk (s.data.toList.drop i)))]) ∧ Below w.heap.size w w' := by
 have hB : Below w.heap.size w w := Below.refl _ _
 have hs' : s.size ≤ maxLen := by unfold maxLen; omega
 have hb0 : bt (s.data.toList.drop i) 0 = s[i].toNat := bt_at' s i 0 (by omega)
 by_cases h92 : s[i].toNat = 92
 ·have HT : Hid (tk (s.data.toList.drop i) = (es (s.data.toList.drop i)).map fun x => (Lib.encodeRune (x.1 : Int), x.2)) := Lib.hid (by rw [tk, if_pos (by rw [hb0, h92])])
  have hq : ((s[i].toNat : Int) == 92) = true := by rw [beq_iff_eq]; omega
  clear hb0 h92 hlow
  go_enter Tryz.func196, Tryz.ntmps196
  go_wp2_with (go_at_call 227; refine (refEscape_any s i _ hs hi).mono ?_; rintro e w' ⟨rfl, hb2⟩)
  go_ret2
  refine ⟨?_, hb2⟩
  rw [HT.out]
  cases es (s.data.toList.drop i) <;> rfl
 ·have hne : s.data.toList.drop i ≠ [] := by intro h; have := congrArg List.length h; simp at this; omega
  have hle := runeN_le _ hne
  rw [List.length_drop, size_toList] at hle
  have hl32 : ¬ bt (s.data.toList.drop i) 0 < 32 := by rw [hb0]; omega
  have hT0 : tk (s.data.toList.drop i) = if runeN (s.data.toList.drop i) = 0 then none else some ((s.data.toList.drop i).take (runeN (s.data.toList.drop i)), runeN (s.data.toList.drop i)) := by
   rw [tk, if_neg (by rw [hb0]; exact h92)]
   by_cases h0 : runeN (s.data.toList.drop i) = 0
   ·rw [if_pos (.inr h0), if_pos h0]
   ·rw [if_neg (fun h => h.elim hl32 h0), if_neg h0]
  have hq : ((s[i].toNat : Int) == 92) = false := by rw [beq_eq_false_iff_ne]; omega
  generalize hr : runeN (s.data.toList.drop i) = r at hT0 hle
  have HRN := Lib.hid hr
  have HT := Lib.hid hT0
  clear hb0 h92 hlow hr hT0 hl32 hne
  go_enter Tryz.func196, Tryz.ntmps196
  go_wp2_with (go_at_call 44; refine (refRune_any _ _ _ hs' hi).mono ?_; rintro e w' ⟨rfl, rfl⟩; rw [HRN.out])
  go_ret2
  refine ⟨?_, hB⟩
  rw [HT.out]
  show Ending.returned (.tuple #[.string (s.extract i (i + r)), .int .i64 (r : Int)]) = _
  rw [ext_run]
  by_cases h0 : r = 0
  ·subst h0
   rw [if_pos rfl]
   rfl
  ·rw [if_neg h0]
   rfl
theorem tk_len {l p : List UInt8} {n : Nat} (h : tk l = some (p, n)) : p.length ≤ n + 2 := by
 unfold tk at h
 split at h
 ·cases he : es l with
  | none => rw [he] at h; cases h
  | some x =>
   obtain ⟨r, m⟩ := x
   rw [he] at h
   simp at h
   obtain ⟨h1, h2⟩ := h
   obtain ⟨_, _, h4, _⟩ := es_some he
   have h5 := (Lib.encodeRuneZ_length (r : Int)).2
   rw [← h1, ← h2, Lib.encodeRune, List.length_map]
   omega
 ·split at h
  ·cases h
  ·injection h with h
   injection h with e1 e2
   rw [← e1, ← e2, List.length_take]
   omega
theorem refTaken_low (s : ByteArray) (i : Nat) (w : World) (hs : s.size ≤ 1073741824) (hi : i < s.size) (hlo : s[i].toNat < 32) :
  Calls Tryz.prog 196 #[.string s, .int .i64 i] w fun e w' => e = .returned (.tuple #[.string (s.extract i (i + 1)), .int .i64 1]) ∧ Below w.heap.size w w' := by
 have hB : Below w.heap.size w w := Below.refl _ _
 have hs' : s.size ≤ maxLen := by unfold maxLen; omega
 have hb0 : bt (s.data.toList.drop i) 0 = s[i].toNat := bt_at' s i 0 (by omega)
 have hq : ((s[i].toNat : Int) == 92) = false := by rw [beq_eq_false_iff_ne]; omega
 have HRN := Lib.hid (runeN_one (l := s.data.toList.drop i) (by omega))
 clear hb0
 go_enter Tryz.func196, Tryz.ntmps196
 go_wp2_with (go_at_call 44; refine (refRune_any _ _ _ hs' hi).mono ?_; rintro e w' ⟨rfl, rfl⟩; rw [HRN.out])
 all_goals go_ret2
 all_goals exact ⟨rfl, hB⟩
theorem tk_low {l : List UInt8} (h : bt l 0 < 32) : tk l = none := by
 rw [tk, if_neg (by omega), if_pos (.inl h)]
theorem refUnquote_any (s : ByteArray) (w : World) (hs : s.size ≤ 1073741824) :
  Calls Tryz.prog 169 #[.string s] w fun e w' => e = .returned (uqv (unqs s.data.toList)) ∧ Below w.heap.size w w' := by
 have hB : Below w.heap.size w w := Below.refl _ _
 by_cases h0 : 0 < s.size
 ·have hb0 := bt_at s 0 h0
  by_cases h34 : s[0].toNat = 34
  ·have HF : Hid (unqs s.data.toList = unq [] (s.data.toList.drop 1) 1) := Lib.hid (by rw [unqs, if_pos (by rw [hb0, h34])])
   have hq : ((s[0].toNat : Int) != 34) = false := by rw [bne_eq_false_iff_eq]; omega
   have hz : s.toList.isEmpty = false := by
    rw [ByteArray.toList_eq, List.isEmpty_eq_false_iff]; intro h; have h' := congrArg List.length h; rw [size_toList, List.length_nil] at h'; omega
   clear hb0 h34
   generalize unqs s.data.toList = R at HF ⊢
   go_enter Tryz.func169, Tryz.ntmps169
   go_wp2
   go_loopw [5, 6] (fun o i wx => ∃ (k : Nat) (out : List UInt8), k ≤ s.size ∧ i = .int .i64 k ∧ o = .string ⟨out.toArray⟩ ∧ out.length ≤ 4 * k ∧ Hid (unq out (s.data.toList.drop k) k = R) ∧ Below w.heap.size w wx) (fun _ i _ => s.size - (intOf i).toNat)
   case atStart => exact ⟨1, [], by omega, rfl, rfl, by simp, Lib.hid HF.out.symm, hB⟩
   case round =>
    obtain ⟨k, out, hk, rfl, rfl, hol, HR, hb⟩ := hrel
    by_cases hlt : k < s.size
    ·have hbk := bt_at' s k 0 (by omega)
     simp only [Nat.add_zero] at hbk
     have hne : s.data.toList.drop k ≠ [] := by intro h; have h' := congrArg List.length h; simp at h'; omega
     by_cases h34 : s[k].toNat = 34
     ·have HE : Hid (R = (out, k + 1, 0)) := Lib.hid (by rw [← HR.out, unq_mark _ _ (by rw [hbk, h34])])
      have hqk : ((s[k].toNat : Int) == 34) = true := by rw [beq_iff_eq]; omega
      clear hbk hne HR HF h34
      go_wp2
      all_goals go_ret3
      all_goals exact ⟨by rw [HE.out]; rfl, hb⟩
     have hqk : ((s[k].toNat : Int) == 34) = false := by rw [beq_eq_false_iff_ne]; omega
     by_cases hlo : s[k].toNat < 32
     ·have HE : Hid (R = ([], k, 1)) := Lib.hid (by rw [← HR.out, unq_bad _ _ (by rw [hbk]; exact h34) (tk_low (by rw [hbk]; exact hlo))])
      clear hbk hne HR HF h34
      go_wp2_with (go_at_call 196; refine (refTaken_low s k _ hs hlt hlo).mono ?_; rintro e w' ⟨rfl, hb2⟩)
      all_goals go_ret3
      all_goals exact ⟨by rw [HE.out]; rfl, hb.trans (hb2.mono hb.size)⟩
     cases ht : tk (s.data.toList.drop k) with
     | none =>
      have HE : Hid (R = ([], k, 1)) := Lib.hid (by rw [← HR.out, unq_bad _ _ (by rw [hbk]; exact h34) ht])
      have HT := Lib.hid ht
      have hlow : Hid (s[k].toNat = 92 ∨ 32 ≤ s[k].toNat) := Lib.hid (by omega)
      clear hbk hne HR HF h34 ht
      go_wp2_with (go_at_call 196; refine (refTaken_any s k _ hs hlt hlow.out).mono ?_; rintro e w' ⟨rfl, hb2⟩; rw [HT.out, tkS, tkN])
      all_goals go_ret3
      all_goals exact ⟨by rw [HE.out]; rfl, hb.trans (hb2.mono hb.size)⟩
     | some x =>
      obtain ⟨p, n⟩ := x
      obtain ⟨hn1, hn2⟩ := tk_some hne ht
      rw [List.length_drop, size_toList] at hn2
      have hpl := tk_len ht
      have HE : Hid (unq (out ++ p) (s.data.toList.drop (k + n)) (k + n) = R) := Lib.hid (by rw [← HR.out, unq_step _ _ hne (by rw [hbk]; exact h34) ht, List.drop_drop])
      have HT := Lib.hid ht
      have hn0 : ((n : Int) == 0) = false := by rw [beq_eq_false_iff_ne]; omega
      have hlow : Hid (s[k].toNat = 92 ∨ 32 ≤ s[k].toNat) := Lib.hid (by omega)
      clear hbk hne HR HF h34 ht
      go_wp2_with (go_at_call 196; refine (refTaken_any s k _ hs hlt hlow.out).mono ?_; rintro e w' ⟨rfl, hb2⟩; rw [HT.out, tkS, tkN])
      go_roundw
      case rel => exact ⟨k + n, out ++ p, by omega, by go_num, rfl, by rw [List.length_append]; omega, HE, hb.trans (hb2.mono hb.size)⟩
      case measure => simp [intOf]; omega
    ·have HE : Hid (R = ([], s.size, 1)) := Lib.hid (by
      rw [← HR.out, List.drop_of_length_le (by simp; omega), unq_nil, show k = s.size by omega])
     clear HR HF
     go_wp2
     all_goals go_ret3
     all_goals exact ⟨by rw [HE.out]; rfl, hb⟩
  ·have HF : Hid (unqs s.data.toList = ([], 0, 1)) := Lib.hid (by rw [unqs, if_neg (by rw [hb0]; exact h34)])
   have hq : ((s[0].toNat : Int) != 34) = true := by rw [bne_iff_ne]; omega
   have hz : s.toList.isEmpty = false := by
    rw [ByteArray.toList_eq, List.isEmpty_eq_false_iff]; intro h; have h' := congrArg List.length h; rw [size_toList, List.length_nil] at h'; omega
   clear hb0 h34
   go_enter Tryz.func169, Tryz.ntmps169
   go_wp2
   all_goals go_ret3
   all_goals exact ⟨by rw [HF.out]; rfl, hB⟩
 ·obtain rfl : s = ⟨#[]⟩ := by
   obtain ⟨⟨l⟩⟩ := s
   cases l with
   | nil => rfl
   | cons _ _ => simp [ByteArray.size] at h0
  have HF : Hid (unqs (ByteArray.mk #[]).data.toList = ([], 0, 1)) := Lib.hid rfl
  go_enter Tryz.func169, Tryz.ntmps169
  go_wp2
  all_goals go_ret3
  all_goals exact ⟨by rw [HF.out]; rfl, hB⟩
end
section
open Go.RowKit Np Rw Vp Up Qp Pw
def stpV (i : Nat) : Option (St × Nat) → Value
 | none => .tuple #[sta ⟨false, [], 0⟩, .int .i64 i]
 | some x => .tuple #[sta x.1, .int .i64 (i + x.2 : Nat)]
theorem isW_take {r : List UInt8} {j : Nat} (hj : j < r.length) : isW (r.take (j + 1)) = true ↔ ∀ t, t ≤ j → okAt r t = true := by
 have hl : (r.take (j + 1)).length = j + 1 := by rw [List.length_take]; omega
 have hat : ∀ t, t < j + 1 → okAt (r.take (j + 1)) t = okAt r t := fun t ht => by
  unfold okAt
  rw [List.getElem?_take, if_pos ht]
 constructor
 ·intro h t ht
  cases hk : okAt r t with
  | true => rfl
  | false =>
   exfalso
   have key : ∀ n, n ≤ j → okAt r n = false → False := by
    intro n
    induction n using Nat.strongRecOn with
    | _ n ih =>
     intro hn hb
     by_cases hall : ∀ m, m < n → okAt r m = true
     ·have := isW_bad (l := r.take (j + 1)) (k := n) (by omega) (fun m hm => by rw [hat m (by omega)]; exact hall m hm) (by rw [hat n (by omega)]; exact hb)
      rw [this] at h; cases h
     ·have hall2 : ∃ m, m < n ∧ ¬ okAt r m = true := by
       apply Classical.byContradiction
       intro hc
       exact hall (fun m hm => Classical.byContradiction (fun hx => hc ⟨m, hm, hx⟩))
      obtain ⟨m, hm, hx⟩ := hall2
      exact ih m hm (by omega) (by simpa using hx)
   exact key t ht hk
 ·intro h
  exact isW_all (by intro e; rw [e] at hl; simp at hl) (fun t ht => by rw [hl] at ht; rw [hat t ht]; exact h t (by omega))
theorem step_word {r : List UInt8} {j : Nat} (hj : j ≤ r.length) (h0 : 0 < j) (h1 : ∀ t, t < j → okAt r t = true) (h2 : okAt r j = false) : fieldR r = some (⟨false, r.take j, 0⟩, j) := by
 have hw := wrd_of hj h1 h2
 have hl : (r.take j).length = j := by rw [List.length_take]; omega
 unfold fieldR
 rw [hw, if_pos (by intro e; rw [e] at hl; simp at hl; omega), hl]
theorem step_stop {r : List UInt8} {j : Nat} (hjr : j < r.length) (h1 : ∀ t, t < j → okAt r t = true) (hw : isW (r.take (j + 1)) = false) : okAt r j = false := by
 cases h : okAt r j with
 | false => rfl
 | true =>
  have := (isW_take hjr).2 (fun t ht => by
   by_cases e : t < j
   ·exact h1 t e
   ·obtain rfl : t = j := by omega
    exact h)
  rw [this] at hw; cases hw
def Qs (w w' : World) : Prop := w'.heap[w.heap.size]? = some stepZ ∧ Below w.heap.size w w'
theorem Qs.step {w w' w'' : World} (h : Qs w w') (hb : Below w'.heap.size w' w'') : Qs w w'' := by
 obtain ⟨h1, h2⟩ := h
 have hs : w.heap.size < w'.heap.size := (Array.getElem?_eq_some_iff.1 h1).1
 exact ⟨(hb.block _ hs).trans h1, h2.trans (hb.mono h2.size)⟩
theorem Qs.cells {w w' : World} (h : Qs w w') : w'.cell? ⟨w.heap.size, 0, none⟩ = some (.bool false) ∧ w'.cell? ⟨w.heap.size, 1, none⟩ = some (.string ⟨#[]⟩) ∧ w'.cell? ⟨w.heap.size, 2, none⟩ = some (.int .i64 0) ∧ (∀ o, w'.frozen? ⟨w.heap.size, o, none⟩ = false) ∧ w.heap.size < w'.heap.size := by
 obtain ⟨zz, -⟩ := h
 refine ⟨?_, ?_, ?_, fun o => Lib.frozen_of_heap zz o, (Array.getElem?_eq_some_iff.1 zz).1⟩ <;> (rw [Lib.cell_of_heap zz]; rfl)
end
section
open Go.RowKit Np Rw Vp Up Qp Pw
theorem refStep_qBad (s : ByteArray) (i : Nat) (first : Bool) (w : World) (hs : s.size ≤ 1000000) (hlt3 : i + 1 < s.size) (h46 : s[i]'(by omega) = 46) (h34 : s[i + 1] = 34) (nm : List UInt8) (n : Nat) (ee : Int) (hu : unqs (s.data.toList.drop (i + 1)) = (nm, n, ee)) (hee : ¬ ee = 0) :
  Calls Tryz.prog 140 #[.string s, .int .i64 i, .bool first] w fun e w' => e = .returned (stpV i (none)) ∧ Below w.heap.size w w' := by
 have hb0 : Below w.heap.size w (w.alloc (.cells #[.bool false, .string ⟨#[]⟩, .int .i64 0] 49)) := (Below.refl _ _).alloc (Nat.le_refl _) _
 have HB0 := Lib.hid hb0
 clear hb0
 have hlt : i < s.size := by omega
 have h46b : ((s[i].toNat : Int) == 46) = true := by rw [h46]; rfl
 have h91b : ((s[i + 1].toNat : Int) == 91) = false := by rw [h34]; rfl
 have h91c : ((s[i + 1].toNat : Int) != 91) = true := by rw [h34]; rfl
 have HEX : Hid (∀ m, (s.extract (i + 1) (i + 1 + m)).data.toList = (s.data.toList.drop (i + 1)).take m) := Lib.hid (fun m => by
  have h := Lib.extract_toList s (i + 1) (i + 1 + m)
  rw [ByteArray.toList_eq, Nat.add_sub_cancel_left] at h
  exact h)
 have HRL : Hid ((s.data.toList.drop (i + 1)).length = s.size - (i + 1)) := Lib.hid (by rw [List.length_drop, size_toList])
 have hr2 : s.data.toList.drop (i + 1) = 34 :: s.data.toList.drop (i + 1 + 1) := by
  rw [List.drop_eq_getElem_cons (by rw [size_toList]; exact hlt3)]
  have : s.data.toList[i + 1]'(by rw [size_toList]; exact hlt3) = 34 := h34
  rw [this]
 have HWJ : Hid (∀ W, Calls Tryz.prog 20 #[.string (s.extract (i + 1) (i + 1 + 1))] W fun e w' => e = .returned (.bool false) ∧ w' = W) := Lib.hid (fun W => by
  have h := refWordP_any (s.extract (i + 1) (i + 1 + 1)) W (by rw [ByteArray.size_extract]; unfold maxLen; omega)
  rw [HEX.out 1, hr2] at h
  exact h)
 have HUQ : Hid (∀ W, Calls Tryz.prog 169 #[.string (s.extract (i + 1) s.size)] W fun e w' => e = .returned (.tuple #[.string ⟨nm.toArray⟩, .int .i64 (n : Int), .int .i64 ee]) ∧ Below W.heap.size W w') := Lib.hid (fun W => by
  have h := refUnquote_any (s.extract (i + 1) s.size) W (by rw [ByteArray.size_extract]; omega)
  have e : (s.extract (i + 1) s.size).data.toList = s.data.toList.drop (i + 1) := by
   have := HEX.out (s.size - (i + 1))
   rw [show i + 1 + (s.size - (i + 1)) = s.size by omega] at this
   rw [this, List.take_of_length_le (by rw [HRL.out]; omega)]
  rw [e, hu] at h
  exact h)
 have hgood := unqs_good (s.data.toList.drop (i + 1))
 have hnl := unqs_len (s.data.toList.drop (i + 1))
 rw [hu] at hgood hnl
 simp only at hgood hnl
 have hRL := HRL.out
 have heb : (ee == 0) = false := by simpa using hee
 clear h46 h34 hr2 HRL hRL hgood hnl hu HEX
 go_enter Tryz.func140, Tryz.ntmps140
 go_wp2_with fail
 go_loopw [9] (fun kv wr => kv = .int .i64 ((i + 1 : Nat) : Int) ∧ wr = w.alloc stepZ) (fun kv _ => s.size - (intOf kv).toNat)
 case atStart => exact ⟨by simp, rfl⟩
 case round =>
  obtain ⟨rfl, rfl⟩ := hrel
  go_wp2_with fail
  refine (HWJ.out _).mono ?_
  rintro e wf ⟨rfl, rfl⟩
  go_wp2_with fail
  refine (HUQ.out _).mono ?_
  rintro e w1 ⟨rfl, hb1⟩
  have HB1 : Hid (Below w.heap.size w w1) := Lib.hid (HB0.out.trans (hb1.mono HB0.out.size))
  obtain ⟨hz4, k0, k1, k2, hfz, hfz2⟩ := new_step (W := w.alloc stepZ) (b := w.heap.size) (heap_alloc_new w stepZ) hb1
  clear hb1
  cases first with
  | false =>
   go_upto_region 10 with fail
   go_quiet (fail)
   go_wp2_with fail
   all_goals exact bodyPost_ret (v := .tuple #[sta ⟨false, [], 0⟩, .int .i64 (i : Int)]) (by simp [results, Tryz.results140, go_sem, k0, k1, k2]) rfl ⟨rfl, by first | exact ((HB1.out.setCell (Nat.le_refl _) _).setCell (Nat.le_refl _) _).setCell (Nat.le_refl _) _ | exact (((drewN_below HB1.out _).setCell (Nat.le_refl _) _).setCell (Nat.le_refl _) _).setCell (Nat.le_refl _) _ | exact drewN_below HB1.out _ | trace_state⟩
  | true =>
   go_upto_region 10 with fail
   go_quiet (fail)
   go_wp2_with fail
   all_goals exact bodyPost_ret (v := .tuple #[sta ⟨false, [], 0⟩, .int .i64 (i : Int)]) (by simp [results, Tryz.results140, go_sem, k0, k1, k2]) rfl ⟨rfl, by first | exact ((HB1.out.setCell (Nat.le_refl _) _).setCell (Nat.le_refl _) _).setCell (Nat.le_refl _) _ | exact (((drewN_below HB1.out _).setCell (Nat.le_refl _) _).setCell (Nat.le_refl _) _).setCell (Nat.le_refl _) _ | exact drewN_below HB1.out _ | trace_state⟩
end
section
open Go.RowKit Np Rw Vp Up Qp Pw
theorem refStep_qWord (s : ByteArray) (i : Nat) (first : Bool) (w : World) (hs : s.size ≤ 1000000) (hlt3 : i + 1 < s.size) (h46 : s[i]'(by omega) = 46) (h34 : s[i + 1] = 34) (nm : List UInt8) (n : Nat) (ee : Int) (hu : unqs (s.data.toList.drop (i + 1)) = (nm, n, ee)) (hee : ee = 0) (hW : isW nm = true) :
  Calls Tryz.prog 140 #[.string s, .int .i64 i, .bool first] w fun e w' => e = .returned (stpV i (none)) ∧ Below w.heap.size w w' := by
 have hb0 : Below w.heap.size w (w.alloc (.cells #[.bool false, .string ⟨#[]⟩, .int .i64 0] 49)) := (Below.refl _ _).alloc (Nat.le_refl _) _
 have HB0 := Lib.hid hb0
 clear hb0
 have hlt : i < s.size := by omega
 have h46b : ((s[i].toNat : Int) == 46) = true := by rw [h46]; rfl
 have h91b : ((s[i + 1].toNat : Int) == 91) = false := by rw [h34]; rfl
 have h91c : ((s[i + 1].toNat : Int) != 91) = true := by rw [h34]; rfl
 have HEX : Hid (∀ m, (s.extract (i + 1) (i + 1 + m)).data.toList = (s.data.toList.drop (i + 1)).take m) := Lib.hid (fun m => by
  have h := Lib.extract_toList s (i + 1) (i + 1 + m)
  rw [ByteArray.toList_eq, Nat.add_sub_cancel_left] at h
  exact h)
 have HRL : Hid ((s.data.toList.drop (i + 1)).length = s.size - (i + 1)) := Lib.hid (by rw [List.length_drop, size_toList])
 have hr2 : s.data.toList.drop (i + 1) = 34 :: s.data.toList.drop (i + 1 + 1) := by
  rw [List.drop_eq_getElem_cons (by rw [size_toList]; exact hlt3)]
  have : s.data.toList[i + 1]'(by rw [size_toList]; exact hlt3) = 34 := h34
  rw [this]
 have HWJ : Hid (∀ W, Calls Tryz.prog 20 #[.string (s.extract (i + 1) (i + 1 + 1))] W fun e w' => e = .returned (.bool false) ∧ w' = W) := Lib.hid (fun W => by
  have h := refWordP_any (s.extract (i + 1) (i + 1 + 1)) W (by rw [ByteArray.size_extract]; unfold maxLen; omega)
  rw [HEX.out 1, hr2] at h
  exact h)
 have HUQ : Hid (∀ W, Calls Tryz.prog 169 #[.string (s.extract (i + 1) s.size)] W fun e w' => e = .returned (.tuple #[.string ⟨nm.toArray⟩, .int .i64 (n : Int), .int .i64 ee]) ∧ Below W.heap.size W w') := Lib.hid (fun W => by
  have h := refUnquote_any (s.extract (i + 1) s.size) W (by rw [ByteArray.size_extract]; omega)
  have e : (s.extract (i + 1) s.size).data.toList = s.data.toList.drop (i + 1) := by
   have := HEX.out (s.size - (i + 1))
   rw [show i + 1 + (s.size - (i + 1)) = s.size by omega] at this
   rw [this, List.take_of_length_le (by rw [HRL.out]; omega)]
  rw [e, hu] at h
  exact h)
 have hgood := unqs_good (s.data.toList.drop (i + 1))
 have hnl := unqs_len (s.data.toList.drop (i + 1))
 rw [hu] at hgood hnl
 simp only at hgood hnl
 have hRL := HRL.out
 have HWM : Hid (∀ W, Calls Tryz.prog 20 #[.string ⟨nm.toArray⟩] W fun e w' => e = .returned (.bool true) ∧ Below W.heap.size W w') := Lib.hid (fun W => by
  have h := refWordP_any ⟨nm.toArray⟩ W (by rw [mk_size]; have := hnl hee; unfold maxLen; omega)
  rw [mk_data, hW] at h
  exact h.mono fun e w' ⟨h1, h2⟩ => ⟨h1, by rw [h2]; exact Below.refl _ _⟩)
 subst hee
 clear h46 h34 hr2 HRL hRL hgood hnl hu HEX
 go_enter Tryz.func140, Tryz.ntmps140
 go_wp2_with fail
 go_loopw [9] (fun kv wr => kv = .int .i64 ((i + 1 : Nat) : Int) ∧ wr = w.alloc stepZ) (fun kv _ => s.size - (intOf kv).toNat)
 case atStart => exact ⟨by simp, rfl⟩
 case round =>
  obtain ⟨rfl, rfl⟩ := hrel
  go_wp2_with fail
  refine (HWJ.out _).mono ?_
  rintro e wf ⟨rfl, rfl⟩
  go_wp2_with fail
  refine (HUQ.out _).mono ?_
  rintro e w1 ⟨rfl, hb1⟩
  have HB1 : Hid (Below w.heap.size w w1) := Lib.hid (HB0.out.trans (hb1.mono HB0.out.size))
  obtain ⟨hz4, k0, k1, k2, hfz, hfz2⟩ := new_step (W := w.alloc stepZ) (b := w.heap.size) (heap_alloc_new w stepZ) hb1
  clear hb1
  have HQS : Hid (Qs w w1) := Lib.hid ⟨hfz2, HB1.out⟩
  have HQD : Hid (Qs w w1.drew) := Lib.hid (Qs.step HQS.out (Below.refl _ _).drew)
  clear hfz2 hz4 k0 k1 k2 hfz
  go_upto_region 10 with fail
  refine wp_region_held_drew (S := (fun w' => w'.heap[w.heap.size]? = some stepZ ∧ Below w.heap.size w w')) (by kernel_rfl) (HQD.out) (fun hH => ?_)
  refine wpAnyH_take (i := 0) (v := .int .i64 0) rfl (by kernel_rfl) (by kernel_rfl) (by kernel_rfl) (fun _ _ _ h => h) (Or.inl ⟨by kernel_rfl, ?_⟩) (by assumption) ?_
  ·intro w' hSw; (try dsimp only at hSw); go_simp
  try simp only [Act.put, List.getElem_toArray, List.getElem_cons_zero, List.setIfInBounds_toArray, List.set_cons_zero, List.set_cons_succ]
  refine wpAnyH_take (i := 1) (v := .bool true) rfl (by kernel_rfl) (by kernel_rfl) (by kernel_rfl) (fun _ _ _ h => h) (Or.inl ⟨by kernel_rfl, ?_⟩) (by assumption) ?_
  ·intro w' hSw; (try dsimp only at hSw); go_simp
  try simp only [Act.put, List.getElem_toArray, List.getElem_cons_succ, List.getElem_cons_zero, List.setIfInBounds_toArray, List.set_cons_zero, List.set_cons_succ]
  refine wpAnyH_take (i := 2) (v := .bool true) rfl (by kernel_rfl) (by kernel_rfl) (by kernel_rfl) (fun _ _ _ h => h) (Or.inl ⟨by kernel_rfl, ?_⟩) (by assumption) ?_
  ·intro w' hSw; (try dsimp only at hSw); go_simp
  try simp only [Act.put, List.getElem_toArray, List.getElem_cons_succ, List.getElem_cons_zero, List.setIfInBounds_toArray, List.set_cons_zero, List.set_cons_succ]
  refine wpAnyH_take (i := 3) (v := .string ⟨nm.toArray⟩) rfl (by kernel_rfl) (by kernel_rfl) (by kernel_rfl) (fun _ _ _ h => h) (Or.inl ⟨by kernel_rfl, ?_⟩) (by assumption) ?_
  ·intro w' hSw; (try dsimp only at hSw); go_simp
  try simp only [Act.put, List.getElem_toArray, List.getElem_cons_succ, List.getElem_cons_zero, List.setIfInBounds_toArray, List.set_cons_zero, List.set_cons_succ]
  refine wpAnyH_ready (rs := [4]) (by kernel_rfl) (by simp) ?_
  refine AllReadyH.cons rfl (fun K4 hK4 => ?_) AllReadyH.nil
  go_simp
  go_at_call 20
  refine (HWM.out _).mono ?_
  rintro e w3 ⟨rfl, hb3⟩
  go_wp2_with fail
  refine hK4.out _ _ (Qs.step HQD.out hb3) (fun hHeld4 => ?_)
  clear hK4 K4
  try simp only [Act.put, List.getElem_toArray, List.getElem_cons_succ, List.getElem_cons_zero, List.setIfInBounds_toArray, List.set_cons_zero, List.set_cons_succ]
  refine wpAnyH_take (i := 5) (v := .bool false) rfl (by kernel_rfl) (by kernel_rfl) (by kernel_rfl) (fun _ _ _ h => h) (Or.inl ⟨by kernel_rfl, ?_⟩) (by assumption) ?_
  ·intro w' hSw; (try dsimp only at hSw); go_simp
  try simp only [Act.put, List.getElem_toArray, List.getElem_cons_succ, List.getElem_cons_zero, List.setIfInBounds_toArray, List.set_cons_zero, List.set_cons_succ]
  refine wpAnyH_take (i := 6) (v := .bool false) rfl (by kernel_rfl) (by kernel_rfl) (by kernel_rfl) (fun _ _ _ h => h) (Or.inl ⟨by kernel_rfl, ?_⟩) (by assumption) ?_
  ·intro w' hSw; (try dsimp only at hSw); go_simp
  try simp only [Act.put, List.getElem_toArray, List.getElem_cons_succ, List.getElem_cons_zero, List.setIfInBounds_toArray, List.set_cons_zero, List.set_cons_succ]
  refine wpAnyH_take (i := 7) (v := .bool false) rfl (by kernel_rfl) (by kernel_rfl) (by kernel_rfl) (fun _ _ _ h => h) (Or.inl ⟨by kernel_rfl, ?_⟩) (by assumption) ?_
  ·intro w' hSw; (try dsimp only at hSw); go_simp
  try simp only [Act.put, List.getElem_toArray, List.getElem_cons_succ, List.getElem_cons_zero, List.setIfInBounds_toArray, List.set_cons_zero, List.set_cons_succ]
  refine wpAnyH_take (i := 8) (v := undef) rfl (by kernel_rfl) (by kernel_rfl) (by kernel_rfl) (fun _ _ _ h => h) (Or.inr ⟨by kernel_rfl, rfl⟩) (by assumption) ?_
  try simp only [Act.put, List.getElem_toArray, List.getElem_cons_succ, List.getElem_cons_zero, List.setIfInBounds_toArray, List.set_cons_zero, List.set_cons_succ]
  refine wpAnyH_take (i := 9) (v := undef) rfl (by kernel_rfl) (by kernel_rfl) (by kernel_rfl) (fun _ _ _ h => h) (Or.inr ⟨by kernel_rfl, rfl⟩) (by assumption) ?_
  try simp only [Act.put, List.getElem_toArray, List.getElem_cons_succ, List.getElem_cons_zero, List.setIfInBounds_toArray, List.set_cons_zero, List.set_cons_succ]
  refine wpAnyH_take (i := 10) (v := undef) rfl (by kernel_rfl) (by kernel_rfl) (by kernel_rfl) (fun _ _ _ h => h) (Or.inr ⟨by kernel_rfl, rfl⟩) (by assumption) ?_
  try simp only [Act.put, List.getElem_toArray, List.getElem_cons_succ, List.getElem_cons_zero, List.setIfInBounds_toArray, List.set_cons_zero, List.set_cons_succ]
  refine wpAnyH_take (i := 11) (v := undef) rfl (by kernel_rfl) (by kernel_rfl) (by kernel_rfl) (fun _ _ _ h => h) (Or.inr ⟨by kernel_rfl, rfl⟩) (by assumption) ?_
  try simp only [Act.put, List.getElem_toArray, List.getElem_cons_succ, List.getElem_cons_zero, List.setIfInBounds_toArray, List.set_cons_zero, List.set_cons_succ]
  refine wpAnyH_take (i := 12) (v := undef) rfl (by kernel_rfl) (by kernel_rfl) (by kernel_rfl) (fun _ _ _ h => h) (Or.inr ⟨by kernel_rfl, rfl⟩) (by assumption) ?_
  try simp only [Act.put, List.getElem_toArray, List.getElem_cons_succ, List.getElem_cons_zero, List.setIfInBounds_toArray, List.set_cons_zero, List.set_cons_succ]
  refine wpAnyH_take (i := 13) (v := undef) rfl (by kernel_rfl) (by kernel_rfl) (by kernel_rfl) (fun _ _ _ h => h) (Or.inr ⟨by kernel_rfl, rfl⟩) (by assumption) ?_
  try simp only [Act.put, List.getElem_toArray, List.getElem_cons_succ, List.getElem_cons_zero, List.setIfInBounds_toArray, List.set_cons_zero, List.set_cons_succ]
  refine wpAnyH_take (i := 14) (v := undef) rfl (by kernel_rfl) (by kernel_rfl) (by kernel_rfl) (fun _ _ _ h => h) (Or.inr ⟨by kernel_rfl, rfl⟩) (by assumption) ?_
  try simp only [Act.put, List.getElem_toArray, List.getElem_cons_succ, List.getElem_cons_zero, List.setIfInBounds_toArray, List.set_cons_zero, List.set_cons_succ]
  refine wpAnyH_take (i := 15) (v := undef) rfl (by kernel_rfl) (by kernel_rfl) (by kernel_rfl) (fun _ _ _ h => h) (Or.inr ⟨by kernel_rfl, rfl⟩) (by assumption) ?_
  try simp only [Act.put, List.getElem_toArray, List.getElem_cons_succ, List.getElem_cons_zero, List.setIfInBounds_toArray, List.set_cons_zero, List.set_cons_succ]
  refine wpAnyH_take (i := 16) (v := undef) rfl (by kernel_rfl) (by kernel_rfl) (by kernel_rfl) (fun _ _ _ h => h) (Or.inr ⟨by kernel_rfl, rfl⟩) (by assumption) ?_
  try simp only [Act.put, List.getElem_toArray, List.getElem_cons_succ, List.getElem_cons_zero, List.setIfInBounds_toArray, List.set_cons_zero, List.set_cons_succ]
  refine wpAnyH_take (i := 17) (v := .bool false) rfl (by kernel_rfl) (by kernel_rfl) (by kernel_rfl) (fun _ _ _ h => h) (Or.inl ⟨by kernel_rfl, ?_⟩) (by assumption) ?_
  ·intro w' hSw; (try dsimp only at hSw); go_simp
  try simp only [Act.put, List.getElem_toArray, List.getElem_cons_succ, List.getElem_cons_zero, List.setIfInBounds_toArray, List.set_cons_zero, List.set_cons_succ]
  refine wpAnyH_done (by kernel_rfl) ?_ _
  obtain ⟨k0, k1, k2, hfz, hz4⟩ := Qs.cells (by assumption : Qs w w3)
  have HB9 := Lib.hid (by assumption : Qs w w3).2
  cases first with
  | true =>
   go_wp2_with fail
   all_goals exact bodyPost_ret (v := .tuple #[sta ⟨false, [], 0⟩, .int .i64 (i : Int)]) (by simp [results, Tryz.results140, go_sem, k0, k1, k2]) rfl ⟨rfl, by first | exact ((HB9.out.setCell (Nat.le_refl _) _).setCell (Nat.le_refl _) _).setCell (Nat.le_refl _) _ | exact (((drewN_below HB9.out _).setCell (Nat.le_refl _) _).setCell (Nat.le_refl _) _).setCell (Nat.le_refl _) _ | exact drewN_below HB9.out _ | trace_state⟩
  | false =>
   go_wp2_with fail
   all_goals exact bodyPost_ret (v := .tuple #[sta ⟨false, [], 0⟩, .int .i64 (i : Int)]) (by simp [results, Tryz.results140, go_sem, k0, k1, k2]) rfl ⟨rfl, by first | exact ((HB9.out.setCell (Nat.le_refl _) _).setCell (Nat.le_refl _) _).setCell (Nat.le_refl _) _ | exact (((drewN_below HB9.out _).setCell (Nat.le_refl _) _).setCell (Nat.le_refl _) _).setCell (Nat.le_refl _) _ | exact drewN_below HB9.out _ | trace_state⟩
end
section
open Go.RowKit Np Rw Vp Up Qp Pw
theorem refStep_qGood (s : ByteArray) (i : Nat) (first : Bool) (w : World) (hs : s.size ≤ 1000000) (hlt3 : i + 1 < s.size) (h46 : s[i]'(by omega) = 46) (h34 : s[i + 1] = 34) (nm : List UInt8) (n : Nat) (ee : Int) (hu : unqs (s.data.toList.drop (i + 1)) = (nm, n, ee)) (hee : ee = 0) (hW : isW nm = false) (hq : quo nm = (s.data.toList.drop (i + 1)).take n) :
  Calls Tryz.prog 140 #[.string s, .int .i64 i, .bool first] w fun e w' => e = .returned (stpV i (some (⟨false, nm, 0⟩, n + 1))) ∧ Below w.heap.size w w' := by
 have hb0 : Below w.heap.size w (w.alloc (.cells #[.bool false, .string ⟨#[]⟩, .int .i64 0] 49)) := (Below.refl _ _).alloc (Nat.le_refl _) _
 have HB0 := Lib.hid hb0
 clear hb0
 have hlt : i < s.size := by omega
 have h46b : ((s[i].toNat : Int) == 46) = true := by rw [h46]; rfl
 have h91b : ((s[i + 1].toNat : Int) == 91) = false := by rw [h34]; rfl
 have h91c : ((s[i + 1].toNat : Int) != 91) = true := by rw [h34]; rfl
 have HEX : Hid (∀ m, (s.extract (i + 1) (i + 1 + m)).data.toList = (s.data.toList.drop (i + 1)).take m) := Lib.hid (fun m => by
  have h := Lib.extract_toList s (i + 1) (i + 1 + m)
  rw [ByteArray.toList_eq, Nat.add_sub_cancel_left] at h
  exact h)
 have HRL : Hid ((s.data.toList.drop (i + 1)).length = s.size - (i + 1)) := Lib.hid (by rw [List.length_drop, size_toList])
 have hr2 : s.data.toList.drop (i + 1) = 34 :: s.data.toList.drop (i + 1 + 1) := by
  rw [List.drop_eq_getElem_cons (by rw [size_toList]; exact hlt3)]
  have : s.data.toList[i + 1]'(by rw [size_toList]; exact hlt3) = 34 := h34
  rw [this]
 have HWJ : Hid (∀ W, Calls Tryz.prog 20 #[.string (s.extract (i + 1) (i + 1 + 1))] W fun e w' => e = .returned (.bool false) ∧ w' = W) := Lib.hid (fun W => by
  have h := refWordP_any (s.extract (i + 1) (i + 1 + 1)) W (by rw [ByteArray.size_extract]; unfold maxLen; omega)
  rw [HEX.out 1, hr2] at h
  exact h)
 have HUQ : Hid (∀ W, Calls Tryz.prog 169 #[.string (s.extract (i + 1) s.size)] W fun e w' => e = .returned (.tuple #[.string ⟨nm.toArray⟩, .int .i64 (n : Int), .int .i64 ee]) ∧ Below W.heap.size W w') := Lib.hid (fun W => by
  have h := refUnquote_any (s.extract (i + 1) s.size) W (by rw [ByteArray.size_extract]; omega)
  have e : (s.extract (i + 1) s.size).data.toList = s.data.toList.drop (i + 1) := by
   have := HEX.out (s.size - (i + 1))
   rw [show i + 1 + (s.size - (i + 1)) = s.size by omega] at this
   rw [this, List.take_of_length_le (by rw [HRL.out]; omega)]
  rw [e, hu] at h
  exact h)
 have hgood := unqs_good (s.data.toList.drop (i + 1))
 have hnl := unqs_len (s.data.toList.drop (i + 1))
 rw [hu] at hgood hnl
 simp only at hgood hnl
 have hRL := HRL.out
 have HWM : Hid (∀ W, Calls Tryz.prog 20 #[.string ⟨nm.toArray⟩] W fun e w' => e = .returned (.bool false) ∧ Below W.heap.size W w') := Lib.hid (fun W => by
  have h := refWordP_any ⟨nm.toArray⟩ W (by rw [mk_size]; have := hnl hee; unfold maxLen; omega)
  rw [mk_data, hW] at h
  exact h.mono fun e w' ⟨h1, h2⟩ => ⟨h1, by rw [h2]; exact Below.refl _ _⟩)
 have HQN : Hid (∀ W, Calls Tryz.prog 21 #[.string ⟨nm.toArray⟩] W fun e w' => e = .returned (.string ⟨(quo nm).toArray⟩) ∧ Below W.heap.size W w') := Lib.hid (fun W => by
  have h := refQuote_any ⟨nm.toArray⟩ W (by rw [mk_size]; have := hnl hee; omega)
  rw [mk_data] at h
  exact h)
 have hn2 : i + 1 + n ≤ s.size := by have := (hgood hee).2.1; omega
 have hwq : IntKind.i64.wrap ((i : Int) + 1 + (n : Int)) = (i : Int) + 1 + (n : Int) := IntWalk.i64_in _ ⟨by omega, by omega⟩
 have hq0 : 0 ≤ (i : Int) + 1 := by omega
 have hq1 : (i : Int) + 1 ≤ (i : Int) + 1 + (n : Int) := by omega
 have hq2 : (i : Int) + 1 + (n : Int) ≤ (s.size : Int) := by omega
 have hq3 : ((i : Int) + 1 + (n : Int)).toNat = i + 1 + n := by omega
 have hq4 : ((i : Int) + 1).toNat = i + 1 := by omega
 have hEQ : (quo nm == (s.extract (i + 1) (i + 1 + n)).toList) = true := by
  rw [ByteArray.toList_eq, HEX.out n, hq]
  simp
 clear hq
 subst hee
 clear h46 h34 hr2 HRL hRL hgood hnl hu HEX
 go_enter Tryz.func140, Tryz.ntmps140
 go_wp2_with fail
 go_loopw [9] (fun kv wr => kv = .int .i64 ((i + 1 : Nat) : Int) ∧ wr = w.alloc stepZ) (fun kv _ => s.size - (intOf kv).toNat)
 case atStart => exact ⟨by simp, rfl⟩
 case round =>
  obtain ⟨rfl, rfl⟩ := hrel
  go_wp2_with fail
  refine (HWJ.out _).mono ?_
  rintro e wf ⟨rfl, rfl⟩
  go_wp2_with fail
  refine (HUQ.out _).mono ?_
  rintro e w1 ⟨rfl, hb1⟩
  have HB1 : Hid (Below w.heap.size w w1) := Lib.hid (HB0.out.trans (hb1.mono HB0.out.size))
  obtain ⟨hz4, k0, k1, k2, hfz, hfz2⟩ := new_step (W := w.alloc stepZ) (b := w.heap.size) (heap_alloc_new w stepZ) hb1
  clear hb1
  have HQS : Hid (Qs w w1) := Lib.hid ⟨hfz2, HB1.out⟩
  clear hfz2 hz4 k0 k1 k2 hfz
  go_upto_region 10 with fail
  go_region_held3 (fun w' => w'.heap[w.heap.size]? = some stepZ ∧ Below w.heap.size w w') (first | exact Qs.step (by assumption : Qs w _) hb3 | exact Qs.step HQS.out (Below.refl _ _).drew | go_keep)
   (first
    | (go_at_call 20; refine (HWM.out _).mono ?_; rintro e w3 ⟨rfl, hb3⟩)
    | (go_at_call 21; refine (HQN.out _).mono ?_; rintro e w3 ⟨rfl, hb3⟩))
  obtain ⟨k0, k1, k2, hfz, hz4⟩ := Qs.cells (by assumption : Qs w _)
  have HB9 := Lib.hid (by assumption : Qs w _).2
  go_wp2_with fail
  exact bodyPost_ret (v := .tuple #[sta ⟨false, nm, 0⟩, .int .i64 ((i : Int) + 1 + (n : Int))]) (by simp [results, Tryz.results140, go_sem, k0, k1, k2]) rfl ⟨by show _ = Ending.returned (.tuple #[sta ⟨false, nm, 0⟩, .int .i64 ((i + (n + 1) : Nat) : Int)]); rw [show ((i + (n + 1) : Nat) : Int) = (i : Int) + 1 + (n : Int) by omega], ((HB9.out.setCell (Nat.le_refl _) _).setCell (Nat.le_refl _) _).setCell (Nat.le_refl _) _⟩
end
section
open Go.RowKit Np Rw Vp Up Qp Pw
theorem refStep_qNone (s : ByteArray) (i : Nat) (first : Bool) (w : World) (hs : s.size ≤ 1000000) (hlt3 : i + 1 < s.size) (h46 : s[i]'(by omega) = 46) (h34 : s[i + 1] = 34) (nm : List UInt8) (n : Nat) (ee : Int) (hu : unqs (s.data.toList.drop (i + 1)) = (nm, n, ee)) (hee : ee = 0) (hW : isW nm = false) (hq : ¬ quo nm = (s.data.toList.drop (i + 1)).take n) :
  Calls Tryz.prog 140 #[.string s, .int .i64 i, .bool first] w fun e w' => e = .returned (stpV i (none)) ∧ Below w.heap.size w w' := by
 have hb0 : Below w.heap.size w (w.alloc (.cells #[.bool false, .string ⟨#[]⟩, .int .i64 0] 49)) := (Below.refl _ _).alloc (Nat.le_refl _) _
 have HB0 := Lib.hid hb0
 clear hb0
 have hlt : i < s.size := by omega
 have h46b : ((s[i].toNat : Int) == 46) = true := by rw [h46]; rfl
 have h91b : ((s[i + 1].toNat : Int) == 91) = false := by rw [h34]; rfl
 have h91c : ((s[i + 1].toNat : Int) != 91) = true := by rw [h34]; rfl
 have HEX : Hid (∀ m, (s.extract (i + 1) (i + 1 + m)).data.toList = (s.data.toList.drop (i + 1)).take m) := Lib.hid (fun m => by
  have h := Lib.extract_toList s (i + 1) (i + 1 + m)
  rw [ByteArray.toList_eq, Nat.add_sub_cancel_left] at h
  exact h)
 have HRL : Hid ((s.data.toList.drop (i + 1)).length = s.size - (i + 1)) := Lib.hid (by rw [List.length_drop, size_toList])
 have hr2 : s.data.toList.drop (i + 1) = 34 :: s.data.toList.drop (i + 1 + 1) := by
  rw [List.drop_eq_getElem_cons (by rw [size_toList]; exact hlt3)]
  have : s.data.toList[i + 1]'(by rw [size_toList]; exact hlt3) = 34 := h34
  rw [this]
 have HWJ : Hid (∀ W, Calls Tryz.prog 20 #[.string (s.extract (i + 1) (i + 1 + 1))] W fun e w' => e = .returned (.bool false) ∧ w' = W) := Lib.hid (fun W => by
  have h := refWordP_any (s.extract (i + 1) (i + 1 + 1)) W (by rw [ByteArray.size_extract]; unfold maxLen; omega)
  rw [HEX.out 1, hr2] at h
  exact h)
 have HUQ : Hid (∀ W, Calls Tryz.prog 169 #[.string (s.extract (i + 1) s.size)] W fun e w' => e = .returned (.tuple #[.string ⟨nm.toArray⟩, .int .i64 (n : Int), .int .i64 ee]) ∧ Below W.heap.size W w') := Lib.hid (fun W => by
  have h := refUnquote_any (s.extract (i + 1) s.size) W (by rw [ByteArray.size_extract]; omega)
  have e : (s.extract (i + 1) s.size).data.toList = s.data.toList.drop (i + 1) := by
   have := HEX.out (s.size - (i + 1))
   rw [show i + 1 + (s.size - (i + 1)) = s.size by omega] at this
   rw [this, List.take_of_length_le (by rw [HRL.out]; omega)]
  rw [e, hu] at h
  exact h)
 have hgood := unqs_good (s.data.toList.drop (i + 1))
 have hnl := unqs_len (s.data.toList.drop (i + 1))
 rw [hu] at hgood hnl
 simp only at hgood hnl
 have hRL := HRL.out
 have HWM : Hid (∀ W, Calls Tryz.prog 20 #[.string ⟨nm.toArray⟩] W fun e w' => e = .returned (.bool false) ∧ Below W.heap.size W w') := Lib.hid (fun W => by
  have h := refWordP_any ⟨nm.toArray⟩ W (by rw [mk_size]; have := hnl hee; unfold maxLen; omega)
  rw [mk_data, hW] at h
  exact h.mono fun e w' ⟨h1, h2⟩ => ⟨h1, by rw [h2]; exact Below.refl _ _⟩)
 have HQN : Hid (∀ W, Calls Tryz.prog 21 #[.string ⟨nm.toArray⟩] W fun e w' => e = .returned (.string ⟨(quo nm).toArray⟩) ∧ Below W.heap.size W w') := Lib.hid (fun W => by
  have h := refQuote_any ⟨nm.toArray⟩ W (by rw [mk_size]; have := hnl hee; omega)
  rw [mk_data] at h
  exact h)
 have hn2 : i + 1 + n ≤ s.size := by have := (hgood hee).2.1; omega
 have hwq : IntKind.i64.wrap ((i : Int) + 1 + (n : Int)) = (i : Int) + 1 + (n : Int) := IntWalk.i64_in _ ⟨by omega, by omega⟩
 have hq0 : 0 ≤ (i : Int) + 1 := by omega
 have hq1 : (i : Int) + 1 ≤ (i : Int) + 1 + (n : Int) := by omega
 have hq2 : (i : Int) + 1 + (n : Int) ≤ (s.size : Int) := by omega
 have hq3 : ((i : Int) + 1 + (n : Int)).toNat = i + 1 + n := by omega
 have hq4 : ((i : Int) + 1).toNat = i + 1 := by omega
 have hne : ¬ (ByteArray.mk (quo nm).toArray = s.extract (i + 1) (i + 1 + n)) := fun h => hq (by
  have h2 := congrArg (fun b : ByteArray => b.data.toList) h
  simp only at h2
  rw [HEX.out n] at h2
  simpa using h2)
 have hneb : (quo nm == (s.extract (i + 1) (i + 1 + n)).toList) = false := by
  rw [beq_eq_false_iff_ne, ByteArray.toList_eq, HEX.out n]
  exact hq
 have hnel : ((ByteArray.mk (quo nm).toArray).toList == (s.extract (i + 1) (i + 1 + n)).toList) = false := by
  rw [beq_eq_false_iff_ne]
  intro h
  apply hq
  rw [← HEX.out n, ← ByteArray.toList_eq, ← h, ByteArray.toList_eq]
 subst hee
 clear h46 h34 hr2 HRL hRL hgood hnl hu HEX
 go_enter Tryz.func140, Tryz.ntmps140
 go_wp2_with fail
 go_loopw [9] (fun kv wr => kv = .int .i64 ((i + 1 : Nat) : Int) ∧ wr = w.alloc stepZ) (fun kv _ => s.size - (intOf kv).toNat)
 case atStart => exact ⟨by simp, rfl⟩
 case round =>
  obtain ⟨rfl, rfl⟩ := hrel
  go_wp2_with fail
  refine (HWJ.out _).mono ?_
  rintro e wf ⟨rfl, rfl⟩
  go_wp2_with fail
  refine (HUQ.out _).mono ?_
  rintro e w1 ⟨rfl, hb1⟩
  have HB1 : Hid (Below w.heap.size w w1) := Lib.hid (HB0.out.trans (hb1.mono HB0.out.size))
  obtain ⟨hz4, k0, k1, k2, hfz, hfz2⟩ := new_step (W := w.alloc stepZ) (b := w.heap.size) (heap_alloc_new w stepZ) hb1
  clear hb1
  have HQS : Hid (Qs w w1) := Lib.hid ⟨hfz2, HB1.out⟩
  clear hfz2 hz4 k0 k1 k2 hfz
  go_upto_region 10 with fail
  go_region_held3 (fun w' => w'.heap[w.heap.size]? = some stepZ ∧ Below w.heap.size w w') (first | exact Qs.step (by assumption : Qs w _) hb3 | exact Qs.step HQS.out (Below.refl _ _).drew | go_keep)
   (first
    | (go_at_call 20; refine (HWM.out _).mono ?_; rintro e w3 ⟨rfl, hb3⟩)
    | (go_at_call 21; refine (HQN.out _).mono ?_; rintro e w3 ⟨rfl, hb3⟩))
  obtain ⟨k0, k1, k2, hfz, hz4⟩ := Qs.cells (by assumption : Qs w _)
  have HB9 := Lib.hid (by assumption : Qs w _).2
  cases first with
  | true =>
   go_wp2_with fail
   all_goals exact bodyPost_ret (v := .tuple #[sta ⟨false, [], 0⟩, .int .i64 (i : Int)]) (by simp [results, Tryz.results140, go_sem, k0, k1, k2]) rfl ⟨rfl, by first | exact ((HB9.out.setCell (Nat.le_refl _) _).setCell (Nat.le_refl _) _).setCell (Nat.le_refl _) _ | exact (((drewN_below HB9.out _).setCell (Nat.le_refl _) _).setCell (Nat.le_refl _) _).setCell (Nat.le_refl _) _ | exact drewN_below HB9.out _ | trace_state⟩
  | false =>
   go_wp2_with fail
   all_goals exact bodyPost_ret (v := .tuple #[sta ⟨false, [], 0⟩, .int .i64 (i : Int)]) (by simp [results, Tryz.results140, go_sem, k0, k1, k2]) rfl ⟨rfl, by first | exact ((HB9.out.setCell (Nat.le_refl _) _).setCell (Nat.le_refl _) _).setCell (Nat.le_refl _) _ | exact (((drewN_below HB9.out _).setCell (Nat.le_refl _) _).setCell (Nat.le_refl _) _).setCell (Nat.le_refl _) _ | exact drewN_below HB9.out _ | trace_state⟩
end
end Go.Proofs.YtldioobbfkaebaaGreatDoor
