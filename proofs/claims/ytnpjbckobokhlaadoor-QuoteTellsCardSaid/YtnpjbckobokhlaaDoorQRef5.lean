/-
  What the document's own answers on strings that are written are: taken, Unquote.
-/
import Derived.Test.YtnpjbckobokhlaaDoorQRef4
import Derived.Test.YtnpjbckobokhlaaDoorQVal
namespace Go.Proofs.YtnpjbckobokhlaaDoor
open Go.RowKit Np Up Qp

/-- What is told of what stands at a place. -/
def tkS : Option (List UInt8 × Nat) → List UInt8
  | some x => x.1
  | none => []
def tkN : Option (List UInt8 × Nat) → Int
  | some x => x.2
  | none => 0

theorem ext_run (s : ByteArray) (i r : Nat) : s.extract i (i + r) = ⟨((s.data.toList.drop i).take r).toArray⟩ := by
  have h := Lib.extract_toList s i (i + r)
  rw [ByteArray.toList_eq, Nat.add_sub_cancel_left] at h
  rw [← h]

set_option maxRecDepth 100000 in
set_option maxHeartbeats 4000000 in
theorem refTaken_any (s : ByteArray) (i : Nat) (w : World) (hs : s.size ≤ 4096) (hi : i < s.size) (hlow : s[i].toNat = 92 ∨ 32 ≤ s[i].toNat) :
    Calls Tryd.prog 24 #[.string s, .int .i64 i] w fun e w' => e = .returned (.tuple #[.string ⟨(tkS (tk (s.data.toList.drop i))).toArray⟩, .int .i64 (tkN (tk (s.data.toList.drop i)))]) ∧ Below w.heap.size w w' := by
  have hB : Below w.heap.size w w := Below.refl _ _
  have hs' : s.size ≤ maxLen := by unfold maxLen; omega
  have hb0 : bt (s.data.toList.drop i) 0 = s[i].toNat := bt_at' s i 0 (by omega)
  by_cases h92 : s[i].toNat = 92
  · have HT : Hid (tk (s.data.toList.drop i) = (es (s.data.toList.drop i)).map fun x => (Lib.encodeRune (x.1 : Int), x.2)) := Lib.hid (by rw [tk, if_pos (by rw [hb0, h92])])
    have hq : ((s[i].toNat : Int) == 92) = true := by rw [beq_iff_eq]; omega
    clear hb0 h92 hlow
    go_enter Tryd.func24, Tryd.ntmps24
    go_wp2_with (go_at_call 34; refine (refEscape_any s i _ hs hi).mono ?_; rintro e w' ⟨rfl, hb2⟩)
    go_ret2
    refine ⟨?_, hb2⟩
    rw [HT.out]
    cases es (s.data.toList.drop i) <;> rfl
  · have hne : s.data.toList.drop i ≠ [] := by intro h; have := congrArg List.length h; simp at this; omega
    have hle := runeN_le _ hne
    rw [List.length_drop, size_toList] at hle
    have hl32 : ¬ bt (s.data.toList.drop i) 0 < 32 := by rw [hb0]; omega
    have hT0 : tk (s.data.toList.drop i) = if runeN (s.data.toList.drop i) = 0 then none else some ((s.data.toList.drop i).take (runeN (s.data.toList.drop i)), runeN (s.data.toList.drop i)) := by
      rw [tk, if_neg (by rw [hb0]; exact h92)]
      by_cases h0 : runeN (s.data.toList.drop i) = 0
      · rw [if_pos (.inr h0), if_pos h0]
      · rw [if_neg (fun h => h.elim hl32 h0), if_neg h0]
    have hq : ((s[i].toNat : Int) == 92) = false := by rw [beq_eq_false_iff_ne]; omega
    generalize hr : runeN (s.data.toList.drop i) = r at hT0 hle
    have HRN := Lib.hid hr
    have HT := Lib.hid hT0
    clear hb0 h92 hlow hr hT0 hl32 hne
    go_enter Tryd.func24, Tryd.ntmps24
    go_wp2_with (go_at_call 25; refine (refRune_any _ _ _ hs' hi).mono ?_; rintro e w' ⟨rfl, rfl⟩; rw [HRN.out])
    go_ret2
    refine ⟨?_, hB⟩
    rw [HT.out]
    show Ending.returned (.tuple #[.string (s.extract i (i + r)), .int .i64 (r : Int)]) = _
    rw [ext_run]
    by_cases h0 : r = 0
    · subst h0
      rw [if_pos rfl]
      rfl
    · rw [if_neg h0]
      rfl

theorem tk_len {l p : List UInt8} {n : Nat} (h : tk l = some (p, n)) : p.length ≤ n + 2 := by
  unfold tk at h
  split at h
  · cases he : es l with
    | none => rw [he] at h; cases h
    | some x =>
      obtain ⟨r, m⟩ := x
      rw [he] at h
      simp at h
      obtain ⟨h1, h2⟩ := h
      obtain ⟨_, _, h4, _⟩ := es_some he
      have h5 := (Lib.encodeRuneZ_length (r : Int)).2
      rw [← h1, ← h2, Lib.encodeRune, List.length_map]
      omega
  · split at h
    · cases h
    · injection h with h
      injection h with e1 e2
      rw [← e1, ← e2, List.length_take]
      omega
set_option maxRecDepth 100000 in
set_option maxHeartbeats 4000000 in
theorem refTaken_low (s : ByteArray) (i : Nat) (w : World) (hs : s.size ≤ 4096) (hi : i < s.size) (hlo : s[i].toNat < 32) :
    Calls Tryd.prog 24 #[.string s, .int .i64 i] w fun e w' => e = .returned (.tuple #[.string (s.extract i (i + 1)), .int .i64 1]) ∧ Below w.heap.size w w' := by
  have hB : Below w.heap.size w w := Below.refl _ _
  have hs' : s.size ≤ maxLen := by unfold maxLen; omega
  have hb0 : bt (s.data.toList.drop i) 0 = s[i].toNat := bt_at' s i 0 (by omega)
  have hq : ((s[i].toNat : Int) == 92) = false := by rw [beq_eq_false_iff_ne]; omega
  have HRN := Lib.hid (runeN_one (l := s.data.toList.drop i) (by omega))
  clear hb0
  go_enter Tryd.func24, Tryd.ntmps24
  go_wp2_with (go_at_call 25; refine (refRune_any _ _ _ hs' hi).mono ?_; rintro e w' ⟨rfl, rfl⟩; rw [HRN.out])
  all_goals go_ret2
  all_goals exact ⟨rfl, hB⟩
theorem tk_low {l : List UInt8} (h : bt l 0 < 32) : tk l = none := by
  rw [tk, if_neg (by omega), if_pos (.inl h)]

set_option maxRecDepth 100000 in
set_option maxHeartbeats 4000000 in
theorem refUnquote_any (s : ByteArray) (w : World) (hs : s.size ≤ 4096) :
    Calls Tryd.prog 10 #[.string s] w fun e w' => e = .returned (uqv (unqs s.data.toList)) ∧ Below w.heap.size w w' := by
  have hB : Below w.heap.size w w := Below.refl _ _
  by_cases h0 : 0 < s.size
  · have hb0 := bt_at s 0 h0
    by_cases h34 : s[0].toNat = 34
    · have HF : Hid (unqs s.data.toList = unq [] (s.data.toList.drop 1) 1) := Lib.hid (by rw [unqs, if_pos (by rw [hb0, h34])])
      have hq : ((s[0].toNat : Int) != 34) = false := by rw [bne_eq_false_iff_eq]; omega
      have hz : s.toList.isEmpty = false := by
        rw [ByteArray.toList_eq, List.isEmpty_eq_false_iff]; intro h; have h' := congrArg List.length h; rw [size_toList, List.length_nil] at h'; omega
      clear hb0 h34
      generalize unqs s.data.toList = R at HF ⊢
      go_enter Tryd.func10, Tryd.ntmps10
      go_wp2
      go_loopw [5, 6] (fun o i wx => ∃ (k : Nat) (out : List UInt8), k ≤ s.size ∧ i = .int .i64 k ∧ o = .string ⟨out.toArray⟩ ∧ out.length ≤ 4 * k ∧ Hid (unq out (s.data.toList.drop k) k = R) ∧ Below w.heap.size w wx) (fun _ i _ => s.size - (intOf i).toNat)
      case atStart => exact ⟨1, [], by omega, rfl, rfl, by simp, Lib.hid HF.out.symm, hB⟩
      case round =>
        obtain ⟨k, out, hk, rfl, rfl, hol, HR, hb⟩ := hrel
        by_cases hlt : k < s.size
        · have hbk := bt_at' s k 0 (by omega)
          simp only [Nat.add_zero] at hbk
          have hne : s.data.toList.drop k ≠ [] := by intro h; have h' := congrArg List.length h; simp at h'; omega
          by_cases h34 : s[k].toNat = 34
          · have HE : Hid (R = (out, k + 1, 0)) := Lib.hid (by rw [← HR.out, unq_mark _ _ (by rw [hbk, h34])])
            have hqk : ((s[k].toNat : Int) == 34) = true := by rw [beq_iff_eq]; omega
            clear hbk hne HR HF h34
            go_wp2
            all_goals go_ret3
            all_goals exact ⟨by rw [HE.out]; rfl, hb⟩
          have hqk : ((s[k].toNat : Int) == 34) = false := by rw [beq_eq_false_iff_ne]; omega
          by_cases hlo : s[k].toNat < 32
          · have HE : Hid (R = ([], k, 1)) := Lib.hid (by rw [← HR.out, unq_bad _ _ (by rw [hbk]; exact h34) (tk_low (by rw [hbk]; exact hlo))])
            clear hbk hne HR HF h34
            go_wp2_with (go_at_call 24; refine (refTaken_low s k _ hs hlt hlo).mono ?_; rintro e w' ⟨rfl, hb2⟩)
            all_goals go_ret3
            all_goals exact ⟨by rw [HE.out]; rfl, hb.trans (hb2.mono hb.size)⟩
          cases ht : tk (s.data.toList.drop k) with
          | none =>
            have HE : Hid (R = ([], k, 1)) := Lib.hid (by rw [← HR.out, unq_bad _ _ (by rw [hbk]; exact h34) ht])
            have HT := Lib.hid ht
            have hlow : Hid (s[k].toNat = 92 ∨ 32 ≤ s[k].toNat) := Lib.hid (by omega)
            clear hbk hne HR HF h34 ht
            go_wp2_with (go_at_call 24; refine (refTaken_any s k _ hs hlt hlow.out).mono ?_; rintro e w' ⟨rfl, hb2⟩; rw [HT.out, tkS, tkN])
            all_goals go_ret3
            all_goals exact ⟨by rw [HE.out]; rfl, hb.trans (hb2.mono hb.size)⟩
          | some x =>
            obtain ⟨p, n⟩ := x
            obtain ⟨hn1, hn2⟩ := tk_some hne ht
            rw [List.length_drop, size_toList] at hn2
            have hpl := tk_len ht
            have HE : Hid (unq (out ++ p) (s.data.toList.drop (k + n)) (k + n) = R) := Lib.hid (by rw [← HR.out, unq_step _ _ hne (by rw [hbk]; exact h34) ht, List.drop_drop])
            have HT := Lib.hid ht
            have hn0 : ((n : Int) == 0) = false := by rw [beq_eq_false_iff_ne]; omega
            have hlow : Hid (s[k].toNat = 92 ∨ 32 ≤ s[k].toNat) := Lib.hid (by omega)
            clear hbk hne HR HF h34 ht
            go_wp2_with (go_at_call 24; refine (refTaken_any s k _ hs hlt hlow.out).mono ?_; rintro e w' ⟨rfl, hb2⟩; rw [HT.out, tkS, tkN])
            go_roundw
            case rel => exact ⟨k + n, out ++ p, by omega, by go_num, rfl, by rw [List.length_append]; omega, HE, hb.trans (hb2.mono hb.size)⟩
            case measure => simp [intOf]; omega
        · have HE : Hid (R = ([], s.size, 1)) := Lib.hid (by
            rw [← HR.out, List.drop_of_length_le (by simp; omega), unq_nil, show k = s.size by omega])
          clear HR HF
          go_wp2
          all_goals go_ret3
          all_goals exact ⟨by rw [HE.out]; rfl, hb⟩
    · have HF : Hid (unqs s.data.toList = ([], 0, 1)) := Lib.hid (by rw [unqs, if_neg (by rw [hb0]; exact h34)])
      have hq : ((s[0].toNat : Int) != 34) = true := by rw [bne_iff_ne]; omega
      have hz : s.toList.isEmpty = false := by
        rw [ByteArray.toList_eq, List.isEmpty_eq_false_iff]; intro h; have h' := congrArg List.length h; rw [size_toList, List.length_nil] at h'; omega
      clear hb0 h34
      go_enter Tryd.func10, Tryd.ntmps10
      go_wp2
      all_goals go_ret3
      all_goals exact ⟨by rw [HF.out]; rfl, hB⟩
  · obtain rfl : s = ⟨#[]⟩ := by
      obtain ⟨⟨l⟩⟩ := s
      cases l with
      | nil => rfl
      | cons _ _ => simp [ByteArray.size] at h0
    have HF : Hid (unqs (ByteArray.mk #[]).data.toList = ([], 0, 1)) := Lib.hid rfl
    go_enter Tryd.func10, Tryd.ntmps10
    go_wp2
    all_goals go_ret3
    all_goals exact ⟨by rw [HF.out]; rfl, hB⟩
end Go.Proofs.YtnpjbckobokhlaaDoor
