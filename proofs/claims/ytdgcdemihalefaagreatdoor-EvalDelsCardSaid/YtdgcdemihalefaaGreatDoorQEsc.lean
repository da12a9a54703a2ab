/-
  What quote's number, long and stray are.
-/
import Derived.Test.YtdgcdemihalefaaGreatDoorQNum
namespace Go.Proofs.YtdgcdemihalefaaGreatDoor
open Go.RowKit Np Up Qp

set_option maxRecDepth 100000 in
set_option maxHeartbeats 4000000 in
theorem parseUint_yes (t : ByteArray) (n : Nat) (h4 : t.size = 4) (w : World) (hn : hvs t.data.toList 0 = some n) :
    Calls Tryz.prog 318 #[.string t, .int .i64 16, .int .i64 16] w fun e w' => e = .returned (.tuple #[.int .u64 n, .nilIface]) ∧ Below w.heap.size w w' := by
  have HN := Lib.hid hn
  clear hn
  go_enter Tryz.func318, Tryz.ntmps318
  go_wp2_with fail
  refine (parseI_any t h4 _).mono ?_
  rintro e w1 ⟨rfl, hb⟩
  rw [HN.out, puV]
  go_wp2_with fail
  all_goals go_ret2
  all_goals exact ⟨rfl, hb⟩

set_option maxRecDepth 100000 in
set_option maxHeartbeats 4000000 in
theorem parseUint_no (t : ByteArray) (h4 : t.size = 4) (w : World) (hE : Er w) (hn : hvs t.data.toList 0 = none) :
    Calls Tryz.prog 318 #[.string t, .int .i64 16, .int .i64 16] w fun e w' => (∃ N, e = .returned (.tuple #[.int .u64 0, .iface 304 (.pointer (some ⟨N, 0, none⟩))])) ∧ Below w.heap.size w w' := by
  have HN := Lib.hid hn
  clear hn
  go_enter Tryz.func318, Tryz.ntmps318
  go_wp2_with fail
  refine (parseI_any t h4 _).mono ?_
  rintro e w1 ⟨rfl, hb⟩
  rw [HN.out, puV]
  obtain ⟨ev, hv, hev⟩ := hE.below hb
  go_wp2_with (go_at_call 278; refine (Tryz.strconv_toError_syntax _ _ _ _ ev _ (by omega) hv hev).mono ?_; rintro e w2 ⟨N, rfl, -, -, hb2⟩)
  all_goals go_ret2
  all_goals exact ⟨⟨_, rfl⟩, hb.trans (hb2.mono hb.size)⟩

theorem pre_eq (s : ByteArray) (h : 2 ≤ s.size) : ((s.extract 0 2).toList == [92, 117]) = decide (bt s.data.toList 0 = 92 ∧ bt s.data.toList 1 = 117) := by
  rw [Lib.extract_toList s 0 2, List.drop_zero]
  have hl : 2 ≤ s.data.toList.length := by rw [size_toList]; exact h
  generalize s.data.toList = l at hl ⊢
  match l, hl with
  | a :: b :: r, _ =>
    show ([a, b] == [92, 117]) = decide (a.toNat = 92 ∧ b.toNat = 117)
    rw [Bool.eq_iff_iff]
    simp [← UInt8.toNat_inj]
def numV : Option Nat → Value
  | some n => .tuple #[.int .i32 n, .bool true]
  | none => .tuple #[.int .i32 0, .bool false]

set_option maxRecDepth 100000 in
set_option maxHeartbeats 4000000 in
theorem number_any (s : ByteArray) (w : World) (hs : s.size ≤ 1073741824) (hE : Er w) :
    Calls Tryz.prog 301 #[.string s] w fun e w' => e = .returned (numV (un s.data.toList)) ∧ Below w.heap.size w w' := by
  by_cases h6 : 6 ≤ s.size
  · have hpre := pre_eq s (by omega)
    have h4 : (s.extract 2 6).size = 4 := by rw [ByteArray.size_extract]; omega
    have hd4 : (s.extract 2 6).data.toList = (s.data.toList.drop 2).take 4 := by
      have h := Lib.extract_toList s 2 6
      rw [ByteArray.toList_eq] at h
      exact h
    by_cases hc : bt s.data.toList 0 = 92 ∧ bt s.data.toList 1 = 117
    · have hx : ((s.extract 0 2).toList == [92, 117]) = true := by rw [hpre, decide_eq_true hc]
      have HU : Hid (un s.data.toList = hvs (s.extract 2 6).data.toList 0) := Lib.hid (by rw [un, if_pos ⟨by rw [size_toList]; exact h6, hc⟩, hd4])
      clear hpre hc hd4
      cases hn : hvs (s.extract 2 6).data.toList 0 with
      | none =>
        have HN := Lib.hid hn
        clear hn
        go_enter Tryz.func301, Tryz.ntmps301
        go_wp2_with (go_at_call 318; refine (parseUint_no _ h4 _ hE HN.out).mono ?_; rintro e w1 ⟨⟨N, rfl⟩, hb⟩)
        all_goals go_ret2
        all_goals exact ⟨by rw [HU.out, HN.out]; rfl, hb⟩
      | some n =>
        have HN := Lib.hid hn
        have hlt : n < 65536 := by
          have h1 := (hvs_lt _ _ _ hn).1
          rw [size_toList, h4] at h1
          simpa using h1
        clear hn
        go_enter Tryz.func301, Tryz.ntmps301
        go_wp2_with (go_at_call 318; refine (parseUint_yes _ n h4 _ HN.out).mono ?_; rintro e w1 ⟨rfl, hb⟩)
        all_goals go_ret2
        all_goals exact ⟨by rw [HU.out, HN.out]; rfl, hb⟩
    · have hx : ((s.extract 0 2).toList == [92, 117]) = false := by rw [hpre, decide_eq_false hc]
      have HU : Hid (un s.data.toList = none) := Lib.hid (by rw [un, if_neg]; exact fun h => hc h.2)
      clear hpre hc hd4 h4
      go_enter Tryz.func301, Tryz.ntmps301
      go_wp2
      all_goals go_ret2
      all_goals exact ⟨by rw [HU.out]; rfl, Below.refl _ _⟩
  · have HU : Hid (un s.data.toList = none) := Lib.hid (by rw [un, if_neg]; rw [size_toList]; exact fun h => h6 h.1)
    go_enter Tryz.func301, Tryz.ntmps301
    go_wp2
    all_goals go_ret2
    all_goals exact ⟨by rw [HU.out]; rfl, Below.refl _ _⟩

theorem fffd : (ByteArray.mk #[239, 191, 189]).data.toList = [239, 191, 189] := rfl
/-- A rune that stands for a byte that begins none. -/
theorem stray_iff (l : List UInt8) (hl : l ≠ []) : ((Lib.decodeL l).1 = 65533 ∧ Lib.hasPrefix l [239, 191, 189] = false) ↔ runeN l = 0 := by
  rcases decode_rune l with ⟨h0, h1⟩ | ⟨h0, h1, h2⟩
  · refine ⟨fun _ => h0, fun _ => ⟨by rw [h1], ?_⟩⟩
    cases hp : Lib.hasPrefix l [239, 191, 189] with
    | false => rfl
    | true =>
      obtain ⟨t, rfl⟩ := List.isPrefixOf_iff_prefix.1 hp
      exfalso
      have h3 : runeN ([239, 191, 189] ++ t) = runeN [239, 191, 189] := runeN_append t (by simp) (by decide)
      rw [h3] at h0
      exact absurd h0 (by decide)
  · refine ⟨fun ⟨h3, h4⟩ => ?_, fun h => absurd h h0⟩
    exfalso
    have h5 := Lib.encode_decode l hl h2
    rw [h3, h1] at h5
    have h6 : [239, 191, 189] <+: l := by
      have h7 : Lib.encodeRune ((65533 : Nat) : Int) = [239, 191, 189] := by decide
      rw [← h7, h5]
      exact List.take_prefix _ _
    have h8 : Lib.hasPrefix l [239, 191, 189] = true := List.isPrefixOf_iff_prefix.2 h6
    rw [h8] at h4
    cases h4

set_option maxHeartbeats 1000000 in
theorem stray_any (r : Nat) (s : ByteArray) (w : World) (hs : s.data.toList ≠ []) (hr : r = (Lib.decodeL s.data.toList).1) :
    Calls Tryz.prog 282 #[.int .i32 r, .string s] w fun e w' => e = .returned (.bool (decide (runeN s.data.toList = 0))) ∧ w = w' := by
  have hst := stray_iff s.data.toList hs
  rw [← hr] at hst
  by_cases h1 : r = 65533
  · subst h1
    have hq : Lib.hasPrefix s.data.toList [239, 191, 189] = !decide (runeN s.data.toList = 0) := by
      rw [Bool.eq_iff_iff, Bool.not_eq_true', decide_eq_false_iff_not, ← hst]
      cases Lib.hasPrefix s.data.toList [239, 191, 189] <;> simp
    have HQ := Lib.hid hq
    clear hq hst hr
    go_enter Tryz.func282, Tryz.ntmps282
    go_wp2_with (go_at_call 209; refine (Tryz.strings_HasPrefix _ _ _).mono ?_; rintro e w' ⟨rfl, rfl⟩; rw [fffd, HQ.out])
    all_goals go_ret
    all_goals exact ⟨ret_bool (by simp), rfl⟩
  · have HQ : Hid (decide (runeN s.data.toList = 0) = false) := Lib.hid (decide_eq_false fun h => h1 (hst.2 h).1)
    have hne : ((r : Int) == 65533) = false := by rw [beq_eq_false_iff_ne]; omega
    clear hst hr h1
    go_enter Tryz.func282, Tryz.ntmps282
    go_wp2_with fail
    all_goals go_ret
    all_goals exact ⟨ret_bool HQ.out.symm, rfl⟩

def tab16 : ByteArray := ⟨#[48, 49, 50, 51, 52, 53, 54, 55, 56, 57, 97, 98, 99, 100, 101, 102]⟩
theorem enc16 : ∀ k : Fin 16, Utf8.encode ((tab16[k.val]'k.2).toNat : Int) = ⟨#[hx k.val]⟩ := by decide +kernel
theorem enc16' (k : Nat) (h : k < (ByteArray.mk #[48, 49, 50, 51, 52, 53, 54, 55, 56, 57, 97, 98, 99, 100, 101, 102]).size) : Utf8.encode (((ByteArray.mk #[48, 49, 50, 51, 52, 53, 54, 55, 56, 57, 97, 98, 99, 100, 101, 102])[k]'h).toNat : Int) = ⟨#[hx k]⟩ := enc16 ⟨k, h⟩
set_option maxRecDepth 100000 in
set_option maxHeartbeats 4000000 in
theorem long_any (r : Nat) (w : World) (hr : r < 32) :
    Calls Tryz.prog 221 #[.int .i32 r] w fun e w' => e = .returned (.string ⟨[92, 117, 48, 48, hx (r / 16), hx (r % 16)].toArray⟩) ∧ Below w.heap.size w w' := by
  have hE := enc16'
  rcases (show r = 0 ∨ r = 1 ∨ r = 2 ∨ r = 3 ∨ r = 4 ∨ r = 5 ∨ r = 6 ∨ r = 7 ∨ r = 8 ∨ r = 9 ∨ r = 10 ∨ r = 11 ∨ r = 12 ∨ r = 13 ∨ r = 14 ∨ r = 15 ∨ r = 16 ∨ r = 17 ∨ r = 18 ∨ r = 19 ∨ r = 20 ∨ r = 21 ∨ r = 22 ∨ r = 23 ∨ r = 24 ∨ r = 25 ∨ r = 26 ∨ r = 27 ∨ r = 28 ∨ r = 29 ∨ r = 30 ∨ r = 31 by omega) with rfl | rfl | rfl | rfl | rfl | rfl | rfl | rfl | rfl | rfl | rfl | rfl | rfl | rfl | rfl | rfl | rfl | rfl | rfl | rfl | rfl | rfl | rfl | rfl | rfl | rfl | rfl | rfl | rfl | rfl | rfl | rfl
  · have hb : bits .and .i32 0 15 = 0 := by decide
    go_enter Tryz.func221, Tryz.ntmps221
    go_wp2_with fail
    go_quiet (fail)
    go_wp2_with fail
    go_ret
    exact ⟨rfl, below_quiet ⟨_, rfl⟩⟩
  · have hb : bits .and .i32 1 15 = 1 := by decide
    go_enter Tryz.func221, Tryz.ntmps221
    go_wp2_with fail
    go_quiet (fail)
    go_wp2_with fail
    go_ret
    exact ⟨rfl, below_quiet ⟨_, rfl⟩⟩
  · have hb : bits .and .i32 2 15 = 2 := by decide
    go_enter Tryz.func221, Tryz.ntmps221
    go_wp2_with fail
    go_quiet (fail)
    go_wp2_with fail
    go_ret
    exact ⟨rfl, below_quiet ⟨_, rfl⟩⟩
  · have hb : bits .and .i32 3 15 = 3 := by decide
    go_enter Tryz.func221, Tryz.ntmps221
    go_wp2_with fail
    go_quiet (fail)
    go_wp2_with fail
    go_ret
    exact ⟨rfl, below_quiet ⟨_, rfl⟩⟩
  · have hb : bits .and .i32 4 15 = 4 := by decide
    go_enter Tryz.func221, Tryz.ntmps221
    go_wp2_with fail
    go_quiet (fail)
    go_wp2_with fail
    go_ret
    exact ⟨rfl, below_quiet ⟨_, rfl⟩⟩
  · have hb : bits .and .i32 5 15 = 5 := by decide
    go_enter Tryz.func221, Tryz.ntmps221
    go_wp2_with fail
    go_quiet (fail)
    go_wp2_with fail
    go_ret
    exact ⟨rfl, below_quiet ⟨_, rfl⟩⟩
  · have hb : bits .and .i32 6 15 = 6 := by decide
    go_enter Tryz.func221, Tryz.ntmps221
    go_wp2_with fail
    go_quiet (fail)
    go_wp2_with fail
    go_ret
    exact ⟨rfl, below_quiet ⟨_, rfl⟩⟩
  · have hb : bits .and .i32 7 15 = 7 := by decide
    go_enter Tryz.func221, Tryz.ntmps221
    go_wp2_with fail
    go_quiet (fail)
    go_wp2_with fail
    go_ret
    exact ⟨rfl, below_quiet ⟨_, rfl⟩⟩
  · have hb : bits .and .i32 8 15 = 8 := by decide
    go_enter Tryz.func221, Tryz.ntmps221
    go_wp2_with fail
    go_quiet (fail)
    go_wp2_with fail
    go_ret
    exact ⟨rfl, below_quiet ⟨_, rfl⟩⟩
  · have hb : bits .and .i32 9 15 = 9 := by decide
    go_enter Tryz.func221, Tryz.ntmps221
    go_wp2_with fail
    go_quiet (fail)
    go_wp2_with fail
    go_ret
    exact ⟨rfl, below_quiet ⟨_, rfl⟩⟩
  · have hb : bits .and .i32 10 15 = 10 := by decide
    go_enter Tryz.func221, Tryz.ntmps221
    go_wp2_with fail
    go_quiet (fail)
    go_wp2_with fail
    go_ret
    exact ⟨rfl, below_quiet ⟨_, rfl⟩⟩
  · have hb : bits .and .i32 11 15 = 11 := by decide
    go_enter Tryz.func221, Tryz.ntmps221
    go_wp2_with fail
    go_quiet (fail)
    go_wp2_with fail
    go_ret
    exact ⟨rfl, below_quiet ⟨_, rfl⟩⟩
  · have hb : bits .and .i32 12 15 = 12 := by decide
    go_enter Tryz.func221, Tryz.ntmps221
    go_wp2_with fail
    go_quiet (fail)
    go_wp2_with fail
    go_ret
    exact ⟨rfl, below_quiet ⟨_, rfl⟩⟩
  · have hb : bits .and .i32 13 15 = 13 := by decide
    go_enter Tryz.func221, Tryz.ntmps221
    go_wp2_with fail
    go_quiet (fail)
    go_wp2_with fail
    go_ret
    exact ⟨rfl, below_quiet ⟨_, rfl⟩⟩
  · have hb : bits .and .i32 14 15 = 14 := by decide
    go_enter Tryz.func221, Tryz.ntmps221
    go_wp2_with fail
    go_quiet (fail)
    go_wp2_with fail
    go_ret
    exact ⟨rfl, below_quiet ⟨_, rfl⟩⟩
  · have hb : bits .and .i32 15 15 = 15 := by decide
    go_enter Tryz.func221, Tryz.ntmps221
    go_wp2_with fail
    go_quiet (fail)
    go_wp2_with fail
    go_ret
    exact ⟨rfl, below_quiet ⟨_, rfl⟩⟩
  · have hb : bits .and .i32 16 15 = 0 := by decide
    go_enter Tryz.func221, Tryz.ntmps221
    go_wp2_with fail
    go_quiet (fail)
    go_wp2_with fail
    go_ret
    exact ⟨rfl, below_quiet ⟨_, rfl⟩⟩
  · have hb : bits .and .i32 17 15 = 1 := by decide
    go_enter Tryz.func221, Tryz.ntmps221
    go_wp2_with fail
    go_quiet (fail)
    go_wp2_with fail
    go_ret
    exact ⟨rfl, below_quiet ⟨_, rfl⟩⟩
  · have hb : bits .and .i32 18 15 = 2 := by decide
    go_enter Tryz.func221, Tryz.ntmps221
    go_wp2_with fail
    go_quiet (fail)
    go_wp2_with fail
    go_ret
    exact ⟨rfl, below_quiet ⟨_, rfl⟩⟩
  · have hb : bits .and .i32 19 15 = 3 := by decide
    go_enter Tryz.func221, Tryz.ntmps221
    go_wp2_with fail
    go_quiet (fail)
    go_wp2_with fail
    go_ret
    exact ⟨rfl, below_quiet ⟨_, rfl⟩⟩
  · have hb : bits .and .i32 20 15 = 4 := by decide
    go_enter Tryz.func221, Tryz.ntmps221
    go_wp2_with fail
    go_quiet (fail)
    go_wp2_with fail
    go_ret
    exact ⟨rfl, below_quiet ⟨_, rfl⟩⟩
  · have hb : bits .and .i32 21 15 = 5 := by decide
    go_enter Tryz.func221, Tryz.ntmps221
    go_wp2_with fail
    go_quiet (fail)
    go_wp2_with fail
    go_ret
    exact ⟨rfl, below_quiet ⟨_, rfl⟩⟩
  · have hb : bits .and .i32 22 15 = 6 := by decide
    go_enter Tryz.func221, Tryz.ntmps221
    go_wp2_with fail
    go_quiet (fail)
    go_wp2_with fail
    go_ret
    exact ⟨rfl, below_quiet ⟨_, rfl⟩⟩
  · have hb : bits .and .i32 23 15 = 7 := by decide
    go_enter Tryz.func221, Tryz.ntmps221
    go_wp2_with fail
    go_quiet (fail)
    go_wp2_with fail
    go_ret
    exact ⟨rfl, below_quiet ⟨_, rfl⟩⟩
  · have hb : bits .and .i32 24 15 = 8 := by decide
    go_enter Tryz.func221, Tryz.ntmps221
    go_wp2_with fail
    go_quiet (fail)
    go_wp2_with fail
    go_ret
    exact ⟨rfl, below_quiet ⟨_, rfl⟩⟩
  · have hb : bits .and .i32 25 15 = 9 := by decide
    go_enter Tryz.func221, Tryz.ntmps221
    go_wp2_with fail
    go_quiet (fail)
    go_wp2_with fail
    go_ret
    exact ⟨rfl, below_quiet ⟨_, rfl⟩⟩
  · have hb : bits .and .i32 26 15 = 10 := by decide
    go_enter Tryz.func221, Tryz.ntmps221
    go_wp2_with fail
    go_quiet (fail)
    go_wp2_with fail
    go_ret
    exact ⟨rfl, below_quiet ⟨_, rfl⟩⟩
  · have hb : bits .and .i32 27 15 = 11 := by decide
    go_enter Tryz.func221, Tryz.ntmps221
    go_wp2_with fail
    go_quiet (fail)
    go_wp2_with fail
    go_ret
    exact ⟨rfl, below_quiet ⟨_, rfl⟩⟩
  · have hb : bits .and .i32 28 15 = 12 := by decide
    go_enter Tryz.func221, Tryz.ntmps221
    go_wp2_with fail
    go_quiet (fail)
    go_wp2_with fail
    go_ret
    exact ⟨rfl, below_quiet ⟨_, rfl⟩⟩
  · have hb : bits .and .i32 29 15 = 13 := by decide
    go_enter Tryz.func221, Tryz.ntmps221
    go_wp2_with fail
    go_quiet (fail)
    go_wp2_with fail
    go_ret
    exact ⟨rfl, below_quiet ⟨_, rfl⟩⟩
  · have hb : bits .and .i32 30 15 = 14 := by decide
    go_enter Tryz.func221, Tryz.ntmps221
    go_wp2_with fail
    go_quiet (fail)
    go_wp2_with fail
    go_ret
    exact ⟨rfl, below_quiet ⟨_, rfl⟩⟩
  · have hb : bits .and .i32 31 15 = 15 := by decide
    go_enter Tryz.func221, Tryz.ntmps221
    go_wp2_with fail
    go_quiet (fail)
    go_wp2_with fail
    go_ret
    exact ⟨rfl, below_quiet ⟨_, rfl⟩⟩
end Go.Proofs.YtdgcdemihalefaaGreatDoor
