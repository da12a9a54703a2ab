/-
  What the document's own answers on strings that are written are: Utf, hex, written, Quote.
-/
import Derived.Test.YtdgcdemihalefaaGreatDoorQm
import Derived.Test.YtdgcdemihalefaaGreatDoorRefW1
import Derived.Test.YtdgcdemihalefaaGreatDoorQuoP
namespace Go.Proofs.YtdgcdemihalefaaGreatDoor
open Go.RowKit Np Up Qp


theorem hx_all : ∀ n : Fin 16, (ByteArray.mk #[48, 49, 50, 51, 52, 53, 54, 55, 56, 57, 97, 98, 99, 100, 101, 102]).extract n.val (n.val + 1) = ⟨[hx n.val].toArray⟩ := by decide +kernel

set_option maxHeartbeats 400000 in
theorem refHex_any (n : Nat) (w : World) (hn : n < 16) :
    Calls Tryz.prog 143 #[.int .i64 n] w fun e w' => e = .returned (.string ⟨[hx n].toArray⟩) ∧ w = w' := by
  have hx' : Hid ((ByteArray.mk #[48, 49, 50, 51, 52, 53, 54, 55, 56, 57, 97, 98, 99, 100, 101, 102]).extract n (n + 1) = ⟨[hx n].toArray⟩) := Lib.hid (hx_all ⟨n, hn⟩)
  go_enter Tryz.func143, Tryz.ntmps143
  go_wp2_with fail
  all_goals go_ret
  refine ⟨ret_str ?_, rfl⟩
  exact hx'.out

theorem refHex_int (n : Int) (w : World) (h0 : 0 ≤ n) (h1 : n < 16) :
    Calls Tryz.prog 143 #[.int .i64 n] w fun e w' => e = .returned (.string ⟨#[hx n.toNat]⟩) ∧ w = w' := by
  obtain ⟨k, rfl⟩ := Int.eq_ofNat_of_zero_le h0
  exact refHex_any k w (by omega)

theorem wr_plain {c : UInt8} (h0 : c.toNat ≠ 34) (h1 : c.toNat ≠ 92) (h2 : 32 ≤ c.toNat) : wr c = [c] := by
  unfold wr
  rw [if_neg h0, if_neg h1, if_neg (by omega), if_neg (by omega), if_neg (by omega), if_neg (by omega), if_neg (by omega), if_neg (by omega)]

theorem wr_b (c : UInt8) : wr c = if ((c.toNat : Int) == 34) = true then [92, 34] else if ((c.toNat : Int) == 92) = true then [92, 92] else if ((c.toNat : Int) == 8) = true then [92, 98] else if ((c.toNat : Int) == 12) = true then [92, 102]
    else if ((c.toNat : Int) == 10) = true then [92, 110] else if ((c.toNat : Int) == 13) = true then [92, 114] else if ((c.toNat : Int) == 9) = true then [92, 116] else if (c.toNat : Int) < 32 then [92, 117, 48, 48, hx (c.toNat / 16), hx (c.toNat % 16)] else [c] := by
  unfold wr
  simp only [beq_iff_eq]
  norm_cast

set_option maxRecDepth 100000 in
set_option maxHeartbeats 2000000 in
theorem refWritten_any (c : UInt8) (w : World) :
    Calls Tryz.prog 101 #[.int .u8 c.toNat] w fun e w' => e = .returned (.string ⟨(wr c).toArray⟩) ∧ Below w.heap.size w w' := by
  have hc : c.toNat < 256 := c.toNat_lt
  have hB : Below w.heap.size w w := Below.refl _ _
  have hcv := any_byte (w.alloc (.cells #[.int .u8 (c.toNat : Int)] 5)) w.heap.size c.toNat (by simp)
  generalize hW : wr c = W
  go_enter Tryz.func101, Tryz.ntmps101
  go_wp2_with (go_at_call 143; refine (refHex_int _ _ (by omega) (by omega)).mono ?_; rintro e w' ⟨rfl, rfl⟩)
  all_goals go_ret
  all_goals subst hW
  all_goals clear hcv
  all_goals (refine ⟨ret_str ?_, ?_⟩)
  all_goals (first | exact hB | exact hB.alloc (Nat.le_refl _) _ | skip)
  all_goals go_light
  all_goals rw [wr_b]
  all_goals (simp only [*, if_true, Bool.false_eq_true, if_false])
  all_goals (first | rfl | rw [if_neg (by omega)])

theorem wr_len (c : UInt8) : 1 ≤ (wr c).length ∧ (wr c).length ≤ 6 := by
  unfold wr
  repeat' split
  all_goals simp
theorem wrs_len : ∀ l : List UInt8, l.length ≤ (wrs l).length ∧ (wrs l).length ≤ 6 * l.length
  | [] => by simp [wrs]
  | c :: r => by
    have h1 := wrs_len r
    have h2 := wr_len c
    have e : wrs (c :: r) = wr c ++ wrs r := by simp [wrs]
    rw [e, List.length_append, List.length_cons]
    omega
theorem wrs_snoc (l : List UInt8) (k : Nat) (h : k < l.length) : wrs (l.take (k + 1)) = wrs (l.take k) ++ wr l[k] := by
  unfold wrs
  rw [List.take_succ_eq_append_getElem h, List.flatMap_append]
  simp only [List.flatMap_cons, List.flatMap_nil, List.append_nil]

set_option maxHeartbeats 2000000 in
theorem refQuote_any (s : ByteArray) (w : World) (hs : s.size ≤ 1073741824) :
    Calls Tryz.prog 67 #[.string s] w fun e w' => e = .returned (.string ⟨(quo s.data.toList).toArray⟩) ∧ Below w.heap.size w w' := by
  have hB : Below w.heap.size w w := Below.refl _ _
  go_enter Tryz.func67, Tryz.ntmps67
  go_wp2
  go_loopw [3, 4] (fun o i wx => ∃ k : Nat, k ≤ s.size ∧ i = .int .i64 k ∧ o = .string ⟨(34 :: wrs (s.data.toList.take k)).toArray⟩ ∧ Below w.heap.size w wx) (fun _ i _ => s.size - (intOf i).toNat)
  case atStart => exact ⟨0, Nat.zero_le _, rfl, rfl, hB⟩
  case round =>
    obtain ⟨k, hk, rfl, rfl, hb⟩ := hrel
    have hls := (wrs_len (s.data.toList.take k)).2
    rw [List.length_take, size_toList] at hls
    by_cases hlt : k < s.size
    · have HS := Lib.hid (wrs_snoc s.data.toList k (by simpa using hlt))
      have hl2 := (wr_len s[k]).2
      go_wp2_with (go_at_call 101; refine (refWritten_any _ _).mono ?_; rintro e w' ⟨rfl, hb2⟩)
      go_roundw
      case rel =>
        refine ⟨k + 1, by omega, by go_num, ?_, hb.trans (hb2.mono hb.size)⟩
        rw [HS.out]
        rfl
      case measure => simp [intOf]; omega
    · have HC : Hid (s.data.toList.take k = s.data.toList) := Lib.hid (List.take_of_length_le (by simp; omega))
      go_wp2
      go_ret
      refine ⟨ret_str ?_, hb⟩
      rw [HC.out]
      rfl
end Go.Proofs.YtdgcdemihalefaaGreatDoor
