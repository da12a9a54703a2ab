/-
  What a whole number's figures are, as the statements take them.
-/
import Derived.Test.YtfmoigbiohbocaaDoorNumW8
import Derived.Test.YtfmoigbiohbocaaDoorNumPlain12
import Derived.Laws.BytesArg
namespace Go.Proofs.YtfmoigbiohbocaaDoor
open Go.RowKit Np

/-- Figures taken so far, and what is left. -/
def Taken (u M : Nat) (acc : List UInt8) : Prop := (acc = [] ∧ M = u) ∨ (acc ≠ [] ∧ M = 0 ∧ Lib.decDigits u = acc) ∨ (acc ≠ [] ∧ 0 < M ∧ Lib.decDigits u = Lib.decDigits M ++ acc)
theorem Taken.step {u M : Nat} {acc : List UInt8} (h : Taken u M acc) (hg : 0 < M ∨ acc = []) : Taken u (M / 10) (UInt8.ofNat (48 + M % 10) :: acc) := by
  have key : Lib.decDigits u = Lib.decDigits M ++ acc := by
    rcases h with ⟨h1, h2⟩ | ⟨h1, h2, h3⟩ | ⟨_, _, h3⟩
    · rw [h1, h2, List.append_nil]
    · rcases hg with h | h
      · omega
      · exact absurd h h1
    · exact h3
  by_cases h10 : M < 10
  · right; left
    refine ⟨by simp, by omega, ?_⟩
    rw [key, Lib.decDigits_one h10, Nat.mod_eq_of_lt h10]; rfl
  · right; right
    have e : Lib.decDigits M = Lib.decDigits (M / 10) ++ [UInt8.ofNat (48 + M % 10)] := by conv => lhs; rw [Lib.decDigits, dif_neg h10]
    refine ⟨by simp, by omega, ?_⟩
    rw [key, e, List.append_assoc]; rfl

theorem Taken.len {u M : Nat} {acc : List UInt8} (h : Taken u M acc) (hu : u ≤ 2147483648) : acc.length ≤ 10 := by
  have := dec_ten u hu
  rcases h with ⟨h1, _⟩ | ⟨_, _, h3⟩ | ⟨_, _, h3⟩
  · rw [h1]; simp
  · rw [← h3]; exact this
  · rw [h3, List.length_append] at this; omega
theorem Taken.all {u M : Nat} {acc : List UInt8} (h : Taken u M acc) (hM : ¬ 0 < M) (ha : acc ≠ []) : Lib.decDigits u = acc := by
  rcases h with ⟨h1, _⟩ | ⟨_, _, h3⟩ | ⟨_, h2, _⟩
  · exact absurd h1 ha
  · exact h3
  · exact absurd h2 hM
theorem byte_sum (n : Nat) (acc : List UInt8) : ByteArray.mk #[48 + UInt8.ofNat n] ++ ByteArray.mk acc.toArray = ByteArray.mk (UInt8.ofNat (48 + n) :: acc).toArray :=
  ByteArray.ext (by simp [UInt8.ofNat_add])
theorem one_byte (W : World) (v : Int) : (convert 59 9 (.slice (some ⟨W.heap.size, 0, none⟩) 1 1)).run Tryd.prog (W.alloc (.cells #[.int .u8 v] 5)) = .ok (.string ⟨#[UInt8.ofNat v.toNat]⟩) (W.alloc (.cells #[.int .u8 v] 5)) :=
  run_convert_bytes_arg _ 59 5 Tryd.underlying59 Tryd.underlying5 W.heap.size 0 1 1 [v] rfl (fun i hi => by
    obtain rfl : i = 0 := by omega
    simp) 9 Tryd.underlying9

set_option maxRecDepth 100000 in
set_option maxHeartbeats 1000000 in
theorem wholeInt_any (n : Int) (w : World) (h0 : -2147483648 ≤ n) (h1 : n ≤ 2147483647) :
    Calls Tryd.prog 21 #[.int .i32 n] w fun e w' => e = .returned (.string ⟨(Lib.decDigits n.natAbs).toArray⟩) ∧ Below w.heap.size w w' := by
  have hB : Below w.heap.size w w := Below.refl _ _
  go_enter Tryd.func21, Tryd.ntmps21
  go_upto_if 8 with fail
  go_cut [3] (fun s3 wx => s3 = .int .i64 n.natAbs ∧ wx = w)
  case first =>
    by_cases hn : n < 0
    · go_wp2_with fail
      go_meet
      exact ⟨congrArg (Value.int .i64) (by omega), rfl⟩
    · go_wp2_with fail
      go_meet
      exact ⟨congrArg (Value.int .i64) (by omega), rfl⟩
  case rest =>
    obtain ⟨rfl, rfl⟩ := hcut
    have hu : n.natAbs ≤ 2147483648 := by omega
    generalize hnu : n.natAbs = u at *
    have HU := Lib.hid hnu
    clear hnu
    go_wp2_with fail
    go_loopw [3, 4] (fun a b wr => ∃ (M : Nat) (acc : List UInt8), a = .int .i64 M ∧ b = .string ⟨acc.toArray⟩ ∧ Hid (Taken u M acc) ∧ M ≤ 2147483648 ∧ Below wc.heap.size wc wr) (fun a b _ => (intOf a).toNat * 2 + (match b with | .string s => if s.size = 0 then 1 else 0 | _ => 0))
    case atStart => exact ⟨u, [], rfl, rfl, Lib.hid (.inl ⟨rfl, rfl⟩), hu, Below.refl _ _⟩
    case round =>
      obtain ⟨M, acc, rfl, rfl, HTk, hM, hb⟩ := hrel
      have hacc := HTk.out.len hu
      have hcv := one_byte
      have HBS := Lib.hid (byte_sum (M % 10) acc)
      by_cases hg : 0 < M
      · have HN := Lib.hid (HTk.out.step (.inl hg))
        go_wp2_with fail
        go_roundw
        case rel => exact ⟨M / 10, _, by go_num, congrArg Value.string HBS.out, HN, by omega, hb.alloc hb.size _⟩
        case measure =>
          have hz : (ByteArray.mk #[48 + UInt8.ofNat (M % 10)] ++ ByteArray.mk acc.toArray).size ≠ 0 := by rw [HBS.out]; show (UInt8.ofNat (48 + M % 10) :: acc).length ≠ 0; simp
          simp only [intOf, if_neg hz]
          split <;> omega
      · cases hae : acc.isEmpty
        · have HA := Lib.hid (HTk.out.all hg (by intro h; rw [h] at hae; cases hae))
          go_wp2_with fail
          go_ret
          exact ⟨ret_str (by rw [HU.out, HA.out]), hb⟩
        · have HN := Lib.hid (HTk.out.step (.inr (List.isEmpty_iff.1 hae)))
          have hM0 : M = 0 := by omega
          have hsz : (ByteArray.mk acc.toArray).size = 0 := by rw [List.isEmpty_iff.1 hae]; rfl
          have HSZ := Lib.hid hsz
          have HM0 := Lib.hid hM0
          clear hsz hM0
          go_wp2_with fail
          go_roundw
          case rel => exact ⟨M / 10, _, by go_num, congrArg Value.string HBS.out, HN, by omega, hb.alloc hb.size _⟩
          case measure =>
            have hz : (ByteArray.mk #[48 + UInt8.ofNat (M % 10)] ++ ByteArray.mk acc.toArray).size ≠ 0 := by rw [HBS.out]; show (UInt8.ofNat (48 + M % 10) :: acc).length ≠ 0; simp
            simp only [intOf, if_neg hz]
            rw [if_pos HSZ.out]
            have := HM0.out
            omega

end Go.Proofs.YtfmoigbiohbocaaDoor
