/-
  What the document's own answer decimal is: a whole number's text.
-/
import Derived.Test.YtfmoigbiohbocaaDoorNumW14
import Derived.Deep.RegionWith
import Derived.Deep.DeepCutAuto
namespace Go.Proofs.YtfmoigbiohbocaaDoor
open Go.RowKit Np

theorem any_byte (W : World) (b : Nat) (v : Int) (h : W.cell? ⟨b, 0, none⟩ = some (.int .u8 v)) : (convert 59 9 (.slice (some ⟨b, 0, none⟩) 1 1)).run Tryd.prog W = .ok (.string ⟨#[UInt8.ofNat v.toNat]⟩) W :=
  run_convert_bytes_arg _ 59 5 Tryd.underlying59 Tryd.underlying5 b 0 1 1 [v] rfl (fun i hi => by
    obtain rfl : i = 0 := by omega
    simpa using h) 9 Tryd.underlying9
/-- Figures taken so far, and what is left ahead of them. -/
def Ahead (u M : Nat) (acc : List UInt8) : Prop := (M < 10 ∧ Lib.decDigits u = acc) ∨ (10 ≤ M ∧ Lib.decDigits u = Lib.decDigits (M / 10) ++ acc)
theorem Ahead.first (u : Nat) : Ahead u u [UInt8.ofNat (48 + u % 10)] := by
  by_cases h : u < 10
  · left; exact ⟨h, by rw [Lib.decDigits_one h, Nat.mod_eq_of_lt h]⟩
  · right
    exact ⟨by omega, by conv => lhs; rw [Lib.decDigits, dif_neg h]⟩
theorem Ahead.step {u M : Nat} {acc : List UInt8} (h : Ahead u M acc) (hM : 10 ≤ M) : Ahead u (M / 10) (UInt8.ofNat (48 + M / 10 % 10) :: acc) := by
  rcases h with ⟨h1, _⟩ | ⟨_, h2⟩
  · omega
  · by_cases h : M / 10 < 10
    · left; exact ⟨h, by rw [h2, Lib.decDigits_one h, Nat.mod_eq_of_lt h]; rfl⟩
    · right
      have e : Lib.decDigits (M / 10) = Lib.decDigits (M / 10 / 10) ++ [UInt8.ofNat (48 + M / 10 % 10)] := by conv => lhs; rw [Lib.decDigits, dif_neg h]
      exact ⟨by omega, by rw [h2, e, List.append_assoc]; rfl⟩
theorem Ahead.len {u M : Nat} {acc : List UInt8} (h : Ahead u M acc) (hu : u ≤ 2147483648) : acc.length ≤ 10 := by
  have := dec_ten u hu
  rcases h with ⟨_, h3⟩ | ⟨_, h3⟩
  · rw [← h3]; exact this
  · rw [h3, List.length_append] at this; omega

set_option maxRecDepth 100000 in
set_option maxHeartbeats 1000000 in
theorem decimal_pos (u : Nat) (w : World) (hu : u ≤ 2147483648) :
    Calls Tryd.prog 34 #[.int .i64 u] w fun e w' => e = .returned (.string ⟨(Lib.decDigits u).toArray⟩) ∧ Below w.heap.size w w' := by
  have hB : Below w.heap.size w w := Below.refl _ _
  have hcv := one_byte
  have HA0 := Lib.hid (Ahead.first u)
  go_enter Tryd.func34, Tryd.ntmps34
  go_wp2_with fail
  go_loopw [0, 3] (fun a b wr => ∃ (M : Nat) (acc : List UInt8), a = .int .i64 M ∧ b = .string ⟨acc.toArray⟩ ∧ Hid (Ahead u M acc) ∧ M ≤ 2147483648 ∧ Below w.heap.size w wr) (fun a _ _ => (intOf a).toNat)
  case atStart => exact ⟨u, _, rfl, congrArg (fun c => Value.string ⟨#[c]⟩) (by simp [UInt8.ofNat_add]), HA0, hu, hB.alloc (Nat.le_refl _) _⟩
  case round =>
    obtain ⟨M, acc, rfl, rfl, HTk, hM, hb⟩ := hrel
    have hacc := HTk.out.len hu
    by_cases hg : 10 ≤ M
    · have HN := Lib.hid (HTk.out.step hg)
      have HBS := Lib.hid (byte_sum (M / 10 % 10) acc)
      go_wp2_with fail
      go_roundw
      case rel => exact ⟨M / 10, _, by go_num, congrArg Value.string HBS.out, HN, by omega, hb.alloc hb.size _⟩
      case measure => simp [intOf]; omega
    · have HA : Hid (Lib.decDigits u = acc) := Lib.hid (by
        rcases HTk.out with ⟨_, h⟩ | ⟨h, _⟩
        · exact h
        · omega)
      go_wp2_with fail
      go_ret
      exact ⟨ret_str (by rw [HA.out]), hb⟩

set_option maxRecDepth 100000 in
set_option maxHeartbeats 1000000 in
theorem decimal_neg : ∀ (u : Nat), 0 < u → u ≤ 2147483648 → ∀ w : World,
    Calls Tryd.prog 34 #[.int .i64 (-(u : Int))] w fun e w' => e = .returned (.string ⟨(45 :: Lib.decDigits u).toArray⟩) ∧ Below w.heap.size w w' := by
  intro u
  induction u using Nat.strongRecOn with
  | _ u ih =>
    intro h0 hu w
    have hB : Below w.heap.size w w := Below.refl _ _
    have hcv := any_byte
    by_cases h10 : u < 10
    · have HV := Lib.hid (Lib.decDigits_one h10)
      clear ih
      go_enter Tryd.func34, Tryd.ntmps34
      go_wp2_with fail
      go_ret
      refine ⟨?_, hB.alloc (Nat.le_refl _) _⟩
      rw [HV.out]
      simp
      exact ByteArray.ext (by simp)
    · obtain ⟨q, hq⟩ : ∃ q, u / 10 = q := ⟨_, rfl⟩
      obtain ⟨r, hr⟩ : ∃ r, u % 10 = r := ⟨_, rfl⟩
      have HV : Hid (Lib.decDigits u = Lib.decDigits q ++ [UInt8.ofNat (48 + r)]) := Lib.hid (by conv => lhs; rw [Lib.decDigits, dif_neg h10, hq, hr])
      have HI := Lib.hid (ih q (by omega) (by omega) (by omega))
      have hql : (Lib.decDigits q).length ≤ 10 := dec_ten q (by omega)
      have ht : (-(u : Int)).tdiv 10 = -(q : Int) := by
        rw [Int.neg_tdiv, Int.tdiv_eq_ediv_of_nonneg (by omega)]; omega
      have hm : (-(u : Int)).tmod 10 = -(r : Int) := by
        rw [Int.neg_tmod, Int.tmod_eq_emod_of_nonneg (by omega)]; omega
      have hr10 : r < 10 := by omega
      have hun : (u : Int) ≥ 10 := by omega
      have hwq : IntKind.i64.wrap (-(q : Int)) = -(q : Int) := IntWalk.i64_in _ ⟨by omega, by omega⟩
      have hwr : IntKind.i64.wrap (-(r : Int)) = -(r : Int) := IntWalk.i64_in _ ⟨by omega, by omega⟩
      have hws : IntKind.i64.wrap (48 - -(r : Int)) = 48 + (r : Int) := (IntWalk.i64_in _ ⟨by omega, by omega⟩).trans (by omega)
      have hws2 : IntKind.i64.wrap (48 + (r : Int)) = 48 + (r : Int) := IntWalk.i64_in _ ⟨by omega, by omega⟩
      have hwu : IntKind.u8.wrap (48 + (r : Int)) = 48 + (r : Int) := IntWalk.u8_in _ ⟨by omega, by omega⟩
      clear ih hq hr
      go_enter Tryd.func34, Tryd.ntmps34
      go_upto_region 4 with fail
      go_region_with (first | (go_at_call 34; ((with_reducible refine (HI.out _).mono ?_); rintro e3 w3 ⟨rfl, hb3⟩; obtain ⟨hc3, hf3⟩ := bcell hb3; have hz3 := hb3.size)))
      all_goals
        go_wp2_with fail
        go_ret
        refine ⟨ret_str (a := ByteArray.mk (45 :: Lib.decDigits q).toArray ++ ByteArray.mk #[48 + UInt8.ofNat r]) ?_, ?_⟩
        · rw [HV.out]
          exact ByteArray.ext (by simp [UInt8.ofNat_add])
        · first
            | exact (hB.drew.trans hb3).alloc hb3.size _
            | exact (hB.drew.alloc (Nat.le_refl _) _).trans (hb3.mono (by simp))

end Go.Proofs.YtfmoigbiohbocaaDoor
