/-
  What the library's ParseUint answers of four bytes, base 16, 16 bits; what quote's number, long and stray are.
-/
import Derived.Test.YtdgcdemihalefaaGreatDoorQRef3
import Derived.Test.YtdgcdemihalefaaGreatDoorShelf
import Derived.Lib.ConvBytes
import Derived.Lib.Walk
import Derived.Lib.AtoiAllMem
import Derived.Laws.Strings3
namespace Go.Proofs.YtdgcdemihalefaaGreatDoor
open Go.RowKit Np Up Qp

/-- The number of some figures of sixteen, as the library tells it. -/
def puV : Option Nat → Value
  | some n => .tuple #[.int .u64 n, .nilIface]
  | none => .tuple #[.int .u64 0, .iface 301 (.int .i64 2)]

theorem bytesWorld_below (w : World) (e : TypeId) (s : ByteArray) : Below w.heap.size w (Lib.bytesWorld w e s) := by
  refine ⟨?_, ?_, ?_, by rw [Lib.bytesWorld_size]; omega, fun i hi => Lib.bytesWorld_at_old w e s i hi⟩
  all_goals (unfold Lib.bytesWorld World.freeze; split <;> rfl)
theorem lower_all : ∀ c : Fin 256, (97 ≤ bits .or .u8 (c.val : Int) 32 → bits .or .u8 (c.val : Int) 32 ≤ 102 → (97 ≤ c.val ∧ c.val ≤ 102 ∧ bits .or .u8 (c.val : Int) 32 = c.val) ∨ (65 ≤ c.val ∧ c.val ≤ 70 ∧ bits .or .u8 (c.val : Int) 32 = c.val + 32)) ∧
    (¬ (97 ≤ bits .or .u8 (c.val : Int) 32 ∧ bits .or .u8 (c.val : Int) 32 ≤ 102) → ¬ (97 ≤ c.val ∧ c.val ≤ 102) ∧ ¬ (65 ≤ c.val ∧ c.val ≤ 70)) := by decide +kernel
theorem hv_of_lower {c : UInt8} {L : Int} (hL : L = bits .or .u8 (c.toNat : Int) 32) (hr : 97 ≤ L ∧ L ≤ 102) : hv c = some (L - 87).toNat := by
  subst hL
  have h := (lower_all ⟨c.toNat, c.toNat_lt⟩).1 hr.1 hr.2
  simp only at h
  unfold hv
  rcases h with ⟨h1, h2, h3⟩ | ⟨h1, h2, h3⟩
  · rw [if_neg (by omega), if_pos ⟨h1, h2⟩, h3]; congr 1; omega
  · rw [if_neg (by omega), if_neg (by omega), if_pos ⟨h1, h2⟩, h3]; congr 1; omega
theorem hv_of_not {c : UInt8} {L : Int} (hL : L = bits .or .u8 (c.toNat : Int) 32) (hd : ¬ (48 ≤ c.toNat ∧ c.toNat ≤ 57)) (hr : ¬ (97 ≤ L ∧ L ≤ 102)) : hv c = none := by
  subst hL
  have h := (lower_all ⟨c.toNat, c.toNat_lt⟩).2 hr
  simp only at h
  rw [hv, if_neg hd, if_neg h.1, if_neg h.2]

set_option maxRecDepth 100000 in
set_option maxHeartbeats 8000000 in
theorem parseI_any (t : ByteArray) (h4 : t.size = 4) (w : World) :
    Calls Tryz.prog 315 #[.string t, .int .i64 16, .int .i64 16] w fun e w' => e = .returned (puV (hvs t.data.toList 0)) ∧ Below w.heap.size w w' := by
  have hemp : t.toList.isEmpty = false := by
    rw [ByteArray.toList_eq, List.isEmpty_eq_false_iff]; intro h; have h' := congrArg List.length h; rw [size_toList, List.length_nil] at h'; omega
  have hcv := Lib.run_convert_string_bytes (P := Tryz.prog) w 9 63 5 t (u := .string) Tryz.underlying9 Tryz.underlying63 Tryz.underlying5
  have hB : ∀ j, j < t.size → (Lib.bytesWorld w 5 t).cell? ⟨w.heap.size, j, none⟩ = some (.int .u8 (t.data.toList.getD j 0).toNat) := fun j hj => Lib.bytesWorld_cell w 5 t j hj
  have hbel : Below w.heap.size w (Lib.bytesWorld w 5 t) := bytesWorld_below w _ t
  obtain ⟨W1, hW1⟩ : ∃ W1, W1 = Lib.bytesWorld w 5 t := ⟨_, rfl⟩
  rw [← hW1] at hcv hB hbel
  clear hW1
  obtain ⟨bs, hL⟩ : ∃ bs, bs = t.data.toList := ⟨_, rfl⟩
  have hLn : bs.length = t.size := by rw [hL, size_toList]
  rw [← hL] at hB ⊢
  clear hL
  go_enter Tryz.func315, Tryz.ntmps315
  go_wp2
  go_loop [12, 13, 101] (fun vu vn vi => ∃ (k acc : Nat) (a : Int), vu = .bool false ∧ vn = .int .u64 a ∧ vi = .int .i64 k ∧ k ≤ 4 ∧ 0 ≤ a ∧ a < 65536 ∧ Hid (a = (acc : Int) ∧ Bd k acc ∧ hvs (bs.drop k) acc = hvs bs 0))
    (fun _ _ vi => 4 - (intOf vi).toNat)
  case atStart => exact ⟨0, 0, 0, rfl, rfl, rfl, by omega, by omega, by omega, Lib.hid ⟨rfl, .inl ⟨rfl, rfl⟩, rfl⟩⟩
  case round =>
    obtain ⟨k, acc, a, rfl, rfl, rfl, hk, ha0, ha1, hh⟩ := hrel
    by_cases hk4 : k < 4
    · obtain ⟨ha, hbd, hdec⟩ := hh.out
      have hc := hB k (by omega)
      have hdrop : bs.drop k = bs[k]'(by omega) :: bs.drop (k + 1) := List.drop_eq_getElem_cons (by omega)
      have hget : bs.getD k 0 = bs[k]'(by omega) := by simp [List.getD, List.getElem?_eq_getElem (show k < bs.length by omega)]
      rw [hdrop] at hdec
      rw [hget] at hc
      generalize bs[k]'(by omega) = c at hc hdec
      have hc256 : c.toNat < 256 := c.toNat_lt
      have hlt16 : k < 4 := hk4
      clear hB hdrop hget hh
      by_cases hdig : 48 ≤ c.toNat ∧ c.toNat ≤ 57
      · have hv' : hv c = some (c.toNat - 48) := by rw [hv, if_pos hdig]
        rw [hvs_step hv'] at hdec
        have hb' := hbd.step hk4 (show c.toNat - 48 < 16 by omega)
        have hle := hb'.le
        have HN : Hid (a * 16 + ((c.toNat : Int) - 48) = ((acc * 16 + (c.toNat - 48) : Nat) : Int) ∧ Bd (k + 1) (acc * 16 + (c.toNat - 48)) ∧ hvs (bs.drop (k + 1)) (acc * 16 + (c.toNat - 48)) = hvs bs 0) := Lib.hid ⟨by omega, hb', hdec⟩
        have iov : a * 16 + ((c.toNat : Int) - 48) < 65536 := by omega
        obtain ⟨hd0, hd1⟩ := hdig
        clear hv' hdec hb' hbd ha hle
        go_wp2
        refine ⟨⟨k + 1, acc * 16 + (c.toNat - 48), a * 16 + ((c.toNat : Int) - 48), rfl, (by first | rfl | (congr 1; omega)), (by first | rfl | (congr 1; omega)), by omega, by omega, by omega, HN⟩, by simp [intOf]; omega⟩
      · obtain ⟨L, hL⟩ : ∃ L, L = bits .or .u8 (c.toNat : Int) 32 := ⟨_, rfl⟩
        have hL0 : 0 ≤ L := by rw [hL]; exact bits_lo_u8 .or (c.toNat : Int) 32
        have hL1 : L ≤ 255 := by rw [hL]; exact bits_hi_u8 .or (c.toNat : Int) 32
        have HL := Lib.hid hL
        have hd' : ¬ (48 ≤ (c.toNat : Int) ∧ (c.toNat : Int) ≤ 57) := by omega
        by_cases hr : 97 ≤ L ∧ L ≤ 102
        · have hv' : hv c = some (L - 87).toNat := hv_of_lower hL hr
          rw [hvs_step hv'] at hdec
          have hb' := hbd.step hk4 (show (L - 87).toNat < 16 by omega)
          have hle := hb'.le
          have HN : Hid (a * 16 + (L - 87) = ((acc * 16 + (L - 87).toNat : Nat) : Int) ∧ Bd (k + 1) (acc * 16 + (L - 87).toNat) ∧ hvs (bs.drop (k + 1)) (acc * 16 + (L - 87).toNat) = hvs bs 0) := Lib.hid ⟨by omega, hb', hdec⟩
          have iov : a * 16 + (L - 87) < 65536 := by omega
          obtain ⟨hr0, hr1⟩ := hr
          have h95 : ((c.toNat : Int) == 95) = false := by
            rw [beq_eq_false_iff_ne]; intro h; rw [hL, h] at hr0; exact absurd hr1 (by rw [hL, h]; decide)
          clear hv' hdec hb' hbd ha hle hL hdig
          go_wp2_with (go_at_call 324; refine (Tryz.internal_strconv_lower _ _).mono ?_; rintro e w' ⟨rfl, rfl⟩; rw [← HL.out])
          all_goals (refine ⟨⟨k + 1, acc * 16 + (L - 87).toNat, a * 16 + (L - 87), rfl, (by congr 1; omega), (by first | rfl | (congr 1; omega)), by omega, by omega, by omega, HN⟩, by simp [intOf]; omega⟩)
        · have hv' : hv c = none := hv_of_not hL hdig hr
          rw [hvs_none hv'] at hdec
          have HN := Lib.hid hdec
          have hr' : ¬ (97 ≤ L ∧ L ≤ 102) := hr
          by_cases h95 : c.toNat = 95
          · have hcc : (c.toNat : Int) = 95 := by omega
            rw [hcc] at hc HL hd'
            have HL2 : Hid (bits .or .u8 95 32 = 127) := Lib.hid (by decide)
            clear hv' hdec hbd ha hL hdig hcc h95 hL0 hL1 hr hr' HL
            go_wp2_with (go_at_call 324; refine (Tryz.internal_strconv_lower _ _).mono ?_; rintro e w' ⟨rfl, rfl⟩; rw [HL2.out])
            all_goals go_ret2
            all_goals exact ⟨by rw [← HN.out]; rfl, hbel⟩
          · have h95' : ((c.toNat : Int) == 95) = false := by rw [beq_eq_false_iff_ne]; omega
            clear hv' hdec hbd ha hL hdig h95
            go_wp2_with (go_at_call 324; refine (Tryz.internal_strconv_lower _ _).mono ?_; rintro e w' ⟨rfl, rfl⟩; rw [← HL.out])
            all_goals go_ret2
            all_goals exact ⟨by rw [← HN.out]; rfl, hbel⟩
    · have hkk : k = 4 := by omega
      subst hkk
      obtain ⟨ha, hbd, hdec⟩ := hh.out
      rw [List.drop_eq_nil_of_le (by omega)] at hdec
      have HN : Hid (hvs bs 0 = some acc) := Lib.hid hdec.symm
      subst ha
      clear hbd hdec hh
      go_wp2
      go_ret2
      exact ⟨by rw [HN.out]; rfl, hbel⟩
end Go.Proofs.YtdgcdemihalefaaGreatDoor
