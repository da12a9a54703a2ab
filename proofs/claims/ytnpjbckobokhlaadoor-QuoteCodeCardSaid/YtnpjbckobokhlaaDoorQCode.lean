/-
  What the statement's own escape of a number is.
-/
import Derived.Test.YtnpjbckobokhlaaDoorQAlive
import Derived.Test.YtnpjbckobokhlaaDoorQuoP2
namespace Go.Proofs.YtnpjbckobokhlaaDoor
open Go.RowKit Np Up Qp

/-- A figure of sixteen, small or great. -/
def fg (g : Bool) (d : Nat) : UInt8 := if d < 10 then (48 + d).toUInt8 else if g then (55 + d).toUInt8 else (87 + d).toUInt8
def codeL (n : Nat) (g : Bool) : List UInt8 := [92, 117, fg g (n / 4096 % 16), fg g (n / 256 % 16), fg g (n / 16 % 16), fg g (n % 16)]
def figB (g : Bool) : ByteArray := if g then ⟨#[48, 49, 50, 51, 52, 53, 54, 55, 56, 57, 65, 66, 67, 68, 69, 70]⟩ else ⟨#[48, 49, 50, 51, 52, 53, 54, 55, 56, 57, 97, 98, 99, 100, 101, 102]⟩
theorem figB_size (g : Bool) : (figB g).size = 16 := by cases g <;> rfl
theorem figB_at : ∀ (g : Bool) (d : Fin 16), ((figB g)[d.val]'(by rw [figB_size]; exact d.2)) = fg g d.val := by decide +kernel

set_option maxRecDepth 100000 in
set_option maxHeartbeats 8000000 in
theorem code_any (n : Int) (g : Bool) (w : World) (h0 : 0 ≤ n) (h1 : n ≤ 1114111) :
    Calls Tryd.prog 16 #[.int .u32 n, .bool g] w fun e w' => e = .returned (.string ⟨(codeL n.toNat g).toArray⟩) ∧ Below w.heap.size w w' := by
  have hB : Below w.heap.size w w := Below.refl _ _
  cases g
  · obtain ⟨FB, hFs, HF, hFd⟩ : ∃ FB : ByteArray, FB.size = 16 ∧ Hid (∀ (d : Nat) (h : d < FB.size), FB[d] = fg false d) ∧ FB = ⟨#[48, 49, 50, 51, 52, 53, 54, 55, 56, 57, 97, 98, 99, 100, 101, 102]⟩ := ⟨figB false, figB_size _, Lib.hid (fun d h => figB_at false ⟨d, by rw [figB_size] at h; exact h⟩), rfl⟩
    generalize hC : codeL n.toNat false = C
    have HC := Lib.hid hC
    have hCl : C.length = 6 := by rw [← hC]; rfl
    have HT : Hid (C.take 2 = [92, 117]) := Lib.hid (by rw [← hC]; rfl)
    clear hC
    go_enter Tryd.func16, Tryd.ntmps16
    go_wp2_with fail
    rw [← hFd]
    clear hFd
    go_loopw [6, 7] (fun o k wx => ∃ j : Nat, j ≤ 4 ∧ k = .int .i64 j ∧ o = .string ⟨(C.take (2 + j)).toArray⟩ ∧ Below w.heap.size w wx) (fun _ k _ => 4 - (intOf k).toNat)
    case atStart => exact ⟨0, by omega, rfl, by rw [Nat.add_zero, HT.out], hB⟩
    case round =>
      obtain ⟨j, hj, rfl, rfl, hb⟩ := hrel
      by_cases hj4 : j < 4
      · rcases (show j = 0 ∨ j = 1 ∨ j = 2 ∨ j = 3 by omega) with rfl | rfl | rfl | rfl
        · go_wp2_with fail
          go_loop [8, 9] (fun u8 u9 => ∃ t : Nat, u9 = .int .i64 t ∧ (t = 0 ∧ u8 = .int .u32 4096)) (fun _ u9 => 4 - (intOf u9).toNat)
          case atStart => exact ⟨0, rfl, ⟨rfl, rfl⟩⟩
          case round =>
            obtain ⟨t, rfl, ht⟩ := hrel
            obtain ⟨rfl, rfl⟩ := ht
            have hd : ∃ d : Nat, n / 4096 % 16 = (d : Int) ∧ d < 16 ∧ d = n.toNat / 4096 % 16 := ⟨(n / 4096 % 16).toNat, by omega, by omega, by omega⟩
            obtain ⟨d, hd1, hd2, hd3⟩ := hd
            have hdF : d < FB.size := by omega
            have hcv := bytes_row wr [((FB[d]'hdF).toNat : Int)]
            simp only [List.length_cons, List.length_nil, List.map_cons, List.map_nil, Nat.zero_add] at hcv
            have HN : Hid (C.take (2 + 1) = C.take (2 + 0) ++ [FB[d]'hdF]) := Lib.hid (by rw [HF.out d hdF, ← HC.out, hd3]; rfl)
            have hlen : (C.take (2 + 0)).length ≤ 6 := by rw [List.length_take]; omega
            clear hd3
            go_wp2_with fail
            go_roundw
            case rel =>
              refine ⟨1, by omega, by go_num, ?_, hb.alloc hb.size _⟩
              rw [HN.out]
              rfl
            case measure => simp [intOf]
        · go_wp2_with fail
          go_loop [8, 9] (fun u8 u9 => ∃ t : Nat, u9 = .int .i64 t ∧ (t = 0 ∧ u8 = .int .u32 4096 ∨ t = 1 ∧ u8 = .int .u32 256)) (fun _ u9 => 4 - (intOf u9).toNat)
          case atStart => exact ⟨0, rfl, .inl ⟨rfl, rfl⟩⟩
          case round =>
            obtain ⟨t, rfl, ht⟩ := hrel
            rcases ht with ⟨rfl, rfl⟩ | ⟨rfl, rfl⟩
            · go_wp2_with fail
              go_round
              case rel => exact ⟨1, by go_num, .inr (⟨rfl, by go_num⟩)⟩
              case measure => simp [intOf]
            · have hd : ∃ d : Nat, n / 256 % 16 = (d : Int) ∧ d < 16 ∧ d = n.toNat / 256 % 16 := ⟨(n / 256 % 16).toNat, by omega, by omega, by omega⟩
              obtain ⟨d, hd1, hd2, hd3⟩ := hd
              have hdF : d < FB.size := by omega
              have hcv := bytes_row wr [((FB[d]'hdF).toNat : Int)]
              simp only [List.length_cons, List.length_nil, List.map_cons, List.map_nil, Nat.zero_add] at hcv
              have HN : Hid (C.take (2 + 2) = C.take (2 + 1) ++ [FB[d]'hdF]) := Lib.hid (by rw [HF.out d hdF, ← HC.out, hd3]; rfl)
              have hlen : (C.take (2 + 1)).length ≤ 6 := by rw [List.length_take]; omega
              clear hd3
              go_wp2_with fail
              go_roundw
              case rel =>
                refine ⟨2, by omega, by go_num, ?_, hb.alloc hb.size _⟩
                rw [HN.out]
                rfl
              case measure => simp [intOf]
        · go_wp2_with fail
          go_loop [8, 9] (fun u8 u9 => ∃ t : Nat, u9 = .int .i64 t ∧ (t = 0 ∧ u8 = .int .u32 4096 ∨ t = 1 ∧ u8 = .int .u32 256 ∨ t = 2 ∧ u8 = .int .u32 16)) (fun _ u9 => 4 - (intOf u9).toNat)
          case atStart => exact ⟨0, rfl, .inl ⟨rfl, rfl⟩⟩
          case round =>
            obtain ⟨t, rfl, ht⟩ := hrel
            rcases ht with ⟨rfl, rfl⟩ | ⟨rfl, rfl⟩ | ⟨rfl, rfl⟩
            · go_wp2_with fail
              go_round
              case rel => exact ⟨1, by go_num, .inr (.inl ⟨rfl, by go_num⟩)⟩
              case measure => simp [intOf]
            · go_wp2_with fail
              go_round
              case rel => exact ⟨2, by go_num, .inr (.inr (⟨rfl, by go_num⟩))⟩
              case measure => simp [intOf]
            · have hd : ∃ d : Nat, n / 16 % 16 = (d : Int) ∧ d < 16 ∧ d = n.toNat / 16 % 16 := ⟨(n / 16 % 16).toNat, by omega, by omega, by omega⟩
              obtain ⟨d, hd1, hd2, hd3⟩ := hd
              have hdF : d < FB.size := by omega
              have hcv := bytes_row wr [((FB[d]'hdF).toNat : Int)]
              simp only [List.length_cons, List.length_nil, List.map_cons, List.map_nil, Nat.zero_add] at hcv
              have HN : Hid (C.take (2 + 3) = C.take (2 + 2) ++ [FB[d]'hdF]) := Lib.hid (by rw [HF.out d hdF, ← HC.out, hd3]; rfl)
              have hlen : (C.take (2 + 2)).length ≤ 6 := by rw [List.length_take]; omega
              clear hd3
              go_wp2_with fail
              go_roundw
              case rel =>
                refine ⟨3, by omega, by go_num, ?_, hb.alloc hb.size _⟩
                rw [HN.out]
                rfl
              case measure => simp [intOf]
        · go_wp2_with fail
          go_loop [8, 9] (fun u8 u9 => ∃ t : Nat, u9 = .int .i64 t ∧ (t = 0 ∧ u8 = .int .u32 4096 ∨ t = 1 ∧ u8 = .int .u32 256 ∨ t = 2 ∧ u8 = .int .u32 16 ∨ t = 3 ∧ u8 = .int .u32 1)) (fun _ u9 => 4 - (intOf u9).toNat)
          case atStart => exact ⟨0, rfl, .inl ⟨rfl, rfl⟩⟩
          case round =>
            obtain ⟨t, rfl, ht⟩ := hrel
            rcases ht with ⟨rfl, rfl⟩ | ⟨rfl, rfl⟩ | ⟨rfl, rfl⟩ | ⟨rfl, rfl⟩
            · go_wp2_with fail
              go_round
              case rel => exact ⟨1, by go_num, .inr (.inl ⟨rfl, by go_num⟩)⟩
              case measure => simp [intOf]
            · go_wp2_with fail
              go_round
              case rel => exact ⟨2, by go_num, .inr (.inr (.inl ⟨rfl, by go_num⟩))⟩
              case measure => simp [intOf]
            · go_wp2_with fail
              go_round
              case rel => exact ⟨3, by go_num, .inr (.inr (.inr (⟨rfl, by go_num⟩)))⟩
              case measure => simp [intOf]
            · have hd : ∃ d : Nat, n % 16 = (d : Int) ∧ d < 16 ∧ d = n.toNat % 16 := ⟨(n % 16).toNat, by omega, by omega, by omega⟩
              obtain ⟨d, hd1, hd2, hd3⟩ := hd
              have hdF : d < FB.size := by omega
              have hcv := bytes_row wr [((FB[d]'hdF).toNat : Int)]
              simp only [List.length_cons, List.length_nil, List.map_cons, List.map_nil, Nat.zero_add] at hcv
              have HN : Hid (C.take (2 + 4) = C.take (2 + 3) ++ [FB[d]'hdF]) := Lib.hid (by rw [HF.out d hdF, ← HC.out, hd3]; rfl)
              have hlen : (C.take (2 + 3)).length ≤ 6 := by rw [List.length_take]; omega
              clear hd3
              go_wp2_with fail
              go_roundw
              case rel =>
                refine ⟨4, by omega, by go_num, ?_, hb.alloc hb.size _⟩
                rw [HN.out]
                rfl
              case measure => simp [intOf]
      · have HE : Hid (C.take (2 + j) = C) := Lib.hid (List.take_of_length_le (by omega))
        go_wp2_with fail
        go_ret
        exact ⟨ret_list HE.out, hb⟩
  · obtain ⟨FB, hFs, HF, hFd⟩ : ∃ FB : ByteArray, FB.size = 16 ∧ Hid (∀ (d : Nat) (h : d < FB.size), FB[d] = fg true d) ∧ FB = ⟨#[48, 49, 50, 51, 52, 53, 54, 55, 56, 57, 65, 66, 67, 68, 69, 70]⟩ := ⟨figB true, figB_size _, Lib.hid (fun d h => figB_at true ⟨d, by rw [figB_size] at h; exact h⟩), rfl⟩
    generalize hC : codeL n.toNat true = C
    have HC := Lib.hid hC
    have hCl : C.length = 6 := by rw [← hC]; rfl
    have HT : Hid (C.take 2 = [92, 117]) := Lib.hid (by rw [← hC]; rfl)
    clear hC
    go_enter Tryd.func16, Tryd.ntmps16
    go_wp2_with fail
    rw [← hFd]
    clear hFd
    go_loopw [6, 7] (fun o k wx => ∃ j : Nat, j ≤ 4 ∧ k = .int .i64 j ∧ o = .string ⟨(C.take (2 + j)).toArray⟩ ∧ Below w.heap.size w wx) (fun _ k _ => 4 - (intOf k).toNat)
    case atStart => exact ⟨0, by omega, rfl, by rw [Nat.add_zero, HT.out], hB⟩
    case round =>
      obtain ⟨j, hj, rfl, rfl, hb⟩ := hrel
      by_cases hj4 : j < 4
      · rcases (show j = 0 ∨ j = 1 ∨ j = 2 ∨ j = 3 by omega) with rfl | rfl | rfl | rfl
        · go_wp2_with fail
          go_loop [8, 9] (fun u8 u9 => ∃ t : Nat, u9 = .int .i64 t ∧ (t = 0 ∧ u8 = .int .u32 4096)) (fun _ u9 => 4 - (intOf u9).toNat)
          case atStart => exact ⟨0, rfl, ⟨rfl, rfl⟩⟩
          case round =>
            obtain ⟨t, rfl, ht⟩ := hrel
            obtain ⟨rfl, rfl⟩ := ht
            have hd : ∃ d : Nat, n / 4096 % 16 = (d : Int) ∧ d < 16 ∧ d = n.toNat / 4096 % 16 := ⟨(n / 4096 % 16).toNat, by omega, by omega, by omega⟩
            obtain ⟨d, hd1, hd2, hd3⟩ := hd
            have hdF : d < FB.size := by omega
            have hcv := bytes_row wr [((FB[d]'hdF).toNat : Int)]
            simp only [List.length_cons, List.length_nil, List.map_cons, List.map_nil, Nat.zero_add] at hcv
            have HN : Hid (C.take (2 + 1) = C.take (2 + 0) ++ [FB[d]'hdF]) := Lib.hid (by rw [HF.out d hdF, ← HC.out, hd3]; rfl)
            have hlen : (C.take (2 + 0)).length ≤ 6 := by rw [List.length_take]; omega
            clear hd3
            go_wp2_with fail
            go_roundw
            case rel =>
              refine ⟨1, by omega, by go_num, ?_, hb.alloc hb.size _⟩
              rw [HN.out]
              rfl
            case measure => simp [intOf]
        · go_wp2_with fail
          go_loop [8, 9] (fun u8 u9 => ∃ t : Nat, u9 = .int .i64 t ∧ (t = 0 ∧ u8 = .int .u32 4096 ∨ t = 1 ∧ u8 = .int .u32 256)) (fun _ u9 => 4 - (intOf u9).toNat)
          case atStart => exact ⟨0, rfl, .inl ⟨rfl, rfl⟩⟩
          case round =>
            obtain ⟨t, rfl, ht⟩ := hrel
            rcases ht with ⟨rfl, rfl⟩ | ⟨rfl, rfl⟩
            · go_wp2_with fail
              go_round
              case rel => exact ⟨1, by go_num, .inr (⟨rfl, by go_num⟩)⟩
              case measure => simp [intOf]
            · have hd : ∃ d : Nat, n / 256 % 16 = (d : Int) ∧ d < 16 ∧ d = n.toNat / 256 % 16 := ⟨(n / 256 % 16).toNat, by omega, by omega, by omega⟩
              obtain ⟨d, hd1, hd2, hd3⟩ := hd
              have hdF : d < FB.size := by omega
              have hcv := bytes_row wr [((FB[d]'hdF).toNat : Int)]
              simp only [List.length_cons, List.length_nil, List.map_cons, List.map_nil, Nat.zero_add] at hcv
              have HN : Hid (C.take (2 + 2) = C.take (2 + 1) ++ [FB[d]'hdF]) := Lib.hid (by rw [HF.out d hdF, ← HC.out, hd3]; rfl)
              have hlen : (C.take (2 + 1)).length ≤ 6 := by rw [List.length_take]; omega
              clear hd3
              go_wp2_with fail
              go_roundw
              case rel =>
                refine ⟨2, by omega, by go_num, ?_, hb.alloc hb.size _⟩
                rw [HN.out]
                rfl
              case measure => simp [intOf]
        · go_wp2_with fail
          go_loop [8, 9] (fun u8 u9 => ∃ t : Nat, u9 = .int .i64 t ∧ (t = 0 ∧ u8 = .int .u32 4096 ∨ t = 1 ∧ u8 = .int .u32 256 ∨ t = 2 ∧ u8 = .int .u32 16)) (fun _ u9 => 4 - (intOf u9).toNat)
          case atStart => exact ⟨0, rfl, .inl ⟨rfl, rfl⟩⟩
          case round =>
            obtain ⟨t, rfl, ht⟩ := hrel
            rcases ht with ⟨rfl, rfl⟩ | ⟨rfl, rfl⟩ | ⟨rfl, rfl⟩
            · go_wp2_with fail
              go_round
              case rel => exact ⟨1, by go_num, .inr (.inl ⟨rfl, by go_num⟩)⟩
              case measure => simp [intOf]
            · go_wp2_with fail
              go_round
              case rel => exact ⟨2, by go_num, .inr (.inr (⟨rfl, by go_num⟩))⟩
              case measure => simp [intOf]
            · have hd : ∃ d : Nat, n / 16 % 16 = (d : Int) ∧ d < 16 ∧ d = n.toNat / 16 % 16 := ⟨(n / 16 % 16).toNat, by omega, by omega, by omega⟩
              obtain ⟨d, hd1, hd2, hd3⟩ := hd
              have hdF : d < FB.size := by omega
              have hcv := bytes_row wr [((FB[d]'hdF).toNat : Int)]
              simp only [List.length_cons, List.length_nil, List.map_cons, List.map_nil, Nat.zero_add] at hcv
              have HN : Hid (C.take (2 + 3) = C.take (2 + 2) ++ [FB[d]'hdF]) := Lib.hid (by rw [HF.out d hdF, ← HC.out, hd3]; rfl)
              have hlen : (C.take (2 + 2)).length ≤ 6 := by rw [List.length_take]; omega
              clear hd3
              go_wp2_with fail
              go_roundw
              case rel =>
                refine ⟨3, by omega, by go_num, ?_, hb.alloc hb.size _⟩
                rw [HN.out]
                rfl
              case measure => simp [intOf]
        · go_wp2_with fail
          go_loop [8, 9] (fun u8 u9 => ∃ t : Nat, u9 = .int .i64 t ∧ (t = 0 ∧ u8 = .int .u32 4096 ∨ t = 1 ∧ u8 = .int .u32 256 ∨ t = 2 ∧ u8 = .int .u32 16 ∨ t = 3 ∧ u8 = .int .u32 1)) (fun _ u9 => 4 - (intOf u9).toNat)
          case atStart => exact ⟨0, rfl, .inl ⟨rfl, rfl⟩⟩
          case round =>
            obtain ⟨t, rfl, ht⟩ := hrel
            rcases ht with ⟨rfl, rfl⟩ | ⟨rfl, rfl⟩ | ⟨rfl, rfl⟩ | ⟨rfl, rfl⟩
            · go_wp2_with fail
              go_round
              case rel => exact ⟨1, by go_num, .inr (.inl ⟨rfl, by go_num⟩)⟩
              case measure => simp [intOf]
            · go_wp2_with fail
              go_round
              case rel => exact ⟨2, by go_num, .inr (.inr (.inl ⟨rfl, by go_num⟩))⟩
              case measure => simp [intOf]
            · go_wp2_with fail
              go_round
              case rel => exact ⟨3, by go_num, .inr (.inr (.inr (⟨rfl, by go_num⟩)))⟩
              case measure => simp [intOf]
            · have hd : ∃ d : Nat, n % 16 = (d : Int) ∧ d < 16 ∧ d = n.toNat % 16 := ⟨(n % 16).toNat, by omega, by omega, by omega⟩
              obtain ⟨d, hd1, hd2, hd3⟩ := hd
              have hdF : d < FB.size := by omega
              have hcv := bytes_row wr [((FB[d]'hdF).toNat : Int)]
              simp only [List.length_cons, List.length_nil, List.map_cons, List.map_nil, Nat.zero_add] at hcv
              have HN : Hid (C.take (2 + 4) = C.take (2 + 3) ++ [FB[d]'hdF]) := Lib.hid (by rw [HF.out d hdF, ← HC.out, hd3]; rfl)
              have hlen : (C.take (2 + 3)).length ≤ 6 := by rw [List.length_take]; omega
              clear hd3
              go_wp2_with fail
              go_roundw
              case rel =>
                refine ⟨4, by omega, by go_num, ?_, hb.alloc hb.size _⟩
                rw [HN.out]
                rfl
              case measure => simp [intOf]
      · have HE : Hid (C.take (2 + j) = C) := Lib.hid (List.take_of_length_le (by omega))
        go_wp2_with fail
        go_ret
        exact ⟨ret_list HE.out, hb⟩
end Go.Proofs.YtnpjbckobokhlaaDoor
