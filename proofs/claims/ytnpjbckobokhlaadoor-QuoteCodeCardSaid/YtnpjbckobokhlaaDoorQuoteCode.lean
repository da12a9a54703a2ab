/-
  The walk of the statement QuoteCode: it returns true.
-/
import Derived.Test.YtnpjbckobokhlaaDoorQCode
namespace Go.Proofs.YtnpjbckobokhlaaDoor
open Go.RowKit Np Up Qp

theorem model_enc {n : Nat} (h : ru n) : Utf8.encode (n : Int) = ⟨(Lib.encodeRune (n : Int)).toArray⟩ := by
  unfold Utf8.encode
  have hv : Utf8.valid (n : Int) = true := (valid_iff n).2 h
  simp only [hv, if_true, Int.toNat_natCast]
  unfold ru at h
  by_cases c1 : n < 128
  · rw [if_pos c1, enc_one c1]
  by_cases c2 : n < 2048
  · rw [if_neg c1, if_pos c2, enc_two (by omega) c2]
  by_cases c3 : n < 65536
  · rw [if_neg c1, if_neg c2, if_pos c3, enc_three (by omega) c3 (by omega)]
  · rw [if_neg c1, if_neg c2, if_neg c3, enc_four (by omega) (by omega)]
theorem hv_fg : ∀ (g : Bool) (d : Fin 16), hv (fg g d.val) = some d.val := by decide +kernel
theorem hv_fg' (g : Bool) {d : Nat} (h : d < 16) : hv (fg g d) = some d := hv_fg g ⟨d, h⟩
theorem un_code {n : Nat} (g : Bool) (t : List UInt8) (h : n < 65536) : un (codeL n g ++ t) = some n := by
  have hc : 6 ≤ (codeL n g ++ t).length ∧ bt (codeL n g ++ t) 0 = 92 ∧ bt (codeL n g ++ t) 1 = 117 := ⟨by rw [List.length_append]; simp [codeL], rfl, rfl⟩
  rw [un, if_pos hc]
  show hvs [fg g (n / 4096 % 16), fg g (n / 256 % 16), fg g (n / 16 % 16), fg g (n % 16)] 0 = some n
  rw [hvs_step (hv_fg' g (by omega)), hvs_step (hv_fg' g (by omega)), hvs_step (hv_fg' g (by omega)), hvs_step (hv_fg' g (by omega)), hvs]
  congr 1
  omega
theorem un_mark (t : List UInt8) : un (34 :: t) = none := by
  rw [un, if_neg]
  intro h
  have : bt (34 :: t) 0 = 34 := rfl
  omega
theorem es_code {n : Nat} (g : Bool) (t : List UInt8) (h : n < 65536) : es (codeL n g ++ t) = if n < 55296 ∨ 57344 ≤ n then some (n, 6) else
    match un t with
    | none => none
    | some b => if n < 56320 ∧ 56320 ≤ b ∧ b < 57344 then some (pr n b, 12) else none := by
  have h2 : ¬ (codeL n g ++ t).length < 2 := by rw [List.length_append]; simp [codeL]; omega
  have h1 : bt (codeL n g ++ t) 1 = 117 := rfl
  rw [es, if_neg h2, h1, show sh 117 = none from rfl, un_code g t h]
  rfl
theorem code_read {n : Nat} (g : Bool) (h : n < 65536) (hr : n < 55296 ∨ 57344 ≤ n) : unqs (34 :: (codeL n g ++ [34])) = (Lib.encodeRune (n : Int), 8, 0) := by
  have hb : bt (34 :: (codeL n g ++ [34])) 0 = 34 := rfl
  have hne : codeL n g ++ [34] ≠ [] := by simp
  have ht : tk (codeL n g ++ [34]) = some (Lib.encodeRune (n : Int), 6) := by
    have h0 : bt (codeL n g ++ [34]) 0 = 92 := rfl
    rw [tk, if_pos h0, es_code g _ h, if_pos hr]; rfl
  have hb0 : bt (codeL n g ++ [34]) 0 ≠ 34 := by show (92 : Nat) ≠ 34; decide
  rw [unqs, if_pos hb, List.drop_one, List.tail_cons, unq_step _ _ hne hb0 ht]
  show unq ([] ++ Lib.encodeRune (n : Int)) [34] 7 = _
  rw [unq_mark _ _ rfl, List.nil_append]
theorem code_half {n : Nat} (g : Bool) (h0 : 55296 ≤ n) (h1 : n < 57344) : unqs (34 :: (codeL n g ++ [34])) = ([], 1, 1) := by
  have hb : bt (34 :: (codeL n g ++ [34])) 0 = 34 := rfl
  have ht : tk (codeL n g ++ [34]) = none := by
    have h2 : bt (codeL n g ++ [34]) 0 = 92 := rfl
    rw [tk, if_pos h2, es_code g _ (by omega), if_neg (by omega), un_mark]; rfl
  have hb0 : bt (codeL n g ++ [34]) 0 ≠ 34 := by show (92 : Nat) ≠ 34; decide
  rw [unqs, if_pos hb, List.drop_one, List.tail_cons, unq_bad _ _ hb0 ht]
theorem code_pair {n : Nat} (g : Bool) (h0 : 65536 ≤ n) (h1 : n ≤ 1114111) : unqs (34 :: (codeL (55296 + (n - 65536) / 1024) g ++ (codeL (56320 + (n - 65536) % 1024) g ++ [34]))) = (Lib.encodeRune (n : Int), 14, 0) := by
  generalize ha : 55296 + (n - 65536) / 1024 = a
  generalize hb' : 56320 + (n - 65536) % 1024 = b
  have hb : bt (34 :: (codeL a g ++ (codeL b g ++ [34]))) 0 = 34 := rfl
  have hne : codeL a g ++ (codeL b g ++ [34]) ≠ [] := by simp
  have hp : pr a b = n := by unfold pr; omega
  have ht : tk (codeL a g ++ (codeL b g ++ [34])) = some (Lib.encodeRune (n : Int), 12) := by
    have h2 : bt (codeL a g ++ (codeL b g ++ [34])) 0 = 92 := rfl
    rw [tk, if_pos h2, es_code g _ (by omega), if_neg (by omega), un_code g _ (by omega)]
    simp only
    rw [if_pos (by omega), hp]
    rfl
  have hb0 : bt (codeL a g ++ (codeL b g ++ [34])) 0 ≠ 34 := by show (92 : Nat) ≠ 34; decide
  rw [unqs, if_pos hb, List.drop_one, List.tail_cons, unq_step _ _ hne hb0 ht]
  show unq ([] ++ Lib.encodeRune (n : Int)) [34] 13 = _
  rw [unq_mark _ _ rfl, List.nil_append]

set_option maxRecDepth 100000 in
set_option maxHeartbeats 8000000 in
theorem quoteCode_any (n : Int) (g : Bool) (w : World) (hE : Er w) (h0 : 0 ≤ n) (h1 : n ≤ 4294967295) :
    Calls Tryd.prog 7 #[.int .u32 n, .bool g] w fun e w' => e = .returned (.bool true) ∧ Below w.heap.size w w' := by
  by_cases hn : n ≤ 1114111
  · obtain ⟨k, rfl⟩ := Int.eq_ofNat_of_zero_le h0
    have hcode := code_any (k : Int) g
    rw [Int.toNat_natCast] at hcode
    have hl : ∀ m, (codeL m g).length = 6 := fun m => rfl
    by_cases hbig : 65535 < k
    · have henc := model_enc (n := k) (by unfold ru; omega)
      have HP := Lib.hid (code_pair g (show 65536 ≤ k by omega) (show k ≤ 1114111 by omega))
      have hca := fun w => code_any (55296 + ((k : Int) - 65536) / 1024) g w (by omega) (by omega)
      have hcb := fun w => code_any (56320 + ((k : Int) - 65536) % 1024) g w (by omega) (by omega)
      rw [show (55296 + ((k : Int) - 65536) / 1024).toNat = 55296 + (k - 65536) / 1024 by omega] at hca
      rw [show (56320 + ((k : Int) - 65536) % 1024).toNat = 56320 + (k - 65536) % 1024 by omega] at hcb
      generalize h1L : codeL (55296 + (k - 65536) / 1024) g = L1 at hca HP
      generalize h2L : codeL (56320 + (k - 65536) % 1024) g = L2 at hcb HP
      have hl1 : L1.length = 6 := by rw [← h1L]; rfl
      have hl2 : L2.length = 6 := by rw [← h2L]; rfl
      generalize h3L : codeL k g = L0 at hcode
      have hl0 : L0.length = 6 := by rw [← h3L]; rfl
      have HCA := Lib.hid hca
      have HCB := Lib.hid hcb
      have HC0 := Lib.hid hcode
      obtain ⟨n, hnk⟩ : ∃ n : Int, n = (k : Int) := ⟨_, rfl⟩
      rw [← hnk] at henc HCA HCB HC0 hn ⊢
      generalize hS : Lib.encodeRune n = S at henc
      have HS : Hid (Lib.encodeRune (k : Int) = S) := Lib.hid (by rw [← hnk]; exact hS)
      have hb1 : 65535 < n := by omega
      have hSl : S.length ≤ 4 := by rw [← hS]; exact enc_max n
      clear hca hcb hcode h1L h2L h3L hl hnk hS h0 h1 hbig
      go_enter Tryd.func7, Tryd.ntmps7
      go_wp2_with fail
      refine (HC0.out _ (by omega) hn).mono ?_
      rintro e w1 ⟨rfl, b1⟩
      go_wp2_with fail
      refine (HCA.out _).mono ?_
      rintro e w2 ⟨rfl, b2⟩
      go_wp2_with fail
      refine (HCB.out _).mono ?_
      rintro e w3 ⟨rfl, b3⟩
      have hB2 := b1.trans (b2.mono b1.size)
      have hB3 := hB2.trans (b3.mono hB2.size)
      clear b1 b2 b3 hB2
      go_wp2_with fail
      have HD2 : Hid ((ByteArray.mk #[34] ++ ByteArray.mk L1.toArray ++ ByteArray.mk L2.toArray ++ ByteArray.mk #[34]).data.toList = 34 :: (L1 ++ (L2 ++ [34]))) := Lib.hid (by simp)
      have hsz : (ByteArray.mk #[34] ++ ByteArray.mk L1.toArray ++ ByteArray.mk L2.toArray ++ ByteArray.mk #[34]).size ≤ 4096 := by
        rw [ByteArray.size_append, ByteArray.size_append, ByteArray.size_append, mk_size, mk_size]
        show 1 + L1.length + L2.length + 1 ≤ 4096
        omega
      refine (unquote_any _ _ hsz (hE.below hB3)).mono ?_
      rintro e w4 ⟨rfl, b4⟩
      rw [HD2.out, HP.out, HS.out]
      have hB4 := hB3.trans (b4.mono hB3.size)
      clear b4 hB3 hsz
      go_wp2_with fail
      refine (alive_any _ (hE.below hB4)).mono ?_
      rintro e w5 ⟨rfl, b5⟩
      go_wp2_with fail
      all_goals go_ret
      all_goals exact ⟨ret_bool (by simp), hB4.trans (b5.mono hB4.size)⟩
    · by_cases hhalf : 55296 ≤ k ∧ k < 57344
      · have HP := Lib.hid (code_half g hhalf.1 hhalf.2)
        generalize h3L : codeL k g = L0 at hcode HP
        have hl0 : L0.length = 6 := by rw [← h3L]; rfl
        have HC0 := Lib.hid hcode
        obtain ⟨n, hnk⟩ : ∃ n : Int, n = (k : Int) := ⟨_, rfl⟩
        rw [← hnk] at HC0 hn ⊢
        have hn0 : 0 ≤ n := by omega
        have hb1 : n ≤ 65535 := by omega
        have hb2 : 55296 ≤ n := by omega
        have hb3 : n < 57344 := by omega
        have HEL := Lib.hid (fun (i : Int) => encode_size_le i)
        clear hcode h3L hl hnk h0 h1 hbig hhalf
        go_enter Tryd.func7, Tryd.ntmps7
        go_wp2_with fail
        refine (HC0.out _ (by omega) hn).mono ?_
        rintro e w1 ⟨rfl, b1⟩
        go_wp2_with fail
        have HD2 : Hid ((ByteArray.mk #[34] ++ ByteArray.mk L0.toArray ++ ByteArray.mk #[34]).data.toList = 34 :: (L0 ++ [34])) := Lib.hid (by simp)
        have hsz : (ByteArray.mk #[34] ++ ByteArray.mk L0.toArray ++ ByteArray.mk #[34]).size ≤ 4096 := by
          rw [ByteArray.size_append, ByteArray.size_append, mk_size]
          show 1 + L0.length + 1 ≤ 4096
          omega
        refine (unquote_any _ _ hsz (hE.below b1)).mono ?_
        rintro e w4 ⟨rfl, b4⟩
        rw [HD2.out, HP.out]
        have hB4 := b1.trans (b4.mono b1.size)
        clear b4 b1 hsz
        go_wp2_with fail
        refine (alive_any _ (hE.below hB4)).mono ?_
        rintro e w5 ⟨rfl, b5⟩
        go_wp2_with fail
        all_goals go_ret
        all_goals exact ⟨ret_bool (by simp), hB4.trans (b5.mono hB4.size)⟩
      · have hr : k < 55296 ∨ 57344 ≤ k := by omega
        have henc := model_enc (n := k) (by unfold ru; omega)
        have HP := Lib.hid (code_read g (show k < 65536 by omega) hr)
        generalize h3L : codeL k g = L0 at hcode HP
        have hl0 : L0.length = 6 := by rw [← h3L]; rfl
        have HC0 := Lib.hid hcode
        obtain ⟨n, hnk⟩ : ∃ n : Int, n = (k : Int) := ⟨_, rfl⟩
        rw [← hnk] at henc HC0 hn ⊢
        generalize hS : Lib.encodeRune n = S at henc
        have HS : Hid (Lib.encodeRune (k : Int) = S) := Lib.hid (by rw [← hnk]; exact hS)
        have hSl : S.length ≤ 4 := by rw [← hS]; exact enc_max n
        have hn0 : 0 ≤ n := by omega
        have hb1 : n ≤ 65535 := by omega
        have hnr : n < 55296 ∨ 57344 ≤ n := by omega
        clear hcode h3L hl hnk hS h0 h1 hbig hhalf hr
        rcases hnr with hnr | hnr
        all_goals
          go_enter Tryd.func7, Tryd.ntmps7
          go_wp2_with fail
          refine (HC0.out _ (by omega) hn).mono ?_
          rintro e w1 ⟨rfl, b1⟩
          go_wp2_with fail
          have HD2 : Hid ((ByteArray.mk #[34] ++ ByteArray.mk L0.toArray ++ ByteArray.mk #[34]).data.toList = 34 :: (L0 ++ [34])) := Lib.hid (by simp)
          have hsz : (ByteArray.mk #[34] ++ ByteArray.mk L0.toArray ++ ByteArray.mk #[34]).size ≤ 4096 := by
            rw [ByteArray.size_append, ByteArray.size_append, mk_size]
            show 1 + L0.length + 1 ≤ 4096
            omega
          refine (unquote_any _ _ hsz (hE.below b1)).mono ?_
          rintro e w4 ⟨rfl, b4⟩
          rw [HD2.out, HP.out, HS.out]
          have hB4 := b1.trans (b4.mono b1.size)
          clear b4 b1 hsz
          go_wp2_with fail
          refine (alive_any _ (hE.below hB4)).mono ?_
          rintro e w5 ⟨rfl, b5⟩
          go_wp2_with fail
          all_goals go_ret
          all_goals exact ⟨ret_bool (by simp), hB4.trans (b5.mono hB4.size)⟩
  · go_enter Tryd.func7, Tryd.ntmps7
    go_wp2_with (go_at_call 8; refine (alive_any _ hE).mono ?_; rintro e1 w1 ⟨rfl, b1⟩)
    all_goals go_ret
    all_goals exact ⟨rfl, b1⟩
end Go.Proofs.YtnpjbckobokhlaaDoor
