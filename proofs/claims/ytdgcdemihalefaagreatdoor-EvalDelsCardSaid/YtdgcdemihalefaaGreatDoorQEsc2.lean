/-
  What quote's escape is.
-/
import Derived.Test.YtdgcdemihalefaaGreatDoorQEsc
import Derived.Test.YtdgcdemihalefaaGreatDoorQMap
namespace Go.Proofs.YtdgcdemihalefaaGreatDoor
open Go.RowKit Go.Maps Np Up Qp

def escV : Option (Nat × Nat) → Value
  | some x => .tuple #[.int .i32 x.1, .int .i64 x.2]
  | none => .tuple #[.int .i32 0, .int .i64 0]
theorem blF_sh (c : Nat) : blF (c : Int) = (sh c).map fun x : Nat => (x : Int) := by
  by_cases h0 : c = 34
  · subst h0; rfl
  by_cases h1 : c = 92
  · subst h1; rfl
  by_cases h2 : c = 47
  · subst h2; rfl
  by_cases h3 : c = 98
  · subst h3; rfl
  by_cases h4 : c = 102
  · subst h4; rfl
  by_cases h5 : c = 110
  · subst h5; rfl
  by_cases h6 : c = 114
  · subst h6; rfl
  by_cases h7 : c = 116
  · subst h7; rfl
  have k0 : ¬ (c : Int) = 34 := by omega
  have k1 : ¬ (c : Int) = 92 := by omega
  have k2 : ¬ (c : Int) = 47 := by omega
  have k3 : ¬ (c : Int) = 98 := by omega
  have k4 : ¬ (c : Int) = 102 := by omega
  have k5 : ¬ (c : Int) = 110 := by omega
  have k6 : ¬ (c : Int) = 114 := by omega
  have k7 : ¬ (c : Int) = 116 := by omega
  rw [blF, sh, if_neg k0, if_neg k1, if_neg k2, if_neg k3, if_neg k4, if_neg k5, if_neg k6, if_neg k7, if_neg h0, if_neg h1, if_neg h2, if_neg h3, if_neg h4, if_neg h5, if_neg h6, if_neg h7]
  rfl
theorem i32_wf {x : Int} (h0 : -2147483648 ≤ x) (h1 : x ≤ 2147483647) : (Lit.int .i32 x).wf = true := by
  simp only [Lit.wf, IntKind.min, IntKind.max, IntKind.signed, IntKind.bits, Bool.and_eq_true, decide_eq_true_eq, if_true]
  omega
/-- A look-up that finds. -/
theorem Vw.hit {D : DataW Unit} {f : Int → Option Int} (h : Vw D f) {r v : Int} (hf : f r = some v) {c : Int} (hat : D.atKey (key r) (.lit (.int .i32 0)) = .lit (.int .i32 c)) : c = v := by
  have h2 := (h.2 r).2 v hf
  rw [hat] at h2
  injection h2 with h2
  injection h2

set_option maxRecDepth 100000 in
set_option maxHeartbeats 4000000 in
theorem escape_any (b n : Nat) (s : ByteArray) (w : World) (hs : s.size ≤ 1073741824) (hE : Er w) (hM : MapAt w b n blF) :
    Calls Tryz.prog 281 #[.map (some b), .string s] w fun e w' => e = .returned (escV (es s.data.toList)) ∧ Below w.heap.size w w' := by
  have hB : Below w.heap.size w w := Below.refl _ _
  obtain ⟨D, hown, hV⟩ := hM
  by_cases h2 : 2 ≤ s.size
  · have hb1 : bt s.data.toList 1 = s[1].toNat := bt_at s 1 (by omega)
    have hln : ¬ s.data.toList.length < 2 := by rw [size_toList]; omega
    have hwf : (Lit.int .i32 (s[1].toNat : Int)).wf = true := i32_wf (by omega) (by have := s[1].toNat_lt; omega)
    have hc256 := s[1].toNat_lt
    have hw32 : wrap32 (s[1].toNat : Int) = (s[1].toNat : Int) := by unfold wrap32; omega
    have hbl := blF_sh s[1].toNat
    have hhas := (hV.2 (s[1].toNat : Int)).1
    cases hsh : sh s[1].toNat with
    | some x =>
      have HE : Hid (es s.data.toList = some (x, 2)) := Lib.hid (by rw [es, if_neg hln, hb1, hsh])
      rw [hsh] at hbl
      rw [hbl] at hhas
      have HH : Hid (has D (key (s[1].toNat : Int)) = true) := Lib.hid hhas
      have HV := Lib.hid hV
      have HBL := Lib.hid hbl
      clear hb1 hln hsh hbl hhas hV
      go_enter Tryz.func281, Tryz.ntmps281
      go_wp2_with (first
        | (at_lookup; refine wpList_lookup_own_ok_int _ rfl _ _ 245 rfl 21 21 .i32 lawI Tryz.underlying245 Tryz.underlying21 (zeroI _) b n D rfl hown _ _ rfl (keyOf_int_mk Tryz.underlying21 hwf) ?_; intro c hat hwc; rw [HH.out]; obtain rfl := HV.out.hit HBL.out hat; clear hat hwc)
        | go_in)
      all_goals go_ret2
      all_goals exact ⟨by rw [HE.out]; rfl, hB⟩
    | none =>
      have HES : Hid (es s.data.toList = match un s.data.toList with
        | none => none
        | some a => if a < 55296 ∨ 57344 ≤ a then some (a, 6) else
          match un (s.data.toList.drop 6) with
          | none => none
          | some b => if a < 56320 ∧ 56320 ≤ b ∧ b < 57344 then some (pr a b, 12) else none) := Lib.hid (by rw [es, if_neg hln, hb1, hsh]; rfl)
      rw [hsh] at hbl
      rw [hbl] at hhas
      have HH : Hid (has D (key (s[1].toNat : Int)) = false) := Lib.hid hhas
      clear hb1 hln hsh hbl hhas hV
      cases hu : un s.data.toList with
      | none =>
        have HE2 : Hid (es s.data.toList = none) := Lib.hid (by rw [HES.out, hu])
        have HU := Lib.hid hu
        clear hu HES
        go_enter Tryz.func281, Tryz.ntmps281
        go_wp2_with (first
          | (at_lookup; refine wpList_lookup_own_ok_int _ rfl _ _ 245 rfl 21 21 .i32 lawI Tryz.underlying245 Tryz.underlying21 (zeroI _) b n D rfl hown _ _ rfl (keyOf_int_mk Tryz.underlying21 hwf) ?_; intro c hat hwc; rw [HH.out]; clear hat hwc)
          | (go_at_call 301; refine (number_any s _ hs hE).mono ?_; rintro e w1 ⟨rfl, hb⟩; rw [HU.out, numV])
          | go_in)
        all_goals go_ret2
        all_goals exact ⟨by rw [HE2.out]; rfl, hb⟩
      | some a =>
        obtain ⟨u1, u2, -, -, -⟩ := un_some hu
        rw [size_toList] at u1
        have HES1 := HES.out
        rw [hu] at HES1
        obtain ⟨x, hx⟩ : ∃ x : Int, x = (a : Int) := ⟨_, rfl⟩
        have HU : Hid (numV (un s.data.toList) = .tuple #[.int .i32 x, .bool true]) := Lib.hid (by rw [hu, hx]; rfl)
        have hx0 : 0 ≤ x := by omega
        have hx1 : x < 65536 := by omega
        have HD6 : Hid ((s.extract 6 s.size).data.toList = s.data.toList.drop 6) := Lib.hid (by
          have h := Lib.extract_toList s 6 s.size
          rw [ByteArray.toList_eq] at h
          rw [h, List.take_of_length_le (by simp)])
        have hs6 : (s.extract 6 s.size).size ≤ 1073741824 := by rw [ByteArray.size_extract]; omega
        clear hu HES
        by_cases hr : a < 55296 ∨ 57344 ≤ a
        · have HE2 : Hid (es s.data.toList = some (a, 6)) := Lib.hid (HES1.trans (if_pos hr))
          have hsur : (decide (x < 55296) || decide ((57344 : Int) ≤ x)) = true := by
            rw [Bool.or_eq_true, decide_eq_true_eq, decide_eq_true_eq]; omega
          have HX := Lib.hid hx
          clear HES1 hr hx u2
          go_enter Tryz.func281, Tryz.ntmps281
          go_wp2_with (first
            | (at_lookup; refine wpList_lookup_own_ok_int _ rfl _ _ 245 rfl 21 21 .i32 lawI Tryz.underlying245 Tryz.underlying21 (zeroI _) b n D rfl hown _ _ rfl (keyOf_int_mk Tryz.underlying21 hwf) ?_; intro c hat hwc; rw [HH.out]; clear hat hwc)
            | (go_at_call 301; refine (number_any s _ hs hE).mono ?_; rintro e w1 ⟨rfl, hb⟩; rw [HU.out])
            | go_in)
          all_goals go_ret2
          all_goals exact ⟨by rw [HE2.out, HX.out]; rfl, hb⟩
        · have HER := HES1.trans (if_neg hr)
          have hsur : (decide (x < 55296) || decide ((57344 : Int) ≤ x)) = false := by
            rw [Bool.or_eq_false_iff, decide_eq_false_iff_not, decide_eq_false_iff_not]; omega
          have hx2 : 55296 ≤ x := by omega
          have hx3 : x < 57344 := by omega
          cases hu2 : un (s.data.toList.drop 6) with
          | none =>
            have HE2 : Hid (es s.data.toList = none) := Lib.hid (by rw [HER, hu2])
            have HU2 : Hid (numV (un (s.extract 6 s.size).data.toList) = .tuple #[.int .i32 0, .bool false]) := Lib.hid (by rw [HD6.out, hu2]; rfl)
            clear HES1 HER hr hx u2 hu2 HD6
            go_enter Tryz.func281, Tryz.ntmps281
            go_wp2_with (at_lookup; refine wpList_lookup_own_ok_int _ rfl _ _ 245 rfl 21 21 .i32 lawI Tryz.underlying245 Tryz.underlying21 (zeroI _) b n D rfl hown _ _ rfl (keyOf_int_mk Tryz.underlying21 hwf) ?_; intro c hat hwc; rw [HH.out]; clear hat hwc)
            refine (number_any s _ hs hE).mono ?_
            rintro e w1 ⟨rfl, hb⟩
            rw [HU.out]
            go_wp2_with fail
            refine (number_any _ _ hs6 (hE.below hb)).mono ?_
            rintro e w2 ⟨rfl, hb2⟩
            rw [HU2.out]
            go_wp2_with fail
            all_goals go_ret2
            all_goals exact ⟨by rw [HE2.out]; rfl, hb.trans (hb2.mono hb.size)⟩
          | some y0 =>
            obtain ⟨v1, v2, -, -, -⟩ := un_some hu2
            have HE3 := HER
            rw [hu2] at HE3
            obtain ⟨y, hy⟩ : ∃ y : Int, y = (y0 : Int) := ⟨_, rfl⟩
            have HU2 : Hid (numV (un (s.extract 6 s.size).data.toList) = .tuple #[.int .i32 y, .bool true]) := Lib.hid (by rw [HD6.out, hu2, hy]; rfl)
            have hy0 : 0 ≤ y := by omega
            have hy1 : y < 65536 := by omega
            clear HD6
            by_cases hok : a < 56320 ∧ 56320 ≤ y0 ∧ y0 < 57344
            · have HE2 : Hid (es s.data.toList = some (pr a y0, 12)) := Lib.hid (HE3.trans (if_pos hok))
              have HXA : Hid (((pr a y0 : Nat) : Int) = 65536 + (x - 55296) * 1024 + y - 56320) := Lib.hid (by unfold pr; omega)
              have o1 : x < 56320 := by omega
              have o2 : 56320 ≤ y := by omega
              have o3 : y < 57344 := by omega
              clear HES1 HER hr hx u2 hu2 HE3 hok hy v2
              go_enter Tryz.func281, Tryz.ntmps281
              go_wp2_with (at_lookup; refine wpList_lookup_own_ok_int _ rfl _ _ 245 rfl 21 21 .i32 lawI Tryz.underlying245 Tryz.underlying21 (zeroI _) b n D rfl hown _ _ rfl (keyOf_int_mk Tryz.underlying21 hwf) ?_; intro c hat hwc; rw [HH.out]; clear hat hwc)
              refine (number_any s _ hs hE).mono ?_
              rintro e w1 ⟨rfl, hb⟩
              rw [HU.out]
              go_wp2_with fail
              refine (number_any _ _ hs6 (hE.below hb)).mono ?_
              rintro e w2 ⟨rfl, hb2⟩
              rw [HU2.out]
              go_wp2_with fail
              all_goals go_ret2
              all_goals (refine ⟨?_, hb.trans (hb2.mono hb.size)⟩)
              all_goals (rw [HE2.out])
              all_goals (show _ = Ending.returned (.tuple #[.int .i32 (pr a y0 : Nat), .int .i64 12]))
              all_goals (rw [HXA.out])
              all_goals rfl
            · have HE2 : Hid (es s.data.toList = none) := Lib.hid (HE3.trans (if_neg hok))
              have hor : (56320 ≤ x ∨ y < 56320) ∨ 57344 ≤ y := by omega
              have HOR := Lib.hid hor
              clear HES1 HER hr hx u2 hu2 HE3 hok hy v2 hor
              go_enter Tryz.func281, Tryz.ntmps281
              go_wp2_with (at_lookup; refine wpList_lookup_own_ok_int _ rfl _ _ 245 rfl 21 21 .i32 lawI Tryz.underlying245 Tryz.underlying21 (zeroI _) b n D rfl hown _ _ rfl (keyOf_int_mk Tryz.underlying21 hwf) ?_; intro c hat hwc; rw [HH.out]; clear hat hwc)
              refine (number_any s _ hs hE).mono ?_
              rintro e w1 ⟨rfl, hb⟩
              rw [HU.out]
              go_wp2_with fail
              refine (number_any _ _ hs6 (hE.below hb)).mono ?_
              rintro e w2 ⟨rfl, hb2⟩
              rw [HU2.out]
              go_wp2_with fail
              all_goals go_ret2
              all_goals first
                | exact ⟨by rw [HE2.out]; rfl, hb.trans (hb2.mono hb.size)⟩
                | (exfalso; have := HOR.out; go_light; simp at *; omega)
  · have HE : Hid (es s.data.toList = none) := Lib.hid (by rw [es, if_pos (by rw [size_toList]; omega)])
    go_enter Tryz.func281, Tryz.ntmps281
    go_wp2
    all_goals go_ret2
    all_goals exact ⟨by rw [HE.out]; rfl, hB⟩
end Go.Proofs.YtdgcdemihalefaaGreatDoor
