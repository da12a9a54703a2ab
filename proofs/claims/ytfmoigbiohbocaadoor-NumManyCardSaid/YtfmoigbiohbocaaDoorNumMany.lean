/-
  The walk of the statement NumMany: it returns true.
-/
import Derived.Test.YtfmoigbiohbocaaDoorNumEq
import Derived.Test.YtfmoigbiohbocaaDoorNumPlain9
namespace Go.Proofs.YtfmoigbiohbocaaDoor
open Go.RowKit Np

theorem noughts_ahead (i : Nat) (l : List UInt8) : ByteArray.mk #[48] ++ ByteArray.mk (noughts i ++ l).toArray = ByteArray.mk (noughts (i + 1) ++ l).toArray :=
  ByteArray.ext (by simp [noughts, List.replicate_succ])
theorem noughts_behind (i : Nat) (l : List UInt8) : ByteArray.mk (l ++ noughts i).toArray ++ ByteArray.mk #[48] = ByteArray.mk (l ++ noughts (i + 1)).toArray :=
  ByteArray.ext (by simp [noughts, List.replicate_succ'])
theorem noughts_len (i : Nat) : (noughts i).length = i := by simp [noughts]

set_option maxRecDepth 100000 in
set_option maxHeartbeats 4000000 in
theorem numMany_any (s : ByteArray) (e u v : Int) (w : World) (hT : PowTab w) (hs : s.size ≤ maxLen) (he0 : -9223372036854775808 ≤ e) (he1 : e ≤ 9223372036854775807) (hu : 0 ≤ u ∧ u ≤ 255) (hv : 0 ≤ v ∧ v ≤ 255) :
    Calls Tryd.prog 8 #[.string s, .int .i64 e, .agg #[.int .u8 u, .int .u8 v]] w fun x w' => x = .returned (.bool true) ∧ Below w.heap.size w w' := by
  have hB : Below w.heap.size w w := Below.refl _ _
  have hB0 := hB.alloc (Nat.le_refl _) (.cells #[.int .u8 u, .int .u8 v] 38)
  have hT0 := hT.below hB0
  unfold maxLen at hs
  obtain ⟨hu0, hu1⟩ := hu
  obtain ⟨hv0, hv1⟩ := hv
  by_cases hl : s.size ≤ 100 ∧ -1500 ≤ e ∧ e ≤ 1500
  · obtain ⟨hl1, hl2, hl3⟩ := hl
    have d1 : decide (100 < (s.size : Int)) = false := by simp; omega
    have d2 : decide (e < -1500) = false := by simp; omega
    have d3 : decide (1500 < e) = false := by simp; omega
    have hsm : s.size ≤ maxLen := by unfold maxLen; omega
    go_enter Tryd.func8, Tryd.ntmps8
    go_wp2_with fail
    have H1 : Hid (∀ n : Nat, n ≤ 20 → (noughts n ++ s.data.toList).length ≤ 120) := Lib.hid (fun n hn => by rw [List.length_append, noughts_len, size_toList]; omega)
    go_loop [7, 8] (fun a b => ∃ i : Nat, (i : Int) ≤ u % 20 ∧ b = .int .i64 i ∧ a = .string ⟨(noughts i ++ s.data.toList).toArray⟩) (fun _ b => (u % 20).toNat - (intOf b).toNat)
    case atStart => exact ⟨0, by omega, rfl, by rfl⟩
    case round =>
      obtain ⟨i, hi, rfl, rfl⟩ := hrel
      by_cases hlt : (i : Int) < u % 20
      · have hln := H1.out i (by omega)
        have HN := Lib.hid (noughts_ahead i s.data.toList)
        generalize noughts i ++ s.data.toList = q at *
        go_wp2_with fail
        go_round
        case rel => exact ⟨i + 1, by omega, by go_num, congrArg Value.string HN.out⟩
        case measure => simp [intOf]; omega
      · have hiu : (i : Int) = u % 20 := by omega
        have HI := Lib.hid hiu
        clear hiu
        have hln := H1.out i (by omega)
        have HM := Lib.hid (fun j : Nat => mk_many s.data.toList e i j)
        clear H1
        generalize noughts i ++ s.data.toList = q at *
        go_wp2_with fail
        clear hlt hi
        go_loop [7, 9] (fun a b => ∃ j : Nat, (j : Int) ≤ v % 20 ∧ b = .int .i64 j ∧ a = .string ⟨(q ++ noughts j).toArray⟩) (fun _ b => (v % 20).toNat - (intOf b).toNat)
        case atStart => exact ⟨0, by omega, rfl, by simp [noughts]⟩
        case round =>
          obtain ⟨j, hj, rfl, rfl⟩ := hrel
          have hln2 : (q ++ noughts j).length ≤ 140 := by rw [List.length_append, noughts_len]; omega
          by_cases hlt : (j : Int) < v % 20
          · have HN := Lib.hid (noughts_behind j q)
            generalize q ++ noughts j = q2 at *
            go_wp2_with fail
            go_round
            case rel => exact ⟨j + 1, by omega, by go_num, congrArg Value.string HN.out⟩
            case measure => simp [intOf]; omega
          · have hjv : v % 20 = (j : Int) := by omega
            have HJ := Lib.hid hjv
            have HM2 := Lib.hid (HM.out j)
            clear hjv HM
            generalize q ++ noughts j = q2 at *
            have HPl := Lib.hid (@read_plain s.data.toList)
            have HAr := Lib.hid (mk_arg false s.data.toList 0)
            go_wp2_with fail
            refine (make_any false s e _ hsm).mono ?_
            rintro x w1 ⟨rfl, hb1⟩
            have hcb : w1.cell? ⟨w.heap.size, 1, none⟩ = some (.int .u8 v) := by rw [hb1.cell (p := ⟨w.heap.size, 1, none⟩) (by simp)]; simp
            have hz1 : w.heap.size < w1.heap.size := by have := hb1.size; simp at this; omega
            have hB1 := hB0.trans (hb1.mono hB0.size)
            clear hb1
            generalize hmk : mk false s.data.toList e = r
            have HK := Lib.hid hmk; clear hmk
            obtain ⟨⟨a0, a1, a2, a3, a4, a5⟩, c1⟩ := r
            simp only [ndv]
            have HX1 := Lib.hid (At6.new w1 (.int .i64 a0) (.int .i64 a1) (.string ⟨a2.toArray⟩) (.string ⟨a3.toArray⟩) (.bool a4) (.int .i64 a5) 23)
            have hB2 := hB1.alloc hB1.size (.cells #[.int .i64 a0, .int .i64 a1, .string ⟨a2.toArray⟩, .string ⟨a3.toArray⟩, .bool a4, .int .i64 a5] 23)
            go_wp2_with fail
            have HQ : Hid (mk false (ByteArray.mk q2.toArray).data.toList (e - v % 20) = (⟨a0, a1, a2, a3, a4, a5⟩, c1)) := Lib.hid (by rw [HJ.out]; exact HM2.out.trans HK.out)
            refine (make_any false ⟨q2.toArray⟩ (e - v % 20) _ (by show q2.length ≤ maxLen; unfold maxLen; omega)).mono ?_
            rintro x w2 ⟨rfl, hb2⟩
            rw [HQ.out]
            simp only [ndv]
            clear HQ hcb
            have HX2 := Lib.hid ((HX1.out.below hb2).alloc (.cells #[.int .i64 a0, .int .i64 a1, .string ⟨a2.toArray⟩, .string ⟨a3.toArray⟩, .bool a4, .int .i64 a5] 23))
            have HY2 := Lib.hid (At6.new w2 (.int .i64 a0) (.int .i64 a1) (.string ⟨a2.toArray⟩) (.string ⟨a3.toArray⟩) (.bool a4) (.int .i64 a5) 23)
            have hB3 := (hB2.trans (hb2.mono hB2.size))
            have hB4 := hB3.alloc hB3.size (.cells #[.int .i64 a0, .int .i64 a1, .string ⟨a2.toArray⟩, .string ⟨a3.toArray⟩, .bool a4, .int .i64 a5] 23)
            clear hb2 HX1 hB2 hB3
            go_wp2_with fail
            refine (read_any s _ (by omega)).mono ?_
            rintro x w3 ⟨rfl, hb3⟩
            generalize hrd : readF s.data.toList = r
            have HRd := Lib.hid hrd; clear hrd
            obtain ⟨⟨z0, z1, z2, z3, z4, z5⟩, zi, zc⟩ := r
            simp only [ndv]
            have HX3 := Lib.hid ((HX2.out.below hb3).alloc (.cells #[.int .i64 z0, .int .i64 z1, .string ⟨z2.toArray⟩, .string ⟨z3.toArray⟩, .bool z4, .int .i64 z5] 23))
            have HY3 := Lib.hid ((HY2.out.below hb3).alloc (.cells #[.int .i64 z0, .int .i64 z1, .string ⟨z2.toArray⟩, .string ⟨z3.toArray⟩, .bool z4, .int .i64 z5] 23))
            have HZ3 := Lib.hid (At6.new w3 (.int .i64 z0) (.int .i64 z1) (.string ⟨z2.toArray⟩) (.string ⟨z3.toArray⟩) (.bool z4) (.int .i64 z5) 23)
            have hB5 := hB4.trans (hb3.mono hB4.size)
            have hB6 := hB5.alloc hB5.size (.cells #[.int .i64 z0, .int .i64 z1, .string ⟨z2.toArray⟩, .string ⟨z3.toArray⟩, .bool z4, .int .i64 z5] 23)
            clear hb3 HX2 HY2 hB4 hB5
            go_wp2_with fail
            refine (make_any false s 0 _ hsm).mono ?_
            rintro x w4 ⟨rfl, hb4⟩
            generalize hm0 : mk false s.data.toList 0 = r
            have HM0 := Lib.hid hm0; clear hm0
            obtain ⟨⟨m0, m1, m2, m3, m4, m5⟩, d⟩ := r
            simp only [ndv]
            have HX4 := Lib.hid ((HX3.out.below hb4).alloc (.cells #[.int .i64 m0, .int .i64 m1, .string ⟨m2.toArray⟩, .string ⟨m3.toArray⟩, .bool m4, .int .i64 m5] 23))
            have HY4 := Lib.hid ((HY3.out.below hb4).alloc (.cells #[.int .i64 m0, .int .i64 m1, .string ⟨m2.toArray⟩, .string ⟨m3.toArray⟩, .bool m4, .int .i64 m5] 23))
            have HZ4 := Lib.hid ((HZ3.out.below hb4).alloc (.cells #[.int .i64 m0, .int .i64 m1, .string ⟨m2.toArray⟩, .string ⟨m3.toArray⟩, .bool m4, .int .i64 m5] 23))
            have HW4 := Lib.hid (At6.new w4 (.int .i64 m0) (.int .i64 m1) (.string ⟨m2.toArray⟩) (.string ⟨m3.toArray⟩) (.bool m4) (.int .i64 m5) 23)
            have hB7 := hB6.trans (hb4.mono hB6.size)
            have hB8 := hB7.alloc hB7.size (.cells #[.int .i64 m0, .int .i64 m1, .string ⟨m2.toArray⟩, .string ⟨m3.toArray⟩, .bool m4, .int .i64 m5] 23)
            clear hb4 HX3 HY3 HZ3 hB6 hB7
            have hT8 := hT.below hB8
            go_wp2_with fail
            refine (alive_any _ hT8).mono ?_
            rintro x w5 ⟨rfl, hb5⟩
            obtain ⟨l1, x0, x1, x2, x3, x4, x5⟩ := HX4.out.below hb5
            obtain ⟨l2, y0, y1, y2, y3, y4, y5⟩ := HY4.out.below hb5
            obtain ⟨l3, zz0, zz1, zz2, zz3, zz4, zz5⟩ := HZ4.out.below hb5
            obtain ⟨l4, mm0, mm1, mm2, mm3, mm4, mm5⟩ := HW4.out.below hb5
            have hB9 := hB8.trans (hb5.mono hB8.size)
            clear hb5 hB8 hT8 HX4 HY4 HZ4 HW4
            have hE1 := fun w => eql_node a0 a1 ⟨a2.toArray⟩ ⟨a3.toArray⟩ a4 a5 a0 a1 ⟨a2.toArray⟩ ⟨a3.toArray⟩ a4 a5 w
            rw [show sameNode a0 a1 ⟨a2.toArray⟩ ⟨a3.toArray⟩ a4 a5 a0 a1 ⟨a2.toArray⟩ ⟨a3.toArray⟩ a4 a5 = true by simp [sameNode]] at hE1
            by_cases hzc : zc = 0
            · by_cases hd : d = 0
              · by_cases hsz : s.size = 0
                · have hsb : ((s.size : Int) == 0) = true := by rw [hsz]; rfl
                  subst hzc hd
                  clear hsz
                  go_wp2_with fail
                  go_ret
                  exact ⟨ret_bool (by simp), hB9⟩
                · have hsb : ((s.size : Int) == 0) = false := by rw [beq_eq_false_iff_ne]; omega
                  have hpos : 0 < s.size := by omega
                  have hsame : (⟨z0, z1, z2, z3, z4, z5⟩ : Nd) = ⟨m0, m1, m2, m3, m4, m5⟩ := by
                    have hfg : figs s.data.toList = true := by
                      cases h : figs s.data.toList
                      · have := HAr.out h
                        rw [HM0.out] at this
                        have h4 : d = 4 := congrArg Prod.snd this
                        omega
                      · rfl
                    rcases HPl.out hfg (by intro h; have := size_toList s; rw [h] at this; simp at this; omega) with h | h
                    · rw [HRd.out, HM0.out] at h
                      exact congrArg Prod.fst h
                    · rw [HRd.out] at h
                      have h1 : zc = 1 := h
                      omega
                  cases hsame
                  have hE2 := fun w => eql_node z0 z1 ⟨z2.toArray⟩ ⟨z3.toArray⟩ z4 z5 z0 z1 ⟨z2.toArray⟩ ⟨z3.toArray⟩ z4 z5 w
                  rw [show sameNode z0 z1 ⟨z2.toArray⟩ ⟨z3.toArray⟩ z4 z5 z0 z1 ⟨z2.toArray⟩ ⟨z3.toArray⟩ z4 z5 = true by simp [sameNode]] at hE2
                  subst hzc hd
                  clear hsz
                  go_wp2_with fail
                  all_goals
                    go_ret
                    exact ⟨ret_bool (by simp), hB9⟩
              · have hdb : (d != 0) = true := by simpa using hd
                subst hzc
                clear hd
                go_wp2_with fail
                go_ret
                exact ⟨ret_bool (by simp), hB9⟩
            · have hzb : (zc != 0) = true := by simpa using hzc
              clear hzc
              go_wp2_with fail
              go_ret
              exact ⟨ret_bool (by simp), hB9⟩
  · have hend : Calls Tryd.prog 10 #[] (w.alloc (.cells #[.int .u8 u, .int .u8 v] 38)) fun x w' => x = .returned (.bool true) ∧ Below w.heap.size w w' :=
      (alive_any _ hT0).mono fun _ _ ⟨h1, h2⟩ => ⟨h1, hB0.trans (h2.mono hB0.size)⟩
    have HEnd := Lib.hid hend
    clear hend
    by_cases h1 : 100 < s.size
    · clear hl
      go_enter Tryd.func8, Tryd.ntmps8
      go_wp2_with fail
      refine HEnd.out.mono ?_
      rintro x w1 ⟨rfl, hb1⟩
      go_wp2_with fail
      go_ret
      exact ⟨rfl, hb1⟩
    · by_cases h2 : e < -1500
      · clear hl
        go_enter Tryd.func8, Tryd.ntmps8
        go_wp2_with fail
        refine HEnd.out.mono ?_
        rintro x w1 ⟨rfl, hb1⟩
        go_wp2_with fail
        go_ret
        exact ⟨rfl, hb1⟩
      · have h3 : 1500 < e := by omega
        clear hl
        go_enter Tryd.func8, Tryd.ntmps8
        go_wp2_with fail
        refine HEnd.out.mono ?_
        rintro x w1 ⟨rfl, hb1⟩
        go_wp2_with fail
        go_ret
        exact ⟨rfl, hb1⟩

end Go.Proofs.YtfmoigbiohbocaaDoor
