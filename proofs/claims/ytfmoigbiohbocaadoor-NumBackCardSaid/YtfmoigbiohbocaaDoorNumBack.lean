/-
  The walk of the statement NumBack: it returns true.
-/
import Derived.Test.YtfmoigbiohbocaaDoorNumEq
import Derived.Test.YtfmoigbiohbocaaDoorNumPlain11
namespace Go.Proofs.YtfmoigbiohbocaaDoor
open Go.RowKit Np

theorem print_short (f : List UInt8) (g : Bool) (e : Int) (h1 : -9223372036854775808 ≤ e) (h2 : e ≤ 9223372036854775807) : (printN f g e).length ≤ f.length + 60 := by
  have hS : (printS f e).length ≤ f.length + 50 := by
    unfold printS
    split
    · simp
    split
    · rw [List.length_append, Lib.repeatL_length]; simp; omega
    split
    · have h := padF_le f (-e).toNat
      have h2 := padF_len f (-e).toNat
      unfold pointF
      simp only [List.length_append, List.length_take, List.length_cons, List.length_drop]
      omega
    · have := Lib.itoa_length_le e h1 h2
      simp only [List.length_append, List.length_cons]
      omega
  unfold printN
  split
  · simp only [List.length_cons]; omega
  · omega
theorem same_self (k m : Int) (nm s : ByteArray) (g : Bool) (x : Int) : sameNode k m nm s g x k m nm s g x = true := by simp [sameNode]

set_option maxRecDepth 100000 in
set_option maxHeartbeats 4000000 in
theorem numBack_any (k m : Int) (nm s : ByteArray) (g : Bool) (x : Int) (t : ByteArray) (w : World) (hT : PowTab w) (hs : s.size ≤ maxLen) (ht : t.size ≤ maxLen) :
    Calls Tryd.prog 6 #[.agg #[.int .i64 k, .int .i64 m, .string nm, .string s, .bool g, .int .i64 x], .string t] w fun e w' => e = .returned (.bool true) ∧ Below w.heap.size w w' := by
  have hB : Below w.heap.size w w := Below.refl _ _
  have hB0 := hB.alloc (Nat.le_refl _) (.cells #[.int .i64 k, .int .i64 m, .string nm, .string s, .bool g, .int .i64 x] 23)
  have hT0 := hT.below hB0
  have HN0 := Lib.hid (At6.new w (.int .i64 k) (.int .i64 m) (.string nm) (.string s) (.bool g) (.int .i64 x) 23)
  unfold maxLen at ht
  go_enter Tryd.func6, Tryd.ntmps6
  go_wp2_with fail
  refine (refRight_any _ _ _ _ _ _ _ hs).mono ?_
  rintro e w1 ⟨rfl, hb1⟩
  have hB1 := hB0.trans (hb1.mono hB0.size)
  have hT1 := hT0.below hb1
  have HN1 := Lib.hid (HN0.out.below hb1)
  clear hb1 HN0 hB0 hT0
  obtain ⟨l1, n0, n1, n2, n3, n4, n5⟩ := HN1.out
  cases hr : right ⟨k, m, nm.data.toList, s.data.toList, g, x⟩
  · clear hr
    go_wp2_with fail
    refine (alive_any _ hT1).mono ?_
    rintro e w2 ⟨rfl, hb2⟩
    clear n0 n1 n2 n3 n4 n5
    go_wp2_with fail
    go_ret
    exact ⟨rfl, hB1.trans (hb2.mono hB1.size)⟩
  have HR := Lib.hid hr
  clear hr
  by_cases ht3 : 300 < t.size
  · go_wp2_with fail
    refine (alive_any _ hT1).mono ?_
    rintro e w2 ⟨rfl, hb2⟩
    clear n0 n1 n2 n3 n4 n5
    go_wp2_with fail
    go_ret
    exact ⟨rfl, hB1.trans (hb2.mono hB1.size)⟩
  obtain ⟨p1, p2, p3⟩ := right_bounds HR.out
  simp only at p1 p2 p3
  rw [size_toList] at p1
  have HBk := Lib.hid (print_back HR.out)
  have hpl := print_short s.data.toList g x (by omega) (by omega)
  rw [size_toList] at hpl
  simp only at HBk
  go_wp2_with fail
  refine (print_any _ _ _ _ _ _ _ hT1 (by omega) (by omega) (by omega)).mono ?_
  rintro e w2 ⟨rfl, hb2⟩
  clear n0 n1 n2 n3 n4 n5 l1
  have hB2 := hB1.trans (hb2.mono hB1.size)
  have hT2 := hT1.below hb2
  have HN2 := Lib.hid (HN1.out.below hb2)
  clear hb2 HN1 hB1 hT1
  go_wp2_with fail
  refine (read_any _ _ (by show (printN s.data.toList g x).length ≤ 1000000; omega)).mono ?_
  rintro e w3 ⟨rfl, hb3⟩
  rw [show (ByteArray.mk (printN s.data.toList g x).toArray).data.toList = printN s.data.toList g x from rfl, HBk.out]
  simp only [ndv, Lib.mk_data]
  have HN3 := Lib.hid ((HN2.out.below hb3).alloc (.cells #[.int .i64 k, .int .i64 m, .string nm, .string s, .bool g, .int .i64 x] 23))
  have HX3 := Lib.hid (At6.new w3 (.int .i64 k) (.int .i64 m) (.string nm) (.string s) (.bool g) (.int .i64 x) 23)
  have hB3 := hB2.trans (hb3.mono hB2.size)
  have hB4 := hB3.alloc hB3.size (.cells #[.int .i64 k, .int .i64 m, .string nm, .string s, .bool g, .int .i64 x] 23)
  have hT4 := hT.below hB4
  clear hb3 HN2 hB2 hT2 hB3 HBk hpl
  obtain ⟨l1, n0, n1, n2, n3, n4, n5⟩ := HN3.out
  obtain ⟨l2, x0, x1, x2, x3, x4, x5⟩ := HX3.out
  have hE := fun w => neq_node k m nm s g x k m nm s g x w
  rw [same_self] at hE
  go_wp2_with fail
  refine (read_any t _ (by omega)).mono ?_
  rintro e w5 ⟨rfl, hb5⟩
  clear n0 n1 n2 n3 n4 n5 l1 l2 x0 x1 x2 x3 x4 x5 HN3 HX3 hE
  have hrc := read_cases t.data.toList
  generalize hrd : readF t.data.toList = r at hrc ⊢
  have HRd := Lib.hid hrd; clear hrd
  obtain ⟨⟨y0, y1, y2, y3, y4, y5⟩, yi, yc⟩ := r
  simp only [ndv]
  have hB5 := hB4.trans (hb5.mono hB4.size)
  have hB6 := hB5.alloc hB5.size (.cells #[.int .i64 y0, .int .i64 y1, .string ⟨y2.toArray⟩, .string ⟨y3.toArray⟩, .bool y4, .int .i64 y5] 23)
  have hT6 := hT.below hB6
  have HY6 := Lib.hid (At6.new w5 (.int .i64 y0) (.int .i64 y1) (.string ⟨y2.toArray⟩) (.string ⟨y3.toArray⟩) (.bool y4) (.int .i64 y5) 23)
  clear hb5 hB4 hB5 hT4
  rcases hrc with ⟨hc, hry⟩ | ⟨hn, hc⟩
  · simp only at hc hry
    subst hc
    have HRy := Lib.hid hry
    clear hry
    obtain ⟨q1, q2, q3⟩ := right_bounds HRy.out
    simp only at q1 q2 q3
    have HBy := Lib.hid (print_back HRy.out)
    have hpl := print_short y3 y4 y5 (by omega) (by omega)
    simp only at HBy
    obtain ⟨l2, z0, z1, z2, z3, z4, z5⟩ := HY6.out
    go_wp2_with fail
    refine (print_any _ _ _ _ _ _ _ hT6 (by show y3.length ≤ 1000000; omega) (by omega) (by omega)).mono ?_
    rintro e w7 ⟨rfl, hb7⟩
    clear l2 z0 z1 z2 z3 z4 z5
    have hB7 := hB6.trans (hb7.mono hB6.size)
    have HY7 := Lib.hid (HY6.out.below hb7)
    clear hb7 hB6 HY6 hT6
    go_wp2_with fail
    refine (read_any _ _ (by show (printN y3 y4 y5).length ≤ 1000000; omega)).mono ?_
    rintro e w8 ⟨rfl, hb8⟩
    rw [show (ByteArray.mk (printN (ByteArray.mk y3.toArray).data.toList y4 y5).toArray).data.toList = printN y3 y4 y5 from rfl, HBy.out]
    simp only [ndv]
    have HY8 := Lib.hid ((HY7.out.below hb8).alloc (.cells #[.int .i64 y0, .int .i64 y1, .string ⟨y2.toArray⟩, .string ⟨y3.toArray⟩, .bool y4, .int .i64 y5] 23))
    have HZ8 := Lib.hid (At6.new w8 (.int .i64 y0) (.int .i64 y1) (.string ⟨y2.toArray⟩) (.string ⟨y3.toArray⟩) (.bool y4) (.int .i64 y5) 23)
    have hB8 := hB7.trans (hb8.mono hB7.size)
    have hB9 := hB8.alloc hB8.size (.cells #[.int .i64 y0, .int .i64 y1, .string ⟨y2.toArray⟩, .string ⟨y3.toArray⟩, .bool y4, .int .i64 y5] 23)
    have hT9 := hT.below hB9
    clear hb8 hB7 hB8 HY7 HBy hpl
    go_wp2_with fail
    refine (alive_any _ hT9).mono ?_
    rintro e wa ⟨rfl, hba⟩
    have hBa := hB9.trans (hba.mono hB9.size)
    have HYa := Lib.hid (HY8.out.below hba)
    have HZa := Lib.hid (HZ8.out.below hba)
    clear hba hB9 hT9 HY8 HZ8
    obtain ⟨l2, z0, z1, z2, z3, z4, z5⟩ := HYa.out
    go_wp2_with fail
    refine (refRight_any _ _ _ _ _ _ _ (by show y3.length ≤ maxLen; unfold maxLen; omega)).mono ?_
    rintro e wb ⟨rfl, hbb⟩
    have hBb := hBa.trans (hbb.mono hBa.size)
    clear l2 z0 z1 z2 z3 z4 z5
    obtain ⟨l2, z0, z1, z2, z3, z4, z5⟩ := HYa.out.below hbb
    obtain ⟨l3, u0, u1, u2, u3, u4, u5⟩ := HZa.out.below hbb
    clear hbb hBa HYa HZa
    rw [show right ⟨y0, y1, (ByteArray.mk y2.toArray).data.toList, (ByteArray.mk y3.toArray).data.toList, y4, y5⟩ = true from HRy.out]
    have hE := fun w => eql_node y0 y1 ⟨y2.toArray⟩ ⟨y3.toArray⟩ y4 y5 y0 y1 ⟨y2.toArray⟩ ⟨y3.toArray⟩ y4 y5 w
    rw [same_self] at hE
    go_wp2_with fail
    go_ret
    exact ⟨ret_bool (by simp), hBb⟩
  · simp only [nd0] at hn hc
    cases hn
    have hnz : (yc != 0) = true := by rcases hc with rfl | rfl <;> rfl
    go_wp2_with fail
    refine (alive_any _ hT6).mono ?_
    rintro e w7 ⟨rfl, hb7⟩
    have hB7 := hB6.trans (hb7.mono hB6.size)
    obtain ⟨l2, z0, z1, z2, z3, z4, z5⟩ := HY6.out.below hb7
    clear hb7 hB6 HY6 hT6
    have hE := fun w => eql_node 0 0 ⟨#[]⟩ ⟨#[]⟩ false 0 0 0 ⟨#[]⟩ ⟨#[]⟩ false 0 w
    rw [same_self] at hE
    rcases hc with rfl | rfl
    · go_wp2_with fail
      go_ret
      exact ⟨ret_bool (by simp), hB7⟩
    · go_wp2_with fail
      go_ret
      exact ⟨ret_bool (by simp), hB7⟩

end Go.Proofs.YtfmoigbiohbocaaDoor
