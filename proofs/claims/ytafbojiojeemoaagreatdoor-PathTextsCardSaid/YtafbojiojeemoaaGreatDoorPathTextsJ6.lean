/-
  Joined: ShelfV, ValW1, PaB2, Pa4, PaB3, PT2.
-/
import Derived.Shelf.Unicode.ValidAny
import Derived.Test.YtafbojiojeemoaaGreatDoorProg
import Derived.Test.YtafbojiojeemoaaGreatDoorRefW6
import Derived.Test.YtafbojiojeemoaaGreatDoorPathTextsJ4
import Derived.Test.YtafbojiojeemoaaGreatDoorPathTextsJ3
import Derived.Test.YtafbojiojeemoaaGreatDoorPathTextsJ5
import Derived.Test.YtafbojiojeemoaaGreatDoorPathTextsJ2

/-
  Contracts of library functions, at this translation.
-/
namespace Go.Proofs
open Go.Shelf
def Tryz.laysValid_ren : Go.Shelf.Ren := ⟨fun | 196 => 85 | 259 => 120 | n => n, fun | 9 => 9 | 4 => 4 | 3 => 3 | 5 => 5 | 12 => 12 | 119 => 142 | 0 => 0 | 46 => 146 | 139 => 145 | 138 => 144 | 53 => 175 | n => n, fun | 3 => 1 | 4 => 2 | n => n⟩
theorem Tryz.laysValid : Go.Proofs.Lays.n196 Tryz.prog Tryz.laysValid_ren := {
  mixed := by kernel_rfl
  f196 := Tryz.func85.trans (congrArg some (by kernel_rfl))
  f259 := Tryz.func120.trans (congrArg some (by kernel_rfl))
  t0 := Tryz.underlying0
  a0 := Tryz.isAgg0
  z0 := Tryz.sizeOf0
  v0 := Tryz.zeroValue0
  t3 := Tryz.underlying3
  a3 := Tryz.isAgg3
  z3 := Tryz.sizeOf3
  v3 := Tryz.zeroValue3
  t4 := Tryz.underlying4
  a4 := Tryz.isAgg4
  z4 := Tryz.sizeOf4
  v4 := Tryz.zeroValue4
  t5 := Tryz.underlying5
  a5 := Tryz.isAgg5
  z5 := Tryz.sizeOf5
  v5 := Tryz.zeroValue5
  t9 := Tryz.underlying9
  a9 := Tryz.isAgg9
  z9 := Tryz.sizeOf9
  v9 := Tryz.zeroValue9
  t12 := Tryz.underlying12
  a12 := Tryz.isAgg12
  z12 := Tryz.sizeOf12
  v12 := Tryz.zeroValue12
  t46 := Tryz.underlying146
  a46 := Tryz.isAgg146
  z46 := Tryz.sizeOf146
  v46 := Tryz.zeroValue146
  t53 := Tryz.underlying175
  a53 := Tryz.isAgg175
  z53 := Tryz.sizeOf175
  v53 := Tryz.zeroValue175
  t119 := Tryz.underlying142
  a119 := Tryz.isAgg142
  z119 := Tryz.sizeOf142
  t138 := Tryz.underlying144
  a138 := Tryz.isAgg144
  z138 := Tryz.sizeOf144
  v138 := Tryz.zeroValue144
  t139 := Tryz.underlying145
  a139 := Tryz.isAgg145
  z139 := Tryz.sizeOf145
  v139 := Tryz.zeroValue145
  g3 := by kernel_rfl
  g4 := by kernel_rfl }
end Go.Proofs

/-
  What val's small functions answer: holdsParts, isObject, lets, rightNode, begin; the library's ValidString.
-/
namespace Go.Proofs.YtafbojiojeemoaaGreatDoor
open Go.RowKit Np Rw Vp

/-- The library's two tables on UTF-8, as they are laid. -/
def Tabs (w : World) : Prop := Lib.Utf8Tabs 1 2 w
theorem Tabs.below {w w' : World} (h : Tabs w) (hb : Below w.heap.size w w') : Tabs w' := Utf8Tabs_below h hb
theorem valid_any (s : ByteArray) (w : World) (hs : s.size ≤ maxLen) (hT : Tabs w) :
    Calls Tryz.prog 85 #[.string s] w fun e w' => e = .returned (.bool (vld s.data.toList)) ∧ Below w.heap.size w w' :=
  Any.utf8_ValidString Tryz.laysValid s w (by unfold maxLen at hs; omega) hT



/-- A holder's value. -/
abbrev hda (h : Hd) : Value := .agg #[.int .i64 h.kind, .int .i64 h.left, .bool h.begun, .string ⟨h.ahead.toArray⟩]
def hdc (h : Hd) : List Value := [.int .i64 h.kind, .int .i64 h.left, .bool h.begun, .string ⟨h.ahead.toArray⟩]


end Go.Proofs.YtafbojiojeemoaaGreatDoor

/-
  A step's text, written; and a path's.
-/
namespace Go.Proofs.YtafbojiojeemoaaGreatDoor
open Go.RowKit Np Rw Vp Up Qp Pw

theorem cat_one (c : UInt8) (l : List UInt8) : (ByteArray.mk #[c]) ++ (ByteArray.mk l.toArray) = ⟨(c :: l).toArray⟩ := ByteArray.ext (by simp)
theorem cat_two (a b : List UInt8) : (ByteArray.mk a.toArray) ++ (ByteArray.mk b.toArray) = ⟨(a ++ b).toArray⟩ := ByteArray.ext (by simp)
theorem wrs_le : ∀ l : List UInt8, (wrs l).length ≤ 6 * l.length
  | [] => by simp [wrs]
  | c :: r => by
    have h := wrs_le r
    have h2 : (wr c).length ≤ 6 := by
      unfold wr
      repeat' split
      all_goals simp
    have : wrs (c :: r) = wr c ++ wrs r := by simp [wrs]
    rw [this, List.length_append, List.length_cons]
    omega
set_option maxRecDepth 100000 in
set_option maxHeartbeats 2000000 in
theorem written_any (s : St) (w : World) (hs : s.name.length ≤ 1073741824) (h0 : -9223372036854775808 ≤ s.n) (h1 : s.n ≤ 9223372036854775807) (hT : PowTab w) :
    Calls Tryz.prog 50 #[sta s] w fun e w' => e = .returned (.string ⟨(stT s).toArray⟩) ∧ Below w.heap.size w w' := by
  obtain ⟨p, nm, n⟩ := s
  have hb := (Below.refl w.heap.size w).alloc (Nat.le_refl _) (.cells #[.bool p, .string ⟨nm.toArray⟩, .int .i64 n] 74)
  have HB := Lib.hid hb
  cases p with
  | true =>
    have HL : Hid ((ByteArray.mk #[91]) ++ (ByteArray.mk (Lib.itoa n).toArray) ++ (ByteArray.mk #[93]) = ⟨(stT ⟨true, nm, n⟩).toArray⟩) := Lib.hid (by
      rw [stT, if_pos rfl]
      exact ByteArray.ext (by simp))
    have HI := Lib.hid (Tryz.strconv_Itoa n h0 h1 _ (hT.below hb))
    have hil := Lib.itoa_length_le n h0 h1
    clear hb hT
    generalize Lib.itoa n = it at *
    generalize stT ⟨true, nm, n⟩ = R at *
    go_enter Tryz.func50, Tryz.ntmps50
    go_wp2_with fail
    refine HI.out.mono ?_
    rintro e w1 ⟨rfl, k, os, rfl⟩
    have HB1 : Hid (Below w.heap.size w (Sort.grow ((w.alloc (.cells #[.bool true, .string ⟨nm.toArray⟩, .int .i64 n] 74)).drewN k) os)) := Lib.hid (HB.out.trans ((grow_below' _ k os).mono HB.out.size))
    generalize Sort.grow ((w.alloc (.cells #[.bool true, .string ⟨nm.toArray⟩, .int .i64 n] 74)).drewN k) os = w1 at *
    go_wp2_with fail
    go_ret
    exact ⟨ret_str HL.out, HB1.out⟩
  | false =>
    have HQ : Hid (∀ W, Calls Tryz.prog 69 #[.string ⟨nm.toArray⟩] W fun e w' => e = .returned (.string ⟨(quo nm).toArray⟩) ∧ Below W.heap.size W w') := Lib.hid (fun W => quote_any ⟨nm.toArray⟩ W hs)
    have HW : Hid (∀ W, Calls Tryz.prog 88 #[.string ⟨nm.toArray⟩] W fun e w' => e = .returned (.string ⟨(wrd nm).toArray⟩) ∧ w' = W) := Lib.hid (fun W => word_any ⟨nm.toArray⟩ W (by unfold maxLen; exact Nat.le_trans hs (by decide)))
    have hql : (quo nm).length ≤ 6442450950 := by
      have h := quo_len nm
      have h2 := wrs_le nm
      have h3 : nm.length ≤ 1073741824 := hs
      omega
    clear hb hT
    by_cases hne : nm = []
    · subst hne
      have HL : Hid ((ByteArray.mk #[46]) ++ (ByteArray.mk (quo []).toArray) = ⟨(stT ⟨false, [], n⟩).toArray⟩) := Lib.hid (by
        rw [stT, if_neg (by simp), if_neg (by simp [isW]), cat_one])
      generalize stT ⟨false, [], n⟩ = R at *
      generalize quo [] = qn at *
      go_enter Tryz.func50, Tryz.ntmps50
      go_upto_region 3 with fail
      go_quiet (fail)
      go_wp2_with fail
      refine (HQ.out _).mono ?_
      rintro e w1 ⟨rfl, hb1⟩
      have HB1 : Hid (Below w.heap.size w w1) := Lib.hid ((drewN_below HB.out _).trans (hb1.mono HB.out.size))
      clear hb1
      go_wp2_with fail
      go_ret
      exact ⟨ret_str HL.out, HB1.out⟩
    · have hz : (nm == []) = false := by simpa using hne
      have hz2 : (nm != []) = true := by simpa using hne
      have hz3 : nm.isEmpty = false := by simpa using hne
      by_cases hw : wrd nm = nm
      · have hw2 : (wrd nm == nm) = true := by simpa using hw
        have HL : Hid ((ByteArray.mk #[46]) ++ (ByteArray.mk nm.toArray) = ⟨(stT ⟨false, nm, n⟩).toArray⟩) := Lib.hid (by
          rw [stT, if_neg (by simp), if_pos (by simp [isW, hne]; simpa using hw2), cat_one])
        generalize stT ⟨false, nm, n⟩ = R at *
        generalize quo nm = qn at *
        go_enter Tryz.func50, Tryz.ntmps50
        generalize wrd nm = wn at *
        go_upto_region 3 with fail
        go_region_with (first | (go_at_call 88; refine (HW.out _).mono ?_; rintro e w3 ⟨rfl, rfl⟩))
        all_goals go_wp2_with fail
        all_goals go_ret
        all_goals exact ⟨ret_str HL.out, drewN_below HB.out _⟩
      · have hw2 : (wrd nm == nm) = false := by simpa using hw
        have HL : Hid ((ByteArray.mk #[46]) ++ (ByteArray.mk (quo nm).toArray) = ⟨(stT ⟨false, nm, n⟩).toArray⟩) := Lib.hid (by
          rw [stT, if_neg (by simp), if_neg (by simp [isW, hw]), cat_one])
        generalize stT ⟨false, nm, n⟩ = R at *
        generalize quo nm = qn at *
        go_enter Tryz.func50, Tryz.ntmps50
        generalize wrd nm = wn at *
        go_upto_region 3 with fail
        go_region_with (first | (go_at_call 88; refine (HW.out _).mono ?_; rintro e w3 ⟨rfl, rfl⟩))
        all_goals go_wp2_with fail
        all_goals refine (HQ.out _).mono ?_
        all_goals rintro e w1 ⟨rfl, hb1⟩
        all_goals have HB1 : Hid (Below w.heap.size w w1) := Lib.hid ((drewN_below HB.out _).trans (hb1.mono HB.out.size))
        all_goals clear hb1
        all_goals go_wp2_with fail
        all_goals go_ret
        all_goals exact ⟨ret_str HL.out, HB1.out⟩
end Go.Proofs.YtafbojiojeemoaaGreatDoor

/-
  What path's Right and Apart answer.
-/
namespace Go.Proofs.YtafbojiojeemoaaGreatDoor
open Go.RowKit Np Rw Vp Pw

set_option maxRecDepth 100000 in
set_option maxHeartbeats 1000000 in
theorem rightStep_any (s : St) (w : World) (hs : s.name.length ≤ maxLen) (hT : Tabs w) : Calls Tryz.prog 47 #[sta s] w fun e w' => e = .returned (.bool (rightS s)) ∧ Below w.heap.size w w' := by
  obtain ⟨p, nm, n⟩ := s
  have hb := (Below.refl w.heap.size w).alloc (Nat.le_refl _) (.cells #[.bool p, .string ⟨nm.toArray⟩, .int .i64 n] 74)
  have HB := Lib.hid hb
  have HV := Lib.hid (valid_any ⟨nm.toArray⟩ (w.alloc (.cells #[.bool p, .string ⟨nm.toArray⟩, .int .i64 n] 74)) hs (hT.below hb))
  clear hb hT
  cases p with
  | true =>
    have HL : Hid (rightS ⟨true, nm, n⟩ = (decide (nm = []) && decide (0 ≤ n) && decide (n ≤ 1000000))) := Lib.hid (by unfold rightS; rw [if_pos rfl])
    generalize rightS ⟨true, nm, n⟩ = b at *
    by_cases h1 : nm = []
    · subst h1
      by_cases h2 : 0 ≤ n
      · have HR : Hid (b = decide (n ≤ 1000000)) := Lib.hid (by rw [HL.out]; simp [h2])
        go_enter Tryz.func47, Tryz.ntmps47
        go_wp2_with fail
        go_ret
        exact ⟨ret_bool HR.out.symm, HB.out⟩
      · have HR : Hid (b = false) := Lib.hid (by rw [HL.out]; simp [h2])
        go_enter Tryz.func47, Tryz.ntmps47
        go_wp2_with fail
        go_ret
        exact ⟨ret_bool HR.out.symm, HB.out⟩
    · have HR : Hid (b = false) := Lib.hid (by rw [HL.out]; simp [h1])
      have h2 : (nm == []) = false := by simpa using h1
      go_enter Tryz.func47, Tryz.ntmps47
      go_wp2_with fail
      go_ret
      exact ⟨ret_bool HR.out.symm, HB.out⟩
  | false =>
    have HL : Hid (rightS ⟨false, nm, n⟩ = (decide (n = 0) && vld nm)) := Lib.hid (by unfold rightS; rw [if_neg (by simp)])
    generalize rightS ⟨false, nm, n⟩ = b at *
    by_cases h1 : n = 0
    · subst h1
      have HR : Hid (b = vld nm) := Lib.hid (by rw [HL.out]; simp)
      go_enter Tryz.func47, Tryz.ntmps47
      go_wp2_with fail
      refine HV.out.mono ?_
      rintro e w1 ⟨rfl, hb1⟩
      have HB1 : Hid (Below w.heap.size w w1) := Lib.hid (HB.out.trans (hb1.mono HB.out.size))
      clear hb1
      go_wp2_with fail
      go_ret
      exact ⟨ret_bool HR.out.symm, HB1.out⟩
    · have HR : Hid (b = false) := Lib.hid (by rw [HL.out]; simp [h1])
      have h2 : (n == 0) = false := by simpa using h1
      go_enter Tryz.func47, Tryz.ntmps47
      go_wp2_with fail
      go_ret
      exact ⟨ret_bool HR.out.symm, HB.out⟩

structure PrR (p : List St) (w : World) (n : Nat) (iv : Value) (wr : World) : Prop where
  ex : ∃ k : Nat, k ≤ n ∧ iv = .int .i64 k ∧ Hid ((p.take k).all rightS = true) ∧ Hid (Below w.heap.size w wr)
set_option maxRecDepth 100000 in
set_option maxHeartbeats 2000000 in
theorem pright_any (pv : Value) (p : List St) (w : World) (hp : Sps w pv p) (hpl : p.length ≤ 100000000) (hs : ∀ s ∈ p, s.name.length ≤ maxLen) (hT : Tabs w) :
    Calls Tryz.prog 25 #[pv] w fun e w' => e = .returned (.bool (rightP p)) ∧ Below w.heap.size w w' := by
  have HT := Lib.hid hT
  have HS := Lib.hid hs
  have HXP : Hid (∀ k s, p[k]? = some s → ∃ g o c, pv = .slice (some ⟨g, o, none⟩) p.length c ∧ g < w.heap.size ∧ Sp3 w g (o + k * 3) s) := Lib.hid fun k s hs => by
    obtain ⟨g, o, c, hv, -, -, hg, hx⟩ := hp.opened (by have := (List.getElem?_eq_some_iff.1 hs).1; omega)
    exact ⟨g, o, c, hv, hg, (hx k s hs).sp⟩
  obtain ⟨P, pc, rfl, -⟩ := hp
  clear hT hs
  generalize hRR : rightP p = R at *
  have HR : Hid (R = (p.all rightS && decide (p.length ≤ 20))) := Lib.hid (by rw [← hRR, rightP])
  clear hRR
  generalize hpp : p.length = n at *
  have HP := Lib.hid hpp
  clear hpp
  go_enter Tryz.func25, Tryz.ntmps25
  go_wp2_with fail
  go_loopw [7] (fun iv wr => PrR p w n iv wr) (fun iv _ => n - (intOf iv).toNat)
  case atStart => exact ⟨0, Nat.zero_le _, rfl, Lib.hid (by simp), Lib.hid (Below.refl _ _)⟩
  case round =>
    obtain ⟨k, hk, rfl, HA, HB⟩ := hrel.ex
    by_cases hlt : k < n
    · have hkp : k < p.length := by rw [HP.out]; exact hlt
      obtain ⟨gp, op, cp, e1, hgp, hs3⟩ := HXP.out k _ (List.getElem?_eq_getElem hkp)
      injection e1 with e1 e2 e3
      subst e1 e3
      obtain ⟨z0, z1, z2⟩ := hs3
      have s0 := (HB.out.cell (p := ⟨gp, op + k * 3, none⟩) hgp).trans z0
      have s1 := (HB.out.cell (p := ⟨gp, op + k * 3 + 1, none⟩) hgp).trans z1
      have s2 := (HB.out.cell (p := ⟨gp, op + k * 3 + 2, none⟩) hgp).trans z2
      have htk : p.take (k + 1) = p.take k ++ [p[k]] := List.take_succ_eq_append_getElem hkp
      have HTK := Lib.hid htk
      have HSN := Lib.hid (HS.out _ (List.getElem_mem hkp))
      have HMEM : Hid (p[k] ∈ p) := Lib.hid (List.getElem_mem hkp)
      clear z0 z1 z2 e2 htk
      generalize p[k] = s at *
      go_wp2_with fail
      have hb1 : Below w.heap.size w (wr.alloc (.cells #[.bool s.part, .string ⟨s.name.toArray⟩, .int .i64 s.n] 74)) := HB.out.alloc HB.out.size _
      refine (rightStep_any s _ HSN.out (HT.out.below hb1)).mono ?_
      rintro e w3 ⟨rfl, hb3⟩
      have HB3 : Hid (Below w.heap.size w w3) := Lib.hid (hb1.trans (hb3.mono hb1.size))
      clear hb1 hb3 s0 s1 s2
      cases hr : rightS s with
      | true =>
        have HA2 : Hid ((p.take (k + 1)).all rightS = true) := Lib.hid (by rw [HTK.out, List.all_append, HA.out]; simp [hr])
        clear hr
        go_wp2_with fail
        refine ⟨⟨k + 1, by omega, by congr 1, HA2, HB3⟩, ?_⟩
        simp [intOf]; omega
      | false =>
        have HF : Hid (R = false) := Lib.hid (by
          rw [HR.out]
          have : p.all rightS = false := by
            rw [List.all_eq_false]
            exact ⟨s, HMEM.out, by rw [hr]; simp⟩
          rw [this]; rfl)
        clear hr
        go_wp2_with fail
        go_ret
        exact ⟨ret_bool HF.out.symm, HB3.out⟩
    · obtain rfl : k = n := by omega
      have HF : Hid (R = decide (k ≤ 20)) := Lib.hid (by
        have h1 := HA.out
        rw [List.take_of_length_le (by rw [HP.out]; omega)] at h1
        rw [HR.out, h1]; rfl)
      go_wp2_with fail
      go_ret
      exact ⟨ret_bool (by rw [HF.out, decide_eq_decide]; omega), HB.out⟩
end Go.Proofs.YtafbojiojeemoaaGreatDoor

/-
  What path's Text answers.
-/
namespace Go.Proofs.YtafbojiojeemoaaGreatDoor
open Go.RowKit Np Rw Vp Pw Qp

structure PtR (p : List St) (w : World) (n : Nat) (iv : Value) (wr : World) : Prop where
  ex : ∃ k : Nat, k ≤ n ∧ iv = .int .i64 k ∧ IsB w.heap.size w.heap.size (textK p k) wr ∧ Below w.heap.size w wr
set_option maxRecDepth 100000 in
set_option maxHeartbeats 4000000 in
theorem ptext_any (pv : Value) (p : List St) (w : World) (hp : Sps w pv p) (hpl : p.length ≤ 100000000) (hs : ∀ s ∈ p, s.name.length ≤ 1073741824 ∧ -9223372036854775808 ≤ s.n ∧ s.n ≤ 9223372036854775807) (hlen : (textP p).length ≤ 1000000000) (hT : PowTab w) :
    Calls Tryz.prog 27 #[pv] w fun e w' => e = .returned (.string ⟨(textP p).toArray⟩) ∧ Below w.heap.size w w' := by
  have HT := Lib.hid hT
  have HS := Lib.hid hs
  have HLEN := Lib.hid hlen
  have HXP : Hid (∀ k s, p[k]? = some s → ∃ g o c, pv = .slice (some ⟨g, o, none⟩) p.length c ∧ g < w.heap.size ∧ Sp3 w g (o + k * 3) s) := Lib.hid fun k s hs => by
    obtain ⟨g, o, c, hv, -, -, hg, hx⟩ := hp.opened (by have := (List.getElem?_eq_some_iff.1 hs).1; omega)
    exact ⟨g, o, c, hv, hg, (hx k s hs).sp⟩
  obtain ⟨P, pc, rfl, -⟩ := hp
  clear hT hs hlen
  generalize hpp : p.length = n at *
  have HP := Lib.hid hpp
  clear hpp
  have hfresh : IsB w.heap.size w.heap.size [] (w.alloc (.cells #[.pointer none, .slice none 0 0] 65)) := Lib.IsBuilderF.of (Lib.fresh_isBuilder 65 5 w)
  have hba : Below w.heap.size w (w.alloc (.cells #[.pointer none, .slice none 0 0] 65)) := (Below.refl _ _).alloc (by omega) _
  by_cases hn : n = 0
  · subst hn
    have htx : textP p = [46] := by
      have : p = [] := List.eq_nil_of_length_eq_zero HP.out
      rw [this]; rfl
    rw [htx]
    have HH : Hid (headT p = [46]) := Lib.hid (by
      have : p = [] := List.eq_nil_of_length_eq_zero HP.out
      rw [this]; rfl)
    go_enter Tryz.func27, Tryz.ntmps27
    go_wp2_with fail
    refine (Tryz.writeByte w.heap.size w.heap.size _ 46 _ hfresh (by rw [Lib.byteCells_length]; decide) hba.size).mono ?_
    rintro e w3 ⟨rfl, hq1, hb3, -⟩
    have hI0 : IsB w.heap.size w.heap.size [46] w3 := .inr hq1
    have hb0 : Below w.heap.size w w3 := hba.trans hb3
    clear hq1 hb3 hba hfresh
    have hszb := IsB_lt hI0
    go_wp2_with fail
    go_loopw [18] (fun iv wr => iv = .int .i64 0 ∧ wr = w3) (fun _ _ => 0)
    case atStart => exact ⟨rfl, rfl⟩
    case round =>
      obtain ⟨rfl, rfl⟩ := hrel
      go_wp2_with fail
      refine (Tryz.Builder_String_any_k w.heap.size w.heap.size _ _ hI0 hb0.size).mono ?_
      rintro e w6 ⟨rfl, _, b6, _⟩
      go_wp2_with fail
      go_ret
      exact ⟨rfl, hb0.trans b6⟩
  · have hkp : 0 < p.length := by rw [HP.out]; omega
    obtain ⟨gp, op, cp, e1, hgp, hs3⟩ := HXP.out 0 _ (List.getElem?_eq_getElem hkp)
    injection e1 with e1 e2 e3
    subst e1 e3
    rw [Nat.zero_mul, Nat.add_zero] at hs3
    obtain ⟨z0, -, -⟩ := hs3
    have s0 := (hba.cell (p := ⟨gp, op, none⟩) hgp).trans z0
    clear z0 e2
    have hn2 : ((n : Int) == 0) = false := by simp; omega
    have hn3 : 0 < n := by omega
    cases hpart : p[0].part with
    | true =>
      have HH : Hid (headT p = [46]) := Lib.hid (by
        cases p with
        | nil => simp at hkp
        | cons a r => simp at hpart; simp [headT, hpart])
      rw [hpart] at s0
      clear hpart
      go_enter Tryz.func27, Tryz.ntmps27
      go_wp2_with fail
      refine (Tryz.writeByte w.heap.size w.heap.size _ 46 _ hfresh (by rw [Lib.byteCells_length]; decide) hba.size).mono ?_
      rintro e w3 ⟨rfl, hq1, hb3, -⟩
      have hI0 : IsB w.heap.size w.heap.size [46] w3 := .inr hq1
      have hb0 : Below w.heap.size w w3 := hba.trans hb3
      clear hq1 hb3 hba hfresh s0 hgp
      have hszb := IsB_lt hI0
      go_wp2_with fail
      go_loopw [18] (fun iv wr => PtR p w n iv wr) (fun iv _ => n - (intOf iv).toNat)
      case atStart => exact ⟨0, Nat.zero_le _, rfl, by rw [textK_zero, HH.out]; exact hI0, hb0⟩
      case round =>
        obtain ⟨k, hk, rfl, hI, hbw⟩ := hrel.ex
        by_cases hlt : k < n
        · have hkp : k < p.length := by rw [HP.out]; exact hlt
          obtain ⟨gp2, op2, cp, e1, hgp, hs3⟩ := HXP.out k _ (List.getElem?_eq_getElem hkp)
          injection e1 with e1 e2 e3
          injection e1 with e1
          injection e1 with e4 e5 _
          subst e4 e5 e3
          obtain ⟨z0, z1, z2⟩ := hs3
          have s0 := (hbw.cell (p := ⟨gp, op + k * 3, none⟩) hgp).trans z0
          have s1 := (hbw.cell (p := ⟨gp, op + k * 3 + 1, none⟩) hgp).trans z1
          have s2 := (hbw.cell (p := ⟨gp, op + k * 3 + 2, none⟩) hgp).trans z2
          have HTK := Lib.hid (textK_succ (List.getElem?_eq_getElem hkp))
          have HTL : Hid ((textK p k).length + (stT p[k]).length ≤ 1000000000) := Lib.hid (by
            have h1 := textK_len p (k + 1)
            rw [HTK.out, List.length_append] at h1
            exact Nat.le_trans h1 HLEN.out)
          have HSN := Lib.hid (HS.out _ (List.getElem_mem hkp))
          clear z0 z1 z2 e2
          generalize p[k] = s at *
          have hszb := IsB_lt hI
          go_wp2_with fail
          have hb1 : Below w.heap.size w (wr.alloc (.cells #[.bool s.part, .string ⟨s.name.toArray⟩, .int .i64 s.n] 74)) := hbw.alloc hbw.size _
          refine (written_any s _ HSN.out.1 HSN.out.2.1 HSN.out.2.2 (HT.out.below hb1)).mono ?_
          rintro e w3 ⟨rfl, hb3⟩
          have hI3 := IsB_kept (hI.alloc _) hb3
          have hb4 : Below w.heap.size w w3 := hb1.trans (hb3.mono hb1.size)
          clear hb1 hb3 s0 s1 s2 hI
          go_wp2_with fail
          refine (Tryz.writeString w.heap.size w.heap.size _ _ _ hI3 (by rw [Lib.byteCells_length, mk_size]; have := HTL.out; omega) hb4.size).mono ?_
          rintro e w4 ⟨rfl, h4, b4, k4⟩
          rw [Lib.strCells_eq, mk_data, ← Lib.byteCells_append, ← HTK.out] at h4
          clear k4
          go_wp2_with fail
          refine ⟨⟨k + 1, by omega, by congr 1, .inr h4, hb4.trans b4⟩, ?_⟩
          simp [intOf]; omega
        · obtain rfl : k = n := by omega
          rw [textK_all (by rw [HP.out]; omega)] at hI
          have hszb := IsB_lt hI
          go_wp2_with fail
          refine (Tryz.Builder_String_any_k w.heap.size w.heap.size _ _ hI hbw.size).mono ?_
          rintro e w6 ⟨rfl, _, b6, _⟩
          go_wp2_with fail
          go_ret
          exact ⟨rfl, hbw.trans b6⟩
    | false =>
      have HH : Hid (headT p = []) := Lib.hid (by
        cases p with
        | nil => simp at hkp
        | cons a r => simp at hpart; simp [headT, hpart])
      rw [hpart] at s0
      clear hpart
      have hI0 := hfresh
      have hb0 := hba
      clear hfresh
      go_enter Tryz.func27, Tryz.ntmps27
      go_wp2_with fail
      go_loopw [18] (fun iv wr => PtR p w n iv wr) (fun iv _ => n - (intOf iv).toNat)
      case atStart => exact ⟨0, Nat.zero_le _, rfl, by rw [textK_zero, HH.out]; exact hI0, hb0⟩
      case round =>
        obtain ⟨k, hk, rfl, hI, hbw⟩ := hrel.ex
        by_cases hlt : k < n
        · have hkp : k < p.length := by rw [HP.out]; exact hlt
          obtain ⟨gp2, op2, cp, e1, hgp, hs3⟩ := HXP.out k _ (List.getElem?_eq_getElem hkp)
          injection e1 with e1 e2 e3
          injection e1 with e1
          injection e1 with e4 e5 _
          subst e4 e5 e3
          obtain ⟨z0, z1, z2⟩ := hs3
          have s0 := (hbw.cell (p := ⟨gp, op + k * 3, none⟩) hgp).trans z0
          have s1 := (hbw.cell (p := ⟨gp, op + k * 3 + 1, none⟩) hgp).trans z1
          have s2 := (hbw.cell (p := ⟨gp, op + k * 3 + 2, none⟩) hgp).trans z2
          have HTK := Lib.hid (textK_succ (List.getElem?_eq_getElem hkp))
          have HTL : Hid ((textK p k).length + (stT p[k]).length ≤ 1000000000) := Lib.hid (by
            have h1 := textK_len p (k + 1)
            rw [HTK.out, List.length_append] at h1
            exact Nat.le_trans h1 HLEN.out)
          have HSN := Lib.hid (HS.out _ (List.getElem_mem hkp))
          clear z0 z1 z2 e2
          generalize p[k] = s at *
          have hszb := IsB_lt hI
          go_wp2_with fail
          have hb1 : Below w.heap.size w (wr.alloc (.cells #[.bool s.part, .string ⟨s.name.toArray⟩, .int .i64 s.n] 74)) := hbw.alloc hbw.size _
          refine (written_any s _ HSN.out.1 HSN.out.2.1 HSN.out.2.2 (HT.out.below hb1)).mono ?_
          rintro e w3 ⟨rfl, hb3⟩
          have hI3 := IsB_kept (hI.alloc _) hb3
          have hb4 : Below w.heap.size w w3 := hb1.trans (hb3.mono hb1.size)
          clear hb1 hb3 s0 s1 s2 hI
          go_wp2_with fail
          refine (Tryz.writeString w.heap.size w.heap.size _ _ _ hI3 (by rw [Lib.byteCells_length, mk_size]; have := HTL.out; omega) hb4.size).mono ?_
          rintro e w4 ⟨rfl, h4, b4, k4⟩
          rw [Lib.strCells_eq, mk_data, ← Lib.byteCells_append, ← HTK.out] at h4
          clear k4
          go_wp2_with fail
          refine ⟨⟨k + 1, by omega, by congr 1, .inr h4, hb4.trans b4⟩, ?_⟩
          simp [intOf]; omega
        · obtain rfl : k = n := by omega
          rw [textK_all (by rw [HP.out]; omega)] at hI
          have hszb := IsB_lt hI
          go_wp2_with fail
          refine (Tryz.Builder_String_any_k w.heap.size w.heap.size _ _ hI hbw.size).mono ?_
          rintro e w6 ⟨rfl, _, b6, _⟩
          go_wp2_with fail
          go_ret
          exact ⟨rfl, hbw.trans b6⟩
end Go.Proofs.YtafbojiojeemoaaGreatDoor

/-
  The document's own figures of a whole number.
-/
namespace Go.Proofs.YtafbojiojeemoaaGreatDoor
open Go.RowKit Np Rw Vp Up Qp Pw

/-- The figures ahead of the last one. -/
def aheadD (m : Nat) : List UInt8 := if m < 10 then [] else Lib.decDigits (m / 10)
theorem dec_ahead (m : Nat) : Lib.decDigits m = aheadD m ++ [UInt8.ofNat (48 + m % 10)] := by
  unfold aheadD
  by_cases h : m < 10
  · rw [Lib.decDigits_one h, if_pos h, show m % 10 = m by omega]; rfl
  · rw [if_neg h, Lib.decDigits, dif_neg h]
set_option maxRecDepth 100000 in
set_option maxHeartbeats 4000000 in
theorem refDecimal_any (n : Nat) (w : World) (hn : n ≤ 1000000) : Calls Tryz.prog 51 #[.int .i64 n] w fun e w' => e = .returned (.string ⟨(Lib.decDigits n).toArray⟩) ∧ Below w.heap.size w w' := by
  have hcv := any_byte (w.alloc (.cells #[.int .u8 (48 + (n : Int) % 10)] 5)) w.heap.size (48 + (n : Int) % 10) (by simp)
  have hnl := dec_len hn
  have HD0 := Lib.hid (dec_ahead n)
  have HV0 : Hid (UInt8.ofNat (48 + (n : Int) % 10).toNat = UInt8.ofNat (48 + n % 10)) := Lib.hid (by congr 1 <;> omega)
  have HB0 : Hid (Below w.heap.size w (w.alloc (.cells #[.int .u8 (48 + (n : Int) % 10)] 5))) := Lib.hid ((Below.refl _ _).alloc (Nat.le_refl _) _)
  go_enter Tryz.func51, Tryz.ntmps51
  go_wp2_with fail
  go_loopw [0, 3] (fun nv sv wr => ∃ (m : Nat) (d : List UInt8), m ≤ n ∧ nv = .int .i64 m ∧ sv = .string ⟨d.toArray⟩ ∧ Hid (Lib.decDigits n = aheadD m ++ d) ∧ Hid (Below w.heap.size w wr)) (fun nv _ _ => (intOf nv).toNat)
  case atStart =>
    refine ⟨n, [UInt8.ofNat (48 + n % 10)], Nat.le_refl _, rfl, ?_, HD0, HB0⟩
    have := HV0.out
    simp at this ⊢
    first | done | exact this | (rw [← this])
  case round =>
    obtain ⟨m, d, hm, rfl, rfl, HD, HB⟩ := hrel
    have hdl : d.length ≤ 7 := by
      have h1 := congrArg List.length HD.out
      rw [List.length_append] at h1
      omega
    by_cases h10 : m < 10
    · have HE : Hid (Lib.decDigits n = d) := Lib.hid (by rw [HD.out]; unfold aheadD; rw [if_pos h10]; rfl)
      go_wp2_with fail
      go_ret
      exact ⟨ret_list HE.out.symm, HB.out⟩
    · have HD2 : Hid (Lib.decDigits n = aheadD (m / 10) ++ (UInt8.ofNat (48 + m / 10 % 10) :: d)) := Lib.hid (by
        rw [HD.out]
        have : aheadD m = Lib.decDigits (m / 10) := by unfold aheadD; rw [if_neg h10]
        rw [this, dec_ahead (m / 10)]
        simp)
      have hcv2 := any_byte (wr.alloc (.cells #[.int .u8 (48 + (m : Int) / 10 % 10)] 5)) wr.heap.size (48 + (m : Int) / 10 % 10) (by simp)
      go_wp2_with fail
      refine ⟨⟨m / 10, UInt8.ofNat (48 + m / 10 % 10) :: d, by omega, by rw [Int.natCast_ediv]; rfl, ?_, HD2, Lib.hid (HB.out.alloc HB.out.size _)⟩, ?_⟩
      · have h5 : (48 + UInt8.ofNat (m / 10 % 10) : UInt8) = UInt8.ofNat (48 + m / 10 % 10) := by simp
        rw [h5, cat_one]
      · simp [intOf]; omega
end Go.Proofs.YtafbojiojeemoaaGreatDoor
