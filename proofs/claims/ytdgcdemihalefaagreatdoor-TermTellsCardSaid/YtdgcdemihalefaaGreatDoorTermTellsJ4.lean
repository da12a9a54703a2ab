/-
  Joined: ShelfV, ValW1, PaB2, PaB3, Pa4, ValW5, ValW10, ValW11, ValW6, ValW7, Els, PT2, PT3, RefW7, RefW8, VOpen, FwOp.
-/
import Derived.Shelf.Unicode.ValidAny
import Derived.Test.YtdgcdemihalefaaGreatDoorProg
import Derived.Test.YtdgcdemihalefaaGreatDoorRefW6
import Derived.Test.YtdgcdemihalefaaGreatDoorTermTellsJ2
import Derived.Test.YtdgcdemihalefaaGreatDoorTermTellsJ3
import Derived.Test.YtdgcdemihalefaaGreatDoorTermTellsJ1
import Derived.IntWalk
import Derived.StillTailTactics
import Derived.RangeFuncNested
import Derived.RangeFuncBound
import Derived.RangeFuncCalls
import Derived.RangeFuncLeaves
import Derived.RangeFuncBox
import Derived.Shelf.Abstract
import Derived.Shelf.RegionOpen
import Derived.OwnWalkIn
import Derived.TacticsInMore
import Derived.LoopNIn
import Derived.LoopIn
import Derived.Test.YtdgcdemihalefaaGreatDoorQRef2
import Derived.ProofKit
import Derived.LaidMore
import Derived.OpenShut
import Derived.Lay
import Derived.Carry
import Derived.SevenTiedAt
import Derived.Stop.Joined
import Derived.Deep.Slices
import Derived.Deep.Fields
import Derived.SizedLaws
namespace Go.Proofs
open Go.Shelf
def Tryz.laysValid_ren : Go.Shelf.Ren := ⟨fun | 196 => 88 | 259 => 132 | n => n, fun | 9 => 9 | 4 => 4 | 3 => 3 | 5 => 5 | 12 => 12 | 119 => 169 | 0 => 0 | 46 => 173 | 139 => 172 | 138 => 171 | 53 => 210 | n => n, fun | 3 => 0 | 4 => 1 | n => n⟩
theorem Tryz.laysValid : Go.Proofs.Lays.n196 Tryz.prog Tryz.laysValid_ren := {
  mixed := by kernel_rfl
  f196 := Tryz.func88.trans (congrArg some (by kernel_rfl))
  f259 := Tryz.func132.trans (congrArg some (by kernel_rfl))
  t0 := Tryz.underlying0
  a0 := Tryz.isAgg0
  z0 := Tryz.sizeOf0
  v0 := Tryz.zeroValue0
  t3 := Tryz.underlying3
  a3 := Tryz.isAgg3
  z3 := Tryz.sizeOf3
  v3 := Tryz.zeroValue3
  t4 := Tryz.underlying4
  a4 := Tryz.isAgg4
  z4 := Tryz.sizeOf4
  v4 := Tryz.zeroValue4
  t5 := Tryz.underlying5
  a5 := Tryz.isAgg5
  z5 := Tryz.sizeOf5
  v5 := Tryz.zeroValue5
  t9 := Tryz.underlying9
  a9 := Tryz.isAgg9
  z9 := Tryz.sizeOf9
  v9 := Tryz.zeroValue9
  t12 := Tryz.underlying12
  a12 := Tryz.isAgg12
  z12 := Tryz.sizeOf12
  v12 := Tryz.zeroValue12
  t46 := Tryz.underlying173
  a46 := Tryz.isAgg173
  z46 := Tryz.sizeOf173
  v46 := Tryz.zeroValue173
  t53 := Tryz.underlying210
  a53 := Tryz.isAgg210
  z53 := Tryz.sizeOf210
  v53 := Tryz.zeroValue210
  t119 := Tryz.underlying169
  a119 := Tryz.isAgg169
  z119 := Tryz.sizeOf169
  t138 := Tryz.underlying171
  a138 := Tryz.isAgg171
  z138 := Tryz.sizeOf171
  v138 := Tryz.zeroValue171
  t139 := Tryz.underlying172
  a139 := Tryz.isAgg172
  z139 := Tryz.sizeOf172
  v139 := Tryz.zeroValue172
  g3 := by kernel_rfl
  g4 := by kernel_rfl }
end Go.Proofs
namespace Go.Proofs.YtdgcdemihalefaaGreatDoor
open Go.RowKit Np Rw Vp
def Tabs (w : World) : Prop := Lib.Utf8Tabs 0 1 w
theorem Tabs.below {w w' : World} (h : Tabs w) (hb : Below w.heap.size w w') : Tabs w' := Utf8Tabs_below h hb
theorem valid_any (s : ByteArray) (w : World) (hs : s.size ≤ maxLen) (hT : Tabs w) :
    Calls Tryz.prog 88 #[.string s] w fun e w' => e = .returned (.bool (vld s.data.toList)) ∧ Below w.heap.size w w' :=
  Any.utf8_ValidString Tryz.laysValid s w (by unfold maxLen at hs; omega) hT
set_option maxHeartbeats 400000 in
theorem holdsParts_any (k : Int) (w : World) :
    Calls Tryz.prog 192 #[.int .i64 k] w fun e w' => e = .returned (.bool (cont k)) ∧ w = w' := by
  by_cases h5 : k = 5
  · subst h5
    go_enter Tryz.func192, Tryz.ntmps192
    go_wp2
    go_ret
    exact ⟨ret_bool rfl, rfl⟩
  · have e5 : (k == 5) = false := by simp [h5]
    have HC : Hid (cont k = decide (k = 6)) := Lib.hid (by simp [cont, h5])
    clear h5
    go_enter Tryz.func192, Tryz.ntmps192
    go_wp2
    go_ret
    refine ⟨ret_bool ?_, rfl⟩
    rw [HC.out]
    rfl
abbrev hda (h : Hd) : Value := .agg #[.int .i64 h.kind, .int .i64 h.left, .bool h.begun, .string ⟨h.ahead.toArray⟩]
def hdc (h : Hd) : List Value := [.int .i64 h.kind, .int .i64 h.left, .bool h.begun, .string ⟨h.ahead.toArray⟩]
set_option maxHeartbeats 1000000 in
theorem lets_any (h : Hd) (nm : List UInt8) (w : World) (hs : nm.length ≤ maxLen) (hT : Tabs w) :
    Calls Tryz.prog 189 #[hda h, .string ⟨nm.toArray⟩] w fun e w' => e = .returned (.bool (lets h.kind h.begun h.ahead nm)) ∧ Below w.heap.size w w' := by
  have hB : Below w.heap.size w w := Below.refl _ _
  have hs' : (ByteArray.mk nm.toArray).size ≤ maxLen := hs
  obtain ⟨k, lf, b, a⟩ := h
  simp only
  by_cases h6 : k = 6
  · subst h6
    have HL : Hid (lets 6 b a nm = (vld nm && (!b || decide (a < nm)))) := Lib.hid (by simp [lets])
    have hT1 : Tabs (w.alloc (.cells #[.int .i64 6, .int .i64 lf, .bool b, .string ⟨a.toArray⟩] 217)) := hT.below (hB.alloc (Nat.le_refl _) _)
    have hbl := bytesLess_eq a nm
    cases hv : vld nm
    · have HV := Lib.hid hv; clear hv hbl
      go_enter Tryz.func189, Tryz.ntmps189
      go_wp2_with fail
      refine (valid_any _ _ hs' hT1).mono ?_
      rintro e w1 ⟨rfl, hb1⟩
      rw [show vld (ByteArray.mk nm.toArray).data.toList = false from HV.out]
      go_wp2_with fail
      go_ret
      exact ⟨ret_bool (by rw [HL.out, HV.out]; rfl), (hB.alloc (Nat.le_refl _) _).trans (hb1.mono (by simp))⟩
    · have HV := Lib.hid hv; clear hv
      have HBL := Lib.hid hbl; clear hbl
      cases b
      · go_enter Tryz.func189, Tryz.ntmps189
        go_wp2_with fail
        refine (valid_any _ _ hs' hT1).mono ?_
        rintro e w1 ⟨rfl, hb1⟩
        rw [show vld (ByteArray.mk nm.toArray).data.toList = true from HV.out]
        obtain ⟨hc1, -⟩ := kept_cells hb1
        go_wp2_with fail
        go_ret
        exact ⟨ret_bool (by rw [HL.out, HV.out]; rfl), (hB.alloc (Nat.le_refl _) _).trans (hb1.mono (by simp))⟩
      · go_enter Tryz.func189, Tryz.ntmps189
        go_wp2_with fail
        refine (valid_any _ _ hs' hT1).mono ?_
        rintro e w1 ⟨rfl, hb1⟩
        rw [show vld (ByteArray.mk nm.toArray).data.toList = true from HV.out]
        obtain ⟨hc1, -⟩ := kept_cells hb1
        go_wp2_with fail
        go_ret
        exact ⟨ret_bool (by rw [HL.out, HV.out]; simp [HBL.out]), (hB.alloc (Nat.le_refl _) _).trans (hb1.mono (by simp))⟩
  · have HL : Hid (lets k b a nm = decide (nm = [])) := Lib.hid (by simp [lets, h6])
    have e6 : (k == 6) = false := by simp [h6]
    have e6' : (k != 6) = true := by simp [h6]
    clear h6
    go_enter Tryz.func189, Tryz.ntmps189
    go_wp2_with fail
    go_ret
    refine ⟨ret_bool ?_, hB.alloc (Nat.le_refl _) _⟩
    rw [HL.out]
    cases nm <;> rfl
set_option maxHeartbeats 2000000 in
theorem rightNode_any (n : Nd) (w : World) (hs : n.s.length ≤ maxLen) (hT : Tabs w) :
    Calls Tryz.prog 190 #[nda n] w fun e w' => e = .returned (.bool (plainN n)) ∧ Below w.heap.size w w' := by
  have hB : Below w.heap.size w w := Below.refl _ _
  obtain ⟨k, m, nm, s, g, x⟩ := n
  simp only at hs ⊢
  have hs' : (ByteArray.mk s.toArray).size ≤ maxLen := hs
  by_cases h3 : k = 3
  · have HP := Lib.hid (plainN_num (n := ⟨k, m, nm, s, g, x⟩) h3)
    subst h3
    go_enter Tryz.func190, Tryz.ntmps190
    go_wp2_with fail
    refine (right_any _ _ _ _ _ _ _ hs').mono ?_
    rintro e w1 ⟨rfl, hb1⟩
    go_wp2_with fail
    go_ret
    refine ⟨ret_bool (by rw [HP.out]), ?_⟩
    exact (hB.alloc (Nat.le_refl _) _).trans (hb1.mono (by simp))
  by_cases h4 : k = 4
  · have HP := Lib.hid (plainN_str (n := ⟨k, m, nm, s, g, x⟩) h4)
    subst h4
    have hT1 : Tabs (w.alloc (.cells #[.int .i64 4, .int .i64 m, .string ⟨nm.toArray⟩, .string ⟨s.toArray⟩, .bool g, .int .i64 x] 43)) := hT.below (hB.alloc (Nat.le_refl _) _)
    by_cases hm : m = 0
    · subst hm
      cases hv : vld s
      · have HV := Lib.hid hv; clear hv
        go_enter Tryz.func190, Tryz.ntmps190
        go_wp2_with fail
        refine (valid_any _ _ hs' hT1).mono ?_
        rintro e w1 ⟨rfl, hb1⟩
        rw [show vld (ByteArray.mk s.toArray).data.toList = false from HV.out]
        go_wp2_with fail
        go_ret
        exact ⟨ret_bool (by rw [HP.out]; simp [HV.out]), (hB.alloc (Nat.le_refl _) _).trans (hb1.mono (by simp))⟩
      · have HV := Lib.hid hv; clear hv
        cases g
        · go_enter Tryz.func190, Tryz.ntmps190
          go_wp2_with fail
          refine (valid_any _ _ hs' hT1).mono ?_
          rintro e w1 ⟨rfl, hb1⟩
          rw [show vld (ByteArray.mk s.toArray).data.toList = true from HV.out]
          obtain ⟨hc1, -⟩ := kept_cells hb1
          go_wp2_with fail
          go_ret
          refine ⟨ret_bool ?_, (hB.alloc (Nat.le_refl _) _).trans (hb1.mono (by simp))⟩
          rw [HP.out]
          simp [HV.out]
          rfl
        · go_enter Tryz.func190, Tryz.ntmps190
          go_wp2_with fail
          refine (valid_any _ _ hs' hT1).mono ?_
          rintro e w1 ⟨rfl, hb1⟩
          rw [show vld (ByteArray.mk s.toArray).data.toList = true from HV.out]
          obtain ⟨hc1, -⟩ := kept_cells hb1
          go_wp2_with fail
          go_ret
          refine ⟨ret_bool ?_, (hB.alloc (Nat.le_refl _) _).trans (hb1.mono (by simp))⟩
          rw [HP.out]
          simp
    · have HE : Hid (plainN ⟨4, m, nm, s, g, x⟩ = false) := Lib.hid (by rw [HP.out]; simp [hm])
      have e0 : (m == 0) = false := by simp [hm]
      clear hm
      go_enter Tryz.func190, Tryz.ntmps190
      go_wp2_with fail
      go_ret
      exact ⟨ret_bool HE.out.symm, hB.alloc (Nat.le_refl _) _⟩
  by_cases h0 : k = 0 ∨ k = 1 ∨ k = 2
  · rcases h0 with rfl | rfl | rfl
    all_goals
      clear hs hs' hT h3 h4
      go_enter Tryz.func190, Tryz.ntmps190
      go_wp2_with fail
      all_goals (go_ret; refine ⟨ret_bool ?_, hB.alloc (Nat.le_refl _) _⟩; clear hB)
      all_goals (go_light; simp_all [plainN] <;> rfl)
  by_cases h5 : k = 5 ∨ k = 6
  · rcases h5 with rfl | rfl
    all_goals
      clear hs hs' hT h3 h4 h0
      go_enter Tryz.func190, Tryz.ntmps190
      go_wp2_with fail
      all_goals (go_ret; refine ⟨ret_bool ?_, hB.alloc (Nat.le_refl _) _⟩; clear hB)
      all_goals (go_light; simp_all [plainN] <;> first | rfl | omega)
  · have HP := Lib.hid (plainN_none (n := ⟨k, m, nm, s, g, x⟩) (by simp only; omega))
    have e0 : (k == 0) = false := by simp; omega
    have e1 : (k == 1) = false := by simp; omega
    have e2 : (k == 2) = false := by simp; omega
    have e3 : (k == 3) = false := by simp; omega
    have e4 : (k == 4) = false := by simp; omega
    have e5 : (k == 5) = false := by simp; omega
    have e6 : (k == 6) = false := by simp; omega
    clear h0 h3 h4 h5
    go_enter Tryz.func190, Tryz.ntmps190
    go_wp2_with fail
    go_ret
    exact ⟨ret_bool HP.out.symm, hB.alloc (Nat.le_refl _) _⟩
end Go.Proofs.YtdgcdemihalefaaGreatDoor
namespace Go.Proofs.YtdgcdemihalefaaGreatDoor
open Go.RowKit Np Rw Vp Up Qp Pw
theorem cat_one (c : UInt8) (l : List UInt8) : (ByteArray.mk #[c]) ++ (ByteArray.mk l.toArray) = ⟨(c :: l).toArray⟩ := ByteArray.ext (by simp)
theorem wrs_le : ∀ l : List UInt8, (wrs l).length ≤ 6 * l.length
  | [] => by simp [wrs]
  | c :: r => by
    have h := wrs_le r
    have h2 : (wr c).length ≤ 6 := by
      unfold wr
      repeat' split
      all_goals simp
    have : wrs (c :: r) = wr c ++ wrs r := by simp [wrs]
    rw [this, List.length_append, List.length_cons]
    omega
set_option maxRecDepth 100000 in
set_option maxHeartbeats 2000000 in
theorem written_any (s : St) (w : World) (hs : s.name.length ≤ 1073741824) (h0 : -9223372036854775808 ≤ s.n) (h1 : s.n ≤ 9223372036854775807) (hT : PowTab w) :
    Calls Tryz.prog 193 #[sta s] w fun e w' => e = .returned (.string ⟨(stT s).toArray⟩) ∧ Below w.heap.size w w' := by
  obtain ⟨p, nm, n⟩ := s
  have hb := (Below.refl w.heap.size w).alloc (Nat.le_refl _) (.cells #[.bool p, .string ⟨nm.toArray⟩, .int .i64 n] 71)
  have HB := Lib.hid hb
  cases p with
  | true =>
    have HL : Hid ((ByteArray.mk #[91]) ++ (ByteArray.mk (Lib.itoa n).toArray) ++ (ByteArray.mk #[93]) = ⟨(stT ⟨true, nm, n⟩).toArray⟩) := Lib.hid (by
      rw [stT, if_pos rfl]
      exact ByteArray.ext (by simp))
    have HI := Lib.hid (Tryz.strconv_Itoa n h0 h1 _ (hT.below hb))
    have hil := Lib.itoa_length_le n h0 h1
    clear hb hT
    generalize Lib.itoa n = it at *
    generalize stT ⟨true, nm, n⟩ = R at *
    go_enter Tryz.func193, Tryz.ntmps193
    go_wp2_with fail
    refine HI.out.mono ?_
    rintro e w1 ⟨rfl, k, os, rfl⟩
    have HB1 : Hid (Below w.heap.size w (Sort.grow ((w.alloc (.cells #[.bool true, .string ⟨nm.toArray⟩, .int .i64 n] 71)).drewN k) os)) := Lib.hid (HB.out.trans ((grow_below' _ k os).mono HB.out.size))
    generalize Sort.grow ((w.alloc (.cells #[.bool true, .string ⟨nm.toArray⟩, .int .i64 n] 71)).drewN k) os = w1 at *
    go_wp2_with fail
    go_ret
    exact ⟨ret_str HL.out, HB1.out⟩
  | false =>
    have HQ : Hid (∀ W, Calls Tryz.prog 196 #[.string ⟨nm.toArray⟩] W fun e w' => e = .returned (.string ⟨(quo nm).toArray⟩) ∧ Below W.heap.size W w') := Lib.hid (fun W => quote_any ⟨nm.toArray⟩ W hs)
    have HW : Hid (∀ W, Calls Tryz.prog 213 #[.string ⟨nm.toArray⟩] W fun e w' => e = .returned (.string ⟨(wrd nm).toArray⟩) ∧ w' = W) := Lib.hid (fun W => word_any ⟨nm.toArray⟩ W (by unfold maxLen; exact Nat.le_trans hs (by decide)))
    have hql : (quo nm).length ≤ 6442450950 := by
      have h := quo_len nm
      have h2 := wrs_le nm
      have h3 : nm.length ≤ 1073741824 := hs
      omega
    clear hb hT
    by_cases hne : nm = []
    · subst hne
      have HL : Hid ((ByteArray.mk #[46]) ++ (ByteArray.mk (quo []).toArray) = ⟨(stT ⟨false, [], n⟩).toArray⟩) := Lib.hid (by
        rw [stT, if_neg (by simp), if_neg (by simp [isW]), cat_one])
      generalize stT ⟨false, [], n⟩ = R at *
      generalize quo [] = qn at *
      go_enter Tryz.func193, Tryz.ntmps193
      go_upto_region 3 with fail
      go_quiet (fail)
      go_wp2_with fail
      refine (HQ.out _).mono ?_
      rintro e w1 ⟨rfl, hb1⟩
      have HB1 : Hid (Below w.heap.size w w1) := Lib.hid ((drewN_below HB.out _).trans (hb1.mono HB.out.size))
      clear hb1
      go_wp2_with fail
      go_ret
      exact ⟨ret_str HL.out, HB1.out⟩
    · have hz : (nm == []) = false := by simpa using hne
      have hz2 : (nm != []) = true := by simpa using hne
      have hz3 : nm.isEmpty = false := by simpa using hne
      by_cases hw : wrd nm = nm
      · have hw2 : (wrd nm == nm) = true := by simpa using hw
        have HL : Hid ((ByteArray.mk #[46]) ++ (ByteArray.mk nm.toArray) = ⟨(stT ⟨false, nm, n⟩).toArray⟩) := Lib.hid (by
          rw [stT, if_neg (by simp), if_pos (by simp [isW, hne]; simpa using hw2), cat_one])
        generalize stT ⟨false, nm, n⟩ = R at *
        generalize quo nm = qn at *
        go_enter Tryz.func193, Tryz.ntmps193
        generalize wrd nm = wn at *
        go_upto_region 3 with fail
        go_region_with (first | (go_at_call 213; refine (HW.out _).mono ?_; rintro e w3 ⟨rfl, rfl⟩))
        all_goals go_wp2_with fail
        all_goals go_ret
        all_goals exact ⟨ret_str HL.out, drewN_below HB.out _⟩
      · have hw2 : (wrd nm == nm) = false := by simpa using hw
        have HL : Hid ((ByteArray.mk #[46]) ++ (ByteArray.mk (quo nm).toArray) = ⟨(stT ⟨false, nm, n⟩).toArray⟩) := Lib.hid (by
          rw [stT, if_neg (by simp), if_neg (by simp [isW, hw]), cat_one])
        generalize stT ⟨false, nm, n⟩ = R at *
        generalize quo nm = qn at *
        go_enter Tryz.func193, Tryz.ntmps193
        generalize wrd nm = wn at *
        go_upto_region 3 with fail
        go_region_with (first | (go_at_call 213; refine (HW.out _).mono ?_; rintro e w3 ⟨rfl, rfl⟩))
        all_goals go_wp2_with fail
        all_goals refine (HQ.out _).mono ?_
        all_goals rintro e w1 ⟨rfl, hb1⟩
        all_goals have HB1 : Hid (Below w.heap.size w w1) := Lib.hid ((drewN_below HB.out _).trans (hb1.mono HB.out.size))
        all_goals clear hb1
        all_goals go_wp2_with fail
        all_goals go_ret
        all_goals exact ⟨ret_str HL.out, HB1.out⟩
end Go.Proofs.YtdgcdemihalefaaGreatDoor
namespace Go.Proofs.YtdgcdemihalefaaGreatDoor
open Go.RowKit Np Rw Vp Pw Qp
structure PtR (p : List St) (w : World) (n : Nat) (iv : Value) (wr : World) : Prop where
  ex : ∃ k : Nat, k ≤ n ∧ iv = .int .i64 k ∧ IsB w.heap.size w.heap.size (textK p k) wr ∧ Below w.heap.size w wr
set_option maxRecDepth 100000 in
set_option maxHeartbeats 4000000 in
theorem ptext_any (pv : Value) (p : List St) (w : World) (hp : Sps w pv p) (hpl : p.length ≤ 100000000) (hs : ∀ s ∈ p, s.name.length ≤ 1073741824 ∧ -9223372036854775808 ≤ s.n ∧ s.n ≤ 9223372036854775807) (hlen : (textP p).length ≤ 1000000000) (hT : PowTab w) :
    Calls Tryz.prog 139 #[pv] w fun e w' => e = .returned (.string ⟨(textP p).toArray⟩) ∧ Below w.heap.size w w' := by
  have HT := Lib.hid hT
  have HS := Lib.hid hs
  have HLEN := Lib.hid hlen
  have HXP : Hid (∀ k s, p[k]? = some s → ∃ g o c, pv = .slice (some ⟨g, o, none⟩) p.length c ∧ g < w.heap.size ∧ Sp3 w g (o + k * 3) s) := Lib.hid fun k s hs => by
    obtain ⟨g, o, c, hv, -, -, hg, hx⟩ := hp.opened (by have := (List.getElem?_eq_some_iff.1 hs).1; omega)
    exact ⟨g, o, c, hv, hg, (hx k s hs).sp⟩
  obtain ⟨P, pc, rfl, -⟩ := hp
  clear hT hs hlen
  generalize hpp : p.length = n at *
  have HP := Lib.hid hpp
  clear hpp
  have hfresh : IsB w.heap.size w.heap.size [] (w.alloc (.cells #[.pointer none, .slice none 0 0] 65)) := Lib.IsBuilderF.of (Lib.fresh_isBuilder 65 5 w)
  have hba : Below w.heap.size w (w.alloc (.cells #[.pointer none, .slice none 0 0] 65)) := (Below.refl _ _).alloc (by omega) _
  by_cases hn : n = 0
  · subst hn
    have htx : textP p = [46] := by
      have : p = [] := List.eq_nil_of_length_eq_zero HP.out
      rw [this]; rfl
    rw [htx]
    have HH : Hid (headT p = [46]) := Lib.hid (by
      have : p = [] := List.eq_nil_of_length_eq_zero HP.out
      rw [this]; rfl)
    go_enter Tryz.func139, Tryz.ntmps139
    go_wp2_with fail
    refine (Tryz.writeByte w.heap.size w.heap.size _ 46 _ hfresh (by rw [Lib.byteCells_length]; decide) hba.size).mono ?_
    rintro e w3 ⟨rfl, hq1, hb3, -⟩
    have hI0 : IsB w.heap.size w.heap.size [46] w3 := .inr hq1
    have hb0 : Below w.heap.size w w3 := hba.trans hb3
    clear hq1 hb3 hba hfresh
    have hszb := IsB_lt hI0
    go_wp2_with fail
    go_loopw [18] (fun iv wr => iv = .int .i64 0 ∧ wr = w3) (fun _ _ => 0)
    case atStart => exact ⟨rfl, rfl⟩
    case round =>
      obtain ⟨rfl, rfl⟩ := hrel
      go_wp2_with fail
      refine (Tryz.Builder_String_any_k w.heap.size w.heap.size _ _ hI0 hb0.size).mono ?_
      rintro e w6 ⟨rfl, _, b6, _⟩
      go_wp2_with fail
      go_ret
      exact ⟨rfl, hb0.trans b6⟩
  · have hkp : 0 < p.length := by rw [HP.out]; omega
    obtain ⟨gp, op, cp, e1, hgp, hs3⟩ := HXP.out 0 _ (List.getElem?_eq_getElem hkp)
    injection e1 with e1 e2 e3
    subst e1 e3
    rw [Nat.zero_mul, Nat.add_zero] at hs3
    obtain ⟨z0, -, -⟩ := hs3
    have s0 := (hba.cell (p := ⟨gp, op, none⟩) hgp).trans z0
    clear z0 e2
    have hn2 : ((n : Int) == 0) = false := by simp; omega
    have hn3 : 0 < n := by omega
    cases hpart : p[0].part with
    | true =>
      have HH : Hid (headT p = [46]) := Lib.hid (by
        cases p with
        | nil => simp at hkp
        | cons a r => simp at hpart; simp [headT, hpart])
      rw [hpart] at s0
      clear hpart
      go_enter Tryz.func139, Tryz.ntmps139
      go_wp2_with fail
      refine (Tryz.writeByte w.heap.size w.heap.size _ 46 _ hfresh (by rw [Lib.byteCells_length]; decide) hba.size).mono ?_
      rintro e w3 ⟨rfl, hq1, hb3, -⟩
      have hI0 : IsB w.heap.size w.heap.size [46] w3 := .inr hq1
      have hb0 : Below w.heap.size w w3 := hba.trans hb3
      clear hq1 hb3 hba hfresh s0 hgp
      have hszb := IsB_lt hI0
      go_wp2_with fail
      go_loopw [18] (fun iv wr => PtR p w n iv wr) (fun iv _ => n - (intOf iv).toNat)
      case atStart => exact ⟨0, Nat.zero_le _, rfl, by rw [textK_zero, HH.out]; exact hI0, hb0⟩
      case round =>
        obtain ⟨k, hk, rfl, hI, hbw⟩ := hrel.ex
        by_cases hlt : k < n
        · have hkp : k < p.length := by rw [HP.out]; exact hlt
          obtain ⟨gp2, op2, cp, e1, hgp, hs3⟩ := HXP.out k _ (List.getElem?_eq_getElem hkp)
          injection e1 with e1 e2 e3
          injection e1 with e1
          injection e1 with e4 e5 _
          subst e4 e5 e3
          obtain ⟨z0, z1, z2⟩ := hs3
          have s0 := (hbw.cell (p := ⟨gp, op + k * 3, none⟩) hgp).trans z0
          have s1 := (hbw.cell (p := ⟨gp, op + k * 3 + 1, none⟩) hgp).trans z1
          have s2 := (hbw.cell (p := ⟨gp, op + k * 3 + 2, none⟩) hgp).trans z2
          have HTK := Lib.hid (textK_succ (List.getElem?_eq_getElem hkp))
          have HTL : Hid ((textK p k).length + (stT p[k]).length ≤ 1000000000) := Lib.hid (by
            have h1 := textK_len p (k + 1)
            rw [HTK.out, List.length_append] at h1
            exact Nat.le_trans h1 HLEN.out)
          have HSN := Lib.hid (HS.out _ (List.getElem_mem hkp))
          clear z0 z1 z2 e2
          generalize p[k] = s at *
          have hszb := IsB_lt hI
          go_wp2_with fail
          have hb1 : Below w.heap.size w (wr.alloc (.cells #[.bool s.part, .string ⟨s.name.toArray⟩, .int .i64 s.n] 71)) := hbw.alloc hbw.size _
          refine (written_any s _ HSN.out.1 HSN.out.2.1 HSN.out.2.2 (HT.out.below hb1)).mono ?_
          rintro e w3 ⟨rfl, hb3⟩
          have hI3 := IsB_kept (hI.alloc _) hb3
          have hb4 : Below w.heap.size w w3 := hb1.trans (hb3.mono hb1.size)
          clear hb1 hb3 s0 s1 s2 hI
          go_wp2_with fail
          refine (Tryz.writeString w.heap.size w.heap.size _ _ _ hI3 (by rw [Lib.byteCells_length, mk_size]; have := HTL.out; omega) hb4.size).mono ?_
          rintro e w4 ⟨rfl, h4, b4, k4⟩
          rw [Lib.strCells_eq, mk_data, ← Lib.byteCells_append, ← HTK.out] at h4
          clear k4
          go_wp2_with fail
          refine ⟨⟨k + 1, by omega, by congr 1, .inr h4, hb4.trans b4⟩, ?_⟩
          simp [intOf]; omega
        · obtain rfl : k = n := by omega
          rw [textK_all (by rw [HP.out]; omega)] at hI
          have hszb := IsB_lt hI
          go_wp2_with fail
          refine (Tryz.Builder_String_any_k w.heap.size w.heap.size _ _ hI hbw.size).mono ?_
          rintro e w6 ⟨rfl, _, b6, _⟩
          go_wp2_with fail
          go_ret
          exact ⟨rfl, hbw.trans b6⟩
    | false =>
      have HH : Hid (headT p = []) := Lib.hid (by
        cases p with
        | nil => simp at hkp
        | cons a r => simp at hpart; simp [headT, hpart])
      rw [hpart] at s0
      clear hpart
      have hI0 := hfresh
      have hb0 := hba
      clear hfresh
      go_enter Tryz.func139, Tryz.ntmps139
      go_wp2_with fail
      go_loopw [18] (fun iv wr => PtR p w n iv wr) (fun iv _ => n - (intOf iv).toNat)
      case atStart => exact ⟨0, Nat.zero_le _, rfl, by rw [textK_zero, HH.out]; exact hI0, hb0⟩
      case round =>
        obtain ⟨k, hk, rfl, hI, hbw⟩ := hrel.ex
        by_cases hlt : k < n
        · have hkp : k < p.length := by rw [HP.out]; exact hlt
          obtain ⟨gp2, op2, cp, e1, hgp, hs3⟩ := HXP.out k _ (List.getElem?_eq_getElem hkp)
          injection e1 with e1 e2 e3
          injection e1 with e1
          injection e1 with e4 e5 _
          subst e4 e5 e3
          obtain ⟨z0, z1, z2⟩ := hs3
          have s0 := (hbw.cell (p := ⟨gp, op + k * 3, none⟩) hgp).trans z0
          have s1 := (hbw.cell (p := ⟨gp, op + k * 3 + 1, none⟩) hgp).trans z1
          have s2 := (hbw.cell (p := ⟨gp, op + k * 3 + 2, none⟩) hgp).trans z2
          have HTK := Lib.hid (textK_succ (List.getElem?_eq_getElem hkp))
          have HTL : Hid ((textK p k).length + (stT p[k]).length ≤ 1000000000) := Lib.hid (by
            have h1 := textK_len p (k + 1)
            rw [HTK.out, List.length_append] at h1
            exact Nat.le_trans h1 HLEN.out)
          have HSN := Lib.hid (HS.out _ (List.getElem_mem hkp))
          clear z0 z1 z2 e2
          generalize p[k] = s at *
          have hszb := IsB_lt hI
          go_wp2_with fail
          have hb1 : Below w.heap.size w (wr.alloc (.cells #[.bool s.part, .string ⟨s.name.toArray⟩, .int .i64 s.n] 71)) := hbw.alloc hbw.size _
          refine (written_any s _ HSN.out.1 HSN.out.2.1 HSN.out.2.2 (HT.out.below hb1)).mono ?_
          rintro e w3 ⟨rfl, hb3⟩
          have hI3 := IsB_kept (hI.alloc _) hb3
          have hb4 : Below w.heap.size w w3 := hb1.trans (hb3.mono hb1.size)
          clear hb1 hb3 s0 s1 s2 hI
          go_wp2_with fail
          refine (Tryz.writeString w.heap.size w.heap.size _ _ _ hI3 (by rw [Lib.byteCells_length, mk_size]; have := HTL.out; omega) hb4.size).mono ?_
          rintro e w4 ⟨rfl, h4, b4, k4⟩
          rw [Lib.strCells_eq, mk_data, ← Lib.byteCells_append, ← HTK.out] at h4
          clear k4
          go_wp2_with fail
          refine ⟨⟨k + 1, by omega, by congr 1, .inr h4, hb4.trans b4⟩, ?_⟩
          simp [intOf]; omega
        · obtain rfl : k = n := by omega
          rw [textK_all (by rw [HP.out]; omega)] at hI
          have hszb := IsB_lt hI
          go_wp2_with fail
          refine (Tryz.Builder_String_any_k w.heap.size w.heap.size _ _ hI hbw.size).mono ?_
          rintro e w6 ⟨rfl, _, b6, _⟩
          go_wp2_with fail
          go_ret
          exact ⟨rfl, hbw.trans b6⟩
end Go.Proofs.YtdgcdemihalefaaGreatDoor
namespace Go.Proofs.YtdgcdemihalefaaGreatDoor
open Go.RowKit Np Rw Vp Pw
set_option maxRecDepth 100000 in
set_option maxHeartbeats 1000000 in
theorem rightStep_any (s : St) (w : World) (hs : s.name.length ≤ maxLen) (hT : Tabs w) : Calls Tryz.prog 211 #[sta s] w fun e w' => e = .returned (.bool (rightS s)) ∧ Below w.heap.size w w' := by
  obtain ⟨p, nm, n⟩ := s
  have hb := (Below.refl w.heap.size w).alloc (Nat.le_refl _) (.cells #[.bool p, .string ⟨nm.toArray⟩, .int .i64 n] 71)
  have HB := Lib.hid hb
  have HV := Lib.hid (valid_any ⟨nm.toArray⟩ (w.alloc (.cells #[.bool p, .string ⟨nm.toArray⟩, .int .i64 n] 71)) hs (hT.below hb))
  clear hb hT
  cases p with
  | true =>
    have HL : Hid (rightS ⟨true, nm, n⟩ = (decide (nm = []) && decide (0 ≤ n) && decide (n ≤ 1000000))) := Lib.hid (by unfold rightS; rw [if_pos rfl])
    generalize rightS ⟨true, nm, n⟩ = b at *
    by_cases h1 : nm = []
    · subst h1
      by_cases h2 : 0 ≤ n
      · have HR : Hid (b = decide (n ≤ 1000000)) := Lib.hid (by rw [HL.out]; simp [h2])
        go_enter Tryz.func211, Tryz.ntmps211
        go_wp2_with fail
        go_ret
        exact ⟨ret_bool HR.out.symm, HB.out⟩
      · have HR : Hid (b = false) := Lib.hid (by rw [HL.out]; simp [h2])
        go_enter Tryz.func211, Tryz.ntmps211
        go_wp2_with fail
        go_ret
        exact ⟨ret_bool HR.out.symm, HB.out⟩
    · have HR : Hid (b = false) := Lib.hid (by rw [HL.out]; simp [h1])
      have h2 : (nm == []) = false := by simpa using h1
      go_enter Tryz.func211, Tryz.ntmps211
      go_wp2_with fail
      go_ret
      exact ⟨ret_bool HR.out.symm, HB.out⟩
  | false =>
    have HL : Hid (rightS ⟨false, nm, n⟩ = (decide (n = 0) && vld nm)) := Lib.hid (by unfold rightS; rw [if_neg (by simp)])
    generalize rightS ⟨false, nm, n⟩ = b at *
    by_cases h1 : n = 0
    · subst h1
      have HR : Hid (b = vld nm) := Lib.hid (by rw [HL.out]; simp)
      go_enter Tryz.func211, Tryz.ntmps211
      go_wp2_with fail
      refine HV.out.mono ?_
      rintro e w1 ⟨rfl, hb1⟩
      have HB1 : Hid (Below w.heap.size w w1) := Lib.hid (HB.out.trans (hb1.mono HB.out.size))
      clear hb1
      go_wp2_with fail
      go_ret
      exact ⟨ret_bool HR.out.symm, HB1.out⟩
    · have HR : Hid (b = false) := Lib.hid (by rw [HL.out]; simp [h1])
      have h2 : (n == 0) = false := by simpa using h1
      go_enter Tryz.func211, Tryz.ntmps211
      go_wp2_with fail
      go_ret
      exact ⟨ret_bool HR.out.symm, HB.out⟩
end Go.Proofs.YtdgcdemihalefaaGreatDoor
namespace Go.Proofs.YtdgcdemihalefaaGreatDoor
open Go.RowKit Np Rw Vp
abbrev OwnN (base : Nat) (w : World) (v : Value) (l : List Nd) : Prop := Own ndc 6 43 base w v l
def noName (n : Nd) : Nd := { n with name := [] }
end Go.Proofs.YtdgcdemihalefaaGreatDoor
namespace Go.Proofs.YtdgcdemihalefaaGreatDoor
open Go.RowKit Np Rw Vp
end Go.Proofs.YtdgcdemihalefaaGreatDoor
namespace Go.Proofs.YtdgcdemihalefaaGreatDoor
open Go.RowKit Np Rw Vp
def GivesO (w : World) (names : List (List UInt8)) (L : List (List Nd)) (e : Ending) (w' : World) : Prop := ∃ v', e = .returned (.tuple #[v', .int .i64 (objE names L)]) ∧ OwnN w.heap.size w' v' (objV names L) ∧ Below w.heap.size w w'
theorem GivesO.bad {w w' : World} {names : List (List UInt8)} {L : List (List Nd)} {e : Ending} (h : objB names L = false) (he : e = .returned (.tuple #[.slice none 0 0, .int .i64 4])) (hb : Below w.heap.size w w') : GivesO w names L e w' :=
  ⟨_, by rw [objE, h]; exact he, by rw [objV, h]; exact Own.nil _, hb⟩
def GoodTo (names : List (List UInt8)) (p : List Nat) (k : Nat) : Prop :=
  (∀ i j, i < k → p[i]? = some j → vld (atN names j) = true) ∧ (∀ i a b, i + 1 < k → p[i]? = some a → p[i + 1]? = some b → atN names a ≠ atN names b)
theorem GoodTo.next {names : List (List UInt8)} {p : List Nat} {k at_ : Nat} (h : GoodTo names p k) (ha : p[k]? = some at_) (hv : vld (atN names at_) = true) (hn : ∀ a, 0 < k → p[k - 1]? = some a → atN names a ≠ atN names at_) : GoodTo names p (k + 1) := by
  refine ⟨fun i j hi hj => ?_, fun i a b hi h1 h2 => ?_⟩
  · by_cases e : i = k
    · subst e; rw [ha] at hj; injection hj with hj; rw [← hj]; exact hv
    · exact h.1 i j (by omega) hj
  · by_cases e : i + 1 = k
    · subst e; rw [ha] at h2; injection h2 with h2; rw [← h2]; exact hn a (by omega) h1
    · exact h.2 i a b (by omega) h1 h2
end Go.Proofs.YtdgcdemihalefaaGreatDoor
namespace Go.Proofs.YtdgcdemihalefaaGreatDoor
open Go.RowKit Go.Shelf Np Rw Vp
attribute [local go_sem] Oper.semAt_some
abbrev Pt (L : List Nd) := { x : Nat × Tr Nd // okT many x.2 ∧ ∃ r, L.drop x.1 = flat x.2 ++ r }
end Go.Proofs.YtdgcdemihalefaaGreatDoor
namespace Go.Proofs.YtdgcdemihalefaaGreatDoor
open Go.RowKit Go.Shelf Np Rw Vp
attribute [local go_sem] Oper.semAt_some
def clr (t : Tr Nd) : Tr Nd := .mk (noName t.nd) t.ks
def Elems (base : Nat) (W : World) (zs : List (Option Addr × Nat × Nat)) (L : List (List Nd)) : Prop := zs.length = L.length ∧ ∀ (k : Nat) (z : Option Addr × Nat × Nat) (l : List Nd), zs[k]? = some z → L[k]? = some l → OwnN base W (.slice z.1 z.2.1 z.2.2) l
theorem Elems.below {base : Nat} {W W' : World} {zs : List (Option Addr × Nat × Nat)} {L : List (List Nd)} (h : Elems base W zs L) (hb : Below W.heap.size W W') : Elems base W' zs L := ⟨h.1, fun k z l h1 h2 => (h.2 k z l h1 h2).below hb⟩
theorem Elems.snoc {base : Nat} {W : World} {zs : List (Option Addr × Nat × Nat)} {L : List (List Nd)} {z : Option Addr × Nat × Nat} {l : List Nd} (h : Elems base W zs L) (hz : OwnN base W (.slice z.1 z.2.1 z.2.2) l) : Elems base W (zs ++ [z]) (L ++ [l]) := by
  refine ⟨by simp [h.1], fun k y m h1 h2 => ?_⟩
  rw [List.getElem?_append] at h1 h2
  rw [h.1] at h1
  split at h1
  · rename_i hk
    rw [if_pos hk] at h2
    exact h.2 k y m h1 h2
  · rename_i hk
    rw [if_neg hk] at h2
    have : k - L.length = 0 := by
      have := (List.getElem?_eq_some_iff.1 h1).1
      simp at this; omega
    rw [this] at h1 h2
    simp at h1 h2
    subst h1 h2
    exact hz
def PI {L : List Nd} (w : World) (pre : List (Pt L)) (W : World) : Prop :=
  (∃ v zs, Boxed W w.heap.size 79 v ∧ Own slc 1 35 w.heap.size W v zs ∧ Elems w.heap.size W zs (pre.map fun x => flat (clr x.1.2))) ∧ Below w.heap.size w W
theorem PI.own {L : List Nd} (w : World) (B : Nat) (hB : w.heap.size ≤ B) : OwnFrom B (PI (L := L) w) := by
  intro s W W' row hs hg hr
  obtain ⟨⟨v, zs, h1, h2, h3⟩, h4⟩ := hs
  have hr' : ∀ r, row = some r → ∃ o : Obj, W.heap[r]? = some o ∧ o.isCells = false := fun r e => (hr r e).2
  refine ⟨⟨v, zs, boxed_turned h1 hg hr', h2.turned hg hr', h3.1, fun k z l a b => (h3.2 k z l a b).turned hg hr'⟩, ?_⟩
  exact ownFrom_below (β := Unit) (Nat.le_refl _) hB () W W' row h4 hg hr
theorem PI.step {L : List Nd} {w W W1 W3 : World} {pre : List (Pt L)} {x : Pt L} {v0 : Value} {zs : List (Option Addr × Nat × Nat)} {z : Option Addr × Nat × Nat} {v3 : Value} (hb0 : Boxed W w.heap.size 79 v0) (hown : Own slc 1 35 w.heap.size W v0 zs)
    (hel : Elems w.heap.size W zs (pre.map fun x => flat (clr x.1.2))) (hB : Below w.heap.size w W) (h1 : Below W.heap.size W W1) (hz : OwnN w.heap.size W1 (.slice z.1 z.2.1 z.2.2) (flat (clr x.1.2)))
    (h3 : Own slc 1 35 w.heap.size W3 v3 (zs ++ [z])) (hg : (W1.alloc (.cells #[.slice z.1 z.2.1 z.2.2] 35)).grownBy W3 v0.ownBlock) :
    Boxed W3 w.heap.size 79 v0 ∧ KeepsOthers W (W3.setCell ⟨w.heap.size, 0, none⟩ v3) ∧ Below w.heap.size W (W3.setCell ⟨w.heap.size, 0, none⟩ v3) ∧ PI w (pre ++ [x]) (W3.setCell ⟨w.heap.size, 0, none⟩ v3) := by
  have hbx := hb0.lt
  have hBs := hB.size
  have h2 : Below W.heap.size W (W1.alloc (.cells #[.slice z.1 z.2.1 z.2.2] 35)) := h1.alloc h1.size _
  have hz2 := h2.size
  have hb2 : Boxed (W1.alloc (.cells #[.slice z.1 z.2.1 z.2.2] 35)) w.heap.size 79 v0 := (h2.block _ hbx).trans hb0
  have ho2 : Own slc 1 35 w.heap.size (W1.alloc (.cells #[.slice z.1 z.2.1 z.2.2] 35)) v0 zs := hown.below h2
  have hne : some w.heap.size ≠ v0.ownBlock := hb2.not_row (by decide) ho2
  have hb3 : Boxed W3 w.heap.size 79 v0 := hb2.kept hg hne
  have hne3 : v3.ownBlock ≠ some w.heap.size := fun e => (hb3.not_row (by decide) h3) e.symm
  have hlow : Below w.heap.size W W3 := (h2.mono hBs).trans (ho2.kept hg (by omega))
  have hset := hlow.setCell (p := ⟨w.heap.size, 0, none⟩) (Nat.le_refl _) v3
  refine ⟨hb3, ?_, hset, ⟨v3, zs ++ [z], hb3.set v3, ?_, ?_⟩, hB.trans hset⟩
  · refine ((keeps_below h2).trans (KeepsOthers.of_grownBy hg (fun j o e ho => ?_))).trans (KeepsOthers.setCell _ _ _)
    obtain ⟨g, cap, cur, hv, _, hh, _⟩ := (ho2.2).resolve_left (fun h => by rw [h.1] at e; cases e)
    rw [hv] at e
    cases e
    rw [hh] at ho
    cases ho
    rfl
  · exact ownsRow_setCell_other h3 hne3 v3
  · have hk : ∀ {v : Value} {l : List Nd}, OwnN w.heap.size (W1.alloc (.cells #[.slice z.1 z.2.1 z.2.2] 35)) v l → OwnN w.heap.size (W3.setCell ⟨w.heap.size, 0, none⟩ v3) v l := by
      intro v l hn
      have hn3 : OwnN w.heap.size W3 v l := World.ownsRow.kept hn hg (own_apart hn ho2 (by decide))
      exact ownsRow_setCell_other hn3 (fun e => (hb3.not_row (by decide) hn3) e.symm) v3
    rw [List.map_append, List.map_singleton]
    exact Elems.snoc ⟨hel.1, fun k y l a b => hk ((hel.2 k y l a b).below h2)⟩ (hk (hz.alloc _))
end Go.Proofs.YtdgcdemihalefaaGreatDoor
namespace Go.Proofs.YtdgcdemihalefaaGreatDoor
open Go.RowKit Np Rw Vp
theorem GivesO.own {w w' : World} {names : List (List UInt8)} {L : List (List Nd)} {n : Nat} {e : Ending} (h : GivesO w names L e w') (hn : (objV names L).length = n) : ∃ (A : Option Addr) (c : Nat), e = .returned (.tuple #[.slice A n c, .int .i64 (objE names L)]) ∧ OwnN w.heap.size w' (.slice A n c) (objV names L) ∧ Below w.heap.size w w' := by
  obtain ⟨v, rfl, h1, h2⟩ := h
  obtain ⟨A, c, rfl, h4⟩ := h1.row ndc_len
  rw [← hn]
  exact ⟨A, c, rfl, h1, h2⟩
theorem row_one {α : Type} {enc : α → List Value} {sz : Nat} (hl : ∀ x, (enc x).length = sz) (W : World) (n : Nat) (hn : W.heap.size = n) (E : TypeId) (cs : Array Value) (x : α) (hc : cs.toList = enc x) :
    Row enc sz (W.alloc (.cells cs E)) (.slice (some ⟨n, 0, none⟩) 1 1) [x] := by
  subst hn
  exact Row.lit hl W E cs [x] (by unfold maxLen; simp) (by rw [hc]; simp)
def Els (w : World) (zs : List (Option Addr × Nat × Nat)) (L : List (List Nd)) : Prop := zs.length = L.length ∧ ∀ (k : Nat) (z : Option Addr × Nat × Nat) (l : List Nd), zs[k]? = some z → L[k]? = some l → Nds w (.slice z.1 z.2.1 z.2.2) l
theorem Els.below {w w' : World} {zs : List (Option Addr × Nat × Nat)} {L : List (List Nd)} (h : Els w zs L) (hb : Below w.heap.size w w') : Els w' zs L := ⟨h.1, fun k z l hz hl => (h.2 k z l hz hl).below hb⟩
theorem Els.reverse {w : World} {zs : List (Option Addr × Nat × Nat)} {L : List (List Nd)} (h : Els w zs L) : Els w zs.reverse L.reverse := by
  refine ⟨by simp [h.1], fun k z l hz hl => ?_⟩
  have hk : k < zs.length := by have := (List.getElem?_eq_some_iff.1 hz).1; simpa using this
  rw [List.getElem?_reverse hk] at hz
  rw [List.getElem?_reverse (by rw [← h.1]; exact hk), ← h.1] at hl
  exact h.2 _ z l hz hl
theorem Els.snoc {w : World} {zs : List (Option Addr × Nat × Nat)} {L : List (List Nd)} {z : Option Addr × Nat × Nat} {l : List Nd} (h : Els w zs L) (hz : Nds w (.slice z.1 z.2.1 z.2.2) l) : Els w (zs ++ [z]) (L ++ [l]) := by
  refine ⟨by simp [h.1], fun k y m hy hm => ?_⟩
  rcases Nat.lt_or_ge k zs.length with hk | hk
  · rw [List.getElem?_append_left hk] at hy
    rw [List.getElem?_append_left (by rw [← h.1]; exact hk)] at hm
    exact h.2 k y m hy hm
  · rw [List.getElem?_append_right hk] at hy
    rw [List.getElem?_append_right (by rw [← h.1]; exact hk), ← h.1] at hm
    cases hkk : k - zs.length with
    | zero => rw [hkk] at hy hm; simp at hy hm; subst hy hm; exact hz
    | succ j => rw [hkk] at hy; simp at hy
theorem Own.aside {α β : Type} {e1 : α → List Value} {s1 E1 : Nat} {e2 : β → List Value} {s2 E2 base base2 : Nat} {w w' : World} {v1 v2 : Value} {l1 : List α} {l2 : List β} (h1 : Own e1 s1 E1 base w v1 l1) (h2 : Own e2 s2 E2 base2 w v2 l2) (he : E1 ≠ E2)
    (hg : w.grownBy w' v2.ownBlock) : Own e1 s1 E1 base w' v1 l1 := by
  refine World.ownsRow.kept h1 (row := v2.ownBlock) hg ?_
  exact own_apart h1 h2 he
end Go.Proofs.YtdgcdemihalefaaGreatDoor
namespace Go.Proofs.YtdgcdemihalefaaGreatDoor
open Go.RowKit Np Rw Vp Up Qp Pw
def aheadD (m : Nat) : List UInt8 := if m < 10 then [] else Lib.decDigits (m / 10)
theorem dec_ahead (m : Nat) : Lib.decDigits m = aheadD m ++ [UInt8.ofNat (48 + m % 10)] := by
  unfold aheadD
  by_cases h : m < 10
  · rw [Lib.decDigits_one h, if_pos h, show m % 10 = m by omega]; rfl
  · rw [if_neg h, Lib.decDigits, dif_neg h]
set_option maxRecDepth 100000 in
set_option maxHeartbeats 4000000 in
theorem refDecimal_any (n : Nat) (w : World) (hn : n ≤ 1000000) : Calls Tryz.prog 37 #[.int .i64 n] w fun e w' => e = .returned (.string ⟨(Lib.decDigits n).toArray⟩) ∧ Below w.heap.size w w' := by
  have hcv := any_byte (w.alloc (.cells #[.int .u8 (48 + (n : Int) % 10)] 5)) w.heap.size (48 + (n : Int) % 10) (by simp)
  have hnl := dec_len hn
  have HD0 := Lib.hid (dec_ahead n)
  have HV0 : Hid (UInt8.ofNat (48 + (n : Int) % 10).toNat = UInt8.ofNat (48 + n % 10)) := Lib.hid (by congr 1 <;> omega)
  have HB0 : Hid (Below w.heap.size w (w.alloc (.cells #[.int .u8 (48 + (n : Int) % 10)] 5))) := Lib.hid ((Below.refl _ _).alloc (Nat.le_refl _) _)
  go_enter Tryz.func37, Tryz.ntmps37
  go_wp2_with fail
  go_loopw [0, 3] (fun nv sv wr => ∃ (m : Nat) (d : List UInt8), m ≤ n ∧ nv = .int .i64 m ∧ sv = .string ⟨d.toArray⟩ ∧ Hid (Lib.decDigits n = aheadD m ++ d) ∧ Hid (Below w.heap.size w wr)) (fun nv _ _ => (intOf nv).toNat)
  case atStart =>
    refine ⟨n, [UInt8.ofNat (48 + n % 10)], Nat.le_refl _, rfl, ?_, HD0, HB0⟩
    have := HV0.out
    simp at this ⊢
    first | done | exact this | (rw [← this])
  case round =>
    obtain ⟨m, d, hm, rfl, rfl, HD, HB⟩ := hrel
    have hdl : d.length ≤ 7 := by
      have h1 := congrArg List.length HD.out
      rw [List.length_append] at h1
      omega
    by_cases h10 : m < 10
    · have HE : Hid (Lib.decDigits n = d) := Lib.hid (by rw [HD.out]; unfold aheadD; rw [if_pos h10]; rfl)
      go_wp2_with fail
      go_ret
      exact ⟨ret_list HE.out.symm, HB.out⟩
    · have HD2 : Hid (Lib.decDigits n = aheadD (m / 10) ++ (UInt8.ofNat (48 + m / 10 % 10) :: d)) := Lib.hid (by
        rw [HD.out]
        have : aheadD m = Lib.decDigits (m / 10) := by unfold aheadD; rw [if_neg h10]
        rw [this, dec_ahead (m / 10)]
        simp)
      have hcv2 := any_byte (wr.alloc (.cells #[.int .u8 (48 + (m : Int) / 10 % 10)] 5)) wr.heap.size (48 + (m : Int) / 10 % 10) (by simp)
      go_wp2_with fail
      refine ⟨⟨m / 10, UInt8.ofNat (48 + m / 10 % 10) :: d, by omega, by rw [Int.natCast_ediv]; rfl, ?_, HD2, Lib.hid (HB.out.alloc HB.out.size _)⟩, ?_⟩
      · have h5 : (48 + UInt8.ofNat (m / 10 % 10) : UInt8) = UInt8.ofNat (48 + m / 10 % 10) := by simp
        rw [h5, cat_one]
      · simp [intOf]; omega
end Go.Proofs.YtdgcdemihalefaaGreatDoor
namespace Go.Proofs.YtdgcdemihalefaaGreatDoor
open Go.RowKit Np Rw Vp Up Qp Pw
def tkQ (p : List St) (k : Nat) : List UInt8 := if k = 0 then [] else textK p k
theorem tkQ_zero (p : List St) : tkQ p 0 = [] := rfl
theorem tkQ_one {p : List St} {s : St} (h : p[0]? = some s) : tkQ p 1 = (if s.part then [46] else []) ++ stT s := by
  unfold tkQ
  rw [if_neg (by omega), textK_succ h, textK_zero]
  cases p with
  | nil => simp at h
  | cons a r => simp at h; subst h; rfl
theorem tkQ_succ {p : List St} {k : Nat} {s : St} (hk : k ≠ 0) (h : p[k]? = some s) : tkQ p (k + 1) = tkQ p k ++ stT s := by
  unfold tkQ
  rw [if_neg (by omega), if_neg hk, textK_succ h]
theorem tkQ_len (p : List St) (k : Nat) : (tkQ p k).length ≤ (textP p).length := by
  unfold tkQ
  split
  · simp
  · exact textK_len p k
set_option maxRecDepth 100000 in
set_option maxHeartbeats 8000000 in
theorem refTextP_any (pv : Value) (p : List St) (w : World) (hp : Sps w pv p) (hr : p.all rightS = true) (hs : ∀ s ∈ p, s.name.length ≤ 100000) (hlen : (textP p).length ≤ 1000000) (hpl : p.length ≤ 100) :
    Calls Tryz.prog 36 #[pv] w fun e w' => e = .returned (.string ⟨(textP p).toArray⟩) ∧ Below w.heap.size w w' := by
  have HS := Lib.hid hs
  have HR := Lib.hid hr
  have HLEN := Lib.hid hlen
  have HXP : Hid (∀ k s, p[k]? = some s → ∃ g o c, pv = .slice (some ⟨g, o, none⟩) p.length c ∧ g < w.heap.size ∧ Sp3 w g (o + k * 3) s) := Lib.hid fun k s hs => by
    obtain ⟨g, o, c, hv, -, -, hg, hx⟩ := hp.opened (by have := (List.getElem?_eq_some_iff.1 hs).1; omega)
    exact ⟨g, o, c, hv, hg, (hx k s hs).sp⟩
  obtain ⟨P, pc, rfl, -⟩ := hp
  clear hs hlen hr
  by_cases h0 : p.length = 0
  · have hz : ((p.length : Int) == 0) = true := by simp [h0]
    have htx : textP p = [46] := by
      have : p = [] := List.eq_nil_of_length_eq_zero h0
      rw [this]; rfl
    rw [htx]
    go_enter Tryz.func36, Tryz.ntmps36
    go_wp2_with fail
    go_ret
    exact ⟨rfl, Below.refl _ _⟩
  · have hz : ((p.length : Int) == 0) = false := by simpa using h0
    have HFIN : Hid (tkQ p p.length = textP p) := Lib.hid (by unfold tkQ; rw [if_neg h0, textK_all (Nat.le_refl _)])
    generalize hpp : p.length = n at *
    have HP := Lib.hid hpp
    clear hpp
    go_enter Tryz.func36, Tryz.ntmps36
    go_wp2_with fail
    go_loopw [3, 4] (fun sv iv wr => ∃ k : Nat, k ≤ n ∧ iv = .int .i64 k ∧ sv = .string ⟨(tkQ p k).toArray⟩ ∧ Hid (Below w.heap.size w wr)) (fun _ iv _ => n - (intOf iv).toNat)
    case atStart => exact ⟨0, Nat.zero_le _, rfl, rfl, Lib.hid (Below.refl _ _)⟩
    case round =>
      obtain ⟨k, hk, rfl, rfl, HB⟩ := hrel
      by_cases hlt : k < n
      · have hkp : k < p.length := by rw [HP.out]; exact hlt
        obtain ⟨gp, op, cp, e1, hgp, hs3⟩ := HXP.out k _ (List.getElem?_eq_getElem hkp)
        injection e1 with e1 e2 e3
        subst e1 e3
        have HSP : Hid (∀ W, Below w.heap.size w W → Sp3 W gp (op + k * 3) p[k]) := Lib.hid (fun W hb => ⟨(hb.cell (p := ⟨gp, op + k * 3, none⟩) hgp).trans hs3.c0, (hb.cell (p := ⟨gp, op + k * 3 + 1, none⟩) hgp).trans hs3.c1, (hb.cell (p := ⟨gp, op + k * 3 + 2, none⟩) hgp).trans hs3.c2⟩)
        have HRK : Hid (rightS p[k] = true) := Lib.hid (List.all_eq_true.1 HR.out _ (List.getElem_mem hkp))
        have HNK := Lib.hid (HS.out _ (List.getElem_mem hkp))
        have HTK : Hid (tkQ p (k + 1) = (if k = 0 then (if p[k].part then [46] else []) else tkQ p k) ++ stT p[k]) := Lib.hid (by
          by_cases hk0 : k = 0
          · subst hk0
            rw [if_pos rfl]
            exact tkQ_one (List.getElem?_eq_getElem hkp)
          · rw [if_neg hk0]
            exact tkQ_succ hk0 (List.getElem?_eq_getElem hkp))
        have htl := Nat.le_trans (tkQ_len p k) HLEN.out
        obtain ⟨s0, s1, s2⟩ := HSP.out wr HB.out
        clear e2 hs3
        generalize p[k] = s at *
        obtain ⟨pt, nm, N⟩ := s
        cases pt with
        | true =>
          obtain ⟨M, rfl, hM⟩ : ∃ M : Nat, N = M ∧ M ≤ 1000000 := by
            have h1 := HRK.out
            unfold rightS at h1
            simp only [if_true, Bool.and_eq_true, decide_eq_true_eq] at h1
            exact ⟨N.toNat, by omega, by omega⟩
          have HD := Lib.hid (fun W => refDecimal_any M W hM)
          have hdl := dec_len hM
          have HST : Hid (stT ⟨true, nm, (M : Int)⟩ = 91 :: (Lib.decDigits M ++ [93])) := Lib.hid (by rw [stT, if_pos rfl, itoa_nat (n := (M : Int)) (by omega), Int.toNat_natCast])
          generalize Lib.decDigits M = dd at *
          by_cases hk0 : k = 0
          · subst hk0
            simp only [Nat.zero_mul, Nat.add_zero] at s0 s1 s2
            have HF : Hid (tkQ p (0 + 1) = 46 :: 91 :: (dd ++ [93])) := Lib.hid (by rw [HTK.out, if_pos rfl, HST.out]; rfl)
            clear HTK HRK HST
            go_wp2_with fail
            refine (HD.out _).mono ?_
            rintro e w2 ⟨rfl, hb2⟩
            have HB2 := Lib.hid (Below.after HB.out hb2)
            clear hb2
            go_wp2_with fail
            refine ⟨⟨0 + 1, by omega, by first | rfl | go_num, ?_, HB2⟩, by simp [intOf]; omega⟩
            rw [HF.out]
            exact congrArg Value.string (ByteArray.ext (by simp))
          · have hk1 : ((k : Int) == 0) = false := by simpa using hk0
            have HF : Hid (tkQ p (k + 1) = tkQ p k ++ 91 :: (dd ++ [93])) := Lib.hid (by rw [HTK.out, if_neg hk0, HST.out])
            clear HTK HRK HST
            generalize tkQ p k = tk at *
            go_wp2_with fail
            refine (HD.out _).mono ?_
            rintro e w2 ⟨rfl, hb2⟩
            have HB2 := Lib.hid (Below.after HB.out hb2)
            clear hb2
            go_wp2_with fail
            refine ⟨⟨k + 1, by omega, by go_num, ?_, HB2⟩, by simp [intOf]; omega⟩
            rw [HF.out]
            exact congrArg Value.string (ByteArray.ext (by simp))
        | false =>
          have HST : Hid (tkQ p (k + 1) = tkQ p k ++ stT ⟨false, nm, N⟩) := Lib.hid (by
            rw [HTK.out]
            by_cases hk0 : k = 0
            · subst hk0; simp [tkQ_zero]
            · rw [if_neg hk0])
          have HW := Lib.hid (fun W => refWordP_any ⟨nm.toArray⟩ W (by have := HNK.out; unfold maxLen; rw [mk_size]; simp only at this; omega))
          have HQ := Lib.hid (fun W => refQuote_any ⟨nm.toArray⟩ W (by have := HNK.out; rw [mk_size]; simp only at this; omega))
          have hnl : nm.length ≤ 100000 := HNK.out
          have hql : (quo nm).length ≤ 600002 := by
            have h1 := quo_len nm
            have h2 := wrs_le nm
            omega
          clear HTK HRK
          generalize tkQ p k = tk at *
          cases hw : isW nm with
          | true =>
            have HF : Hid (tkQ p (k + 1) = tk ++ 46 :: nm) := Lib.hid (by rw [HST.out, stT, if_neg (by simp), if_pos hw])
            simp only [hw] at HW
            clear hw HST HQ hql
            go_wp2_with fail
            refine (HW.out _).mono ?_
            rintro e w1 ⟨rfl, rfl⟩
            go_wp2_with fail
            refine ⟨⟨k + 1, by omega, by go_num, ?_, HB⟩, by simp [intOf]; omega⟩
            rw [HF.out]
            exact congrArg Value.string (ByteArray.ext (by simp))
          | false =>
            have HF : Hid (tkQ p (k + 1) = tk ++ 46 :: quo nm) := Lib.hid (by rw [HST.out, stT, if_neg (by simp), if_neg (by rw [hw]; simp)])
            simp only [hw] at HW
            simp only at HQ
            clear hw HST
            generalize quo nm = qn at *
            go_wp2_with fail
            refine (HW.out _).mono ?_
            rintro e w1 ⟨rfl, rfl⟩
            go_wp2_with fail
            refine (HQ.out _).mono ?_
            rintro e w2 ⟨rfl, hb2⟩
            have HB2 := Lib.hid (Below.after HB.out hb2)
            clear hb2
            go_wp2_with fail
            refine ⟨⟨k + 1, by omega, by go_num, ?_, HB2⟩, by simp [intOf]; omega⟩
            rw [HF.out]
            exact congrArg Value.string (ByteArray.ext (by simp))
      · obtain rfl : k = n := by omega
        go_wp2_with fail
        go_ret
        exact ⟨ret_list HFIN.out, HB.out⟩
end Go.Proofs.YtdgcdemihalefaaGreatDoor
namespace Go.Proofs.YtdgcdemihalefaaGreatDoor
open Go.RowKit Np Rw Vp
theorem Elems.aside {base : Nat} {W W' : World} {v : Value} {xs zs : List (Option Addr × Nat × Nat)} {L : List (List Nd)} (h : Elems base W zs L) (hv : Own slc 1 35 base W v xs) (hg : W.grownBy W' v.ownBlock) : Elems base W' zs L :=
  ⟨h.1, fun k z l hz hl => Own.aside (h.2 k z l hz hl) hv (by decide) hg⟩
end Go.Proofs.YtdgcdemihalefaaGreatDoor
namespace Go.Proofs.YtdgcdemihalefaaGreatDoor
open Go.RowKit Np Rw Vp
end Go.Proofs.YtdgcdemihalefaaGreatDoor
namespace Go.Proofs.YtdgcdemihalefaaGreatDoor
open Go.ChangeShapes Go.WideShapes Go.ChangeAt Go.RowKit Go.Deep Np
theorem list_of {α : Type} (R : Nat → α → Prop) : ∀ n, (∀ i, i < n → ∃ y, R i y) → ∃ l : List α, l.length = n ∧ ∀ i y, l[i]? = some y → R i y
  | 0, _ => ⟨[], rfl, fun i y h => by simp at h⟩
  | n + 1, h => by
    obtain ⟨l, h1, h2⟩ := list_of R n (fun i hi => h i (by omega))
    obtain ⟨y, hy⟩ := h n (by omega)
    refine ⟨l ++ [y], by simp [h1], fun i z hz => ?_⟩
    rcases Nat.lt_or_ge i l.length with hi | hi
    · rw [List.getElem?_append_left hi] at hz; exact h2 i z hz
    · rw [List.getElem?_append_right hi] at hz
      have hi0 : i - l.length = 0 := by
        rcases Nat.eq_zero_or_pos (i - l.length) with h0 | h0
        · exact h0
        · rw [List.getElem?_eq_none (by simp; omega)] at hz; cases hz
      rw [hi0] at hz
      simp at hz
      subst hz
      rw [show i = n by omega]; exact hy
section
variable {H : Type} {enc : TypeId × Value → H} {P : Program} {w : World} {base : Nat} {sp : Nat → Bool} {held : Bool}
theorem open_rows {α : Type} {en : α → List Value} {sz : Nat} {Q : α → DataW H → Prop} {t e : TypeId} {fuel : Nat} {v : Value} {x : DataW H × List MemPlace} (ht : P.underlying t = some (.slice e)) (hc : P.cellsOf e = sz) (hp : 0 < sz) (hl : ∀ y, (en y).length = sz)
    (rd : ∀ n cs d, DataW.trod enc P w base sp held n e cs = some d → ∃ y, cs = en y ∧ Q y d.1) (h : DataW.trod enc P w base sp held fuel t [v] = some x) :
    ∃ l : List α, Row en sz w v l ∧ (x.1 = .nil ∧ l = [] ∨ ∃ ds sp', x.1 = .slice ds sp' ∧ ds.length = l.length ∧ ∀ (i : Nat) (y : α), l[i]? = some y → ∃ d ∈ ds, Q y d) := by
  rcases open_slice ht h with ⟨h1, h2⟩ | ⟨a, len, cap, m, n, D, Pl, h1, hb, hle, hm, hmm, hx, hi⟩
  · simp at h1; subst h1
    exact ⟨[], Row.nil w, .inl ⟨by rw [h2], rfl⟩⟩
  · simp at h1; subst h1
    have hlm : len ≤ m := by rw [hmm]; split <;> omega
    obtain ⟨l, hll, hR⟩ := list_of (fun i (y : α) => w.cells? base (a.add (i * sz)) sz = some (en y) ∧ Q y (D i)) len (fun i hil => by
      obtain ⟨cs', h3, h4⟩ := hi i (by omega)
      obtain ⟨y, rfl, hQ⟩ := rd n cs' _ h4
      rw [hc] at h3
      exact ⟨y, h3, hQ⟩)
    refine ⟨l, ?_, .inr ⟨(List.range len).map D, _, by rw [hx], by simp [hll], fun i y hy => ⟨D i, ?_, (hR i y hy).2⟩⟩⟩
    · refine ⟨some a, cap, by rw [hll], by rw [hll]; exact hle, hm, fun h => (by cases h), fun h0 => ?_⟩
      obtain ⟨y0, hy0⟩ : ∃ y, l[0]? = some y := ⟨_, List.getElem?_eq_getElem h0⟩
      have h5 := (World.cells?_some (hR 0 y0 hy0).1).2.2 0 hp
      rw [Nat.zero_mul] at h5
      have e0 : (a.add 0).add 0 = a := by simp [Addr.add]
      rw [e0] at h5
      obtain ⟨u0, hu0⟩ : ∃ u, (en y0)[0]? = some u := ⟨_, List.getElem?_eq_getElem (by rw [hl]; exact hp)⟩
      rw [hu0] at h5
      have hspot := World.cell?_spot h5
      have hlt := World.block_lt_of_cell? _ _ h5
      obtain ⟨g, o, s⟩ := a
      simp only at hspot hlt
      subst hspot
      refine ⟨g, o, rfl, hlt, fun k y hk j u hu => ?_⟩
      have hj : j < sz := by rw [← hl y]; exact (List.getElem?_eq_some_iff.1 hu).1
      have h6 := (World.cells?_some (hR k y hk).1).2.2 j hj
      rw [hu, add_add] at h6
      rw [Nat.add_assoc, ← h6]
      unfold Addr.add
      split
      · rename_i h7; rw [h7]; rfl
      · rfl
    · have hk := (List.getElem?_eq_some_iff.1 hy).1
      exact List.mem_map.2 ⟨i, List.mem_range.2 (by omega), rfl⟩
end
section
variable {H : Type} {enc : TypeId × Value → H} {w : World} {base : Nat} {sp : Nat → Bool} {held : Bool}
end
end Go.Proofs.YtdgcdemihalefaaGreatDoor
namespace Go.Proofs.YtdgcdemihalefaaGreatDoor
open Go.ChangeShapes Go.WideShapes Go.ChangeAt Go.RowKit Go.Deep Np Rw Vp Pw Fw
section
variable {H : Type} {enc : TypeId × Value → H} {w : World} {base : Nat} {sp : Nat → Bool} {held : Bool}
theorem int_rangeF {x : Int} (h : (Lit.int .i64 x).wf = true) : -9223372036854775808 ≤ x ∧ x ≤ 9223372036854775807 := by
  simp only [Lit.wf, IntKind.min, IntKind.max, IntKind.signed, IntKind.bits, Bool.and_eq_true, decide_eq_true_eq, if_true] at h
  omega
theorem cells_term : Tryz.prog.cellsOf 47 = 11 := by kernel_rfl
structure NdQ (n : Nd) : Prop where
  nm : n.name.length ≤ maxLen
  s : n.s.length ≤ maxLen
  m : n.many ≤ 9223372036854775807
set_option maxRecDepth 100000 in
theorem rd_nodeQ : ∀ n cs (d : DataW H × List MemPlace), DataW.trod enc Tryz.prog w base sp held n 43 cs = some d → ∃ y : Nd, cs = ndc y ∧ NdQ y := by
  intro fuel l d hf
  obtain ⟨xs, n, -, -, hl, hx, hg⟩ := DataW.trod_struct Tryz.underlying43 hf
  rw [show Tryz.prog.cellsOf 43 = 6 by kernel_rfl] at hl
  have c3 : Tryz.prog.cellsOf 3 = 1 := by kernel_rfl
  have c9 : Tryz.prog.cellsOf 9 = 1 := by kernel_rfl
  have c4 : Tryz.prog.cellsOf 4 = 1 := by kernel_rfl
  have at' : ∀ i, (h : i < xs.length) → xs[i]? = some (xs[i]'h) := fun i h => List.getElem?_eq_getElem h
  have hx6 : xs.length = 6 := hx
  match l, hl with
  | [v0, v1, v2, v3, v4, v5], _ =>
    have g0 := (hg 0 _ rfl).trans (at' 0 (by omega))
    have g1 := (hg 1 _ rfl).trans (at' 1 (by omega))
    have g2 := (hg 2 _ rfl).trans (at' 2 (by omega))
    have g3 := (hg 3 _ rfl).trans (at' 3 (by omega))
    have g4 := (hg 4 _ rfl).trans (at' 4 (by omega))
    have g5 := (hg 5 _ rfl).trans (at' 5 (by omega))
    simp only [List.getElem_toArray, List.getElem_cons_zero, List.getElem_cons_succ, c3, c9, c4] at g0 g1 g2 g3 g4 g5
    obtain ⟨k, e0, -, -⟩ := DataW.trod_int Tryz.underlying3 g0
    obtain ⟨m, e1, -, hm⟩ := DataW.trod_int Tryz.underlying3 g1
    obtain ⟨nm, e2, -, hnm⟩ := DataW.trod_string Tryz.underlying9 g2
    obtain ⟨s, e3, -, hs⟩ := DataW.trod_string Tryz.underlying9 g3
    obtain ⟨b, e4, -⟩ := DataW.trod_bool Tryz.underlying4 g4
    obtain ⟨x, e5, -, hxw⟩ := DataW.trod_int Tryz.underlying3 g5
    simp at e0 e1 e2 e3 e4 e5
    subst e0 e1 e2 e3 e4 e5
    exact ⟨⟨k, m, nm.data.toList, s.data.toList, b, x⟩, rfl, ⟨by simpa using hnm, by simpa using hs, (int_rangeF hm).2⟩⟩
set_option maxRecDepth 100000 in
theorem rd_term : ∀ n cs (d : DataW H × List MemPlace), DataW.trod enc Tryz.prog w base sp held n 47 cs = some d → ∃ y : Tm, cs = tmc y ∧ HeldT y := by
  intro fuel l d hf
  obtain ⟨xs, n, -, -, hl, hx, hg⟩ := DataW.trod_struct Tryz.underlying47 hf
  rw [cells_term] at hl
  have c3 : Tryz.prog.cellsOf 3 = 1 := by kernel_rfl
  have c9 : Tryz.prog.cellsOf 9 = 1 := by kernel_rfl
  have c6 : Tryz.prog.cellsOf 43 = 6 := by kernel_rfl
  have at' : ∀ i, (h : i < xs.length) → xs[i]? = some (xs[i]'h) := fun i h => List.getElem?_eq_getElem h
  have hx6 : xs.length = 6 := hx
  match l, hl with
  | [v0, v1, v2, v3, v4, v5, v6, v7, v8, v9, v10], _ =>
    have g0 := (hg 0 _ rfl).trans (at' 0 (by omega))
    have g1 := (hg 1 _ rfl).trans (at' 1 (by omega))
    have g2 := (hg 2 _ rfl).trans (at' 2 (by omega))
    have g3 := (hg 3 _ rfl).trans (at' 3 (by omega))
    have g4 := (hg 4 _ rfl).trans (at' 4 (by omega))
    have g5 := (hg 5 _ rfl).trans (at' 5 (by omega))
    simp only [List.getElem_toArray, List.getElem_cons_zero, List.getElem_cons_succ, c3, c9, c6] at g0 g1 g2 g3 g4 g5
    obtain ⟨k, e0, -, -⟩ := DataW.trod_int Tryz.underlying3 g0
    obtain ⟨m, e1, -, hm⟩ := DataW.trod_int Tryz.underlying3 g1
    obtain ⟨nm, e2, -, hnm⟩ := DataW.trod_string Tryz.underlying9 g2
    obtain ⟨s, e3, -, hs⟩ := DataW.trod_string Tryz.underlying9 g3
    obtain ⟨x, e4, -, hxw⟩ := DataW.trod_int Tryz.underlying3 g4
    obtain ⟨y, e5, hy⟩ := rd_nodeQ _ _ _ g5
    simp [ndc] at e0 e1 e2 e3 e4 e5
    obtain ⟨f0, f1, f2, f3, f4, f5⟩ := e5
    subst e0 e1 e2 e3 e4 f0 f1 f2 f3 f4 f5
    exact ⟨⟨k, m, nm.data.toList, s.data.toList, x, y⟩, rfl, ⟨by simpa using hnm, by simpa using hs, hy.nm, hy.s, (int_rangeF hm).2, hy.m, (int_rangeF hxw).1, (int_rangeF hxw).2⟩⟩
set_option maxRecDepth 100000 in
theorem filter_in {fuel : Nat} {v : Value} {x : DataW H × List MemPlace} (h : DataW.trod enc Tryz.prog w base sp held fuel 23 [v] = some x) : ∃ p : List Tm, Tms w v p ∧ HeldF p := by
  obtain ⟨l, h1, h2⟩ := open_rows (Q := fun (y : Tm) _ => HeldT y) Tryz.underlying23 cells_term (by decide) tmc_len (fun n cs d h => rd_term n cs d h) h
  refine ⟨l, h1, fun s hs => ?_⟩
  rcases h2 with ⟨-, rfl⟩ | ⟨ds, sp', -, -, h3⟩
  · cases hs
  · obtain ⟨i, hi, rfl⟩ := List.getElem_of_mem hs
    obtain ⟨d, -, hq⟩ := h3 i _ (List.getElem?_eq_getElem hi)
    exact hq
set_option maxRecDepth 100000 in
theorem open_filter {r : Reach} {b0 : Nat} {v : Value} {d : DataW H} {ps : List MemPlace} (hv : Value.okWide Tryz.prog w r b0 23 v) (h : DataW.Trod enc Tryz.prog w base sp held 23 v d ps) : ∃ p : List Tm, Tms w v p ∧ HeldF p := by
  obtain ⟨a, len, cap, rfl⟩ := okWide_slice Tryz.underlying23 hv
  obtain ⟨fuel, hf⟩ := h
  exact filter_in hf
end
end Go.Proofs.YtdgcdemihalefaaGreatDoor
