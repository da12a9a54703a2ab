/-
  Joined: NumPlain3, NumW6, NumPlain4, NumW7, PaB2, PaB3.
-/
import Derived.Test.YtdgcdemihalefaaGreatDoorNumPlain2
import Derived.Test.YtdgcdemihalefaaGreatDoorNumW5
import Derived.Lib.Repeat
import Derived.Lib.ItoaNum
import Derived.Lib.ItoaLen
import Derived.Test.YtdgcdemihalefaaGreatDoorEvalDelsJ5
import Derived.Test.YtdgcdemihalefaaGreatDoorEvalDelsJ8

/-
  Plain words on numbers that are written: the number that a text is written as. No program stands here.
-/
namespace Go.Proofs.YtdgcdemihalefaaGreatDoor
namespace Np
open Go.RowKit

/-- The number that a text is written as, where it can't go on, and how that ends. -/
def powOf (r : Wr) : Int := if r.down = true then -(worth (Lib.trimLeftB r.power 48) : Int) else (worth (Lib.trimLeftB r.power 48) : Int)
def mkW (r : Wr) : Nd × Int := mk r.neg (r.whole ++ r.part) (powOf r - r.part.length)
def readF (l : List UInt8) : Nd × Int × Int :=
  if (scanF l).2.2 = false then (nd0, (scanF l).2.1, 1) else if 6 < (Lib.trimLeftB (scanF l).1.power 48).length then (nd0, 0, 2) else ((mkW (scanF l).1).1, 0, (mkW (scanF l).1).2)
end Np
end Go.Proofs.YtdgcdemihalefaaGreatDoor

/-
  What num.Read answers.
-/
namespace Go.Proofs.YtdgcdemihalefaaGreatDoor
open Go.RowKit Np

end Go.Proofs.YtdgcdemihalefaaGreatDoor

/-
  Plain words on numbers: a number's text. No program stands here.
-/
namespace Go.Proofs.YtdgcdemihalefaaGreatDoor
namespace Np
open Go.RowKit

end Np
end Go.Proofs.YtdgcdemihalefaaGreatDoor

/-
  What num.Print answers.
-/
namespace Go.Proofs.YtdgcdemihalefaaGreatDoor
open Go.RowKit Np

theorem tab_below {n : String} {g : Nat} {k : IntKind} {zs : List Int} {w w' : World} (hg : Tryz.prog.globalNamed n = some g) (h : Lib.TabIs Tryz.prog w n k zs) (hb : Below w.heap.size w w') : Lib.TabIs Tryz.prog w' n k zs := by
  unfold Lib.TabIs World.var? at h ⊢
  simp only [hg, Option.bind_some] at h ⊢
  by_cases hlt : g < w.heap.size
  · rw [hb.block g hlt]; exact h
  · rw [Array.getElem?_eq_none (by omega)] at h; cases h
theorem grow_below' (w : World) (q : Nat) (os : Array Obj) : Below w.heap.size w (Sort.grow (w.drewN q) os) :=
  ⟨rfl, rfl, rfl, by simp [Sort.grow], fun i hi => by
    show (w.heap ++ os)[i]? = w.heap[i]?
    exact Array.getElem?_append_left hi⟩
theorem powTab : Tryz.prog.globalNamed "internal/strconv.uint64pow10" = some 4 := by kernel_rfl

/-- The table of powers of ten, as the library lays it. -/
def PowTab (w : World) : Prop := Lib.TabIs Tryz.prog w "internal/strconv.uint64pow10" .u64 Lib.pow10Tab
theorem PowTab.below {w w' : World} (h : PowTab w) (hb : Below w.heap.size w w') : PowTab w' := tab_below powTab h hb

end Go.Proofs.YtdgcdemihalefaaGreatDoor

/-
  A step's text, written; and a path's.
-/
namespace Go.Proofs.YtdgcdemihalefaaGreatDoor
open Go.RowKit Np Rw Vp Up Qp Pw

theorem cat_one (c : UInt8) (l : List UInt8) : (ByteArray.mk #[c]) ++ (ByteArray.mk l.toArray) = ⟨(c :: l).toArray⟩ := ByteArray.ext (by simp)
theorem wrs_le : ∀ l : List UInt8, (wrs l).length ≤ 6 * l.length
  | [] => by simp [wrs]
  | c :: r => by
    have h := wrs_le r
    have h2 : (wr c).length ≤ 6 := by
      unfold wr
      repeat' split
      all_goals simp
    have : wrs (c :: r) = wr c ++ wrs r := by simp [wrs]
    rw [this, List.length_append, List.length_cons]
    omega
set_option maxRecDepth 100000 in
set_option maxHeartbeats 2000000 in
theorem written_any (s : St) (w : World) (hs : s.name.length ≤ 1073741824) (h0 : -9223372036854775808 ≤ s.n) (h1 : s.n ≤ 9223372036854775807) (hT : PowTab w) :
    Calls Tryz.prog 193 #[sta s] w fun e w' => e = .returned (.string ⟨(stT s).toArray⟩) ∧ Below w.heap.size w w' := by
  obtain ⟨p, nm, n⟩ := s
  have hb := (Below.refl w.heap.size w).alloc (Nat.le_refl _) (.cells #[.bool p, .string ⟨nm.toArray⟩, .int .i64 n] 71)
  have HB := Lib.hid hb
  cases p with
  | true =>
    have HL : Hid ((ByteArray.mk #[91]) ++ (ByteArray.mk (Lib.itoa n).toArray) ++ (ByteArray.mk #[93]) = ⟨(stT ⟨true, nm, n⟩).toArray⟩) := Lib.hid (by
      rw [stT, if_pos rfl]
      exact ByteArray.ext (by simp))
    have HI := Lib.hid (Tryz.strconv_Itoa n h0 h1 _ (hT.below hb))
    have hil := Lib.itoa_length_le n h0 h1
    clear hb hT
    generalize Lib.itoa n = it at *
    generalize stT ⟨true, nm, n⟩ = R at *
    go_enter Tryz.func193, Tryz.ntmps193
    go_wp2_with fail
    refine HI.out.mono ?_
    rintro e w1 ⟨rfl, k, os, rfl⟩
    have HB1 : Hid (Below w.heap.size w (Sort.grow ((w.alloc (.cells #[.bool true, .string ⟨nm.toArray⟩, .int .i64 n] 71)).drewN k) os)) := Lib.hid (HB.out.trans ((grow_below' _ k os).mono HB.out.size))
    generalize Sort.grow ((w.alloc (.cells #[.bool true, .string ⟨nm.toArray⟩, .int .i64 n] 71)).drewN k) os = w1 at *
    go_wp2_with fail
    go_ret
    exact ⟨ret_str HL.out, HB1.out⟩
  | false =>
    have HQ : Hid (∀ W, Calls Tryz.prog 196 #[.string ⟨nm.toArray⟩] W fun e w' => e = .returned (.string ⟨(quo nm).toArray⟩) ∧ Below W.heap.size W w') := Lib.hid (fun W => quote_any ⟨nm.toArray⟩ W hs)
    have HW : Hid (∀ W, Calls Tryz.prog 213 #[.string ⟨nm.toArray⟩] W fun e w' => e = .returned (.string ⟨(wrd nm).toArray⟩) ∧ w' = W) := Lib.hid (fun W => word_any ⟨nm.toArray⟩ W (by unfold maxLen; exact Nat.le_trans hs (by decide)))
    have hql : (quo nm).length ≤ 6442450950 := by
      have h := quo_len nm
      have h2 := wrs_le nm
      have h3 : nm.length ≤ 1073741824 := hs
      omega
    clear hb hT
    by_cases hne : nm = []
    · subst hne
      have HL : Hid ((ByteArray.mk #[46]) ++ (ByteArray.mk (quo []).toArray) = ⟨(stT ⟨false, [], n⟩).toArray⟩) := Lib.hid (by
        rw [stT, if_neg (by simp), if_neg (by simp [isW]), cat_one])
      generalize stT ⟨false, [], n⟩ = R at *
      generalize quo [] = qn at *
      go_enter Tryz.func193, Tryz.ntmps193
      go_upto_region 3 with fail
      go_quiet (fail)
      go_wp2_with fail
      refine (HQ.out _).mono ?_
      rintro e w1 ⟨rfl, hb1⟩
      have HB1 : Hid (Below w.heap.size w w1) := Lib.hid ((drewN_below HB.out _).trans (hb1.mono HB.out.size))
      clear hb1
      go_wp2_with fail
      go_ret
      exact ⟨ret_str HL.out, HB1.out⟩
    · have hz : (nm == []) = false := by simpa using hne
      have hz2 : (nm != []) = true := by simpa using hne
      have hz3 : nm.isEmpty = false := by simpa using hne
      by_cases hw : wrd nm = nm
      · have hw2 : (wrd nm == nm) = true := by simpa using hw
        have HL : Hid ((ByteArray.mk #[46]) ++ (ByteArray.mk nm.toArray) = ⟨(stT ⟨false, nm, n⟩).toArray⟩) := Lib.hid (by
          rw [stT, if_neg (by simp), if_pos (by simp [isW, hne]; simpa using hw2), cat_one])
        generalize stT ⟨false, nm, n⟩ = R at *
        generalize quo nm = qn at *
        go_enter Tryz.func193, Tryz.ntmps193
        generalize wrd nm = wn at *
        go_upto_region 3 with fail
        go_region_with (first | (go_at_call 213; refine (HW.out _).mono ?_; rintro e w3 ⟨rfl, rfl⟩))
        all_goals go_wp2_with fail
        all_goals go_ret
        all_goals exact ⟨ret_str HL.out, drewN_below HB.out _⟩
      · have hw2 : (wrd nm == nm) = false := by simpa using hw
        have HL : Hid ((ByteArray.mk #[46]) ++ (ByteArray.mk (quo nm).toArray) = ⟨(stT ⟨false, nm, n⟩).toArray⟩) := Lib.hid (by
          rw [stT, if_neg (by simp), if_neg (by simp [isW, hw]), cat_one])
        generalize stT ⟨false, nm, n⟩ = R at *
        generalize quo nm = qn at *
        go_enter Tryz.func193, Tryz.ntmps193
        generalize wrd nm = wn at *
        go_upto_region 3 with fail
        go_region_with (first | (go_at_call 213; refine (HW.out _).mono ?_; rintro e w3 ⟨rfl, rfl⟩))
        all_goals go_wp2_with fail
        all_goals refine (HQ.out _).mono ?_
        all_goals rintro e w1 ⟨rfl, hb1⟩
        all_goals have HB1 : Hid (Below w.heap.size w w1) := Lib.hid ((drewN_below HB.out _).trans (hb1.mono HB.out.size))
        all_goals clear hb1
        all_goals go_wp2_with fail
        all_goals go_ret
        all_goals exact ⟨ret_str HL.out, HB1.out⟩
end Go.Proofs.YtdgcdemihalefaaGreatDoor

/-
  What path's Text answers.
-/
namespace Go.Proofs.YtdgcdemihalefaaGreatDoor
open Go.RowKit Np Rw Vp Pw Qp

end Go.Proofs.YtdgcdemihalefaaGreatDoor
