/-
  What num.Print answers.
-/
import Derived.Test.YtfmoigbiohbocaaDoorNumW6
import Derived.Test.YtfmoigbiohbocaaDoorNumPlain4
import Derived.Lib.ItoaLen
namespace Go.Proofs.YtfmoigbiohbocaaDoor
open Go.RowKit Np

theorem tab_below {n : String} {g : Nat} {k : IntKind} {zs : List Int} {w w' : World} (hg : Tryd.prog.globalNamed n = some g) (h : Lib.TabIs Tryd.prog w n k zs) (hb : Below w.heap.size w w') : Lib.TabIs Tryd.prog w' n k zs := by
  unfold Lib.TabIs World.var? at h ⊢
  simp only [hg, Option.bind_some] at h ⊢
  by_cases hlt : g < w.heap.size
  · rw [hb.block g hlt]; exact h
  · rw [Array.getElem?_eq_none (by omega)] at h; cases h
theorem grow_below' (w : World) (q : Nat) (os : Array Obj) : Below w.heap.size w (Sort.grow (w.drewN q) os) :=
  ⟨rfl, rfl, rfl, by simp [Sort.grow], fun i hi => by
    show (w.heap ++ os)[i]? = w.heap[i]?
    exact Array.getElem?_append_left hi⟩
theorem powTab : Tryd.prog.globalNamed "internal/strconv.uint64pow10" = some 3 := by kernel_rfl

/-- The table of powers of ten, as the library lays it. -/
def PowTab (w : World) : Prop := Lib.TabIs Tryd.prog w "internal/strconv.uint64pow10" .u64 Lib.pow10Tab
theorem PowTab.below {w w' : World} (h : PowTab w) (hb : Below w.heap.size w w') : PowTab w' := tab_below powTab h hb

theorem repeat_int (n : Int) (w : World) (h0 : 0 ≤ n) (h1 : n ≤ 1000000) :
    Calls Tryd.prog 49 #[.string ⟨#[48]⟩, .int .i64 n] w fun e w' => e = .returned (.string ⟨(Lib.repeatL [48] n.toNat).toArray⟩) ∧ Below w.heap.size w w' := by
  obtain ⟨c, rfl⟩ := Int.eq_ofNat_of_zero_le h0
  exact Tryd.strings_Repeat ⟨#[48]⟩ c w (by omega) (by show 1 * c ≤ _; omega)

set_option maxHeartbeats 1000000 in
theorem printPoint_any (f : ByteArray) (b : Nat) (w : World) (hf : f.size ≤ 1000000) (hb0 : 1 ≤ b) (hb1 : b ≤ 20) :
    Calls Tryd.prog 50 #[.string f, .int .i64 b] w fun e w' => e = .returned (.string ⟨(pointF f.data.toList b).toArray⟩) ∧ Below w.heap.size w w' := by
  have hB : Below w.heap.size w w := Below.refl _ _
  have hpl := padF_len f.data.toList b
  have hpu := padF_le f.data.toList b
  have HP : Hid (padF f.data.toList b = Lib.repeatL [48] (b + 1 - f.size) ++ f.data.toList) := Lib.hid (by rw [padF, size_toList])
  have HQ : Hid (pointF f.data.toList b = (padF f.data.toList b).take ((padF f.data.toList b).length - b) ++ 46 :: (padF f.data.toList b).drop ((padF f.data.toList b).length - b)) := Lib.hid rfl
  have HL : Hid (b < f.size → padF f.data.toList b = f.data.toList) := Lib.hid (fun h => padF_long (by rw [size_toList]; exact h))
  rw [size_toList] at hpu
  generalize padF f.data.toList b = pd at *
  go_enter Tryd.func50, Tryd.ntmps50
  go_upto_if 13 with fail
  go_cut [0] (fun s0 wx => s0 = .string ⟨pd.toArray⟩ ∧ Below w.heap.size w wx)
  case first =>
    by_cases hl : f.size ≤ b
    · go_wp2_with fail
      refine (repeat_int _ _ (by omega) (by omega)).mono ?_
      rintro e w1 ⟨rfl, hb⟩
      have hrl : (Lib.repeatL [48] ((b : Int) + 1 - f.size).toNat).length ≤ 21 := by rw [Lib.repeatL_length]; simp; omega
      have HR : Hid (Lib.repeatL [48] ((b : Int) + 1 - f.size).toNat = Lib.repeatL [48] (b + 1 - f.size)) := Lib.hid (by rw [show ((b : Int) + 1 - f.size).toNat = b + 1 - f.size by omega])
      generalize Lib.repeatL [48] ((b : Int) + 1 - f.size).toNat = rp at hrl HR ⊢
      go_wp2_with fail
      go_meet
      refine ⟨?_, hb⟩
      rw [HP.out, ← HR.out]
      exact congrArg Value.string (ByteArray.ext (by simp))
    · have HV := Lib.hid (HL.out (by omega))
      go_wp2_with fail
      go_meet
      refine ⟨?_, hB⟩
      rw [HV.out]
  case rest =>
    obtain ⟨rfl, hBc⟩ := hcut
    go_wp2_with fail
    have hp1 : pd.length - b ≤ pd.length := by omega
    have hp2 : ((pd.length : Int) - b) = ((pd.length - b : Nat) : Int) := by omega
    rw [hp2]
    clear hp2
    generalize pd.length - b = p at *
    go_quiet (fail)
    go_wp2_with fail
    go_ret
    refine ⟨ret_str (a := (ByteArray.mk pd.toArray).extract 0 p ++ ByteArray.mk #[46] ++ (ByteArray.mk pd.toArray).extract p pd.length) ?_, ⟨hBc.os, hBc.tape, hBc.output, hBc.size, hBc.block⟩⟩
    rw [HQ.out, extract_run (ByteArray.mk pd.toArray) 0 p (pd.take p) (by simp), extract_run (ByteArray.mk pd.toArray) p pd.length (pd.drop p) (by show pd.drop p = _; exact (List.take_of_length_le (by simp)).symm)]
    exact ByteArray.ext (by simp)

theorem itoa_any (n : Int) (w : World) (hT : PowTab w) (h0 : -1000000 ≤ n) (h1 : n ≤ 1000000) :
    Calls Tryd.prog 51 #[.int .i64 n] w fun e w' => e = .returned (.string ⟨(Lib.itoa n).toArray⟩) ∧ Below w.heap.size w w' :=
  (Tryd.strconv_Itoa n (by omega) (by omega) w hT).mono fun _ _ ⟨he, k, os, hw⟩ => ⟨he, hw ▸ grow_below' w k os⟩

theorem printPoint_int (f : ByteArray) (n : Int) (w : World) (hf : f.size ≤ 1000000) (h0 : 1 ≤ n) (h1 : n ≤ 20) :
    Calls Tryd.prog 50 #[.string f, .int .i64 n] w fun e w' => e = .returned (.string ⟨(pointF f.data.toList n.toNat).toArray⟩) ∧ Below w.heap.size w w' := by
  obtain ⟨c, rfl⟩ := Int.eq_ofNat_of_zero_le (show 0 ≤ n by omega)
  exact printPoint_any f c w hf (by omega) (by omega)

set_option maxHeartbeats 1000000 in
theorem printSize_any (f : ByteArray) (e : Int) (w : World) (hT : PowTab w) (hf : f.size ≤ 1000000) (he : -1000000 ≤ e) (he2 : e ≤ 1000000) :
    Calls Tryd.prog 33 #[.string f, .int .i64 e] w fun x w' => x = .returned (.string ⟨(printS f.data.toList e).toArray⟩) ∧ Below w.heap.size w w' := by
  have hB : Below w.heap.size w w := Below.refl _ _
  cases hne : f.data.toList.isEmpty
  · have hne2 : f.toList.isEmpty = false := by rw [ByteArray.toList_eq]; exact hne
    have HV : Hid (printS f.data.toList e = if 0 ≤ e ∧ e ≤ 20 - f.size then f.data.toList ++ Lib.repeatL [48] e.toNat
      else if -20 ≤ e ∧ e ≤ -1 then pointF f.data.toList (-e).toNat else f.data.toList ++ 101 :: Lib.itoa e) := Lib.hid (by rw [printS, if_neg (by rw [hne]; decide), size_toList])
    clear hne
    by_cases h1 : 0 ≤ e ∧ e ≤ 20 - f.size
    · have HW := Lib.hid (HV.out.trans (if_pos h1))
      obtain ⟨h1, h2⟩ := h1
      go_enter Tryd.func33, Tryd.ntmps33
      go_wp2_with fail
      refine (repeat_int _ _ (by omega) (by omega)).mono ?_
      rintro x w1 ⟨rfl, hb⟩
      have hrl : (Lib.repeatL [48] e.toNat).length ≤ 21 := by rw [Lib.repeatL_length]; simp; omega
      generalize Lib.repeatL [48] e.toNat = rp at HW hrl ⊢
      go_wp2_with fail
      go_ret
      refine ⟨ret_str (a := f ++ ByteArray.mk rp.toArray) ?_, hb⟩
      rw [HW.out]
      exact ByteArray.ext (by simp)
    · have HW := Lib.hid (HV.out.trans (if_neg h1))
      by_cases h2 : -20 ≤ e ∧ e ≤ -1
      · have HX := Lib.hid (HW.out.trans (if_pos h2))
        clear h1
        obtain ⟨h2, h3⟩ := h2
        have h4 : decide (0 ≤ e) = false := by simp; omega
        go_enter Tryd.func33, Tryd.ntmps33
        go_wp2_with fail
        refine (printPoint_int _ _ _ hf (by omega) (by omega)).mono ?_
        rintro x w1 ⟨rfl, hb⟩
        go_wp2_with fail
        go_ret
        exact ⟨ret_str (by rw [HX.out]), hb⟩
      · have HX := Lib.hid (HW.out.trans (if_neg h2))
        by_cases h0 : 0 ≤ e
        · have h3 : decide (e ≤ 20 - f.size) = false := by simp; omega
          have h4 : decide (e ≤ -1) = false := by simp; omega
          clear h1 h2
          go_enter Tryd.func33, Tryd.ntmps33
          go_wp2_with fail
          refine (itoa_any _ _ hT (by omega) (by omega)).mono ?_
          rintro x w1 ⟨rfl, hb⟩
          have hil := Lib.itoa_length_le e (by omega) (by omega)
          generalize Lib.itoa e = it at HX hil ⊢
          go_wp2_with fail
          go_ret
          refine ⟨ret_str (a := f ++ ByteArray.mk #[101] ++ ByteArray.mk it.toArray) ?_, hb⟩
          rw [HX.out]
          exact ByteArray.ext (by simp)
        · have h3 : decide (0 ≤ e) = false := by simp; omega
          have h4 : decide (-20 ≤ e) = false := by simp; omega
          clear h1 h2
          go_enter Tryd.func33, Tryd.ntmps33
          go_wp2_with fail
          refine (itoa_any _ _ hT (by omega) (by omega)).mono ?_
          rintro x w1 ⟨rfl, hb⟩
          have hil := Lib.itoa_length_le e (by omega) (by omega)
          generalize Lib.itoa e = it at HX hil ⊢
          go_wp2_with fail
          go_ret
          refine ⟨ret_str (a := f ++ ByteArray.mk #[101] ++ ByteArray.mk it.toArray) ?_, hb⟩
          rw [HX.out]
          exact ByteArray.ext (by simp)
  · have hne2 : f.toList.isEmpty = true := by rw [ByteArray.toList_eq]; exact hne
    have HV : Hid (printS f.data.toList e = [48]) := Lib.hid (by rw [printS, if_pos hne])
    clear hne
    go_enter Tryd.func33, Tryd.ntmps33
    go_wp2_with fail
    go_ret
    exact ⟨ret_str (a := ⟨#[48]⟩) (by rw [HV.out]), hB⟩

set_option maxHeartbeats 1000000 in
theorem print_any (k m : Int) (nm s : ByteArray) (g : Bool) (x : Int) (w : World) (hT : PowTab w) (hs : s.size ≤ 1000000) (hx : -1000000 ≤ x) (hx' : x ≤ 1000000) :
    Calls Tryd.prog 17 #[.agg #[.int .i64 k, .int .i64 m, .string nm, .string s, .bool g, .int .i64 x]] w
      fun e w' => e = .returned (.string ⟨(printN s.data.toList g x).toArray⟩) ∧ Below w.heap.size w w' := by
  have hB : Below w.heap.size w w := Below.refl _ _
  have hT1 := fun o => hT.below (hB.alloc (Nat.le_refl _) o)
  cases g
  · have HV : Hid (printN s.data.toList false x = printS s.data.toList x) := Lib.hid rfl
    go_enter Tryd.func17, Tryd.ntmps17
    go_wp2_with fail
    refine (printSize_any _ _ _ (hT1 _) hs hx hx').mono ?_
    rintro e w1 ⟨rfl, hb⟩
    go_wp2_with fail
    go_ret
    exact ⟨ret_str (by rw [HV.out]), (hB.alloc (Nat.le_refl _) _).trans (hb.mono (by simp))⟩
  · have HV : Hid (printN s.data.toList true x = 45 :: printS s.data.toList x) := Lib.hid rfl
    go_enter Tryd.func17, Tryd.ntmps17
    go_wp2_with fail
    refine (printSize_any _ _ _ (hT1 _) hs hx hx').mono ?_
    rintro e w1 ⟨rfl, hb⟩
    have hpl := printS_len s.data.toList x (by rw [size_toList]; exact hs) hx hx'
    generalize printS s.data.toList x = t at HV hpl ⊢
    go_wp2_with fail
    go_ret
    refine ⟨ret_str (a := ByteArray.mk #[45] ++ ByteArray.mk t.toArray) ?_, (hB.alloc (Nat.le_refl _) _).trans (hb.mono (by simp))⟩
    rw [HV.out]
    exact ByteArray.ext (by simp)

end Go.Proofs.YtfmoigbiohbocaaDoor
