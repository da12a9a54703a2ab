/-
  Joined: NumPlain3, NumW6, NumPlain4, NumW7, SelP, PT4.
-/
import Derived.Test.YtafbojiojeemoaaGreatDoorNumPlain2
import Derived.Test.YtafbojiojeemoaaGreatDoorNumW5
import Derived.Lib.Repeat
import Derived.Lib.ItoaNum
import Derived.Lib.ItoaLen
import Derived.Test.YtafbojiojeemoaaGreatDoorPathTextsJ2
import Derived.Test.YtafbojiojeemoaaGreatDoorPathTextsJ4
import Derived.Test.YtafbojiojeemoaaGreatDoorMem

/-
  Plain words on numbers that are written: the number that a text is written as. No program stands here.
-/
namespace Go.Proofs.YtafbojiojeemoaaGreatDoor
namespace Np
open Go.RowKit

/-- The number that a text is written as, where it can't go on, and how that ends. -/
def powOf (r : Wr) : Int := if r.down = true then -(worth (Lib.trimLeftB r.power 48) : Int) else (worth (Lib.trimLeftB r.power 48) : Int)
def mkW (r : Wr) : Nd × Int := mk r.neg (r.whole ++ r.part) (powOf r - r.part.length)
def readF (l : List UInt8) : Nd × Int × Int :=
  if (scanF l).2.2 = false then (nd0, (scanF l).2.1, 1) else if 6 < (Lib.trimLeftB (scanF l).1.power 48).length then (nd0, 0, 2) else ((mkW (scanF l).1).1, 0, (mkW (scanF l).1).2)
theorem scanF_figs (l : List UInt8) : figs (scanF l).1.whole = true ∧ figs (scanF l).1.part = true ∧ figs (scanF l).1.power = true := by
  unfold scanF
  split
  · exact ⟨rfl, rfl, rfl⟩
  split
  · exact ⟨rfl, rfl, rfl⟩
  split
  · exact ⟨rfl, rfl, rfl⟩
  refine ⟨?_, ?_, ?_⟩
  · show figs (wholeF l) = true
    unfold wholeF; split
    · rfl
    · exact run_figs _ _
  · show figs (partF l) = true
    unfold partF; split
    · exact run_figs _ _
    · rfl
  · show figs (powF l) = true
    unfold powF; split
    · exact run_figs _ _
    · rfl
theorem run_len (l : List UInt8) (i : Nat) : (run l i).length ≤ l.length := by
  have := (List.takeWhile_sublist fig (l := l.drop i)).length_le
  simp only [List.length_drop] at this
  unfold run; omega
theorem scanF_len (l : List UInt8) : (scanF l).1.whole.length ≤ l.length ∧ (scanF l).1.part.length ≤ l.length ∧ (scanF l).1.power.length ≤ l.length := by
  unfold scanF
  split
  · exact ⟨Nat.zero_le _, Nat.zero_le _, Nat.zero_le _⟩
  split
  · exact ⟨Nat.zero_le _, Nat.zero_le _, Nat.zero_le _⟩
  split
  · exact ⟨Nat.zero_le _, Nat.zero_le _, Nat.zero_le _⟩
  refine ⟨?_, ?_, ?_⟩
  · show (wholeF l).length ≤ _
    unfold wholeF; split
    · exact Nat.zero_le _
    · exact run_len _ _
  · show (partF l).length ≤ _
    unfold partF; split
    · exact run_len _ _
    · exact Nat.zero_le _
  · show (powF l).length ≤ _
    unfold powF; split
    · exact run_len _ _
    · exact Nat.zero_le _
theorem figs_trimLeft {l : List UInt8} (h : figs l = true) : figs (Lib.trimLeftB l 48) = true := by
  rw [figs, List.all_eq_true] at h ⊢
  exact fun x hx => h x ((List.dropWhile_suffix _).subset hx)

theorem readF_form {l : List UInt8} {r : Wr} {i : Nat} (h : scanF l = (r, i, false)) : readF l = (nd0, (i : Int), 1) := by rw [readF, h]; rfl
theorem readF_large {l : List UInt8} {r : Wr} {i : Nat} (h : scanF l = (r, i, true)) (h6 : 6 < (Lib.trimLeftB r.power 48).length) : readF l = (nd0, 0, 2) := by
  rw [readF, h, if_neg (by simp), if_pos h6]
theorem readF_ok {l : List UInt8} {r : Wr} {i : Nat} (h : scanF l = (r, i, true)) (h6 : ¬ 6 < (Lib.trimLeftB r.power 48).length) : readF l = ((mkW r).1, 0, (mkW r).2) := by
  rw [readF, h, if_neg (by simp), if_neg h6]

end Np
end Go.Proofs.YtafbojiojeemoaaGreatDoor

/-
  What num.Read answers.
-/
namespace Go.Proofs.YtafbojiojeemoaaGreatDoor
open Go.RowKit Np

/-- How Read ends. -/
def ReadEnd (w : World) (s : ByteArray) (e : Ending) (w' : World) : Prop :=
  e = .returned (.tuple #[ndv (readF s.data.toList).1, .int .i64 (readF s.data.toList).2.1, .int .i64 (readF s.data.toList).2.2]) ∧ Below w.heap.size w w'
theorem readEnd_of {w w' : World} {s : ByteArray} {n : Nd} {i c : Int} (h : readF s.data.toList = (n, i, c)) (hb : Below w.heap.size w w') : ReadEnd w s (.returned (.tuple #[ndv n, .int .i64 i, .int .i64 c])) w' := by
  unfold ReadEnd; rw [h]; exact ⟨rfl, hb⟩

set_option maxHeartbeats 1000000 in
theorem read_any (s : ByteArray) (w : World) (hs : s.size ≤ 1000000) :
    Calls Tryz.prog 98 #[.string s] w (ReadEnd w s) := by
  have hB : Below w.heap.size w w := Below.refl _ _
  have hs2 : s.size ≤ maxLen := by unfold maxLen; omega
  go_enter Tryz.func98, Tryz.ntmps98
  go_wp2_with fail
  refine (scan_any s _ hs2).mono ?_
  rintro e w1 ⟨rfl, hb1⟩
  obtain ⟨hc1, hf1⟩ := kept_cells hb1
  have hz1 : w.heap.size + 1 ≤ w1.heap.size := by have := hb1.size; simp at this; omega
  have hz1' : w.heap.size < w1.heap.size := by omega
  have hB1 : Below w.heap.size w w1 := (hB.alloc (Nat.le_refl _) _).trans (hb1.mono (by simp))
  have k0 : w1.cell? ⟨w.heap.size, 0, none⟩ = some (.int .i64 0) := by rw [hc1 _ _ (by simp)]; simp
  have k1 : w1.cell? ⟨w.heap.size, 1, none⟩ = some (.int .i64 0) := by rw [hc1 _ _ (by simp)]; simp
  have k2 : w1.cell? ⟨w.heap.size, 2, none⟩ = some (.string ⟨#[]⟩) := by rw [hc1 _ _ (by simp)]; simp
  have k3 : w1.cell? ⟨w.heap.size, 3, none⟩ = some (.string ⟨#[]⟩) := by rw [hc1 _ _ (by simp)]; simp
  have k4 : w1.cell? ⟨w.heap.size, 4, none⟩ = some (.bool false) := by rw [hc1 _ _ (by simp)]; simp
  have k5 : w1.cell? ⟨w.heap.size, 5, none⟩ = some (.int .i64 0) := by rw [hc1 _ _ (by simp)]; simp
  have hfz : ∀ o, w1.frozen? ⟨w.heap.size, o, none⟩ = false := fun o => by rw [hf1 _ _ (by simp)]; simp
  clear hb1 hc1 hf1
  have hfig := scanF_figs s.data.toList
  have hlen := scanF_len s.data.toList
  rw [size_toList] at hlen
  generalize hr : scanF s.data.toList = r at hfig hlen ⊢
  have Hr := Lib.hid hr; clear hr
  obtain ⟨⟨g, wh, pt, dn, pw⟩, i, ok⟩ := r
  obtain ⟨hg1, hg2, hg3⟩ := hfig
  obtain ⟨hl1, hl2, hl3⟩ := hlen
  have G1 := Lib.hid hg1
  have G2 := Lib.hid hg2
  have G3 := Lib.hid hg3
  clear hg1 hg2 hg3
  simp only at hl1 hl2 hl3
  simp only [wrv]
  cases ok
  · have HV := Lib.hid (readF_form Hr.out)
    go_wp2_with fail
    refine bodyPost_ret (v := .tuple #[ndv nd0, .int .i64 i, .int .i64 1]) ?_ rfl (readEnd_of HV.out ?_)
    · simp [results, Tryz.results98, go_sem, ndv, nd0, k0, k1, k2, k3, k4, k5, hz1']
    · exact ((((((hB1.setCell (Nat.le_refl _) _).setCell (Nat.le_refl _) _).setCell (Nat.le_refl _) _).setCell (Nat.le_refl _) _).setCell (Nat.le_refl _) _).setCell (Nat.le_refl _) _).alloc (by simp; omega) _
  · go_wp2_with fail
    refine (Tryz.strings_TrimLeft_one _ 48 (by decide) _).mono ?_
    rintro e w2 ⟨rfl, rfl⟩
    have G4 := Lib.hid (figs_trimLeft G3.out)
    have hl4 : (Lib.trimLeftB pw 48).length ≤ s.size := Nat.le_trans (List.IsSuffix.length_le (List.dropWhile_suffix _)) hl3
    have HL := Lib.hid (readF_large Hr.out)
    have HO := Lib.hid (readF_ok Hr.out)
    have HM : Hid (mkW ⟨g, wh, pt, dn, pw⟩ = mk g (wh ++ pt) ((if dn = true then -(worth (Lib.trimLeftB pw 48) : Int) else (worth (Lib.trimLeftB pw 48) : Int)) - pt.length)) := Lib.hid rfl
    simp only at G4 HL HO
    generalize Lib.trimLeftB pw 48 = q at *
    by_cases h6 : 6 < q.length
    · have HV := Lib.hid (HL.out h6)
      clear HL HO HM
      go_wp2_with fail
      refine bodyPost_ret (v := .tuple #[ndv nd0, .int .i64 0, .int .i64 2]) ?_ rfl (readEnd_of HV.out ?_)
      · simp [results, Tryz.results98, go_sem, ndv, nd0, k0, k1, k2, k3, k4, k5, hz1']
      · exact ((((((hB1.setCell (Nat.le_refl _) _).setCell (Nat.le_refl _) _).setCell (Nat.le_refl _) _).setCell (Nat.le_refl _) _).setCell (Nat.le_refl _) _).setCell (Nat.le_refl _) _).alloc (by simp; omega) _
    · have HV := Lib.hid (HO.out h6)
      clear HL HO
      go_wp2_with fail
      refine (worth_any _ _ G4.out (by show q.length ≤ 6; omega)).mono ?_
      rintro e w3 ⟨rfl, rfl⟩
      have hwb := worth_small q (by omega) G4.out
      have hwn : worth (ByteArray.mk q.toArray).data.toList = worth q := rfl
      rw [hwn]
      clear hwn
      generalize worth q = n at *
      have hsz : (ByteArray.mk wh.toArray ++ ByteArray.mk pt.toArray).size ≤ maxLen := by
        rw [← size_toList]; simp; unfold maxLen; omega
      cases dn
      · have HM2 : Hid (mkW ⟨g, wh, pt, false, pw⟩ = mk g (ByteArray.mk wh.toArray ++ ByteArray.mk pt.toArray).data.toList ((n : Int) - pt.length)) := Lib.hid (by rw [HM.out]; simp)
        clear HM
        go_wp2_with fail
        refine (make_any g _ _ _ hsz).mono ?_
        rintro e w2 ⟨rfl, hb2⟩
        rw [← HM2.out]
        have hB2 : Below w.heap.size w w2 := (hB1.alloc (by omega) _).trans (hb2.mono (by simp; omega))
        obtain ⟨hc2, hf2⟩ := kept_cells hb2
        have hz2 : w.heap.size + 2 ≤ w2.heap.size := by have := hb2.size; simp at this; omega
        have hz2' : w.heap.size < w2.heap.size := by omega
        have j0 : w2.cell? ⟨w.heap.size, 0, none⟩ = some (.int .i64 0) := by rw [hc2 _ _ (by simp; omega)]; simp [go_sem, hz1', k0]
        have j1 : w2.cell? ⟨w.heap.size, 1, none⟩ = some (.int .i64 0) := by rw [hc2 _ _ (by simp; omega)]; simp [go_sem, hz1', k1]
        have j2 : w2.cell? ⟨w.heap.size, 2, none⟩ = some (.string ⟨#[]⟩) := by rw [hc2 _ _ (by simp; omega)]; simp [go_sem, hz1', k2]
        have j3 : w2.cell? ⟨w.heap.size, 3, none⟩ = some (.string ⟨#[]⟩) := by rw [hc2 _ _ (by simp; omega)]; simp [go_sem, hz1', k3]
        have j4 : w2.cell? ⟨w.heap.size, 4, none⟩ = some (.bool false) := by rw [hc2 _ _ (by simp; omega)]; simp [go_sem, hz1', k4]
        have j5 : w2.cell? ⟨w.heap.size, 5, none⟩ = some (.int .i64 0) := by rw [hc2 _ _ (by simp; omega)]; simp [go_sem, hz1', k5]
        have jf : ∀ o, w2.frozen? ⟨w.heap.size, o, none⟩ = false := fun o => by rw [hf2 _ _ (by simp; omega)]; simp [go_sem, hz1', hfz]
        clear hb2 hc2 hf2 k0 k1 k2 k3 k4 k5 hfz
        generalize mkW ⟨g, wh, pt, false, pw⟩ = m at HV ⊢
        obtain ⟨⟨a0, a1, a2, a3, a4, a5⟩, c⟩ := m
        simp only [ndv]
        go_wp2_with fail
        refine bodyPost_ret (v := .tuple #[ndv ⟨a0, a1, a2, a3, a4, a5⟩, .int .i64 0, .int .i64 c]) ?_ rfl (readEnd_of HV.out ?_)
        · simp [results, Tryz.results98, go_sem, ndv, j0, j1, j2, j3, j4, j5, hz2']
        · exact ((((((hB2.setCell (Nat.le_refl _) _).setCell (Nat.le_refl _) _).setCell (Nat.le_refl _) _).setCell (Nat.le_refl _) _).setCell (Nat.le_refl _) _).setCell (Nat.le_refl _) _).alloc (by simp; omega) _
      · have HM2 : Hid (mkW ⟨g, wh, pt, true, pw⟩ = mk g (ByteArray.mk wh.toArray ++ ByteArray.mk pt.toArray).data.toList (-(n : Int) - pt.length)) := Lib.hid (by rw [HM.out]; simp)
        clear HM
        go_wp2_with fail
        refine (make_any g _ _ _ hsz).mono ?_
        rintro e w2 ⟨rfl, hb2⟩
        rw [← HM2.out]
        have hB2 : Below w.heap.size w w2 := (hB1.alloc (by omega) _).trans (hb2.mono (by simp; omega))
        obtain ⟨hc2, hf2⟩ := kept_cells hb2
        have hz2 : w.heap.size + 2 ≤ w2.heap.size := by have := hb2.size; simp at this; omega
        have hz2' : w.heap.size < w2.heap.size := by omega
        have j0 : w2.cell? ⟨w.heap.size, 0, none⟩ = some (.int .i64 0) := by rw [hc2 _ _ (by simp; omega)]; simp [go_sem, hz1', k0]
        have j1 : w2.cell? ⟨w.heap.size, 1, none⟩ = some (.int .i64 0) := by rw [hc2 _ _ (by simp; omega)]; simp [go_sem, hz1', k1]
        have j2 : w2.cell? ⟨w.heap.size, 2, none⟩ = some (.string ⟨#[]⟩) := by rw [hc2 _ _ (by simp; omega)]; simp [go_sem, hz1', k2]
        have j3 : w2.cell? ⟨w.heap.size, 3, none⟩ = some (.string ⟨#[]⟩) := by rw [hc2 _ _ (by simp; omega)]; simp [go_sem, hz1', k3]
        have j4 : w2.cell? ⟨w.heap.size, 4, none⟩ = some (.bool false) := by rw [hc2 _ _ (by simp; omega)]; simp [go_sem, hz1', k4]
        have j5 : w2.cell? ⟨w.heap.size, 5, none⟩ = some (.int .i64 0) := by rw [hc2 _ _ (by simp; omega)]; simp [go_sem, hz1', k5]
        have jf : ∀ o, w2.frozen? ⟨w.heap.size, o, none⟩ = false := fun o => by rw [hf2 _ _ (by simp; omega)]; simp [go_sem, hz1', hfz]
        clear hb2 hc2 hf2 k0 k1 k2 k3 k4 k5 hfz
        generalize mkW ⟨g, wh, pt, true, pw⟩ = m at HV ⊢
        obtain ⟨⟨a0, a1, a2, a3, a4, a5⟩, c⟩ := m
        simp only [ndv]
        go_wp2_with fail
        refine bodyPost_ret (v := .tuple #[ndv ⟨a0, a1, a2, a3, a4, a5⟩, .int .i64 0, .int .i64 c]) ?_ rfl (readEnd_of HV.out ?_)
        · simp [results, Tryz.results98, go_sem, ndv, j0, j1, j2, j3, j4, j5, hz2']
        · exact ((((((hB2.setCell (Nat.le_refl _) _).setCell (Nat.le_refl _) _).setCell (Nat.le_refl _) _).setCell (Nat.le_refl _) _).setCell (Nat.le_refl _) _).setCell (Nat.le_refl _) _).alloc (by simp; omega) _

end Go.Proofs.YtafbojiojeemoaaGreatDoor

/-
  Plain words on numbers: a number's text. No program stands here.
-/
namespace Go.Proofs.YtafbojiojeemoaaGreatDoor
namespace Np
open Go.RowKit

/-- Figures with so many behind the point. -/
def padF (f : List UInt8) (b : Nat) : List UInt8 := Lib.repeatL [48] (b + 1 - f.length) ++ f
def pointF (f : List UInt8) (b : Nat) : List UInt8 := (padF f b).take ((padF f b).length - b) ++ 46 :: (padF f b).drop ((padF f b).length - b)
def printS (f : List UInt8) (e : Int) : List UInt8 :=
  if f.isEmpty = true then [48] else if 0 ≤ e ∧ e ≤ 20 - f.length then f ++ Lib.repeatL [48] e.toNat
  else if -20 ≤ e ∧ e ≤ -1 then pointF f (-e).toNat else f ++ 101 :: Lib.itoa e
def printN (f : List UInt8) (g : Bool) (e : Int) : List UInt8 := if g = true then 45 :: printS f e else printS f e
theorem padF_long {f : List UInt8} {b : Nat} (h : b < f.length) : padF f b = f := by
  unfold padF; rw [show b + 1 - f.length = 0 by omega]; rfl
theorem padF_len (f : List UInt8) (b : Nat) : b < (padF f b).length := by
  unfold padF; rw [List.length_append, Lib.repeatL_length]; simp; omega
theorem padF_le (f : List UInt8) (b : Nat) : (padF f b).length ≤ f.length + b + 1 := by
  unfold padF; rw [List.length_append, Lib.repeatL_length]; simp; omega

theorem printS_len (f : List UInt8) (e : Int) (hf : f.length ≤ 1000000) (he : -1000000 ≤ e) (he2 : e ≤ 1000000) : (printS f e).length ≤ 1000100 := by
  unfold printS
  split
  · simp
  split
  · rw [List.length_append, Lib.repeatL_length]; simp; omega
  split
  · have h := padF_le f (-e).toNat
    have h2 := padF_len f (-e).toNat
    unfold pointF
    simp only [List.length_append, List.length_take, List.length_cons, List.length_drop]
    omega
  · have := Lib.itoa_length_le e (by omega) (by omega)
    simp only [List.length_append, List.length_cons]
    omega

end Np
end Go.Proofs.YtafbojiojeemoaaGreatDoor

/-
  What num.Print answers.
-/
namespace Go.Proofs.YtafbojiojeemoaaGreatDoor
open Go.RowKit Np

theorem tab_below {n : String} {g : Nat} {k : IntKind} {zs : List Int} {w w' : World} (hg : Tryz.prog.globalNamed n = some g) (h : Lib.TabIs Tryz.prog w n k zs) (hb : Below w.heap.size w w') : Lib.TabIs Tryz.prog w' n k zs := by
  unfold Lib.TabIs World.var? at h ⊢
  simp only [hg, Option.bind_some] at h ⊢
  by_cases hlt : g < w.heap.size
  · rw [hb.block g hlt]; exact h
  · rw [Array.getElem?_eq_none (by omega)] at h; cases h
theorem grow_below' (w : World) (q : Nat) (os : Array Obj) : Below w.heap.size w (Sort.grow (w.drewN q) os) :=
  ⟨rfl, rfl, rfl, by simp [Sort.grow], fun i hi => by
    show (w.heap ++ os)[i]? = w.heap[i]?
    exact Array.getElem?_append_left hi⟩
theorem powTab : Tryz.prog.globalNamed "internal/strconv.uint64pow10" = some 6 := by kernel_rfl

/-- The table of powers of ten, as the library lays it. -/
def PowTab (w : World) : Prop := Lib.TabIs Tryz.prog w "internal/strconv.uint64pow10" .u64 Lib.pow10Tab
theorem PowTab.below {w w' : World} (h : PowTab w) (hb : Below w.heap.size w w') : PowTab w' := tab_below powTab h hb

theorem repeat_int (n : Int) (w : World) (h0 : 0 ≤ n) (h1 : n ≤ 1000000) :
    Calls Tryz.prog 146 #[.string ⟨#[48]⟩, .int .i64 n] w fun e w' => e = .returned (.string ⟨(Lib.repeatL [48] n.toNat).toArray⟩) ∧ Below w.heap.size w w' := by
  obtain ⟨c, rfl⟩ := Int.eq_ofNat_of_zero_le h0
  exact Tryz.strings_Repeat ⟨#[48]⟩ c w (by omega) (by show 1 * c ≤ _; omega)

set_option maxHeartbeats 1000000 in
theorem printPoint_any (f : ByteArray) (b : Nat) (w : World) (hf : f.size ≤ 1000000) (hb0 : 1 ≤ b) (hb1 : b ≤ 20) :
    Calls Tryz.prog 147 #[.string f, .int .i64 b] w fun e w' => e = .returned (.string ⟨(pointF f.data.toList b).toArray⟩) ∧ Below w.heap.size w w' := by
  have hB : Below w.heap.size w w := Below.refl _ _
  have hpl := padF_len f.data.toList b
  have hpu := padF_le f.data.toList b
  have HP : Hid (padF f.data.toList b = Lib.repeatL [48] (b + 1 - f.size) ++ f.data.toList) := Lib.hid (by rw [padF, size_toList])
  have HQ : Hid (pointF f.data.toList b = (padF f.data.toList b).take ((padF f.data.toList b).length - b) ++ 46 :: (padF f.data.toList b).drop ((padF f.data.toList b).length - b)) := Lib.hid rfl
  have HL : Hid (b < f.size → padF f.data.toList b = f.data.toList) := Lib.hid (fun h => padF_long (by rw [size_toList]; exact h))
  rw [size_toList] at hpu
  generalize padF f.data.toList b = pd at *
  go_enter Tryz.func147, Tryz.ntmps147
  go_upto_if 13 with fail
  go_cut [0] (fun s0 wx => s0 = .string ⟨pd.toArray⟩ ∧ Below w.heap.size w wx)
  case first =>
    by_cases hl : f.size ≤ b
    · go_wp2_with fail
      refine (repeat_int _ _ (by omega) (by omega)).mono ?_
      rintro e w1 ⟨rfl, hb⟩
      have hrl : (Lib.repeatL [48] ((b : Int) + 1 - f.size).toNat).length ≤ 21 := by rw [Lib.repeatL_length]; simp; omega
      have HR : Hid (Lib.repeatL [48] ((b : Int) + 1 - f.size).toNat = Lib.repeatL [48] (b + 1 - f.size)) := Lib.hid (by rw [show ((b : Int) + 1 - f.size).toNat = b + 1 - f.size by omega])
      generalize Lib.repeatL [48] ((b : Int) + 1 - f.size).toNat = rp at hrl HR ⊢
      go_wp2_with fail
      go_meet
      refine ⟨?_, hb⟩
      rw [HP.out, ← HR.out]
      exact congrArg Value.string (ByteArray.ext (by simp))
    · have HV := Lib.hid (HL.out (by omega))
      go_wp2_with fail
      go_meet
      refine ⟨?_, hB⟩
      rw [HV.out]
  case rest =>
    obtain ⟨rfl, hBc⟩ := hcut
    go_wp2_with fail
    have hp1 : pd.length - b ≤ pd.length := by omega
    have hp2 : ((pd.length : Int) - b) = ((pd.length - b : Nat) : Int) := by omega
    rw [hp2]
    clear hp2
    generalize pd.length - b = p at *
    go_quiet (fail)
    go_wp2_with fail
    go_ret
    refine ⟨ret_str (a := (ByteArray.mk pd.toArray).extract 0 p ++ ByteArray.mk #[46] ++ (ByteArray.mk pd.toArray).extract p pd.length) ?_, ⟨hBc.os, hBc.tape, hBc.output, hBc.size, hBc.block⟩⟩
    rw [HQ.out, extract_run (ByteArray.mk pd.toArray) 0 p (pd.take p) (by simp), extract_run (ByteArray.mk pd.toArray) p pd.length (pd.drop p) (by show pd.drop p = _; exact (List.take_of_length_le (by simp)).symm)]
    exact ByteArray.ext (by simp)

theorem itoa_any (n : Int) (w : World) (hT : PowTab w) (h0 : -1000000 ≤ n) (h1 : n ≤ 1000000) :
    Calls Tryz.prog 87 #[.int .i64 n] w fun e w' => e = .returned (.string ⟨(Lib.itoa n).toArray⟩) ∧ Below w.heap.size w w' :=
  (Tryz.strconv_Itoa n (by omega) (by omega) w hT).mono fun _ _ ⟨he, k, os, hw⟩ => ⟨he, hw ▸ grow_below' w k os⟩

theorem printPoint_int (f : ByteArray) (n : Int) (w : World) (hf : f.size ≤ 1000000) (h0 : 1 ≤ n) (h1 : n ≤ 20) :
    Calls Tryz.prog 147 #[.string f, .int .i64 n] w fun e w' => e = .returned (.string ⟨(pointF f.data.toList n.toNat).toArray⟩) ∧ Below w.heap.size w w' := by
  obtain ⟨c, rfl⟩ := Int.eq_ofNat_of_zero_le (show 0 ≤ n by omega)
  exact printPoint_any f c w hf (by omega) (by omega)

set_option maxHeartbeats 1000000 in
theorem printSize_any (f : ByteArray) (e : Int) (w : World) (hT : PowTab w) (hf : f.size ≤ 1000000) (he : -1000000 ≤ e) (he2 : e ≤ 1000000) :
    Calls Tryz.prog 102 #[.string f, .int .i64 e] w fun x w' => x = .returned (.string ⟨(printS f.data.toList e).toArray⟩) ∧ Below w.heap.size w w' := by
  have hB : Below w.heap.size w w := Below.refl _ _
  cases hne : f.data.toList.isEmpty
  · have hne2 : f.toList.isEmpty = false := by rw [ByteArray.toList_eq]; exact hne
    have HV : Hid (printS f.data.toList e = if 0 ≤ e ∧ e ≤ 20 - f.size then f.data.toList ++ Lib.repeatL [48] e.toNat
      else if -20 ≤ e ∧ e ≤ -1 then pointF f.data.toList (-e).toNat else f.data.toList ++ 101 :: Lib.itoa e) := Lib.hid (by rw [printS, if_neg (by rw [hne]; decide), size_toList])
    clear hne
    by_cases h1 : 0 ≤ e ∧ e ≤ 20 - f.size
    · have HW := Lib.hid (HV.out.trans (if_pos h1))
      obtain ⟨h1, h2⟩ := h1
      go_enter Tryz.func102, Tryz.ntmps102
      go_wp2_with fail
      refine (repeat_int _ _ (by omega) (by omega)).mono ?_
      rintro x w1 ⟨rfl, hb⟩
      have hrl : (Lib.repeatL [48] e.toNat).length ≤ 21 := by rw [Lib.repeatL_length]; simp; omega
      generalize Lib.repeatL [48] e.toNat = rp at HW hrl ⊢
      go_wp2_with fail
      go_ret
      refine ⟨ret_str (a := f ++ ByteArray.mk rp.toArray) ?_, hb⟩
      rw [HW.out]
      exact ByteArray.ext (by simp)
    · have HW := Lib.hid (HV.out.trans (if_neg h1))
      by_cases h2 : -20 ≤ e ∧ e ≤ -1
      · have HX := Lib.hid (HW.out.trans (if_pos h2))
        clear h1
        obtain ⟨h2, h3⟩ := h2
        have h4 : decide (0 ≤ e) = false := by simp; omega
        go_enter Tryz.func102, Tryz.ntmps102
        go_wp2_with fail
        refine (printPoint_int _ _ _ hf (by omega) (by omega)).mono ?_
        rintro x w1 ⟨rfl, hb⟩
        go_wp2_with fail
        go_ret
        exact ⟨ret_str (by rw [HX.out]), hb⟩
      · have HX := Lib.hid (HW.out.trans (if_neg h2))
        by_cases h0 : 0 ≤ e
        · have h3 : decide (e ≤ 20 - f.size) = false := by simp; omega
          have h4 : decide (e ≤ -1) = false := by simp; omega
          clear h1 h2
          go_enter Tryz.func102, Tryz.ntmps102
          go_wp2_with fail
          refine (itoa_any _ _ hT (by omega) (by omega)).mono ?_
          rintro x w1 ⟨rfl, hb⟩
          have hil := Lib.itoa_length_le e (by omega) (by omega)
          generalize Lib.itoa e = it at HX hil ⊢
          go_wp2_with fail
          go_ret
          refine ⟨ret_str (a := f ++ ByteArray.mk #[101] ++ ByteArray.mk it.toArray) ?_, hb⟩
          rw [HX.out]
          exact ByteArray.ext (by simp)
        · have h3 : decide (0 ≤ e) = false := by simp; omega
          have h4 : decide (-20 ≤ e) = false := by simp; omega
          clear h1 h2
          go_enter Tryz.func102, Tryz.ntmps102
          go_wp2_with fail
          refine (itoa_any _ _ hT (by omega) (by omega)).mono ?_
          rintro x w1 ⟨rfl, hb⟩
          have hil := Lib.itoa_length_le e (by omega) (by omega)
          generalize Lib.itoa e = it at HX hil ⊢
          go_wp2_with fail
          go_ret
          refine ⟨ret_str (a := f ++ ByteArray.mk #[101] ++ ByteArray.mk it.toArray) ?_, hb⟩
          rw [HX.out]
          exact ByteArray.ext (by simp)
  · have hne2 : f.toList.isEmpty = true := by rw [ByteArray.toList_eq]; exact hne
    have HV : Hid (printS f.data.toList e = [48]) := Lib.hid (by rw [printS, if_pos hne])
    clear hne
    go_enter Tryz.func102, Tryz.ntmps102
    go_wp2_with fail
    go_ret
    exact ⟨ret_str (a := ⟨#[48]⟩) (by rw [HV.out]), hB⟩

set_option maxHeartbeats 1000000 in
theorem print_any (k m : Int) (nm s : ByteArray) (g : Bool) (x : Int) (w : World) (hT : PowTab w) (hs : s.size ≤ 1000000) (hx : -1000000 ≤ x) (hx' : x ≤ 1000000) :
    Calls Tryz.prog 68 #[.agg #[.int .i64 k, .int .i64 m, .string nm, .string s, .bool g, .int .i64 x]] w
      fun e w' => e = .returned (.string ⟨(printN s.data.toList g x).toArray⟩) ∧ Below w.heap.size w w' := by
  have hB : Below w.heap.size w w := Below.refl _ _
  have hT1 := fun o => hT.below (hB.alloc (Nat.le_refl _) o)
  cases g
  · have HV : Hid (printN s.data.toList false x = printS s.data.toList x) := Lib.hid rfl
    go_enter Tryz.func68, Tryz.ntmps68
    go_wp2_with fail
    refine (printSize_any _ _ _ (hT1 _) hs hx hx').mono ?_
    rintro e w1 ⟨rfl, hb⟩
    go_wp2_with fail
    go_ret
    exact ⟨ret_str (by rw [HV.out]), (hB.alloc (Nat.le_refl _) _).trans (hb.mono (by simp))⟩
  · have HV : Hid (printN s.data.toList true x = 45 :: printS s.data.toList x) := Lib.hid rfl
    go_enter Tryz.func68, Tryz.ntmps68
    go_wp2_with fail
    refine (printSize_any _ _ _ (hT1 _) hs hx hx').mono ?_
    rintro e w1 ⟨rfl, hb⟩
    have hpl := printS_len s.data.toList x (by rw [size_toList]; exact hs) hx hx'
    generalize printS s.data.toList x = t at HV hpl ⊢
    go_wp2_with fail
    go_ret
    refine ⟨ret_str (a := ByteArray.mk #[45] ++ ByteArray.mk t.toArray) ?_, (hB.alloc (Nat.le_refl _) _).trans (hb.mono (by simp))⟩
    rw [HV.out]
    exact ByteArray.ext (by simp)

end Go.Proofs.YtafbojiojeemoaaGreatDoor

/-
  Plain words: the places of names, the least one first, one by one. No program stands here.
-/
namespace Go.Proofs.YtafbojiojeemoaaGreatDoor
open Go.RowKit Np Rw Vp

/-- So far these have been chosen. -/
structure Sel (names : List (List UInt8)) (p : List Nat) : Prop where
  nodup : p.Nodup
  lt : ∀ i ∈ p, i < names.length
  strict : (p.map (atN names)).Pairwise (· < ·)
  vl : ∀ i ∈ p, vld (atN names i) = true
  low : ∀ i ∈ p, ∀ j, j < names.length → j ∉ p → ¬ atN names j < atN names i
/-- The least one of those that are left, among the first ones. -/
def Least (names : List (List UInt8)) (p : List Nat) (k b : Nat) : Prop := b < k ∧ b ∉ p ∧ ∀ j, j < k → j ∉ p → ¬ atN names j < atN names b
theorem Sel.nil (names : List (List UInt8)) : Sel names [] := ⟨List.nodup_nil, by simp, by simp, by simp, by simp⟩
theorem Least.keep {names : List (List UInt8)} {p : List Nat} {k b : Nat} (h : Least names p k b) (hk : k ∈ p ∨ ¬ atN names k < atN names b) : Least names p (k + 1) b := by
  refine ⟨by have := h.1; omega, h.2.1, fun j hj hjp => ?_⟩
  by_cases e : j = k
  · subst e
    rcases hk with hk | hk
    · exact absurd hk hjp
    · exact hk
  · exact h.2.2 j (by omega) hjp
theorem Least.less {names : List (List UInt8)} {p : List Nat} {k b : Nat} (h : Least names p k b) (hk : k ∉ p) (hl : atN names k < atN names b) : Least names p (k + 1) k := by
  refine ⟨by omega, hk, fun j hj hjp hlt => ?_⟩
  by_cases e : j = k
  · subst e; exact List.lt_irrefl _ hlt
  · exact h.2.2 j (by omega) hjp (List.lt_trans hlt hl)
theorem Least.first {names : List (List UInt8)} {p : List Nat} {k : Nat} (h : ∀ j, j < k → j ∈ p) (hk : k ∉ p) : Least names p (k + 1) k := by
  refine ⟨by omega, hk, fun j hj hjp hlt => ?_⟩
  by_cases e : j = k
  · subst e; exact List.lt_irrefl _ hlt
  · exact hjp (h j (by omega))
theorem pig : ∀ (n : Nat) (p : List Nat), p.Nodup → (∀ i ∈ p, i < n) → p.length ≤ n ∧ (p.length = n → ∀ j, j < n → j ∈ p)
  | 0, p, _, h => by
    have : p = [] := by
      cases p with
      | nil => rfl
      | cons a p => exact absurd (h a (by simp)) (by omega)
    subst this
    exact ⟨Nat.le_refl _, fun _ j hj => absurd hj (by omega)⟩
  | n + 1, p, hn, h => by
    by_cases hm : n ∈ p
    · have h1 := pig n (p.erase n) (hn.erase n) (fun i hi => by
        have h2 := (List.Nodup.mem_erase_iff hn).1 hi
        have := h i h2.2
        have := h2.1
        omega)
      have hl := List.length_erase_of_mem hm
      have hp : 0 < p.length := List.length_pos_of_mem hm
      refine ⟨by omega, fun he j hj => ?_⟩
      by_cases e : j = n
      · subst e; exact hm
      · exact List.mem_of_mem_erase (h1.2 (by omega) j (by omega))
    · have h1 := pig n p hn (fun i hi => by
        have := h i hi
        have : i ≠ n := fun e => hm (e ▸ hi)
        omega)
      exact ⟨by omega, fun he => absurd he (by omega)⟩
theorem Sel.len {names : List (List UInt8)} {p : List Nat} (h : Sel names p) : p.length ≤ names.length := (pig _ p h.nodup h.lt).1
theorem Sel.all {names : List (List UInt8)} {p : List Nat} (h : Sel names p) (hl : p.length = names.length) : p.Perm (List.range names.length) := by
  refine (List.perm_ext_iff_of_nodup h.nodup List.nodup_range).2 fun a => ⟨fun ha => by simpa using h.lt a ha, fun ha => (pig _ p h.nodup h.lt).2 hl a (by simpa using ha)⟩
theorem Sel.some {names : List (List UInt8)} {p : List Nat} (h : Sel names p) (hl : p.length < names.length) : ¬ ∀ j, j < names.length → j ∈ p := by
  intro hall
  have h1 : (List.range names.length).length ≤ p.length := by
    have hp : (List.range names.length).Perm (p.filter (fun i => decide (i < names.length))) := (List.perm_ext_iff_of_nodup List.nodup_range (h.nodup.filter _)).2 fun a => by
      simp only [List.mem_range, List.mem_filter, decide_eq_true_eq]
      exact ⟨fun ha => ⟨hall a ha, ha⟩, fun ha => ha.2⟩
    rw [hp.length_eq]
    exact List.length_filter_le _ _
  simp at h1
  omega
theorem Sel.places {names : List (List UInt8)} {p : List Nat} (h : Sel names p) (hl : p.length = names.length) : Places names p := by
  refine ⟨h.all hl, ?_⟩
  have := List.pairwise_map.1 h.strict
  exact this.imp fun {a b} hab hba => List.lt_irrefl _ (List.lt_trans hab hba)
theorem Sel.done {names : List (List UInt8)} {L : List (List Nd)} {p : List Nat} (h : Sel names p) (hl : p.length = names.length) (hL : names.length = L.length) :
    objB names L = true ∧ objV names L = hdN 6 L.length :: laid ((p.map (atN names)).zip (p.map (atL L))) := by
  have hp := h.places hl
  have hnd : names.Nodup := by
    have : (p.map (atN names)).Nodup := h.strict.imp fun {a b} hab (e : a = b) => by subst e; exact List.lt_irrefl a hab
    exact hp.names.nodup_iff.1 this
  have hb : objB names L = true := objB_iff.2 ⟨hL, hnd, fun s hs => by
    obtain ⟨i, hi, rfl⟩ := List.mem_map.1 (hp.names.mem_iff.2 hs)
    exact h.vl i hi⟩
  refine ⟨hb, ?_⟩
  rw [objV, if_pos hb, hp.pairs hL h.strict, List.zip_map']
theorem Sel.wrong {names : List (List UInt8)} {L : List (List Nd)} {b : Nat} (hb : b < names.length) (hv : vld (atN names b) = false) : objB names L = false := by
  cases h : objB names L
  · rfl
  · have := (objB_iff.1 h).2.2 (atN names b) (by rw [atN, List.getD_eq_getElem?_getD, List.getElem?_eq_getElem hb]; exact List.getElem_mem hb)
    rw [this] at hv; cases hv
theorem Sel.twice {names : List (List UInt8)} {L : List (List Nd)} {a b : Nat} (ha : a < names.length) (hb : b < names.length) (hne : a ≠ b) (he : atN names a = atN names b) : objB names L = false := by
  cases h : objB names L
  · rfl
  · have hn := (objB_iff.1 h).2.1
    have e1 : atN names a = names[a] := by rw [atN, List.getD_eq_getElem?_getD, List.getElem?_eq_getElem ha]; rfl
    have e2 : atN names b = names[b] := by rw [atN, List.getD_eq_getElem?_getD, List.getElem?_eq_getElem hb]; rfl
    rw [e1, e2] at he
    rcases Nat.lt_or_gt_of_ne hne with hlt | hlt
    · exact absurd he (List.pairwise_iff_getElem.1 hn a b ha hb hlt)
    · exact absurd he.symm (List.pairwise_iff_getElem.1 hn b a hb ha hlt)
theorem Sel.next {names : List (List UInt8)} {p : List Nat} {b : Nat} (h : Sel names p) (hb : Least names p names.length b) (hv : vld (atN names b) = true) (hne : ∀ q a, p = q ++ [a] → atN names a ≠ atN names b) : Sel names (p ++ [b]) := by
  obtain ⟨hb1, hb2, hb3⟩ := hb
  have hlast : ∀ i ∈ p, atN names i < atN names b := by
    rcases List.eq_nil_or_concat p with hp | ⟨q, a, hp⟩
    · subst hp; intro i hi; cases hi
    · rw [List.concat_eq_append] at hp
      have ha : atN names a < atN names b := lt_of_ne (h.low a (by rw [hp]; simp) b hb1 hb2) (hne q a hp)
      intro i hi
      rw [hp] at hi
      rcases List.mem_append.1 hi with hi | hi
      · have hs := h.strict
        rw [hp, List.map_append, List.pairwise_append] at hs
        exact List.lt_trans (hs.2.2 (atN names i) (List.mem_map_of_mem hi) (atN names a) (by simp)) ha
      · simp at hi; subst hi; exact ha
  refine ⟨?_, ?_, ?_, ?_, ?_⟩
  · rw [List.nodup_append]
    exact ⟨h.nodup, by simp, fun x hx y hy => by simp at hy; subst hy; exact fun e => hb2 (e ▸ hx)⟩
  · intro i hi
    rcases List.mem_append.1 hi with hi | hi
    · exact h.lt i hi
    · simp at hi; subst hi; exact hb1
  · rw [List.map_append, List.pairwise_append]
    refine ⟨h.strict, by simp, fun x hx y hy => ?_⟩
    obtain ⟨i, hi, rfl⟩ := List.mem_map.1 hx
    simp at hy; subst hy
    exact hlast i hi
  · intro i hi
    rcases List.mem_append.1 hi with hi | hi
    · exact h.vl i hi
    · simp at hi; subst hi; exact hv
  · intro i hi j hj hjp
    have hjp' : j ∉ p := fun hh => hjp (by simp [hh])
    rcases List.mem_append.1 hi with hi | hi
    · exact h.low i hi j hj hjp'
    · simp at hi; subst hi; exact hb3 j hj hjp'
end Go.Proofs.YtafbojiojeemoaaGreatDoor

/-
  The document's own number at a place.
-/
namespace Go.Proofs.YtafbojiojeemoaaGreatDoor
open Go.RowKit Np Rw Vp Up Qp Pw

theorem figD_take {r : List UInt8} {j : Nat} (hj : j ≤ 7) (hl : j ≤ r.length) (h0 : ∀ t, t < j → ∀ x, r[t]? = some x → isF x = true) (h1 : j = 7 ∨ j = r.length ∨ ∃ x, r[j]? = some x ∧ isF x = false) : figD r = r.take j := by
  unfold figD
  have h2 := takeWhile_len isF (r.take 7) j (by rw [List.length_take]; omega) (fun t ht x hx => h0 t ht x (by
    rw [List.getElem?_take] at hx
    split at hx
    · exact hx
    · cases hx)) (by
    rw [List.length_take]
    by_cases hj7 : j = 7
    · left; omega
    · rcases h1 with h | h | ⟨x, hx, hp⟩
      · exact absurd h hj7
      · left; omega
      · right
        exact ⟨x, by rw [List.getElem?_take, if_pos (by omega)]; exact hx, hp⟩)
  rw [h2, List.take_take, Nat.min_eq_left hj]
theorem valD_take {r : List UInt8} {j : Nat} {c : UInt8} (h : r[j]? = some c) : valD (r.take (j + 1)) = valD (r.take j) * 10 + (c.toNat - 48) := by
  rw [List.take_add_one, h]
  exact valD_snoc _ _
theorem valD_lt : ∀ (j : Nat) (r : List UInt8), (∀ t, t < j → ∀ x, r[t]? = some x → isF x = true) → valD (r.take j) < 10 ^ j
  | 0, r, _ => by simp [valD]
  | j + 1, r, h => by
    have ih := valD_lt j r (fun t ht => h t (by omega))
    cases hc : r[j]? with
    | none =>
      rw [List.take_add_one, hc]
      simp only [Option.toList, List.append_nil]
      rw [Nat.pow_succ]; omega
    | some c =>
      have hf := isF_iff.1 (h j (by omega) c hc)
      rw [valD_take hc, Nat.pow_succ]; omega
/-- What is told of the number at a place. -/
def figV (i : Nat) : Option (Nat × Nat) → Value
  | none => .tuple #[.int .i64 (-1), .int .i64 i]
  | some x => .tuple #[.int .i64 x.1, .int .i64 (i + x.2 : Nat)]
set_option maxRecDepth 100000 in
set_option maxHeartbeats 4000000 in
theorem refFigP_any (s : ByteArray) (i : Nat) (w : World) (hs : s.size ≤ 1000000) (hi : i ≤ s.size) : Calls Tryz.prog 119 #[.string s, .int .i64 i] w fun e w' => e = .returned (figV i (figR (s.data.toList.drop i))) ∧ w' = w := by
  have HR : Hid (∀ j, i + j < s.size → ∃ c : UInt8, (s.data.toList.drop i)[j]? = some c ∧ ∀ h : i + j < s.size, s[i + j] = c) := Lib.hid (fun j hj => ⟨s[i + j], by
    rw [List.getElem?_drop, List.getElem?_eq_getElem (by rw [size_toList]; exact hj)]; rfl, fun _ => rfl⟩)
  have HL : Hid ((s.data.toList.drop i).length = s.size - i) := Lib.hid (by rw [List.length_drop, size_toList])
  generalize s.data.toList.drop i = r at *
  go_enter Tryz.func119, Tryz.ntmps119
  go_wp2_with fail
  go_loopw [1, 6] (fun iv nv wr => ∃ j : Nat, j ≤ 7 ∧ i + j ≤ s.size ∧ iv = .int .i64 ((i + j : Nat) : Int) ∧ nv = .int .i64 (valD (r.take j)) ∧ Hid (∀ t, t < j → ∀ x, r[t]? = some x → isF x = true) ∧ wr = w) (fun iv _ _ => s.size - (intOf iv).toNat)
  case atStart => exact ⟨0, by omega, by omega, by simp, rfl, Lib.hid (fun t ht => by omega), rfl⟩
  case round =>
    obtain ⟨j, hj, hij, rfl, rfl, HF, rfl⟩ := hrel
    have hvl : valD (r.take j) < 10000000 := by
      have h1 := valD_lt j r HF.out
      have h2 : 10 ^ j ≤ 10 ^ 7 := Nat.pow_le_pow_right (by omega) hj
      omega
    have hi2 : ((i + j : Nat) : Int) - (i : Int) = (j : Int) := by omega
    have HEND : Hid (j = 7 ∨ j = r.length ∨ (∃ x, r[j]? = some x ∧ isF x = false) → figD r = r.take j) := Lib.hid (fun h => figD_take hj (by rw [HL.out]; omega) HF.out h)
    by_cases hlt : i + j < s.size
    · obtain ⟨c, hc, hcs⟩ := HR.out j hlt
      have hc256 := c.toNat_lt
      by_cases hf : 48 ≤ c.toNat ∧ c.toNat ≤ 57
      · by_cases h7 : j < 7
        · have HF2 : Hid (∀ t, t < j + 1 → ∀ x, r[t]? = some x → isF x = true) := Lib.hid (fun t ht x hx => by
            by_cases htj : t < j
            · exact HF.out t htj x hx
            · obtain rfl : t = j := by omega
              rw [hc] at hx
              injection hx with hx
              subst hx
              rw [isF_iff]; exact hf)
          have HV2 : Hid (valD (r.take (j + 1)) = valD (r.take j) * 10 + (c.toNat - 48)) := Lib.hid (by rw [valD_take hc])
          obtain ⟨hf1, hf2⟩ := hf
          clear hc
          go_wp2_with fail
          refine ⟨⟨j + 1, by omega, by omega, by congr 1, ?_, HF2, trivial⟩, by simp [intOf]; omega⟩
          rw [HV2.out]
          congr 1
          omega
        · have HD := Lib.hid (HEND.out (.inl (by omega)))
          rcases Nat.eq_zero_or_pos j with h0 | hjp
          · subst h0
            have HN : Hid (figR r = none) := Lib.hid (by unfold figR; rw [HD.out]; simp)
            go_wp2_with fail
            all_goals first
              | (go_ret2; exact ⟨by rw [HN.out]; rfl, rfl⟩)
              | (exfalso; clear HN HF HR HL; simp at *; omega)
          · obtain ⟨c0, hc0, hcs0⟩ := HR.out 0 (by omega)
            have hs0 : ∀ h : i < s.size, s[i] = c0 := fun h => hcs0 (by omega)
            have hlt0 : i < s.size := by omega
            have hc0r := c0.toNat_lt
            have hhd : (figD r).head? = some c0 := by
              rw [HD.out, List.head?_take, if_neg (by omega), List.head?_eq_getElem?]
              exact hc0
            have hdl : (figD r).length = j := by rw [HD.out, List.length_take, HL.out]; omega
            have hne : figD r ≠ [] := by intro e; rw [e] at hdl; simp at hdl; omega
            have hji : ((i + j : Nat) : Int) ≠ (i : Int) := by omega
            by_cases hz : c0.toNat = 48 ∧ 1 < j
            · have HN : Hid (figR r = none) := Lib.hid (by
                unfold figR
                rw [if_pos (.inr (.inl ⟨by rw [hhd, u8_of (c := c0) (n := 48) hz.1 |>.symm]; rfl, by rw [hdl]; exact hz.2⟩))])
              obtain ⟨hz1, hz2⟩ := hz
              clear hhd hdl hne HD HEND hcs0 hc0
              go_wp2_with fail
              all_goals first
                | (go_ret2; exact ⟨by rw [HN.out]; rfl, rfl⟩)
                | (exfalso; clear HN HF HR HL; simp at *; omega)
            · have hz' : ¬ ((figD r).head? = some 48 ∧ 1 < (figD r).length) := by
                rintro ⟨h1, h2⟩
                rw [hhd] at h1
                injection h1 with h1
                rw [hdl] at h2
                exact hz ⟨by rw [h1]; rfl, h2⟩
              by_cases hm : 1000000 < valD (r.take j)
              · have HN : Hid (figR r = none) := Lib.hid (by
                  unfold figR
                  rw [if_pos (.inr (.inr (by rw [HD.out]; exact hm)))])
                clear hhd hdl hne HD HEND hcs0 hc0 hz'
                have hmi : ((valD (r.take j) : Nat) : Int) ≤ 1000000 ∨ (1000000 : Int) < ((valD (r.take j) : Nat) : Int) := by omega
                by_cases h48 : c0.toNat = 48
                · obtain rfl : j = 1 := by omega
                  go_wp2_with fail
                  all_goals first
                    | (go_ret2; exact ⟨by rw [HN.out]; rfl, rfl⟩)
                    | (exfalso; clear HN HF HR HL; simp at *; omega)
                · have h48b : ((c0.toNat : Int) == 48) = false := by simp; omega
                  go_wp2_with fail
                  all_goals first
                    | (go_ret2; exact ⟨by rw [HN.out]; rfl, rfl⟩)
                    | (exfalso; clear HN HF HR HL; simp at *; omega)
              · have HN : Hid (figR r = some (valD (r.take j), j)) := Lib.hid (by
                  unfold figR
                  rw [if_neg (by rintro (h | h | h); · exact hne h
                                 · exact hz' h
                                 · rw [HD.out] at h; exact hm h), hdl, HD.out])
                clear hhd hdl hne HD HEND hcs0 hc0 hz'
                have hmi : ((valD (r.take j) : Nat) : Int) ≤ 1000000 ∨ (1000000 : Int) < ((valD (r.take j) : Nat) : Int) := by omega
                by_cases h48 : c0.toNat = 48
                · obtain rfl : j = 1 := by omega
                  go_wp2_with fail
                  all_goals first
                    | (go_ret2; exact ⟨by rw [HN.out]; rfl, rfl⟩)
                    | (exfalso; clear HN HF HR HL; simp at *; omega)
                · have h48b : ((c0.toNat : Int) == 48) = false := by simp; omega
                  go_wp2_with fail
                  all_goals first
                    | (go_ret2; exact ⟨by rw [HN.out]; rfl, rfl⟩)
                    | (exfalso; clear HN HF HR HL; simp at *; omega)
      · have HD := Lib.hid (HEND.out (.inr (.inr ⟨c, hc, by cases hb : isF c with | false => rfl | true => exact absurd (isF_iff.1 hb) hf⟩)))
        rcases Nat.eq_zero_or_pos j with h0 | hjp
        · subst h0
          have hcs' : ∀ h : i < s.size, s[i] = c := fun h => hcs (by omega)
          have HN : Hid (figR r = none) := Lib.hid (by unfold figR; rw [HD.out]; simp)
          go_wp2_with fail
          all_goals first
            | (go_ret2; exact ⟨by rw [HN.out]; rfl, rfl⟩)
            | (exfalso; clear HN HF HR HL; simp at *; omega)
        · obtain ⟨c0, hc0, hcs0⟩ := HR.out 0 (by omega)
          have hs0 : ∀ h : i < s.size, s[i] = c0 := fun h => hcs0 (by omega)
          have hlt0 : i < s.size := by omega
          have hc0r := c0.toNat_lt
          have hhd : (figD r).head? = some c0 := by
            rw [HD.out, List.head?_take, if_neg (by omega), List.head?_eq_getElem?]
            exact hc0
          have hdl : (figD r).length = j := by rw [HD.out, List.length_take, HL.out]; omega
          have hne : figD r ≠ [] := by intro e; rw [e] at hdl; simp at hdl; omega
          have hji : ((i + j : Nat) : Int) ≠ (i : Int) := by omega
          by_cases hz : c0.toNat = 48 ∧ 1 < j
          · have HN : Hid (figR r = none) := Lib.hid (by
              unfold figR
              rw [if_pos (.inr (.inl ⟨by rw [hhd, u8_of (c := c0) (n := 48) hz.1 |>.symm]; rfl, by rw [hdl]; exact hz.2⟩))])
            obtain ⟨hz1, hz2⟩ := hz
            clear hhd hdl hne HD HEND hcs0 hc0
            go_wp2_with fail
            all_goals first
              | (go_ret2; exact ⟨by rw [HN.out]; rfl, rfl⟩)
              | (exfalso; clear HN HF HR HL; simp at *; omega)
          · have hz' : ¬ ((figD r).head? = some 48 ∧ 1 < (figD r).length) := by
              rintro ⟨h1, h2⟩
              rw [hhd] at h1
              injection h1 with h1
              rw [hdl] at h2
              exact hz ⟨by rw [h1]; rfl, h2⟩
            by_cases hm : 1000000 < valD (r.take j)
            · have HN : Hid (figR r = none) := Lib.hid (by
                unfold figR
                rw [if_pos (.inr (.inr (by rw [HD.out]; exact hm)))])
              clear hhd hdl hne HD HEND hcs0 hc0 hz'
              have hmi : ((valD (r.take j) : Nat) : Int) ≤ 1000000 ∨ (1000000 : Int) < ((valD (r.take j) : Nat) : Int) := by omega
              by_cases h48 : c0.toNat = 48
              · obtain rfl : j = 1 := by omega
                go_wp2_with fail
                all_goals first
                  | (go_ret2; exact ⟨by rw [HN.out]; rfl, rfl⟩)
                  | (exfalso; clear HN HF HR HL; simp at *; omega)
              · have h48b : ((c0.toNat : Int) == 48) = false := by simp; omega
                go_wp2_with fail
                all_goals first
                  | (go_ret2; exact ⟨by rw [HN.out]; rfl, rfl⟩)
                  | (exfalso; clear HN HF HR HL; simp at *; omega)
            · have HN : Hid (figR r = some (valD (r.take j), j)) := Lib.hid (by
                unfold figR
                rw [if_neg (by rintro (h | h | h); · exact hne h
                               · exact hz' h
                               · rw [HD.out] at h; exact hm h), hdl, HD.out])
              clear hhd hdl hne HD HEND hcs0 hc0 hz'
              have hmi : ((valD (r.take j) : Nat) : Int) ≤ 1000000 ∨ (1000000 : Int) < ((valD (r.take j) : Nat) : Int) := by omega
              by_cases h48 : c0.toNat = 48
              · obtain rfl : j = 1 := by omega
                go_wp2_with fail
                all_goals first
                  | (go_ret2; exact ⟨by rw [HN.out]; rfl, rfl⟩)
                  | (exfalso; clear HN HF HR HL; simp at *; omega)
              · have h48b : ((c0.toNat : Int) == 48) = false := by simp; omega
                go_wp2_with fail
                all_goals first
                  | (go_ret2; exact ⟨by rw [HN.out]; rfl, rfl⟩)
                  | (exfalso; clear HN HF HR HL; simp at *; omega)
    · have HD := Lib.hid (HEND.out (.inr (.inl (by rw [HL.out]; omega))))
      rcases Nat.eq_zero_or_pos j with h0 | hjp
      · subst h0
        have HN : Hid (figR r = none) := Lib.hid (by unfold figR; rw [HD.out]; simp)
        go_wp2_with fail
        all_goals first
          | (go_ret2; exact ⟨by rw [HN.out]; rfl, rfl⟩)
          | (exfalso; clear HN HF HR HL; simp at *; omega)
      · obtain ⟨c0, hc0, hcs0⟩ := HR.out 0 (by omega)
        have hs0 : ∀ h : i < s.size, s[i] = c0 := fun h => hcs0 (by omega)
        have hlt0 : i < s.size := by omega
        have hc0r := c0.toNat_lt
        have hhd : (figD r).head? = some c0 := by
          rw [HD.out, List.head?_take, if_neg (by omega), List.head?_eq_getElem?]
          exact hc0
        have hdl : (figD r).length = j := by rw [HD.out, List.length_take, HL.out]; omega
        have hne : figD r ≠ [] := by intro e; rw [e] at hdl; simp at hdl; omega
        have hji : ((i + j : Nat) : Int) ≠ (i : Int) := by omega
        by_cases hz : c0.toNat = 48 ∧ 1 < j
        · have HN : Hid (figR r = none) := Lib.hid (by
            unfold figR
            rw [if_pos (.inr (.inl ⟨by rw [hhd, u8_of (c := c0) (n := 48) hz.1 |>.symm]; rfl, by rw [hdl]; exact hz.2⟩))])
          obtain ⟨hz1, hz2⟩ := hz
          clear hhd hdl hne HD HEND hcs0 hc0
          go_wp2_with fail
          all_goals first
            | (go_ret2; exact ⟨by rw [HN.out]; rfl, rfl⟩)
            | (exfalso; clear HN HF HR HL; simp at *; omega)
        · have hz' : ¬ ((figD r).head? = some 48 ∧ 1 < (figD r).length) := by
            rintro ⟨h1, h2⟩
            rw [hhd] at h1
            injection h1 with h1
            rw [hdl] at h2
            exact hz ⟨by rw [h1]; rfl, h2⟩
          by_cases hm : 1000000 < valD (r.take j)
          · have HN : Hid (figR r = none) := Lib.hid (by
              unfold figR
              rw [if_pos (.inr (.inr (by rw [HD.out]; exact hm)))])
            clear hhd hdl hne HD HEND hcs0 hc0 hz'
            have hmi : ((valD (r.take j) : Nat) : Int) ≤ 1000000 ∨ (1000000 : Int) < ((valD (r.take j) : Nat) : Int) := by omega
            by_cases h48 : c0.toNat = 48
            · obtain rfl : j = 1 := by omega
              go_wp2_with fail
              all_goals first
                | (go_ret2; exact ⟨by rw [HN.out]; rfl, rfl⟩)
                | (exfalso; clear HN HF HR HL; simp at *; omega)
            · have h48b : ((c0.toNat : Int) == 48) = false := by simp; omega
              go_wp2_with fail
              all_goals first
                | (go_ret2; exact ⟨by rw [HN.out]; rfl, rfl⟩)
                | (exfalso; clear HN HF HR HL; simp at *; omega)
          · have HN : Hid (figR r = some (valD (r.take j), j)) := Lib.hid (by
              unfold figR
              rw [if_neg (by rintro (h | h | h); · exact hne h
                             · exact hz' h
                             · rw [HD.out] at h; exact hm h), hdl, HD.out])
            clear hhd hdl hne HD HEND hcs0 hc0 hz'
            have hmi : ((valD (r.take j) : Nat) : Int) ≤ 1000000 ∨ (1000000 : Int) < ((valD (r.take j) : Nat) : Int) := by omega
            by_cases h48 : c0.toNat = 48
            · obtain rfl : j = 1 := by omega
              go_wp2_with fail
              all_goals first
                | (go_ret2; exact ⟨by rw [HN.out]; rfl, rfl⟩)
                | (exfalso; clear HN HF HR HL; simp at *; omega)
            · have h48b : ((c0.toNat : Int) == 48) = false := by simp; omega
              go_wp2_with fail
              all_goals first
                | (go_ret2; exact ⟨by rw [HN.out]; rfl, rfl⟩)
                | (exfalso; clear HN HF HR HL; simp at *; omega)
end Go.Proofs.YtafbojiojeemoaaGreatDoor
