/-
  Joined: PaB0, PaB4, PaB5, PaB6.
-/
import Derived.Test.YtdgcdemihalefaaGreatDoorMem
import Derived.Test.YtdgcdemihalefaaGreatDoorShelf
import Derived.Lib.CutLaws
import Derived.Lib.IndexBytes
import Derived.Lib.Bytealg
import Derived.Shelf.RegionOpenPlain
import Derived.Test.YtdgcdemihalefaaGreatDoorTermTellsJ4
import Derived.Test.YtdgcdemihalefaaGreatDoorTermTellsJ2
import Derived.Lib.AtoiAllMem
namespace Go.Proofs.YtdgcdemihalefaaGreatDoor
open Go.RowKit Np
set_option maxRecDepth 100000 in
set_option maxHeartbeats 2000000 in
theorem index93_any (s : ByteArray) (w : World) : Calls Tryz.prog 295 #[.string s, .string ⟨#[93]⟩] w fun e w' => e = .returned (.int .i64 (Lib.index s.data.toList [93])) ∧ w' = w := by
  have HIB : Hid (∀ W, Calls Tryz.prog 311 #[.string s, .int .u8 93] W fun e w' => e = .returned (.int .i64 (Lib.index s.data.toList [93])) ∧ w' = W) := Lib.hid (fun W => by
    have h := Tryz.stringslite_IndexByte s 93 W
    rwa [← Lib.index_one] at h)
  have HZ : Hid (s.data.toList = [93] → (0 : Int) = Lib.index s.data.toList [93]) := Lib.hid (fun h => by rw [h]; rfl)
  generalize Lib.index s.data.toList [93] = i at *
  go_enter Tryz.func295, Tryz.ntmps295
  go_wp2_with fail
  · have h : ([93] == s.toList) = true := by assumption
    rw [ByteArray.toList_eq, beq_iff_eq] at h
    go_ret
    exact ⟨ret_i64 (HZ.out h.symm), rfl⟩
  · refine (HIB.out _).mono ?_
    rintro e w1 ⟨rfl, rfl⟩
    go_wp2_with fail
    go_ret
    exact ⟨rfl, rfl⟩
set_option maxRecDepth 100000 in
set_option maxHeartbeats 2000000 in
theorem cut93l_any (s : ByteArray) (w : World) (hs : s.size ≤ maxLen) : Calls Tryz.prog 276 #[.string s, .string ⟨#[93]⟩] w fun e w' => e = .returned (.tuple #[.string ⟨(Lib.cut s.data.toList [93]).1.toArray⟩, .string ⟨(Lib.cut s.data.toList [93]).2.1.toArray⟩, .bool (Lib.cut s.data.toList [93]).2.2]) ∧ ∃ n, w' = w.drewN n := by
  have HIX := Lib.hid (index93_any s)
  unfold maxLen at hs
  rcases Lib.indexB_cases s ⟨#[93]⟩ with hix | ⟨i, hix, hroom⟩
  · have hix' : Lib.index s.data.toList [93] = -1 := hix
    obtain ⟨e1, e2, e3⟩ := Lib.cutB_miss s ⟨#[93]⟩ hix
    simp only at e1 e2 e3
    rw [e1, e2, e3]
    rw [hix'] at HIX
    clear hix hix' e1 e2 e3
    go_enter Tryz.func276, Tryz.ntmps276
    go_wp2_with fail
    refine (HIX.out _).mono ?_
    rintro e w1 ⟨rfl, rfl⟩
    go_wp2_with fail
    go_ret3
    exact ⟨rfl, 0, rfl⟩
  · have hix' : Lib.index s.data.toList [93] = (i : Int) := hix
    obtain ⟨e1, e2, e3⟩ := Lib.cutB_hit s ⟨#[93]⟩ i hix
    simp only at e1 e2 e3
    rw [e1, e2, e3]
    rw [hix'] at HIX
    have hr : i + 1 ≤ s.size := hroom
    clear hix hix' e1 e2 e3 hroom
    have c1 : (0 : Int) ≤ ↑i := by omega
    have c2 : (↑i : Int) ≤ ↑s.size := by omega
    have c3 : (0 : Int) ≤ ↑i + 1 := by omega
    have c4 : (↑i + 1 : Int) ≤ ↑s.size := by omega
    have c5 : IntKind.i64.wrap ((i : Int) + 1) = (i : Int) + 1 := by rw [IntKind.wrap_i64]; omega
    have mixed : Tryz.prog.follows Departure.mixedOrders = true := by kernel_rfl
    go_enter Tryz.func276, Tryz.ntmps276
    go_wp2_with fail
    refine (HIX.out _).mono ?_
    rintro e w1 ⟨rfl, rfl⟩
    go_wp2_with fail
    go_region_o
    go_wp2
    go_ret3
    exact ⟨rfl, 1, rfl⟩
set_option maxRecDepth 100000 in
set_option maxHeartbeats 2000000 in
theorem cut93_any (s : ByteArray) (w : World) (hs : s.size ≤ maxLen) : Calls Tryz.prog 241 #[.string s, .string ⟨#[93]⟩] w fun e w' => e = .returned (.tuple #[.string ⟨(Lib.cut s.data.toList [93]).1.toArray⟩, .string ⟨(Lib.cut s.data.toList [93]).2.1.toArray⟩, .bool (Lib.cut s.data.toList [93]).2.2]) ∧ ∃ n, w' = w.drewN n := by
  have HIX := Lib.hid (fun W => cut93l_any s W hs)
  generalize Lib.cut s.data.toList [93] = C at *
  obtain ⟨a, b, c⟩ := C
  go_enter Tryz.func241, Tryz.ntmps241
  go_wp2_with fail
  refine (HIX.out _).mono ?_
  rintro e w1 ⟨rfl, n, rfl⟩
  go_wp2_with fail
  go_ret3
  exact ⟨rfl, n, rfl⟩
end Go.Proofs.YtdgcdemihalefaaGreatDoor
namespace Go.Proofs.YtdgcdemihalefaaGreatDoor
open Go.RowKit Np Rw Vp Up Qp Pw
structure Pv (w : World) : Prop where
  pow : PowTab w
  tabs : Tabs w
  er : Er w
  er2 : ∃ ev, w.cell? ⟨9, 0, none⟩ = some ev ∧ (ev = .nilIface ∨ ∃ te pe, ev = .iface te pe)
theorem Pv.below {w w' : World} (h : Pv w) (hb : Below w.heap.size w w') : Pv w' := by
  obtain ⟨h1, h2, h3, ev, h4, h5⟩ := h
  have hlt := World.block_lt_of_cell? _ _ h4
  exact ⟨h1.below hb, h2.below hb, h3.below hb, ev, (hb.cell (p := ⟨9, 0, none⟩) hlt).trans h4, h5⟩
theorem ext_tail (s : ByteArray) (a : Nat) : (s.extract a s.size).data.toList = s.data.toList.drop a := by
  have h := Lib.extract_toList s a s.size
  rw [ByteArray.toList_eq] at h
  rw [h, List.take_of_length_le (by rw [List.length_drop, size_toList]; exact Nat.le_refl _)]
theorem atoi_any (s : ByteArray) (w : World) (hs : s.size ≤ 281474976710656) (hT : Pv w) :
    Calls Tryz.prog 242 #[.string s] w fun e w' => ∃ ev, e = .returned (.tuple #[.int .i64 (atoiN s.data.toList), ev]) ∧ Below w.heap.size w w' := by
  unfold atoiN
  cases h : Lib.atoiAll s.data.toList with
  | ok v =>
    refine (Tryz.strconv_Atoi_ok s (by omega) v h w).mono ?_
    rintro e w' ⟨rfl, hw⟩
    refine ⟨_, rfl, ?_⟩
    rcases hw with rfl | ⟨t, rfl⟩
    · exact Below.refl _ _
    · exact Lib.bytesWorld_below _ _ _
  | range =>
    obtain ⟨ev, h1, h2⟩ := hT.er2
    refine (Tryz.strconv_Atoi_range s hs h ev w h1 h2).mono ?_
    rintro e w' ⟨N, rfl, -, -, hb⟩
    exact ⟨_, rfl, hb⟩
  | _ =>
    obtain ⟨ev, h1, h2⟩ := hT.er
    refine (Tryz.strconv_Atoi_syntax s hs h ev w h1 h2).mono ?_
    rintro e w' ⟨N, rfl, -, -, hb⟩
    exact ⟨_, rfl, hb⟩
theorem atoiN_bounds (l : List UInt8) : -9223372036854775808 ≤ atoiN l ∧ atoiN l ≤ 9223372036854775807 := by
  unfold atoiN
  cases h : Lib.atoiAll l with
  | ok v =>
    have := Lib.atoiAll_bounds h
    simp only; omega
  | range =>
    have := Lib.atoiSat_bounds l
    simp only; omega
  | _ => simp
theorem cut_le (l : List UInt8) (c : UInt8) : (Lib.cut l [c]).1.length ≤ l.length := by
  unfold Lib.cut
  split
  · simp; omega
  · exact Nat.le_refl _
theorem trim_le (l p : List UInt8) : (Lib.trimPrefix l p).length ≤ l.length := by
  unfold Lib.trimPrefix
  split
  · simp
  · exact Nat.le_refl _
theorem unqs_len (l : List UInt8) (h : (unqs l).2.2 = 0) : (unqs l).1.length ≤ l.length := by
  unfold unqs at h ⊢
  split
  · rename_i h34
    rw [if_pos h34] at h
    cases hR : unq [] (l.drop 1) 1 with
    | mk x r =>
      obtain ⟨n, e⟩ := r
      rw [hR] at h
      simp only at h
      subst h
      obtain ⟨y, y1, -, y3, -, y5⟩ := unq_good _ [] (l.drop 1) 1 n x (Nat.le_refl _) hR
      rw [List.nil_append] at y1
      subst y1
      rw [List.length_drop] at y5
      simp only
      omega
  · simp
theorem gss_len (l : List UInt8) : (gss l).name.length ≤ l.length ∧ -9223372036854775808 ≤ (gss l).n ∧ (gss l).n ≤ 9223372036854775807 := by
  unfold gss
  split
  · exact ⟨by simp, atoiN_bounds _⟩
  · split
    · rename_i h
      exact ⟨Nat.le_trans (unqs_len _ h) (trim_le _ _), by simp, by simp⟩
    · exact ⟨Nat.le_trans (wrd_le _) (trim_le _ _), by simp, by simp⟩
abbrev stepZ : Obj := .cells #[.bool false, .string ⟨#[]⟩, .int .i64 0] 71
theorem new_step {W w3 : World} {b : Nat} (hZ : W.heap[b]? = some stepZ) (hb : Below W.heap.size W w3) :
    b < w3.heap.size ∧ w3.cell? ⟨b, 0, none⟩ = some (.bool false) ∧ w3.cell? ⟨b, 1, none⟩ = some (.string ⟨#[]⟩) ∧ w3.cell? ⟨b, 2, none⟩ = some (.int .i64 0) ∧ (∀ o, w3.frozen? ⟨b, o, none⟩ = false) ∧ w3.heap[b]? = some stepZ := by
  have hs : b < W.heap.size := (Array.getElem?_eq_some_iff.1 hZ).1
  have zz : w3.heap[b]? = some stepZ := (hb.block _ hs).trans hZ
  refine ⟨(Array.getElem?_eq_some_iff.1 zz).1, ?_, ?_, ?_, fun o => Lib.frozen_of_heap zz o, zz⟩ <;> (rw [Lib.cell_of_heap zz]; rfl)
set_option maxRecDepth 100000 in
set_option maxHeartbeats 4000000 in
theorem guess_any (s : ByteArray) (w : World) (hs : s.size ≤ 1073741824) (hT : Pv w) :
    Calls Tryz.prog 210 #[.string s] w fun e w' => e = .returned (sta (gss s.data.toList)) ∧ Below w.heap.size w w' := by
  have htl1 := trim_le s.data.toList [91]
  have htl2 := trim_le s.data.toList [46]
  rw [size_toList] at htl1 htl2
  have hb0 : Below w.heap.size w (w.alloc (.cells #[.bool false, .string ⟨#[]⟩, .int .i64 0] 71)) := (Below.refl _ _).alloc (Nat.le_refl _) _
  have HB0 := Lib.hid hb0
  have HCP := Lib.hid (Tryz.strings_CutPrefix s ⟨#[91]⟩)
  cases hp : Lib.hasPrefix s.data.toList [91] with
  | true =>
    have HG : Hid (gss s.data.toList = ⟨true, [], atoiN (Lib.cut (Lib.trimPrefix s.data.toList [91]) [93]).1⟩) := Lib.hid (by rw [gss, if_pos hp])
    have hcl := cut_le (Lib.trimPrefix s.data.toList [91]) 93
    simp only [hp] at HCP
    generalize gss s.data.toList = G at *
    generalize Lib.trimPrefix s.data.toList [91] = T at *
    have HCUT : Hid (∀ W, Calls Tryz.prog 241 #[.string ⟨T.toArray⟩, .string ⟨#[93]⟩] W fun e w' => e = .returned (.tuple #[.string ⟨(Lib.cut T [93]).1.toArray⟩, .string ⟨(Lib.cut T [93]).2.1.toArray⟩, .bool (Lib.cut T [93]).2.2]) ∧ ∃ n, w' = W.drewN n) := Lib.hid (fun W => cut93_any ⟨T.toArray⟩ W (by rw [mk_size]; unfold maxLen; omega))
    generalize Lib.cut T [93] = C at *
    have HAT : Hid (∀ W, Below w.heap.size w W → Calls Tryz.prog 242 #[.string ⟨C.1.toArray⟩] W fun e w' => ∃ ev, e = .returned (.tuple #[.int .i64 (atoiN C.1), ev]) ∧ Below W.heap.size W w') := Lib.hid (fun W hW => atoi_any ⟨C.1.toArray⟩ W (by rw [mk_size]; omega) (hT.below hW))
    clear hT hp hb0
    go_enter Tryz.func210, Tryz.ntmps210
    go_wp2_with fail
    refine (HCP.out _).mono ?_
    rintro e w1 ⟨rfl, rfl⟩
    go_wp2_with fail
    refine (HCUT.out _).mono ?_
    rintro e w2 ⟨rfl, n, rfl⟩
    have HB2 := Lib.hid (drewN_below HB0.out n)
    have HA2 := Lib.hid (HAT.out _ HB2.out)
    go_wp2_with fail
    refine HA2.out.mono ?_
    rintro e w3 ⟨ev, rfl, hb3⟩
    have hB3 : Below w.heap.size w w3 := HB2.out.trans (hb3.mono HB2.out.size)
    obtain ⟨hz1, k0, k1, k2, hfz, -⟩ := new_step (W := (w.alloc stepZ).drewN n) (b := w.heap.size) (heap_alloc_new w stepZ) hb3
    clear hb3
    generalize atoiN C.1 = N at *
    go_wp2_with fail
    refine bodyPost_ret (v := sta ⟨true, [], N⟩) ?_ rfl ⟨by rw [HG.out], ?_⟩
    · simp [results, Tryz.results210, go_sem, k0, k1, k2]
    · exact ((hB3.setCell (Nat.le_refl _) _).setCell (Nat.le_refl _) _).setCell (Nat.le_refl _) _
  | false =>
    have HTP := Lib.hid (Tryz.strings_TrimPrefix s ⟨#[46]⟩)
    simp only [hp] at HCP
    simp only at HTP
    have HG0 : Hid (gss s.data.toList = if (unqs (Lib.trimPrefix s.data.toList [46])).2.2 = 0 then ⟨false, (unqs (Lib.trimPrefix s.data.toList [46])).1, 0⟩ else ⟨false, wrd (Lib.trimPrefix s.data.toList [46]), 0⟩) := Lib.hid (by rw [gss, if_neg (by rw [hp]; simp)])
    generalize gss s.data.toList = G at *
    generalize Lib.trimPrefix s.data.toList [91] = T at *
    generalize Lib.trimPrefix s.data.toList [46] = T2 at *
    have HUQ : Hid (∀ W, Below w.heap.size w W → Calls Tryz.prog 244 #[.string ⟨T2.toArray⟩] W fun e w' => e = .returned (uqv (unqs T2)) ∧ Below W.heap.size W w') := Lib.hid (fun W hW => unquote_any ⟨T2.toArray⟩ W (by rw [mk_size]; omega) (hT.below hW).er)
    have HWD : Hid (∀ W, Calls Tryz.prog 213 #[.string ⟨T2.toArray⟩] W fun e w' => e = .returned (.string ⟨(wrd T2).toArray⟩) ∧ w' = W) := Lib.hid (fun W => word_any ⟨T2.toArray⟩ W (by rw [mk_size]; unfold maxLen; omega))
    generalize unqs T2 = U at *
    obtain ⟨ux, un, ue⟩ := U
    simp only at HG0 HUQ
    clear hT hp hb0
    by_cases hu : ue = 0
    · subst hu
      have HG : Hid (G = ⟨false, ux, 0⟩) := Lib.hid (by rw [HG0.out, if_pos rfl])
      go_enter Tryz.func210, Tryz.ntmps210
      go_wp2_with fail
      refine (HCP.out _).mono ?_
      rintro e w1 ⟨rfl, rfl⟩
      go_wp2_with fail
      refine (HTP.out _).mono ?_
      rintro e w1 ⟨rfl, rfl⟩
      go_wp2_with fail
      refine (HUQ.out _ HB0.out).mono ?_
      rintro e w3 ⟨rfl, hb3⟩
      have hB3 : Below w.heap.size w w3 := HB0.out.trans (hb3.mono HB0.out.size)
      obtain ⟨hz1, k0, k1, k2, hfz, -⟩ := new_step (W := w.alloc stepZ) (b := w.heap.size) (heap_alloc_new w stepZ) hb3
      clear hb3
      go_wp2_with fail
      refine bodyPost_ret (v := sta ⟨false, ux, 0⟩) ?_ rfl ⟨by rw [HG.out], ?_⟩
      · simp [results, Tryz.results210, go_sem, k0, k1, k2]
      · exact ((hB3.setCell (Nat.le_refl _) _).setCell (Nat.le_refl _) _).setCell (Nat.le_refl _) _
    · have HG : Hid (G = ⟨false, wrd T2, 0⟩) := Lib.hid (by rw [HG0.out, if_neg hu])
      have hu2 : (ue == 0) = false := by simpa using hu
      generalize wrd T2 = wd at *
      go_enter Tryz.func210, Tryz.ntmps210
      go_wp2_with fail
      refine (HCP.out _).mono ?_
      rintro e w1 ⟨rfl, rfl⟩
      go_wp2_with fail
      refine (HTP.out _).mono ?_
      rintro e w1 ⟨rfl, rfl⟩
      go_wp2_with fail
      refine (HUQ.out _ HB0.out).mono ?_
      rintro e w3 ⟨rfl, hb3⟩
      have hB3 : Below w.heap.size w w3 := HB0.out.trans (hb3.mono HB0.out.size)
      obtain ⟨hz1, k0, k1, k2, hfz, -⟩ := new_step (W := w.alloc stepZ) (b := w.heap.size) (heap_alloc_new w stepZ) hb3
      clear hb3
      go_wp2_with fail
      refine (HWD.out _).mono ?_
      rintro e w4 ⟨rfl, rfl⟩
      go_wp2_with fail
      refine bodyPost_ret (v := sta ⟨false, wd, 0⟩) ?_ rfl ⟨by rw [HG.out], ?_⟩
      · simp [results, Tryz.results210, go_sem, k0, k1, k2]
      · exact ((hB3.setCell (Nat.le_refl _) _).setCell (Nat.le_refl _) _).setCell (Nat.le_refl _) _
end Go.Proofs.YtdgcdemihalefaaGreatDoor
namespace Go.Proofs.YtdgcdemihalefaaGreatDoor
open Go.RowKit Np Rw Vp Pw Qp
def bgv : Option (St × Nat) → Value
  | none => .tuple #[sta ⟨false, [], 0⟩, .int .i64 0]
  | some x => .tuple #[sta x.1, .int .i64 x.2]
theorem bgn_at {l : List UInt8} {first : Bool} {a : Nat} (h : ahd l first = a) (h0 : (first && !Lib.hasPrefix l [46, 91] && !Lib.hasPrefix l [46]) = false) :
    bgn l first = if rightS (gss (l.drop a)) && Lib.hasPrefix (l.drop a) (stT (gss (l.drop a))) then some (gss (l.drop a), a + (stT (gss (l.drop a))).length) else none := by
  unfold bgn
  rw [h0, h]
  rfl
abbrev stepO (g : St) : Obj := .cells #[.bool g.part, .string ⟨g.name.toArray⟩, .int .i64 g.n] 71
theorem own_step {W w3 : World} {b : Nat} (g : St) (hZ : W.heap[b]? = some (stepO g)) (hb : Below W.heap.size W w3) :
    b < w3.heap.size ∧ w3.cell? ⟨b, 0, none⟩ = some (.bool g.part) ∧ w3.cell? ⟨b, 1, none⟩ = some (.string ⟨g.name.toArray⟩) ∧ w3.cell? ⟨b, 2, none⟩ = some (.int .i64 g.n) ∧ w3.heap[b]? = some (stepO g) := by
  have hs : b < W.heap.size := (Array.getElem?_eq_some_iff.1 hZ).1
  have zz : w3.heap[b]? = some (stepO g) := (hb.block _ hs).trans hZ
  refine ⟨(Array.getElem?_eq_some_iff.1 zz).1, ?_, ?_, ?_, zz⟩ <;> (rw [Lib.cell_of_heap zz]; rfl)
theorem pre_size {s p : List UInt8} (h : Lib.hasPrefix s p = true) : p.length ≤ s.length := pre_len h
set_option maxRecDepth 100000 in
set_option maxHeartbeats 4000000 in
theorem begun_any (s : ByteArray) (first : Bool) (w : World) (hs : s.size ≤ 1000000) (hT : Pv w) :
    Calls Tryz.prog 187 #[.string s, .bool first] w fun e w' => e = .returned (bgv (bgn s.data.toList first)) ∧ Below w.heap.size w w' := by
  have HT := Lib.hid hT
  have HP2 := Lib.hid (Tryz.strings_HasPrefix s ⟨#[46, 91]⟩)
  have HP1 := Lib.hid (Tryz.strings_HasPrefix s ⟨#[46]⟩)
  simp only at HP2
  simp only at HP1
  have HALL : ∀ (S : ByteArray), S.size ≤ 1000000 → Hid (∀ W, Pv W → Calls Tryz.prog 210 #[.string S] W fun e w' => e = .returned (sta (gss S.data.toList)) ∧ Below W.heap.size W w') ∧
      Hid (∀ W, Pv W → Calls Tryz.prog 193 #[sta (gss S.data.toList)] W fun e w' => e = .returned (.string ⟨(stT (gss S.data.toList)).toArray⟩) ∧ Below W.heap.size W w') ∧
      Hid (∀ W, Pv W → Calls Tryz.prog 211 #[sta (gss S.data.toList)] W fun e w' => e = .returned (.bool (rightS (gss S.data.toList))) ∧ Below W.heap.size W w') ∧
      Hid (∀ W, Calls Tryz.prog 209 #[.string S, .string ⟨(stT (gss S.data.toList)).toArray⟩] W fun e w' => e = .returned (.bool (Lib.hasPrefix S.data.toList (stT (gss S.data.toList)))) ∧ w' = W) ∧ (stT (gss S.data.toList)).length ≤ 6000030 := fun S hS => by
    have hl := gss_len S.data.toList
    rw [size_toList] at hl
    refine ⟨Lib.hid fun W hW => guess_any S W (by omega) hW, Lib.hid fun W hW => written_any _ W (by omega) hl.2.1 hl.2.2 hW.pow, Lib.hid fun W hW => rightStep_any _ W (by unfold maxLen; omega) hW.tabs, Lib.hid fun W => Tryz.strings_HasPrefix S ⟨(stT (gss S.data.toList)).toArray⟩ W, ?_⟩
    have hi := Lib.itoa_length_le _ hl.2.1 hl.2.2
    have hw := wrs_le (gss S.data.toList).name
    have hq := quo_len (gss S.data.toList).name
    unfold stT
    split
    · simp; omega
    · split <;> simp <;> omega
  have hb0 : Below w.heap.size w (w.alloc (.cells #[.bool false, .string ⟨#[]⟩, .int .i64 0] 71)) := (Below.refl _ _).alloc (Nat.le_refl _) _
  have HB0 := Lib.hid hb0
  clear hT hb0
  cases first with
  | false =>
    have HR := Lib.hid (bgn_at (l := s.data.toList) (first := false) (a := 0) rfl rfl)
    obtain ⟨HG, HWR, HRS, HPF, hTL⟩ := HALL s hs
    rw [List.drop_zero] at HR
    generalize gss s.data.toList = G at *
    generalize stT G = T at *
    generalize rightS G = rb at *
    generalize Lib.hasPrefix s.data.toList T = pb at *
    generalize bgn s.data.toList false = R at *
    go_enter Tryz.func187, Tryz.ntmps187
    go_wp2_with fail
    refine (HG.out _ (HT.out.below HB0.out)).mono ?_
    rintro e w1 ⟨rfl, hb1⟩
    have hB1 : Below w.heap.size w w1 := HB0.out.trans (hb1.mono HB0.out.size)
    obtain ⟨hz1, -, -, -, -, hr1⟩ := new_step (W := w.alloc stepZ) (b := w.heap.size) (heap_alloc_new w stepZ) hb1
    clear hb1
    go_wp2_with fail
    have hb2 : Below w.heap.size w (w1.alloc (stepO G)) := hB1.alloc hB1.size _
    refine (HWR.out _ (HT.out.below hb2)).mono ?_
    rintro e w2 ⟨rfl, hb3⟩
    have hB2 : Below w.heap.size w w2 := hb2.trans (hb3.mono hb2.size)
    have hb12 : Below w1.heap.size w1 w2 := ((Below.refl _ _).alloc (Nat.le_refl _) (stepO G)).trans (hb3.mono (by simp))
    obtain ⟨hz2, g0, g1, g2, hzz⟩ := own_step (W := w1.alloc (stepO G)) (b := w1.heap.size) G (heap_alloc_new w1 (stepO G)) hb3
    obtain ⟨-, -, -, -, -, hr2⟩ := new_step (W := w1) hr1 hb12
    clear hb3 hb2 hz1 hb12 hr1
    go_wp2_with fail
    refine (HRS.out _ (HT.out.below hB2)).mono ?_
    rintro e w3 ⟨rfl, hb3⟩
    have hB3 : Below w.heap.size w w3 := hB2.trans (hb3.mono hB2.size)
    obtain ⟨hz3, q0, q1, q2, -⟩ := own_step (W := w2) G hzz hb3
    obtain ⟨hz4, k0, k1, k2, hfz, -⟩ := new_step (W := w2) hr2 hb3
    clear hb3 g0 g1 g2 hz2 hzz hB2 hB1 hr2
    cases rb with
    | true =>
      go_wp2_with fail
      refine (HPF.out _).mono ?_
      rintro e w4 ⟨rfl, rfl⟩
      cases pb with
      | true =>
        have HRR : Hid (R = some (G, 0 + T.length)) := Lib.hid (by rw [HR.out]; rfl)
        go_wp2_with fail
        refine bodyPost_ret (v := .tuple #[sta G, .int .i64 (0 + T.length : Nat)]) ?_ rfl ⟨by rw [HRR.out]; rfl, ?_⟩
        · simp [results, Tryz.results187, go_sem, k0, k1, k2]
        · exact ((hB3.setCell (Nat.le_refl _) _).setCell (Nat.le_refl _) _).setCell (Nat.le_refl _) _
      | false =>
        have HRR : Hid (R = none) := Lib.hid (by rw [HR.out]; rfl)
        go_wp2_with fail
        refine bodyPost_ret (v := .tuple #[sta ⟨false, [], 0⟩, .int .i64 0]) ?_ rfl ⟨by rw [HRR.out]; rfl, ?_⟩
        · simp [results, Tryz.results187, go_sem, k0, k1, k2]
        · exact ((hB3.setCell (Nat.le_refl _) _).setCell (Nat.le_refl _) _).setCell (Nat.le_refl _) _
    | false =>
      have HRR : Hid (R = none) := Lib.hid (by rw [HR.out]; rfl)
      go_wp2_with fail
      refine bodyPost_ret (v := .tuple #[sta ⟨false, [], 0⟩, .int .i64 0]) ?_ rfl ⟨by rw [HRR.out]; rfl, ?_⟩
      · simp [results, Tryz.results187, go_sem, k0, k1, k2]
      · exact ((hB3.setCell (Nat.le_refl _) _).setCell (Nat.le_refl _) _).setCell (Nat.le_refl _) _
  | true =>
    cases h2 : Lib.hasPrefix s.data.toList [46, 91] with
    | true =>
      have hsz := pre_size h2
      rw [size_toList] at hsz
      have hsz1 : 1 ≤ s.size := by simp at hsz; omega
      have HR := Lib.hid (bgn_at (l := s.data.toList) (first := true) (a := 1) (by unfold ahd; rw [h2]; rfl) (by rw [h2]; rfl))
      simp only [h2] at HP2
      generalize bgn s.data.toList true = R at *
      obtain ⟨HG, HWR, HRS, HPF, hTL⟩ := HALL (s.extract 1 s.size) (by rw [ByteArray.size_extract]; omega)
      simp only [ext_tail] at HG HWR HRS HPF hTL
      generalize gss (s.data.toList.drop 1) = G at *
      generalize stT G = T at *
      generalize rightS G = rb at *
      generalize Lib.hasPrefix (s.data.toList.drop 1) T = pb at *
      clear h2 hsz
      go_enter Tryz.func187, Tryz.ntmps187
      go_wp2_with fail
      refine (HP2.out _).mono ?_
      rintro e w0 ⟨rfl, rfl⟩
      go_wp2_with fail
      refine (HG.out _ (HT.out.below HB0.out)).mono ?_
      rintro e w1 ⟨rfl, hb1⟩
      have hB1 : Below w.heap.size w w1 := HB0.out.trans (hb1.mono HB0.out.size)
      obtain ⟨hz1, -, -, -, -, hr1⟩ := new_step (W := w.alloc stepZ) (b := w.heap.size) (heap_alloc_new w stepZ) hb1
      clear hb1
      go_wp2_with fail
      have hb2 : Below w.heap.size w (w1.alloc (stepO G)) := hB1.alloc hB1.size _
      refine (HWR.out _ (HT.out.below hb2)).mono ?_
      rintro e w2 ⟨rfl, hb3⟩
      have hB2 : Below w.heap.size w w2 := hb2.trans (hb3.mono hb2.size)
      have hb12 : Below w1.heap.size w1 w2 := ((Below.refl _ _).alloc (Nat.le_refl _) (stepO G)).trans (hb3.mono (by simp))
      obtain ⟨hz2, g0, g1, g2, hzz⟩ := own_step (W := w1.alloc (stepO G)) (b := w1.heap.size) G (heap_alloc_new w1 (stepO G)) hb3
      obtain ⟨-, -, -, -, -, hr2⟩ := new_step (W := w1) hr1 hb12
      clear hb3 hb2 hz1 hb12 hr1
      go_wp2_with fail
      refine (HRS.out _ (HT.out.below hB2)).mono ?_
      rintro e w3 ⟨rfl, hb3⟩
      have hB3 : Below w.heap.size w w3 := hB2.trans (hb3.mono hB2.size)
      obtain ⟨hz3, q0, q1, q2, -⟩ := own_step (W := w2) G hzz hb3
      obtain ⟨hz4, k0, k1, k2, hfz, -⟩ := new_step (W := w2) hr2 hb3
      clear hb3 g0 g1 g2 hz2 hzz hB2 hB1 hr2
      cases rb with
      | true =>
        go_wp2_with fail
        refine (HPF.out _).mono ?_
        rintro e w4 ⟨rfl, rfl⟩
        cases pb with
        | true =>
          have HRR : Hid (R = some (G, 1 + T.length)) := Lib.hid (by rw [HR.out]; rfl)
          go_wp2_with fail
          refine bodyPost_ret (v := .tuple #[sta G, .int .i64 (1 + T.length : Nat)]) ?_ rfl ⟨by rw [HRR.out]; rfl, ?_⟩
          · simp [results, Tryz.results187, go_sem, k0, k1, k2]
          · exact ((hB3.setCell (Nat.le_refl _) _).setCell (Nat.le_refl _) _).setCell (Nat.le_refl _) _
        | false =>
          have HRR : Hid (R = none) := Lib.hid (by rw [HR.out]; rfl)
          go_wp2_with fail
          refine bodyPost_ret (v := .tuple #[sta ⟨false, [], 0⟩, .int .i64 0]) ?_ rfl ⟨by rw [HRR.out]; rfl, ?_⟩
          · simp [results, Tryz.results187, go_sem, k0, k1, k2]
          · exact ((hB3.setCell (Nat.le_refl _) _).setCell (Nat.le_refl _) _).setCell (Nat.le_refl _) _
      | false =>
        have HRR : Hid (R = none) := Lib.hid (by rw [HR.out]; rfl)
        go_wp2_with fail
        refine bodyPost_ret (v := .tuple #[sta ⟨false, [], 0⟩, .int .i64 0]) ?_ rfl ⟨by rw [HRR.out]; rfl, ?_⟩
        · simp [results, Tryz.results187, go_sem, k0, k1, k2]
        · exact ((hB3.setCell (Nat.le_refl _) _).setCell (Nat.le_refl _) _).setCell (Nat.le_refl _) _
    | false =>
      simp only [h2] at HP2
      cases h1 : Lib.hasPrefix s.data.toList [46] with
      | true =>
        have HR := Lib.hid (bgn_at (l := s.data.toList) (first := true) (a := 0) (by unfold ahd; rw [h2]; rfl) (by rw [h1]; simp))
        simp only [h1] at HP1
        rw [List.drop_zero] at HR
        generalize bgn s.data.toList true = R at *
        obtain ⟨HG, HWR, HRS, HPF, hTL⟩ := HALL s hs
        generalize gss s.data.toList = G at *
        generalize stT G = T at *
        generalize rightS G = rb at *
        generalize Lib.hasPrefix s.data.toList T = pb at *
        clear h1 h2
        go_enter Tryz.func187, Tryz.ntmps187
        go_wp2_with fail
        refine (HP2.out _).mono ?_
        rintro e w0 ⟨rfl, rfl⟩
        go_wp2_with fail
        refine (HP1.out _).mono ?_
        rintro e w0 ⟨rfl, rfl⟩
        go_wp2_with fail
        refine (HG.out _ (HT.out.below HB0.out)).mono ?_
        rintro e w1 ⟨rfl, hb1⟩
        have hB1 : Below w.heap.size w w1 := HB0.out.trans (hb1.mono HB0.out.size)
        obtain ⟨hz1, -, -, -, -, hr1⟩ := new_step (W := w.alloc stepZ) (b := w.heap.size) (heap_alloc_new w stepZ) hb1
        clear hb1
        go_wp2_with fail
        have hb2 : Below w.heap.size w (w1.alloc (stepO G)) := hB1.alloc hB1.size _
        refine (HWR.out _ (HT.out.below hb2)).mono ?_
        rintro e w2 ⟨rfl, hb3⟩
        have hB2 : Below w.heap.size w w2 := hb2.trans (hb3.mono hb2.size)
        have hb12 : Below w1.heap.size w1 w2 := ((Below.refl _ _).alloc (Nat.le_refl _) (stepO G)).trans (hb3.mono (by simp))
        obtain ⟨hz2, g0, g1, g2, hzz⟩ := own_step (W := w1.alloc (stepO G)) (b := w1.heap.size) G (heap_alloc_new w1 (stepO G)) hb3
        obtain ⟨-, -, -, -, -, hr2⟩ := new_step (W := w1) hr1 hb12
        clear hb3 hb2 hz1 hb12 hr1
        go_wp2_with fail
        refine (HRS.out _ (HT.out.below hB2)).mono ?_
        rintro e w3 ⟨rfl, hb3⟩
        have hB3 : Below w.heap.size w w3 := hB2.trans (hb3.mono hB2.size)
        obtain ⟨hz3, q0, q1, q2, -⟩ := own_step (W := w2) G hzz hb3
        obtain ⟨hz4, k0, k1, k2, hfz, -⟩ := new_step (W := w2) hr2 hb3
        clear hb3 g0 g1 g2 hz2 hzz hB2 hB1 hr2
        cases rb with
        | true =>
          go_wp2_with fail
          refine (HPF.out _).mono ?_
          rintro e w4 ⟨rfl, rfl⟩
          cases pb with
          | true =>
            have HRR : Hid (R = some (G, 0 + T.length)) := Lib.hid (by rw [HR.out]; rfl)
            go_wp2_with fail
            refine bodyPost_ret (v := .tuple #[sta G, .int .i64 (0 + T.length : Nat)]) ?_ rfl ⟨by rw [HRR.out]; rfl, ?_⟩
            · simp [results, Tryz.results187, go_sem, k0, k1, k2]
            · exact ((hB3.setCell (Nat.le_refl _) _).setCell (Nat.le_refl _) _).setCell (Nat.le_refl _) _
          | false =>
            have HRR : Hid (R = none) := Lib.hid (by rw [HR.out]; rfl)
            go_wp2_with fail
            refine bodyPost_ret (v := .tuple #[sta ⟨false, [], 0⟩, .int .i64 0]) ?_ rfl ⟨by rw [HRR.out]; rfl, ?_⟩
            · simp [results, Tryz.results187, go_sem, k0, k1, k2]
            · exact ((hB3.setCell (Nat.le_refl _) _).setCell (Nat.le_refl _) _).setCell (Nat.le_refl _) _
        | false =>
          have HRR : Hid (R = none) := Lib.hid (by rw [HR.out]; rfl)
          go_wp2_with fail
          refine bodyPost_ret (v := .tuple #[sta ⟨false, [], 0⟩, .int .i64 0]) ?_ rfl ⟨by rw [HRR.out]; rfl, ?_⟩
          · simp [results, Tryz.results187, go_sem, k0, k1, k2]
          · exact ((hB3.setCell (Nat.le_refl _) _).setCell (Nat.le_refl _) _).setCell (Nat.le_refl _) _
      | false =>
        have HR : Hid (bgn s.data.toList true = none) := Lib.hid (by unfold bgn; rw [h1, h2]; rfl)
        simp only [h1] at HP1
        generalize bgn s.data.toList true = R at *
        clear h1 h2
        go_enter Tryz.func187, Tryz.ntmps187
        go_wp2_with fail
        refine (HP2.out _).mono ?_
        rintro e w0 ⟨rfl, rfl⟩
        go_wp2_with fail
        refine (HP1.out _).mono ?_
        rintro e w0 ⟨rfl, rfl⟩
        go_wp2_with fail
        refine bodyPost_ret (v := .tuple #[sta ⟨false, [], 0⟩, .int .i64 0]) (by simp [results, Tryz.results187, go_sem]) rfl ⟨by rw [HR.out]; rfl, ?_⟩
        exact (Below.refl _ _).alloc (Nat.le_refl _) _
end Go.Proofs.YtdgcdemihalefaaGreatDoor
namespace Go.Proofs.YtdgcdemihalefaaGreatDoor
open Go.RowKit Np Rw Vp Up Qp Pw
theorem step_info : (Tryz.prog.info? 71).map (fun i => (i.zero, i.size, i.bytes)) = some (some (.agg #[.bool false, .string ⟨#[]⟩, .int .i64 0]), 3, 32) := by kernel_rfl
theorem elStep : Elem Tryz.prog 32 71 spc 3 32 := by
  obtain ⟨i, hi, hz0, hz1, hz2⟩ := info_parts step_info
  refine ⟨Tryz.underlying32, ⟨i, _, hi, hz0, hz1, hz2, rfl⟩, by decide, spc_len, fun n u hu => ?_⟩
  simp only [spc, List.mem_cons, List.not_mem_nil, or_false] at hu
  rcases hu with rfl | rfl | rfl <;> rfl
def ReadE (w : World) (R : List St × Nat × Int) (e : Ending) (w' : World) : Prop := ∃ (A : Option Addr) (n c : Nat), e = .returned (.tuple #[.slice A n c, .int .i64 (R.2.1 : Nat), .int .i64 R.2.2]) ∧ Sps w' (.slice A n c) R.1 ∧ Below w.heap.size w w'
set_option maxRecDepth 100000 in
set_option maxHeartbeats 8000000 in
theorem pread_any (s : ByteArray) (w : World) (hs : s.size ≤ 1000000) (hT : Pv w) :
    Calls Tryz.prog 135 #[.string s] w (ReadE w (readP s.data.toList)) := by
  by_cases hd : s.data.toList = [46]
  · have HR : Hid (readP s.data.toList = ([], 0, 0)) := Lib.hid (by unfold readP; rw [if_pos hd])
    have hq : (s.toList == [46]) = true := by rw [ByteArray.toList_eq, hd]; rfl
    generalize readP s.data.toList = R at *
    go_enter Tryz.func135, Tryz.ntmps135
    go_wp2_with fail
    refine bodyPost_ret (v := .tuple #[.slice none 0 0, .int .i64 0, .int .i64 0]) (by simp [results, Tryz.results135, go_sem]) rfl ⟨none, 0, 0, by rw [HR.out]; rfl, by rw [HR.out]; exact Row.nil _, Below.refl _ _⟩
  · have HR : Hid (readF (s.size + 1) [] s.data.toList 0 = readP s.data.toList) := Lib.hid (by unfold readP; rw [if_neg hd, size_toList])
    have hq : (s.toList == [46]) = false := by
      rw [ByteArray.toList_eq, beq_eq_false_iff_ne]
      exact hd
    have HT := Lib.hid hT
    have HBG : Hid (∀ (k : Nat) W, Pv W → Calls Tryz.prog 187 #[.string (s.extract k s.size), .bool ((k : Int) == 0)] W fun e w' => e = .returned (bgv (bgn (s.data.toList.drop k) (k == 0))) ∧ Below W.heap.size W w') := Lib.hid (fun k W hW => by
      have h := begun_any (s.extract k s.size) (k == 0) W (by rw [ByteArray.size_extract]; omega) hW
      have hk : ((k : Int) == 0) = (k == 0) := by rw [Bool.eq_iff_iff]; simp
      rw [ext_tail] at h
      rw [hk]; exact h)
    have HBL : Hid (∀ (k : Nat) g n, bgn (s.data.toList.drop k) (k == 0) = some (g, n) → 1 ≤ n ∧ n ≤ s.size - k) := Lib.hid (fun k g n h => by
      have := bgn_len h
      rwa [List.length_drop, size_toList] at this)
    generalize readP s.data.toList = R at *
    clear hT hd
    go_enter Tryz.func135, Tryz.ntmps135
    go_wp2_with fail
    go_loopw [5, 6] (fun pv fv wr => ∃ (k f : Nat) (acc : List St), k ≤ s.size ∧ s.size < k + f ∧ acc.length ≤ 20 ∧ fv = .int .i64 k ∧ Own spc 3 71 w.heap.size wr pv acc ∧ Hid (readF f acc s.data.toList k = R) ∧ Hid (Below w.heap.size w wr)) (fun _ fv _ => s.size - (intOf fv).toNat)
    case atStart => exact ⟨0, s.size + 1, [], Nat.zero_le _, by omega, by simp, rfl, Own.nil _, HR, Lib.hid (Below.refl _ _)⟩
    case round =>
      obtain ⟨k, f, acc, hk, hf, ha, rfl, hown, HF, HB⟩ := hrel
      obtain ⟨f, rfl⟩ : ∃ g, f = g + 1 := ⟨f - 1, by omega⟩
      obtain ⟨A, c, rfl, -⟩ := hown.form
      have HO := Lib.hid hown
      have HC := Lib.hid (HBG.out k _ (HT.out.below HB.out))
      clear hown
      cases hg : bgn (s.data.toList.drop k) (k == 0) with
      | none =>
        have HFR : Hid (R = ([], k, 1)) := Lib.hid (by rw [← HF.out, Pw.readF, hg])
        rw [hg] at HC
        simp only [bgv] at HC
        clear hg
        go_wp2_with fail
        refine HC.out.mono ?_
        rintro e w1 ⟨rfl, hb1⟩
        go_wp2_with fail
        exact bodyPost_ret (v := .tuple #[.slice none 0 0, .int .i64 (k : Int), .int .i64 1]) (by simp [results, Tryz.results135, go_sem]) rfl ⟨none, 0, 0, by rw [HFR.out], by rw [HFR.out]; exact Row.nil _, (HB.out.trans (hb1.mono HB.out.size)).alloc (Nat.le_trans HB.out.size hb1.size) _⟩
      | some x =>
        obtain ⟨g, n⟩ := x
        obtain ⟨hn1, hn2⟩ := HBL.out k g n hg
        rw [hg] at HC
        simp only [bgv] at HC
        have hn0 : ((n : Int) == 0) = false := by simp; omega
        by_cases h20 : acc.length = 20
        · have HFR : Hid (R = ([], k, 1)) := Lib.hid (by rw [← HF.out, Pw.readF, hg]; simp only; rw [if_pos h20])
          have h20b : ((acc.length : Int) == 20) = true := by simp; omega
          clear hg
          go_wp2_with fail
          refine HC.out.mono ?_
          rintro e w1 ⟨rfl, hb1⟩
          go_wp2_with fail
          exact bodyPost_ret (v := .tuple #[.slice none 0 0, .int .i64 (k : Int), .int .i64 1]) (by simp [results, Tryz.results135, go_sem]) rfl ⟨none, 0, 0, by rw [HFR.out], by rw [HFR.out]; exact Row.nil _, (HB.out.trans (hb1.mono HB.out.size)).alloc (Nat.le_trans HB.out.size hb1.size) _⟩
        · have HFR : Hid (R = if k + n = s.size then (acc ++ [g], 0, 0) else Pw.readF f (acc ++ [g]) s.data.toList (k + n)) := Lib.hid (by rw [← HF.out, Pw.readF, hg]; simp only; rw [if_neg h20, size_toList])
          have h20b : ((acc.length : Int) == 20) = false := by simp; omega
          clear hg
          go_wp2_with fail
          refine HC.out.mono ?_
          rintro e w1 ⟨rfl, hb1⟩
          have HO1 := Lib.hid (HO.out.below hb1)
          have HB1 : Hid (Below w.heap.size w w1) := Lib.hid (HB.out.trans (hb1.mono HB.out.size))
          clear hb1
          have HAL : Hid (acc.length ≤ 20) := Lib.hid ha
          go_wp2_with (at_builtin; refine wpList_append_row (base := w.heap.size) elStep rfl _ _ rfl rfl ((HO1.out.alloc _).alloc _) rfl (row_one spc_len (w1.alloc (stepO g)) (w1.heap.size + 1) (by simp) 71 #[.bool g.part, .string ⟨g.name.toArray⟩, .int .i64 g.n] g rfl) ?_ ?_ ?_ ?_)
          · have := HAL.out; unfold maxLen; simp only [List.length_singleton]; omega
          · have := HAL.out; simp only [List.length_singleton]; omega
          · have := HB1.out.size; simp; omega
          · intro A' c' w2 hown2 hg2 hwh
            clear hwh
            have HO2 : Hid (Own spc 3 71 w.heap.size w2 (.slice A' (acc.length + 1) c') (acc ++ [g])) := Lib.hid hown2
            have HB2 : Hid (Below w.heap.size w w2) := Lib.hid (((HB1.out.alloc HB1.out.size _).alloc (by have := HB1.out.size; simp; omega) _).trans (((HO1.out.alloc _).alloc _).kept hg2 (by have := HB1.out.size; simp; omega)))
            clear hown2 hg2
            have HAL2 : Hid ((acc ++ [g]).length ≤ 20) := Lib.hid (by have := HAL.out; simp; omega)
            by_cases hend : k + n = s.size
            · have HFE : Hid (R = (acc ++ [g], 0, 0)) := Lib.hid (by rw [HFR.out, if_pos hend])
              have he2 : ((k : Int) + (n : Int) == (s.size : Int)) = true := by simp; omega
              have he3 : (k : Int) + (n : Int) = (s.size : Int) := by omega
              generalize hz : acc.length + 1 = zl at HO2 ⊢
              go_wp2_with fail
              exact bodyPost_ret (v := .tuple #[.slice A' zl c', .int .i64 0, .int .i64 0]) (by simp [results, Tryz.results135, go_sem]) rfl ⟨A', zl, c', by rw [HFE.out]; rfl, by rw [HFE.out, ← hz]; exact Own.row spc_len (by rw [hz]; exact HO2.out), HB2.out⟩
            · have HFE : Hid (Pw.readF f (acc ++ [g]) s.data.toList (k + n) = R) := Lib.hid (by rw [HFR.out, if_neg hend])
              have he2 : ((k : Int) + (n : Int) == (s.size : Int)) = false := by simp; omega
              generalize hz : acc.length + 1 = zl at HO2 ⊢
              go_wp2_with fail
              refine ⟨⟨k + n, f, acc ++ [g], by omega, by omega, HAL2.out, by rw [Int.natCast_add], HO2.out, HFE, HB2⟩, ?_⟩
              simp [intOf]; omega
end Go.Proofs.YtdgcdemihalefaaGreatDoor
