/-
  Joined: LenP, RefW10, ValW2, ValW3.
-/
import Derived.Test.YtdibcamnoolnmaaGreatDoorBase
import Derived.Test.YtdibcamnoolnmaaGreatDoorPathSetsJ13
import Derived.Test.YtdibcamnoolnmaaGreatDoorPathSetsJ5
import Derived.Test.YtdibcamnoolnmaaGreatDoorRefW1
import Derived.Test.YtdibcamnoolnmaaGreatDoorPathSetsJ9
import Derived.Test.YtdibcamnoolnmaaGreatDoorPathSetsJ6
import Derived.Test.YtdibcamnoolnmaaGreatDoorPathSetsJ8
import Derived.StillTailTactics

/-
  How long a slice is. Of no function.
-/
namespace Go.Proofs.YtdibcamnoolnmaaGreatDoor
open Go.RowKit
/-- How long a slice is. -/
def lenOf : Value → Nat
  | .slice _ n _ => n
  | _ => 0
end Go.Proofs.YtdibcamnoolnmaaGreatDoor

/-
  What the document's own answer Object is.
-/
namespace Go.Proofs.YtdibcamnoolnmaaGreatDoor
open Go.RowKit Np Rw Vp

def boc (b : Bool) : List Value := [.bool b]
theorem boc_len (b : Bool) : (boc b).length = 1 := rfl
theorem bool_info : (Tryz.prog.info? 4).map (fun i => (i.zero, i.size, i.bytes)) = some (some (.bool false), 1, 1) := by kernel_rfl
theorem make_bools (n : Nat) (hn : n ≤ 1000000) (w : World) : (Instr.makeSlice 174 (.int .i64 (n : Int)) (.int .i64 (n : Int))).run Tryz.prog w = .ok (.slice (some ⟨w.heap.size, 0, none⟩) n n) (w.alloc (.cells (madeCells #[.bool false] n) 4)) := by
  obtain ⟨i, hi, hz0, hz1, hz2⟩ := info_parts bool_info
  have := run_make (P := Tryz.prog) w 174 4 i _ Tryz.underlying174 hi hz0 .i64 .i64 n n (by omega) (by omega) (by rw [hz2]; omega) (by omega)
  rw [hz1, Int.toNat_natCast, Nat.mul_one] at this
  exact this
/-- Which places have been chosen. -/
def marks (n : Nat) (p : List Nat) : List Bool := (List.range n).map fun i => decide (i ∈ p)
theorem marks_len (n : Nat) (p : List Nat) : (marks n p).length = n := by simp [marks]
theorem marks_nil (n : Nat) : marks n [] = List.replicate n false := by apply List.ext_getElem <;> simp [marks]
theorem marks_at {n k : Nat} (p : List Nat) (h : k < n) : (marks n p)[k]? = some (decide (k ∈ p)) := by simp [marks, h]
theorem marks_set (n b : Nat) (p : List Nat) : (marks n p).set b true = marks n (p ++ [b]) := by
  apply List.ext_getElem
  · simp [marks]
  · intro i h1 h2
    simp only [marks, List.getElem_set, List.getElem_map, List.getElem_range, List.mem_append, List.mem_singleton]
    by_cases e : b = i
    · subst e; simp
    · rw [if_neg e]
      rw [decide_eq_decide]
      exact ⟨fun h => .inl h, fun h => h.elim id (fun h => absurd h.symm e)⟩

set_option maxRecDepth 100000 in
set_option maxHeartbeats 8000000 in
theorem refObject_any (v u : Value) (names : List (List UInt8)) (L : List (List Nd)) (w : World) (hv : Sts w v names) (hu : Vls w u L) (hn : names.length ≤ 1000) (hb2 : (L.map List.length).sum ≤ 131072) (hsh : ∀ s ∈ names, s.length ≤ maxLen) (hne : ∀ l ∈ L, l ≠ []) :
    Calls Tryz.prog 119 #[v, u] w (GivesO w names L) := by
  have HSH := Lib.hid hsh
  have HNE := Lib.hid hne
  have HB2 := Lib.hid hb2
  clear hsh hne hb2
  obtain ⟨zs, hels, hrow⟩ := vls_els hu
  obtain ⟨A, c, rfl, hc, hcm, -, H⟩ := hv
  obtain ⟨A2, c2, rfl, hc2, hcm2, -, H2⟩ := hrow
  have hzl := hels.1
  by_cases hl : names.length = L.length
  · have HE := Lib.hid hels
    rw [hzl, ← hl] at H2 hc2 ⊢
    have HH := Lib.hid H
    have HH2 := Lib.hid H2
    have HL := Lib.hid hl
    have HZL := Lib.hid hzl
    clear hu hels H H2 hl hzl
    have hmk := fun (W : World) => make_bools names.length (by omega) W
    generalize hnn : names.length = n at *
    have HN := Lib.hid hnn; clear hnn
    have HMK := Lib.hid hmk; clear hmk
    go_enter Tryz.func119, Tryz.ntmps119
    have hmk := HMK.out ((w.alloc (.cells #[] 9)).alloc (.cells #[] 50))
    simp only [World.size_alloc] at hmk
    have HS0 : Hid (Own stc 1 9 w.heap.size ((w.alloc (.cells #[] 9)).alloc (.cells #[] 50)) (.slice (some ⟨w.heap.size, 0, none⟩) 0 0) []) := Lib.hid ((Own.lit (base := w.heap.size) (E := 9) stc_len w #[] [] (Nat.le_refl _) (by simp) rfl).alloc _)
    have HZ0 : Hid (Own slc 1 50 w.heap.size ((w.alloc (.cells #[] 9)).alloc (.cells #[] 50)) (.slice (some ⟨w.heap.size + 1, 0, none⟩) 0 0) []) := Lib.hid (by
      have := Own.lit (base := w.heap.size) (E := 50) slc_len (w.alloc (.cells #[] 9)) #[] [] (by simp) (by simp) rfl
      simpa using this)
    have HM0 : Hid (Own boc 1 4 w.heap.size (((w.alloc (.cells #[] 9)).alloc (.cells #[] 50)).alloc (.cells (madeCells #[.bool false] n) 4)) (.slice (some ⟨w.heap.size + 1 + 1, 0, none⟩) n n) (marks n [])) := Lib.hid (by
      rw [marks_nil]
      have := Own.made1 (E := 4) (base := w.heap.size) boc_len ((w.alloc (.cells #[] 9)).alloc (.cells #[] 50)) false (.bool false) rfl n (by unfold maxLen; omega) (by simp; omega)
      simpa using this)
    go_wp2_with fail
    generalize madeCells #[Value.bool false] n = cs at HM0 ⊢
    go_loopw [6, 7] (fun sv zv wr => ∃ (p : List Nat), Sel names p ∧ (∃ As cs, sv = .slice As p.length cs) ∧ Own stc 1 9 w.heap.size wr sv (p.map (atN names)) ∧ Own slc 1 50 w.heap.size wr zv (p.map fun j => zs.getD j (none, 0, 0)) ∧ Own boc 1 4 w.heap.size wr (.slice (some ⟨w.heap.size + 1 + 1, 0, none⟩) n n) (marks n p) ∧ Below w.heap.size w wr) (fun sv _ _ => n - lenOf sv)
    case atStart => exact ⟨[], Sel.nil _, ⟨_, _, rfl⟩, HS0.out.alloc _, HZ0.out.alloc _, HM0.out, (((Below.refl _ _).alloc (Nat.le_refl _) _).alloc (by simp) _).alloc (by simp; omega) _⟩
    case round =>
      obtain ⟨p, hsel, ⟨As, cs', rfl⟩, hs, hz, hm, hb⟩ := hrel
      have HSEL := Lib.hid hsel
      have HS := Lib.hid hs
      have HZ := Lib.hid hz
      have HM := Lib.hid hm
      have HB := Lib.hid hb
      have hpl : p.length ≤ n := by have := hsel.len; rwa [HN.out] at this
      clear hsel hs hz hm hb
      by_cases hlt : p.length < n
      · obtain ⟨wo, rfl⟩ : ∃ wo : World, wo = wr := ⟨_, rfl⟩
        obtain ⟨g, o, rfl, hg, hx⟩ := HH.out (by omega)
        have HX := Lib.hid hx
        clear hx
        go_wp2_with fail
        go_loopw [9, 10] (fun bv iv wr => ∃ k : Nat, k ≤ n ∧ iv = .int .i64 k ∧ (∃ q, wr = wo.drewN q) ∧ ((bv = .int .i64 (-1) ∧ ∀ j, j < k → j ∈ p) ∨ ∃ b : Nat, bv = .int .i64 b ∧ Least names p k b)) (fun _ iv _ => n - (intOf iv).toNat)
        case atStart => exact ⟨0, Nat.zero_le _, rfl, ⟨0, rfl⟩, .inl ⟨rfl, fun j h => absurd h (by omega)⟩⟩
        case round =>
          obtain ⟨k, hk, rfl, hq, hbest⟩ := hrel
          have HQ := Lib.hid hq
          clear hq
          by_cases hkn : k < n
          · have hkx : names[k]? = some (atN names k) := by rw [atN, List.getD_eq_getElem?_getD, List.getElem?_eq_getElem (by rw [HN.out]; exact hkn)]; rfl
            have m0 : wr.cell? ⟨w.heap.size + 1 + 1, k, none⟩ = some (.bool (decide (k ∈ p))) := by
              have hm' : Own boc 1 4 w.heap.size wo (.slice (some ⟨w.heap.size + 1 + 1, 0, none⟩) (marks n p).length n) (marks n p) := by rw [marks_len]; exact HM.out
              have := cell_quiet (Own.cell boc_len (j := 0) hm' (marks_at p hkn) rfl) HQ.out
              simpa using this
            have n0 : wr.cell? ⟨g, o + k, none⟩ = some (.string ⟨(atN names k).toArray⟩) := cell_quiet ((HB.out.cell (p := ⟨g, o + k, none⟩) hg).trans (HX.out k _ hkx).st) HQ.out
            have hkI : (k : Int) < n := by omega
            clear hkx
            generalize hans : atN names k = nk at n0
            have HNK := Lib.hid hans
            clear hans
            rcases hbest with ⟨rfl, hall⟩ | ⟨b, rfl, hle⟩
            · have HALLP := Lib.hid hall
              clear hall
              by_cases hkp : k ∈ p
              · rw [decide_eq_true hkp] at m0
                have HKP := Lib.hid hkp
                clear hkp
                go_wp2_with fail
                go_quiet (fail)
                go_wp2_with fail
                go_roundw
                case rel => exact ⟨k + 1, by omega, by go_num, quiet_more HQ.out _, .inl ⟨rfl, fun j hj => if e : j = k then e ▸ HKP.out else HALLP.out j (by omega)⟩⟩
                case measure => simp [intOf]; omega
              · rw [decide_eq_false hkp] at m0
                have HKP := Lib.hid hkp
                clear hkp
                go_wp2_with fail
                go_quiet (fail)
                go_wp2_with fail
                go_roundw
                case rel => exact ⟨k + 1, by omega, by go_num, quiet_more HQ.out _, .inr ⟨k, rfl, Least.first HALLP.out HKP.out⟩⟩
                case measure => simp [intOf]; omega
            · have HLE := Lib.hid hle
              have hbk : b < k := hle.1
              clear hle
              have hb0 : decide ((b : Int) < 0) = false := by simp
              by_cases hkp : k ∈ p
              · rw [decide_eq_true hkp] at m0
                have HKP := Lib.hid hkp
                clear hkp
                go_wp2_with fail
                go_quiet (fail)
                go_wp2_with fail
                go_roundw
                case rel => exact ⟨k + 1, by omega, by go_num, quiet_more HQ.out _, .inr ⟨b, rfl, HLE.out.keep (.inl HKP.out)⟩⟩
                case measure => simp [intOf]; omega
              · rw [decide_eq_false hkp] at m0
                have HKP := Lib.hid hkp
                clear hkp
                have hbx : names[b]? = some (atN names b) := by rw [atN, List.getD_eq_getElem?_getD, List.getElem?_eq_getElem (by rw [HN.out]; omega)]; rfl
                have n1 : wr.cell? ⟨g, o + b, none⟩ = some (.string ⟨(atN names b).toArray⟩) := cell_quiet ((HB.out.cell (p := ⟨g, o + b, none⟩) hg).trans (HX.out b _ hbx).st) HQ.out
                have hbI : (b : Int) < n := by omega
                have hbn : b < n := by omega
                clear hbx
                generalize hanb : atN names b = nb at n1
                have HNB := Lib.hid hanb
                clear hanb
                by_cases hlx : nk < nb
                · have hbl : Op.bytesLess nk nb = true := by rw [bytesLess_eq]; simp [hlx]
                  have HLX := Lib.hid hlx
                  clear hlx
                  go_wp2_with fail
                  go_quiet (fail)
                  go_wp2_with fail
                  go_roundw
                  case rel => exact ⟨k + 1, by omega, by go_num, quiet_more HQ.out _, .inr ⟨k, rfl, HLE.out.less HKP.out (by rw [HNK.out, HNB.out]; exact HLX.out)⟩⟩
                  case measure => simp [intOf]; omega
                · have hbl : Op.bytesLess nk nb = false := by rw [bytesLess_eq]; simp [hlx]
                  have HLX := Lib.hid hlx
                  clear hlx
                  go_wp2_with fail
                  go_quiet (fail)
                  go_wp2_with fail
                  go_roundw
                  case rel => exact ⟨k + 1, by omega, by go_num, quiet_more HQ.out _, .inr ⟨b, rfl, HLE.out.keep (.inr (by rw [HNK.out, HNB.out]; exact HLX.out))⟩⟩
                  case measure => simp [intOf]; omega
          · have hke : k = n := by omega
            subst hke
            rcases hbest with ⟨-, hall⟩ | ⟨b, rfl, hle⟩
            · exact absurd (fun j hj => hall j (by rw [← HN.out]; exact hj)) (HSEL.out.some (by rw [HN.out]; exact hlt))
            · obtain ⟨wi, rfl⟩ : ∃ wi : World, wi = wr := ⟨_, rfl⟩
              have HLE := Lib.hid hle
              have hbn : b < k := hle.1
              clear hle
              have hbI : (b : Int) < k := by omega
              have hbI0 : ¬ (b : Int) < 0 := by omega
              have hbx : names[b]? = some (atN names b) := by rw [atN, List.getD_eq_getElem?_getD, List.getElem?_eq_getElem (by rw [HN.out]; exact hbn)]; rfl
              have HSN : Hid ((ByteArray.mk (atN names b).toArray).size ≤ maxLen) := Lib.hid (HSH.out _ (List.mem_of_getElem? hbx))
              have HNW : Hid (w.cell? ⟨g, o + b, none⟩ = some (.string ⟨(atN names b).toArray⟩)) := Lib.hid (HX.out b _ hbx).st
              obtain ⟨g2, o2, rfl, hg2, hx2⟩ := HH2.out (by omega)
              obtain ⟨zb, hzb⟩ : ∃ a, zs[b]? = some a := ⟨_, List.getElem?_eq_getElem (by rw [HZL.out, ← HL.out]; exact hbn)⟩
              have HZW : Hid (w.cell? ⟨g2, o2 + b, none⟩ = some (.slice zb.1 zb.2.1 zb.2.2)) := Lib.hid (hx2 b zb hzb).one
              have HZB : Hid (zs.getD b (none, 0, 0) = zb) := Lib.hid (by rw [List.getD_eq_getElem?_getD, hzb]; rfl)
              have HBI : Hid (Below w.heap.size w wi) := Lib.hid (HB.out.trans ((below_quiet HQ.out).mono HB.out.size))
              have HSI := Lib.hid (HS.out.below (below_quiet HQ.out))
              have HZI := Lib.hid (HZ.out.below (below_quiet HQ.out))
              have HMI := Lib.hid (HM.out.below (below_quiet HQ.out))
              have n1 := (HBI.out.cell (p := ⟨g, o + b, none⟩) hg).trans HNW.out
              have HMI' : Hid (Own boc 1 4 w.heap.size wi (.slice (some ⟨w.heap.size + 1 + 1, 0, none⟩) (marks k p).length k) (marks k p)) := Lib.hid (by rw [marks_len]; exact HMI.out)
              have m1 : wi.cell? ⟨w.heap.size + 1 + 1, b, none⟩ = some (.bool (decide (b ∈ p))) := by
                have := Own.cell boc_len (j := 0) HMI'.out (marks_at p hbn) rfl
                simpa using this
              have f1 : wi.frozen? ⟨w.heap.size + 1 + 1, b, none⟩ = false := HMI'.out.free b
              have HALLW : Hid (∀ m W', (wi.drewN m).setCell ⟨w.heap.size + 1 + 1, b, none⟩ (.bool true) = W' → Own stc 1 9 w.heap.size W' (.slice As p.length cs') (p.map (atN names)) ∧ Own slc 1 50 w.heap.size W' u7 (p.map fun j => zs.getD j (none, 0, 0)) ∧ Own boc 1 4 w.heap.size W' (.slice (some ⟨w.heap.size + 1 + 1, 0, none⟩) k k) (marks k (p ++ [b])) ∧ Below w.heap.size w W') := Lib.hid (fun m W' hW' => by
                subst hW'
                have hgr : (wi.drewN m).grownBy ((wi.drewN m).setCell ⟨w.heap.size + 1 + 1, b, none⟩ (.bool true)) (Value.slice (some ⟨w.heap.size + 1 + 1, 0, none⟩) k k).ownBlock := grown_set (World.grownBy.refl _ _) (.inl rfl) _
                have hmm : Own boc 1 4 w.heap.size (wi.drewN m) (.slice (some ⟨w.heap.size + 1 + 1, 0, none⟩) k k) (marks k p) := HMI.out.drewN m
                refine ⟨Own.aside (HSI.out.drewN m) hmm (by decide) hgr, Own.aside (HZI.out.drewN m) hmm (by decide) hgr, ?_, (drewN_below HBI.out m).setCell (by show w.heap.size ≤ w.heap.size + 1 + 1; omega) _⟩
                have h := Own.put boc_len (j := 0) (y := true) (u := .bool true) (HMI'.out.drewN m) (marks_at p hbn) (by decide) rfl
                rw [marks_set, marks_len] at h
                simpa using h)
              have HTW : Hid (∀ a, a ∈ p → atN names a = atN names b → objB names L = false) := Lib.hid (fun a ha he => Sel.twice (HSEL.out.lt a ha) (by rw [HN.out]; exact hbn) (fun (e : a = b) => HLE.out.2.1 (by rw [← e]; exact ha)) he)
              have HWR : Hid (vld (atN names b) = false → objB names L = false) := Lib.hid (fun h => Sel.wrong (by rw [HN.out]; exact hbn) h)
              have HNX : Hid (vld (atN names b) = true → (∀ q a, p = q ++ [a] → atN names a ≠ atN names b) → Sel names (p ++ [b])) := Lib.hid (fun h1 h2 => HSEL.out.next (by rw [HN.out]; exact HLE.out) h1 h2)
              clear hbx hzb hx2
              generalize hans : atN names b = nb at n1 HSN HNW HTW HWR HNX
              have HNB := Lib.hid hans
              clear hans
              cases hvl : vld nb with
              | false =>
                have HC : Hid (∀ m, Calls Tryz.prog 77 #[.string ⟨nb.toArray⟩] (wi.drewN m) fun e w' => e = .returned (.bool false) ∧ w' = wi.drewN m) := Lib.hid fun m => (refUtf_any ⟨nb.toArray⟩ _ HSN.out).mono fun _ _ ⟨h1, h2⟩ => ⟨by rw [h1, ← hvl], h2.symm⟩
                have HBAD := Lib.hid (HWR.out hvl)
                clear hvl
                go_wp2_with fail
                go_quiet ((go_at_call 77; exact Calls.quiet_of_same (HC.out _)))
                go_wp2_with fail
                go_ret2
                exact GivesO.bad HBAD.out rfl (drewN_below HBI.out _)
              | true =>
                have HC : Hid (∀ m, Calls Tryz.prog 77 #[.string ⟨nb.toArray⟩] (wi.drewN m) fun e w' => e = .returned (.bool true) ∧ w' = wi.drewN m) := Lib.hid fun m => (refUtf_any ⟨nb.toArray⟩ _ HSN.out).mono fun _ _ ⟨h1, h2⟩ => ⟨by rw [h1, ← hvl], h2.symm⟩
                have HV := Lib.hid hvl
                clear hvl
                rcases List.eq_nil_or_concat p with hp | ⟨q, a, hp⟩
                · have HNEXT := Lib.hid (HNX.out HV.out (fun q a e => by rw [hp] at e; exact absurd e (by simp)))
                  have hp0 : p.length = 0 := by rw [hp]; rfl
                  have g0 : decide ((0 : Int) < p.length) = false := by simp; omega
                  have g1 : decide (0 < p.length) = false := by simp; omega
                  clear hp hp0
                  go_wp2_with fail
                  go_quiet ((go_at_call 77; exact Calls.quiet_of_same (HC.out _)))
                  go_upto_region 16 with fail
                  generalize hW : World.setCell (World.drewN wi _) _ _ = W3
                  obtain ⟨hs3, hz3, hm3, hb3⟩ := HALLW.out _ _ hW
                  have n3 := (hb3.cell (p := ⟨g, o + b, none⟩) hg).trans HNW.out
                  have HS3 := Lib.hid hs3
                  have HZ3 := Lib.hid hz3
                  have HM3 := Lib.hid hm3
                  have HB3 := Lib.hid hb3
                  clear hs3 hz3 hm3 hb3 hW m1 f1 n1
                  go_wp2_with (at_builtin; refine wpList_append_row (base := w.heap.size) elText rfl _ _ rfl rfl (HS3.out.alloc _) rfl (row_one stc_len W3 _ rfl 9 #[.string ⟨nb.toArray⟩] nb rfl) ?_ ?_ ?_ ?_)
                  · unfold maxLen; simp; omega
                  · simp; omega
                  · have := HB3.out.size; simp; omega
                  · intro A4 c4 w4 hown4 hg4 hwh
                    clear hwh
                    have HS4 : Hid (Own stc 1 9 w.heap.size w4 (.slice A4 (p.length + 1) c4) ((p ++ [b]).map (atN names))) := Lib.hid (by rw [List.map_append]; show Own _ _ _ _ _ _ (p.map (atN names) ++ [atN names b]); rw [HNB.out]; simpa using hown4)
                    have HZ4 := Lib.hid (Own.aside (HZ3.out.alloc _) (HS3.out.alloc _) (by decide) hg4)
                    have HM4 := Lib.hid (Own.aside (HM3.out.alloc _) (HS3.out.alloc _) (by decide) hg4)
                    have HB4 : Hid (Below w.heap.size w w4) := Lib.hid ((HB3.out.alloc HB3.out.size _).trans ((HS3.out.alloc _).kept hg4 (by have := HB3.out.size; simp; omega)))
                    clear hown4 hg4 n3
                    have z4 := (HB4.out.cell (p := ⟨g2, o2 + b, none⟩) hg2).trans HZW.out
                    try simp only [List.length_map]
                    go_wp2_with (at_builtin; refine wpList_append_row (base := w.heap.size) elVal rfl _ _ rfl rfl (HZ4.out.alloc _) rfl (row_one slc_len w4 _ rfl 50 #[.slice zb.1 zb.2.1 zb.2.2] zb rfl) ?_ ?_ ?_ ?_)
                    · unfold maxLen; simp; omega
                    · simp; omega
                    · have := HB4.out.size; simp; omega
                    · intro A5 c5 w5 hown5 hg5 hwh
                      clear hwh
                      have HZ5 : Hid (Own slc 1 50 w.heap.size w5 (.slice A5 (p.length + 1) c5) ((p ++ [b]).map fun j => zs.getD j (none, 0, 0))) := Lib.hid (by rw [List.map_append]; show Own _ _ _ _ _ _ ((p.map fun j => zs.getD j (none, 0, 0)) ++ [zs.getD b (none, 0, 0)]); rw [HZB.out]; simpa using hown5)
                      have HS5 := Lib.hid (Own.aside (HS4.out.alloc _) (HZ4.out.alloc _) (by decide) hg5)
                      have HM5 := Lib.hid (Own.aside (HM4.out.alloc _) (HZ4.out.alloc _) (by decide) hg5)
                      have HB5 : Hid (Below w.heap.size w w5) := Lib.hid ((HB4.out.alloc HB4.out.size _).trans ((HZ4.out.alloc _).kept hg5 (by have := HB4.out.size; simp; omega)))
                      clear hown5 hg5 z4
                      try simp only [List.length_map]
                      go_wp2_with fail
                      go_roundw
                      case rel => exact ⟨p ++ [b], HNEXT.out, ⟨A4, c4, by simp⟩, HS5.out, HZ5.out, HM5.out, HB5.out⟩
                      case measure => simp [lenOf]; omega
                · rw [List.concat_eq_append] at hp
                  have hpq : p.length = q.length + 1 := by rw [hp]; simp
                  have hin : a ∈ p := by rw [hp]; simp
                  obtain ⟨gs, cap, hform, -, -⟩ := HSI.out.opened (by rw [List.length_map]; omega)
                  injection hform with e1 e2 e3
                  clear e2
                  subst e1
                  subst e3
                  have s1 : wi.cell? ⟨gs, q.length, none⟩ = some (.string ⟨(atN names a).toArray⟩) := by
                    have h' : Own stc 1 9 w.heap.size wi (.slice (some ⟨gs, 0, none⟩) (p.map (atN names)).length cs') (p.map (atN names)) := by rw [List.length_map]; exact HSI.out
                    have := Own.cell stc_len (k := q.length) (x := atN names a) (j := 0) h' (by rw [hp]; simp) rfl
                    simpa using this
                  have g0 : decide ((0 : Int) < p.length) = true := by simp; omega
                  have g1 : decide (0 < p.length) = true := by simp; omega
                  have hw1 : IntKind.i64.wrap ((p.length : Int) - 1) = (q.length : Int) := (IntWalk.i64_in _ (by omega)).trans (by omega)
                  have hqi : (q.length : Int) < p.length := by omega
                  have hqn : q.length < p.length := by omega
                  have HPQ := Lib.hid hp
                  clear hp hpq
                  generalize hans : atN names a = na at s1
                  have HNA := Lib.hid hans
                  clear hans
                  have HIN := Lib.hid hin
                  clear hin
                  generalize q.length = ql at *
                  by_cases he : na = nb
                  · have HBAD := Lib.hid (HTW.out a HIN.out (HNA.out.trans he))
                    subst he
                    go_wp2_with fail
                    go_quiet ((go_at_call 77; exact Calls.quiet_of_same (HC.out _)))
                    go_wp2_with fail
                    go_ret2
                    exact GivesO.bad HBAD.out rfl (drewN_below HBI.out _)
                  · have hne : (na == nb) = false := by simp [he]
                    have HNEXT := Lib.hid (HNX.out HV.out (fun q' a' e => by
                      have e2 := HPQ.out.symm.trans e
                      have e3 := (List.append_inj' e2 rfl).2
                      injection e3 with e4 _
                      rw [← e4, HNA.out]; exact he))
                    clear he
                    go_wp2_with fail
                    go_quiet ((go_at_call 77; exact Calls.quiet_of_same (HC.out _)))
                    go_upto_region 16 with fail
                    generalize hW : World.setCell (World.drewN wi _) _ _ = W3
                    obtain ⟨hs3, hz3, hm3, hb3⟩ := HALLW.out _ _ hW
                    have n3 := (hb3.cell (p := ⟨g, o + b, none⟩) hg).trans HNW.out
                    have HS3 := Lib.hid hs3
                    have HZ3 := Lib.hid hz3
                    have HM3 := Lib.hid hm3
                    have HB3 := Lib.hid hb3
                    clear hs3 hz3 hm3 hb3 hW m1 f1 n1
                    go_wp2_with (at_builtin; refine wpList_append_row (base := w.heap.size) elText rfl _ _ rfl rfl (HS3.out.alloc _) rfl (row_one stc_len W3 _ rfl 9 #[.string ⟨nb.toArray⟩] nb rfl) ?_ ?_ ?_ ?_)
                    · unfold maxLen; simp; omega
                    · simp; omega
                    · have := HB3.out.size; simp; omega
                    · intro A4 c4 w4 hown4 hg4 hwh
                      clear hwh
                      have HS4 : Hid (Own stc 1 9 w.heap.size w4 (.slice A4 (p.length + 1) c4) ((p ++ [b]).map (atN names))) := Lib.hid (by rw [List.map_append]; show Own _ _ _ _ _ _ (p.map (atN names) ++ [atN names b]); rw [HNB.out]; simpa using hown4)
                      have HZ4 := Lib.hid (Own.aside (HZ3.out.alloc _) (HS3.out.alloc _) (by decide) hg4)
                      have HM4 := Lib.hid (Own.aside (HM3.out.alloc _) (HS3.out.alloc _) (by decide) hg4)
                      have HB4 : Hid (Below w.heap.size w w4) := Lib.hid ((HB3.out.alloc HB3.out.size _).trans ((HS3.out.alloc _).kept hg4 (by have := HB3.out.size; simp; omega)))
                      clear hown4 hg4 n3
                      have z4 := (HB4.out.cell (p := ⟨g2, o2 + b, none⟩) hg2).trans HZW.out
                      try simp only [List.length_map]
                      go_wp2_with (at_builtin; refine wpList_append_row (base := w.heap.size) elVal rfl _ _ rfl rfl (HZ4.out.alloc _) rfl (row_one slc_len w4 _ rfl 50 #[.slice zb.1 zb.2.1 zb.2.2] zb rfl) ?_ ?_ ?_ ?_)
                      · unfold maxLen; simp; omega
                      · simp; omega
                      · have := HB4.out.size; simp; omega
                      · intro A5 c5 w5 hown5 hg5 hwh
                        clear hwh
                        have HZ5 : Hid (Own slc 1 50 w.heap.size w5 (.slice A5 (p.length + 1) c5) ((p ++ [b]).map fun j => zs.getD j (none, 0, 0))) := Lib.hid (by rw [List.map_append]; show Own _ _ _ _ _ _ ((p.map fun j => zs.getD j (none, 0, 0)) ++ [zs.getD b (none, 0, 0)]); rw [HZB.out]; simpa using hown5)
                        have HS5 := Lib.hid (Own.aside (HS4.out.alloc _) (HZ4.out.alloc _) (by decide) hg5)
                        have HM5 := Lib.hid (Own.aside (HM4.out.alloc _) (HZ4.out.alloc _) (by decide) hg5)
                        have HB5 : Hid (Below w.heap.size w w5) := Lib.hid ((HB4.out.alloc HB4.out.size _).trans ((HZ4.out.alloc _).kept hg5 (by have := HB4.out.size; simp; omega)))
                        clear hown5 hg5 z4
                        try simp only [List.length_map]
                        go_wp2_with fail
                        go_roundw
                        case rel => exact ⟨p ++ [b], HNEXT.out, ⟨A4, c4, by simp⟩, HS5.out, HZ5.out, HM5.out, HB5.out⟩
                        case measure => simp [lenOf]; omega
      · have hpe : p.length = n := by omega
        obtain ⟨wo, rfl⟩ : ∃ wo : World, wo = wr := ⟨_, rfl⟩
        have HD := Lib.hid (HSEL.out.done (L := L) (by rw [HN.out]; exact hpe) (by rw [HN.out]; exact HL.out))
        have hpl2 := HSEL.out.places (by rw [HN.out]; exact hpe)
        have hnl : names.length = L.length := by rw [HN.out]; exact HL.out
        have HS1 : Hid (Sts wo (.slice As p.length cs') (p.map (atN names))) := Lib.hid (HS.out.row stc_len)
        have HZ1 := Lib.hid (HZ.out.row slc_len)
        have HV1 : Hid (Vls wo u7 (p.map (atL L))) := Lib.hid (Els.vls ⟨by simp, fun k z l hz hl => by
          rw [List.getElem?_map] at hz hl
          cases hi : p[k]? with
          | none => rw [hi] at hz; cases hz
          | some i =>
            rw [hi] at hz hl
            injection hz with hz
            injection hl with hl
            have hin := HSEL.out.lt i (List.mem_of_getElem? hi)
            have hx := HE.out.2 i z l (by rw [← hz]; show zs[i]? = some (zs.getD i (none, 0, 0)); rw [List.getD_eq_getElem?_getD, List.getElem?_eq_getElem (by rw [HE.out.1, ← hnl]; exact hin)]; rfl) (by rw [← hl]; show L[i]? = some (L.getD i []); rw [List.getD_eq_getElem?_getD, List.getElem?_eq_getElem (by rw [← hnl]; exact hin)]; rfl)
            exact hx.below HB.out⟩ HZ1.out)
        have hq1 : (p.map (atN names)).length = (p.map (atL L)).length := by simp
        have hq2 : (p.map (atL L)).length ≤ 65536 := by rw [List.length_map]; omega
        have hq3 : ((p.map (atL L)).map List.length).sum ≤ 131072 := by
          rw [List.map_map]
          have := hpl2.sum (L := L) hnl
          have h2 := HB2.out
          exact Nat.le_trans (Nat.le_of_eq this) h2
        have hq4 : ∀ l ∈ p.map (atL L), l ≠ [] := fun l hl => by
          obtain ⟨i, hi, rfl⟩ := List.mem_map.1 hl
          have hin := HSEL.out.lt i hi
          refine HNE.out _ ?_
          rw [atL, List.getD_eq_getElem?_getD, List.getElem?_eq_getElem (by rw [← hnl]; exact hin)]
          exact List.getElem_mem _
        have HQ := Lib.hid (refNamed_any _ _ _ _ _ HS1.out HV1.out hq1 hq2 hq3 hq4)
        have HLN : Hid ((p.map (atL L)).length = L.length) := Lib.hid (by rw [List.length_map, hpe]; exact HL.out)
        clear hq1 hq2 hq3 hq4 hpl2 hnl hpe hpl
        go_wp2_with (go_at_call 157; refine HQ.out.mono ?_; rintro e w2 ⟨v2, rfl, ho2, hB2⟩)
        have HO2 := Lib.hid ho2
        have HB2' := Lib.hid hB2
        clear ho2 hB2
        go_ret2
        refine ⟨_, by rw [objE, HD.out.1]; rfl, ?_, HB.out.trans (HB2'.out.mono HB.out.size)⟩
        rw [HD.out.2, ← HLN.out]
        exact HO2.out.mono HB.out.size
  · have hne : ((names.length : Int) != zs.length) = true := by simp; omega
    have HO : Hid (objB names L = false) := Lib.hid (by simp [objB, hl])
    clear hl hzl H H2 hu hels
    generalize names.length = n at *
    generalize zs.length = m at *
    go_enter Tryz.func119, Tryz.ntmps119
    go_wp2_with fail
    go_ret2
    exact GivesO.bad HO.out rfl (Below.refl _ _)
end Go.Proofs.YtdibcamnoolnmaaGreatDoor

/-
  What val's begin and pass answer.
-/
namespace Go.Proofs.YtdibcamnoolnmaaGreatDoor
open Go.RowKit Np Rw Vp

abbrev OwnH (base : Nat) (w : World) (v : Value) (l : List Hd) : Prop := Own hdc 4 242 base w v l
theorem hdc_len (h : Hd) : (hdc h).length = 4 := rfl
theorem holder_info : (Tryz.prog.info? 242).map (fun i => (i.zero, i.size, i.bytes)) = some (some (.agg #[.int .i64 0, .int .i64 0, .bool false, .string ⟨#[]⟩]), 4, 40) := by kernel_rfl
theorem elHolder : Elem Tryz.prog 239 242 hdc 4 40 := by
  obtain ⟨i, hi, hz0, hz1, hz2⟩ := info_parts holder_info
  refine ⟨Tryz.underlying239, ⟨i, _, hi, hz0, hz1, hz2, rfl⟩, by decide, hdc_len, fun n u hu => ?_⟩
  simp only [hdc, List.mem_cons, List.not_mem_nil, or_false] at hu
  rcases hu with rfl | rfl | rfl | rfl <;> rfl

/-- What comes out is a slice of the call's own. -/
def OwnsH (base : Nat) (w : World) (st : List Hd) (e : Ending) (w' : World) : Prop := ∃ v', e = .returned v' ∧ OwnH base w' v' st ∧ Below base w w'

theorem begin_any (w : World) : Calls Tryz.prog 222 #[] w (OwnsH w.heap.size w Vp.start) := by
  go_enter Tryz.func222, Tryz.ntmps222
  go_wp2
  go_ret
  exact ⟨_, rfl, Own.lit hdc_len w #[.int .i64 5, .int .i64 1, .bool false, .string ⟨#[]⟩] Vp.start (Nat.le_refl _) (by decide) rfl, (Below.refl _ _).alloc (Nat.le_refl _) _⟩

theorem own_stepped {w : World} {base g cap : Nat} {pre : List Hd} {h : Hd} {n : Nd} (hown : OwnH base w (.slice (some ⟨g, 0, none⟩) (pre ++ [h]).length cap) (pre ++ [h])) :
    OwnH base (((w.setCell ⟨g, pre.length * 4 + 1, none⟩ (.int .i64 (h.left - 1))).setCell ⟨g, pre.length * 4 + 2, none⟩ (.bool true)).setCell ⟨g, pre.length * 4 + 3, none⟩ (.string ⟨n.name.toArray⟩)) (.slice (some ⟨g, 0, none⟩) (pre.length + 1) cap) (pre ++ [stepH h n]) := by
  have hs : ∀ x y : Hd, (pre ++ [x]).set pre.length y = pre ++ [y] := fun x y => by simp [List.set_append_right]
  have hg : ∀ x : Hd, (pre ++ [x])[pre.length]? = some x := fun x => by simp
  have h1 := Own.put hdc_len (y := ⟨h.kind, h.left - 1, h.begun, h.ahead⟩) (u := .int .i64 (h.left - 1)) hown (hg h) (by decide : 1 < 4) rfl
  rw [hs, show (pre ++ [h]).length = (pre ++ [(⟨h.kind, h.left - 1, h.begun, h.ahead⟩ : Hd)]).length by simp] at h1
  have h2 := Own.put hdc_len (y := ⟨h.kind, h.left - 1, true, h.ahead⟩) (u := .bool true) h1 (hg _) (by decide : 2 < 4) rfl
  rw [hs, show (pre ++ [(⟨h.kind, h.left - 1, h.begun, h.ahead⟩ : Hd)]).length = (pre ++ [(⟨h.kind, h.left - 1, true, h.ahead⟩ : Hd)]).length by simp] at h2
  have h3 := Own.put hdc_len (y := stepH h n) (u := .string ⟨n.name.toArray⟩) h2 (hg _) (by decide : 3 < 4) rfl
  rw [hs] at h3
  simpa using h3

theorem pop_snoc (st : List Hd) (h : Hd) (h0 : h.left = 0) : (pop (h :: st.reverse)).reverse = (pop st.reverse).reverse := by rw [pop, if_pos h0]
theorem pop_stop (st : List Hd) (h : Hd) (h0 : h.left ≠ 0) : (pop (h :: st.reverse)).reverse = st ++ [h] := by rw [pop, if_neg h0]; simp

set_option maxHeartbeats 2000000 in
theorem pass_any (v : Value) (pre : List Hd) (h : Hd) (n : Nd) (w : World) (base : Nat) (hown : OwnH base w v (pre ++ [h])) (hb : base ≤ w.heap.size) (hlen : pre.length ≤ 65536) (hl1 : 1 ≤ h.left) (hl2 : h.left ≤ 9223372036854775807) :
    Calls Tryz.prog 225 #[v, nda n] w (OwnsH base w (passH (h :: pre.reverse) n).reverse) := by
  obtain ⟨g, cap, hv, hg, hglt⟩ := hown.opened (by simp)
  subst hv
  have HO := Lib.hid hown; clear hown
  have hat : (pre ++ [h])[pre.length]? = some h := by simp
  have k1 := Own.cell hdc_len (j := 1) HO.out hat rfl
  have k2 := Own.cell hdc_len (j := 2) HO.out hat rfl
  have k3 := Own.cell hdc_len (j := 3) HO.out hat rfl
  have f1 := HO.out.free (pre.length * 4 + 1)
  have f2 := HO.out.free (pre.length * 4 + 2)
  have f3 := HO.out.free (pre.length * 4 + 3)
  clear hat
  have hpl : (pre ++ [h]).length = pre.length + 1 := by simp
  rw [hpl]
  generalize hp : pre.length = p at *
  have HP := Lib.hid hp; clear hp hpl
  have hgne : g ≠ w.heap.size := by omega
  have e0 : ((p : Int) + 1 == 0) = false := by simp; omega
  go_enter Tryz.func225, Tryz.ntmps225
  go_wp2_with fail
  go_cut [] (fun wx => OwnH base wx (.slice (some ⟨g, 0, none⟩) (p + 1) cap) (pre ++ [stepH h n]) ∧ Below base w wx ∧ wx.cell? ⟨w.heap.size, 0, none⟩ = some (.int .i64 n.kind) ∧ wx.cell? ⟨w.heap.size, 1, none⟩ = some (.int .i64 n.many) ∧ w.heap.size < wx.heap.size)
  case first =>
    go_region
    go_wp2_with fail
    go_meet
    have hst := own_stepped (n := n) HO.out
    rw [HP.out] at hst
    refine ⟨(hst.alloc _).drew, ?_, ?_, ?_, ?_⟩
    · exact ((((Below.refl base w).setCell (p := ⟨g, p * 4 + 1, none⟩) hg _).setCell (p := ⟨g, p * 4 + 2, none⟩) hg _).setCell (p := ⟨g, p * 4 + 3, none⟩) hg _).alloc (by simpa using hb) _ |>.drew
    · simp [go_sem]
    · simp [go_sem]
    · simp
  case rest =>
    obtain ⟨ho, hB, c0, c1, hz⟩ := hcut
    have HO2 := Lib.hid ho
    clear ho HO k1 k2 k3 f1 f2 f3 e0 hgne
    by_cases hm : 0 < n.many
    · have HV : Hid ((passH (h :: pre.reverse) n).reverse = pre ++ [stepH h n, ⟨n.kind, n.many, false, []⟩]) := Lib.hid (by rw [passH_cons, if_pos hm]; simp)
      have hlen2 : (pre ++ [stepH h n]).length = p + 1 := by rw [← HP.out]; simp
      have HR : Hid (∀ W : World, Row hdc 4 (W.alloc (.cells #[.int .i64 n.kind, .int .i64 n.many, .bool false, .string ⟨#[]⟩] 242)) (.slice (some ⟨W.heap.size, 0, none⟩) 1 1) [⟨n.kind, n.many, false, []⟩]) := Lib.hid (fun W => Row.lit hdc_len W 242 _ [⟨n.kind, n.many, false, []⟩] (by show 1 ≤ maxLen; decide) rfl)
      go_wp2_with (at_builtin; refine wpList_append_row (base := base) elHolder rfl _ _ rfl rfl (HO2.out.alloc _) rfl (HR.out _) ?_ ?_ ?_ ?_)
      · rw [hlen2]; simp only [List.length_singleton]; unfold maxLen; omega
      · rw [hlen2]; simp only [List.length_singleton]; omega
      · have := hB.size; simp; omega
      · intro A c w2 hown2 hg2 hat2
        have HOW := Lib.hid hown2
        have HB2 : Hid (Below base w w2) := Lib.hid ((hB.alloc (by have := hB.size; omega) _).trans ((HO2.out.alloc _).kept hg2 (by have := hB.size; simp; omega)))
        clear hown2 hg2 hat2
        go_wp2_with fail
        go_ret
        exact ⟨_, rfl, by rw [HV.out]; exact HOW.out, HB2.out⟩
    · have HV : Hid ((passH (h :: pre.reverse) n).reverse = (pop (stepH h n :: pre.reverse)).reverse) := Lib.hid (by rw [passH_cons, if_neg hm])
      have hm' : n.many ≤ 0 := by omega
      go_wp2_with fail
      go_loopw [0] (fun s0 wr => ∃ st : List Hd, s0 = .slice (some ⟨g, 0, none⟩) st.length cap ∧ wr = wc ∧ st.length ≤ 65537 ∧ OwnH base wr (.slice (some ⟨g, 0, none⟩) st.length cap) st ∧ (pop st.reverse).reverse = (pop (stepH h n :: pre.reverse)).reverse) (fun s0 _ => lenOf s0)
      case atStart => exact ⟨pre ++ [stepH h n], by simp [HP.out], rfl, by simp [HP.out]; omega, by rw [show (pre ++ [stepH h n]).length = p + 1 by simp [HP.out]]; exact HO2.out, by simp⟩
      case round =>
        obtain ⟨st, rfl, rfl, hsl, hos, hpo⟩ := hrel
        have HPO := Lib.hid hpo
        have HOS := Lib.hid hos
        clear hpo hos
        rcases List.eq_nil_or_concat st with rfl | ⟨st', x, rfl⟩
        · have HE : Hid ((passH (h :: pre.reverse) n).reverse = []) := Lib.hid (by rw [HV.out, ← HPO.out]; rfl)
          simp only [List.length_nil] at HOS ⊢
          go_wp2
          go_ret
          exact ⟨_, rfl, by rw [HE.out]; exact HOS.out, hB⟩
        · rw [List.concat_eq_append] at *
          have hst : (st' ++ [x])[st'.length]? = some x := by simp
          have q1 := Own.cell hdc_len (j := 1) HOS.out hst rfl
          clear hst
          have hpl : (st' ++ [x]).length = st'.length + 1 := by simp
          rw [hpl] at hsl HOS ⊢
          obtain ⟨-, hcap, hcm⟩ := HOS.out.cap
          unfold maxLen at hcm
          by_cases hx0 : x.left = 0
          · have HE : Hid ((pop st'.reverse).reverse = (pop (stepH h n :: pre.reverse)).reverse) := Lib.hid (by rw [← HPO.out, List.reverse_append]; exact (pop_snoc st' x hx0).symm)
            have HOP := Lib.hid (Own.pop hdc_len HOS.out)
            rw [hx0] at q1
            clear hpl
            go_wp2
            go_roundw
            case rel => exact ⟨st', by simp, by simp, by omega, HOP.out, HE.out⟩
            case measure => simp [lenOf]
          · have HE : Hid ((passH (h :: pre.reverse) n).reverse = st' ++ [x]) := Lib.hid (by rw [HV.out, ← HPO.out, List.reverse_append]; exact pop_stop st' x hx0)
            have ex : (x.left == 0) = false := by simp [hx0]
            clear hpl
            go_wp2
            go_ret
            exact ⟨_, rfl, by rw [HE.out]; exact HOS.out, hB⟩
end Go.Proofs.YtdibcamnoolnmaaGreatDoor

/-
  What val.Right answers.
-/
namespace Go.Proofs.YtdibcamnoolnmaaGreatDoor
open Go.RowKit Np Rw Vp

/-- Numbers that memory can hold. -/
def Fits (l : List Nd) : Prop := ∀ n ∈ l, n.many ≤ 9223372036854775807

/-- What the walk along a row rests on, at a node. -/
def Rg (g p B : Nat) (h : Hd) (x : Nd) (W0 w' : World) : Prop :=
  w'.cell? ⟨g, p * 4, none⟩ = some (.int .i64 h.kind) ∧ w'.cell? ⟨g, p * 4 + 1, none⟩ = some (.int .i64 h.left) ∧ w'.cell? ⟨g, p * 4 + 2, none⟩ = some (.bool h.begun) ∧ w'.cell? ⟨g, p * 4 + 3, none⟩ = some (.string ⟨h.ahead.toArray⟩) ∧
  w'.cell? ⟨B, 0, none⟩ = some (.int .i64 x.kind) ∧ w'.cell? ⟨B, 1, none⟩ = some (.int .i64 x.many) ∧ w'.cell? ⟨B, 2, none⟩ = some (.string ⟨x.name.toArray⟩) ∧ w'.cell? ⟨B, 3, none⟩ = some (.string ⟨x.s.toArray⟩) ∧ w'.cell? ⟨B, 4, none⟩ = some (.bool x.neg) ∧ w'.cell? ⟨B, 5, none⟩ = some (.int .i64 x.e) ∧
  g < w'.heap.size ∧ B < w'.heap.size ∧ Tabs w' ∧ Below W0.heap.size W0 w'
theorem Rg.step {g p B : Nat} {h : Hd} {x : Nd} {W0 W W' : World} (hr : Rg g p B h x W0 W) (hb : Below W.heap.size W W') : Rg g p B h x W0 W' := by
  obtain ⟨a0, a1, a2, a3, b0, b1, b2, b3, b4, b5, hg, hB, hT, hl⟩ := hr
  exact ⟨(hb.cell hg).trans a0, (hb.cell hg).trans a1, (hb.cell hg).trans a2, (hb.cell hg).trans a3, (hb.cell hB).trans b0, (hb.cell hB).trans b1, (hb.cell hB).trans b2, (hb.cell hB).trans b3, (hb.cell hB).trans b4, (hb.cell hB).trans b5,
    Nat.lt_of_lt_of_le hg hb.size, Nat.lt_of_lt_of_le hB hb.size, hT.below hb, Below.after hl hb⟩
theorem Rg.tabs {g p B : Nat} {h : Hd} {x : Nd} {W0 W : World} (hr : Rg g p B h x W0 W) : Tabs W := hr.2.2.2.2.2.2.2.2.2.2.2.2.1
theorem Rg.low {g p B : Nat} {h : Hd} {x : Nd} {W0 W : World} (hr : Rg g p B h x W0 W) : Below W0.heap.size W0 W := hr.2.2.2.2.2.2.2.2.2.2.2.2.2

theorem pop_mem : ∀ {st : List Hd} {y : Hd}, y ∈ pop st → y ∈ st
  | h :: st, y, hy => by
    unfold pop at hy
    split at hy
    · exact List.mem_cons_of_mem _ (pop_mem hy)
    · exact hy
theorem passH_left {h : Hd} {st : List Hd} {n : Nd} {B : Int} (hst : ∀ x ∈ h :: st, x.left ≤ B) (hn : n.many ≤ B) : ∀ y ∈ passH (h :: st) n, y.left ≤ B := by
  have hs : ∀ y ∈ stepH h n :: st, y.left ≤ B := by
    intro y hy
    rcases List.mem_cons.1 hy with rfl | hy
    · have := hst h (by simp); simp [stepH]; omega
    · exact hst y (by simp [hy])
  intro y hy
  rw [passH_cons] at hy
  split at hy
  · rcases List.mem_cons.1 hy with rfl | hy
    · exact hn
    · exact hs y hy
  · exact hs y (pop_mem hy)

set_option maxRecDepth 100000 in
set_option maxHeartbeats 4000000 in
theorem rightV_any (v : Value) (l : List Nd) (w : World) (hv : Nds w v l) (hl : l.length ≤ 65536) (hsh : Short l) (hft : Fits l) (hT : Tabs w) :
    Calls Tryz.prog 191 #[v] w fun e w' => e = .returned (.bool (rightL l)) ∧ Below w.heap.size w w' := by
  generalize hans : rightL l = ans
  have HANS := Lib.hid hans; clear hans
  have HSH := Lib.hid hsh
  have HFT := Lib.hid hft
  clear hsh hft
  rcases Nat.eq_zero_or_pos l.length with h0 | h0
  · have e1 := List.eq_nil_of_length_eq_zero h0
    subst e1
    obtain ⟨A, c, rfl, -⟩ := hv
    have HE : Hid (ans = false) := Lib.hid (by rw [← HANS.out]; rfl)
    clear h0 hl
    simp only [List.length_nil]
    go_enter Tryz.func191, Tryz.ntmps191
    go_wp2_with fail
    refine (begin_any _).mono ?_
    rintro e w1 ⟨v1, rfl, ho1, hb1⟩
    obtain ⟨g, cap, rfl, hg, hglt⟩ := ho1.opened (by decide)
    have HO := Lib.hid ho1; clear ho1
    simp only [Vp.start, List.length_singleton]
    go_wp2_with fail
    go_loopw [3, 9] (fun a b wr => a = .slice (some ⟨g, 0, none⟩) 1 cap ∧ b = .int .i64 0 ∧ wr = w1) (fun _ _ _ => 0)
    case atStart => exact ⟨rfl, rfl, rfl⟩
    case round =>
      obtain ⟨rfl, rfl, rfl⟩ := hrel
      go_wp2
      go_ret
      exact ⟨ret_bool HE.out.symm, hb1⟩
  · obtain ⟨gv, o, c, rfl, hc, hcm, hgv, hx⟩ := hv.opened h0
    have HX := Lib.hid hx; clear hx
    generalize hn : l.length = n at *
    have HN := Lib.hid hn; clear hn
    go_enter Tryz.func191, Tryz.ntmps191
    go_wp2_with fail
    refine (begin_any _).mono ?_
    rintro e w1 ⟨v1, rfl, ho1, hb1⟩
    obtain ⟨g, cap, rfl, hg, hglt⟩ := ho1.opened (by decide)
    have HO := Lib.hid ho1; clear ho1
    simp only [Vp.start, List.length_singleton] at HO ⊢
    go_wp2_with fail
    go_loopw [3, 9] (fun a b wr => ∃ (k : Nat) (st : List Hd) (A : Option Addr) (cc : Nat), k ≤ n ∧ b = .int .i64 k ∧ a = .slice A st.length cc ∧ OwnH w.heap.size wr (.slice A st.length cc) st ∧ Below w.heap.size w wr ∧ run st.reverse (l.drop k) = ans ∧ Fit st.reverse ∧ (∀ x ∈ st, x.left ≤ 9223372036854775807) ∧ st.length ≤ k + 1) (fun _ b _ => n - (intOf b).toNat)
    case atStart => exact ⟨0, Vp.start, some ⟨g, 0, none⟩, cap, Nat.zero_le _, rfl, rfl, HO.out, hb1, HANS.out, ⟨by decide, by simp⟩, by simp [Vp.start], by simp [Vp.start]⟩
    case round =>
      obtain ⟨k, st, A, cc, hk, rfl, rfl, hos, hbw, hrun, hfit, hlf, hsl⟩ := hrel
      have HOS := Lib.hid hos
      have HR := Lib.hid hrun
      have HF := Lib.hid hfit
      have HLF := Lib.hid hlf
      clear hos hrun hfit hlf
      by_cases hlt : k < n
      · obtain ⟨x, hx⟩ : ∃ a, l[k]? = some a := ⟨_, List.getElem?_eq_getElem (by rw [HN.out]; exact hlt)⟩
        obtain ⟨a0, a1, a2, a3, a4, a5⟩ := (HX.out k x hx).nd.below hgv hbw
        have HD : Hid (l.drop k = x :: l.drop (k + 1)) := Lib.hid (drop_at hx)
        have HSN : Hid (x.name.length ≤ maxLen ∧ x.s.length ≤ maxLen) := Lib.hid (HSH.out x (List.mem_of_getElem? hx))
        have HFN : Hid (x.many ≤ 9223372036854775807) := Lib.hid (HFT.out x (List.mem_of_getElem? hx))
        clear hx
        rcases List.eq_nil_or_concat st with rfl | ⟨pre, h, rfl⟩
        · have HE : Hid (ans = false) := Lib.hid (by rw [← HR.out, HD.out]; rfl)
          simp only [List.length_nil]
          go_wp2
          go_quiet (fail)
          go_wp2
          go_ret
          exact ⟨ret_bool HE.out.symm, drewN_below (hbw.alloc hbw.size _) _⟩
        · rw [List.concat_eq_append] at *
          have hrv : (pre ++ [h]).reverse = h :: pre.reverse := by simp
          rw [hrv] at HR HF
          have HRC : Hid (ans = (lets h.kind h.begun h.ahead x.name && plainN x && run (passH (h :: pre.reverse) x) (l.drop (k + 1)))) := Lib.hid (by rw [← HR.out, HD.out, run_cons])
          have hh1 : 1 ≤ h.left := HF.out.1
          have hh2 : h.left ≤ 9223372036854775807 := HLF.out h (by simp)
          obtain ⟨g', cap', hA, hg', hglt'⟩ := HOS.out.opened (by simp)
          injection hA with hA _ hcc
          subst hA hcc
          have hW0 : ∃ W0, W0 = wr.alloc (.cells #[.int .i64 x.kind, .int .i64 x.many, .string ⟨x.name.toArray⟩, .string ⟨x.s.toArray⟩, .bool x.neg, .int .i64 x.e] 35) := ⟨_, rfl⟩
          obtain ⟨W0, hW0⟩ := hW0
          have hpl : (pre ++ [h]).length = pre.length + 1 := by simp
          have hp0 : ∃ p, p = pre.length := ⟨_, rfl⟩
          obtain ⟨p, hp⟩ := hp0
          have hbW : Below w.heap.size w W0 := by rw [hW0]; exact hbw.alloc hbw.size _
          have HOW : Hid (OwnH w.heap.size W0 (.slice (some ⟨g', 0, none⟩) (pre ++ [h]).length cc) (pre ++ [h])) := Lib.hid (by rw [hW0]; exact HOS.out.alloc _)
          have hat : (pre ++ [h])[pre.length]? = some h := by simp
          have hStart : Rg g' p wr.heap.size h x W0 W0 := by
            subst hp
            refine ⟨Own.cell hdc_len (j := 0) HOW.out hat rfl, Own.cell hdc_len (j := 1) HOW.out hat rfl, Own.cell hdc_len (j := 2) HOW.out hat rfl, Own.cell hdc_len (j := 3) HOW.out hat rfl, ?_, ?_, ?_, ?_, ?_, ?_, ?_, ?_, hT.below hbW, Below.refl _ _⟩
            all_goals (rw [hW0]; simp)
            omega
          clear hat
          rw [hpl, ← hp] at HOW hsl ⊢
          have HP := Lib.hid hp
          clear hp hpl hrv HOS
          have e0 : ((p : Int) + 1 == 0) = false := by simp; omega
          have hsz0 : W0.heap.size = wr.heap.size + 1 := by rw [hW0]; simp
          go_upto_region 5 with fail
          rw [← hW0]
          have HW0 := Lib.hid hW0
          have HSZ := Lib.hid hsz0
          clear hW0 hsz0 a0 a1 a2 a3 a4 a5
          have w1 : IntKind.i64.wrap ((p : Int) + 1 - 1) = (p : Int) := by rw [Int.add_sub_cancel]; exact IntWalk.i64_in _ (by omega)
          have w2 : IntKind.i64.wrap (p : Int) = (p : Int) := IntWalk.i64_in _ (by omega)
          have w3 : (0 : Int) ≤ (p : Int) := by omega
          have w4 : (p : Int) < (p : Int) + 1 := by omega
          have w5 : (p : Int).toNat = p := by omega
          have HS2 : Hid (Rg g' p wr.heap.size h x W0 W0.drew) := Lib.hid (hStart.step (Below.refl _ _).drew)
          cases hle : lets h.kind h.begun h.ahead x.name
          · have HLE := Lib.hid hle
            have HE : Hid (ans = false) := Lib.hid (by rw [HRC.out, hle]; rfl)
            clear hle
            go_cut [32] (fun s32 wx => s32 = .bool true ∧ Below W0.heap.size W0 wx)
            case first =>
              obtain ⟨a0, a1, a2, a3, b0, b1, b2, b3, b4, b5, -, -, -, -⟩ := hStart
              go_still_tail 12, (by kernel_rfl)
              change wpList _ _ _ _ _ W0.drew
              generalize W0.drew = w2 at HS2 ⊢
              clear a0 a1 a2 a3 b0 b1 b2 b3 b4 b5
              go_wp2_with fail
              refine (lets_any h x.name _ HSN.out.1 HS2.out.tabs).mono ?_
              rintro e3 w3 ⟨rfl, hb3⟩
              rw [HLE.out]
              go_wp2_with fail
              go_meet
              exact ⟨by simp, Below.after HS2.out.low hb3⟩
            case rest =>
              obtain ⟨rfl, hBx⟩ := hcut
              go_wp2_with fail
              go_ret
              exact ⟨ret_bool HE.out.symm, Below.after hbW hBx⟩
          · have HLE := Lib.hid hle
            cases hpn : plainN x
            · have HPL := Lib.hid hpn
              have HE : Hid (ans = false) := Lib.hid (by rw [HRC.out, hle, hpn]; rfl)
              clear hle hpn
              go_cut [32] (fun s32 wx => s32 = .bool true ∧ Below W0.heap.size W0 wx)
              case first =>
                obtain ⟨a0, a1, a2, a3, b0, b1, b2, b3, b4, b5, -, -, -, -⟩ := hStart
                go_still_tail 12, (by kernel_rfl)
                change wpList _ _ _ _ _ W0.drew
                generalize W0.drew = w2 at HS2 ⊢
                clear a0 a1 a2 a3 b0 b1 b2 b3 b4 b5
                go_wp2_with fail
                refine (lets_any h x.name _ HSN.out.1 HS2.out.tabs).mono ?_
                rintro e3 w3 ⟨rfl, hb3⟩
                rw [HLE.out]
                have HS3 := Lib.hid (HS2.out.step hb3)
                obtain ⟨-, -, -, -, b0, b1, b2, b3, b4, b5, -, -, -, -⟩ := HS3.out
                clear hb3
                go_wp2_with fail
                refine (rightNode_any x _ HSN.out.2 HS3.out.tabs).mono ?_
                rintro e4 w4 ⟨rfl, hb4⟩
                rw [HPL.out]
                clear b0 b1 b2 b3 b4 b5
                go_wp2_with fail
                go_meet
                exact ⟨by simp, Below.after HS3.out.low hb4⟩
              case rest =>
                obtain ⟨rfl, hBx⟩ := hcut
                go_wp2_with fail
                go_ret
                exact ⟨ret_bool HE.out.symm, Below.after hbW hBx⟩
            · have HPL := Lib.hid hpn
              have HE : Hid (ans = run (passH (h :: pre.reverse) x) (l.drop (k + 1))) := Lib.hid (by rw [HRC.out, hle, hpn]; rfl)
              clear hle hpn
              go_cut [32] (fun s32 wx => s32 = .bool false ∧ Below W0.heap.size W0 wx)
              case first =>
                obtain ⟨a0, a1, a2, a3, b0, b1, b2, b3, b4, b5, -, -, -, -⟩ := hStart
                go_still_tail 12, (by kernel_rfl)
                change wpList _ _ _ _ _ W0.drew
                generalize W0.drew = w2 at HS2 ⊢
                clear a0 a1 a2 a3 b0 b1 b2 b3 b4 b5
                go_wp2_with fail
                refine (lets_any h x.name _ HSN.out.1 HS2.out.tabs).mono ?_
                rintro e3 w3 ⟨rfl, hb3⟩
                rw [HLE.out]
                have HS3 := Lib.hid (HS2.out.step hb3)
                obtain ⟨-, -, -, -, b0, b1, b2, b3, b4, b5, -, -, -, -⟩ := HS3.out
                clear hb3
                go_wp2_with fail
                refine (rightNode_any x _ HSN.out.2 HS3.out.tabs).mono ?_
                rintro e4 w4 ⟨rfl, hb4⟩
                rw [HPL.out]
                clear b0 b1 b2 b3 b4 b5
                go_wp2_with fail
                go_meet
                exact ⟨by simp, Below.after HS3.out.low hb4⟩
              case rest =>
                obtain ⟨rfl, hBx⟩ := hcut
                have HSX := Lib.hid (hStart.step hBx)
                obtain ⟨-, -, -, -, b0, b1, b2, b3, b4, b5, -, -, -, -⟩ := HSX.out
                have HOX := Lib.hid (HOW.out.below hBx)
                have HBX := Lib.hid (Below.after hbW hBx)
                clear hBx hStart HS2
                go_wp2_with fail
                refine (pass_any _ pre h x _ w.heap.size HOX.out HBX.out.size (by rw [← HP.out]; omega) hh1 hh2).mono ?_
                rintro e5 w5 ⟨v5, rfl, ho5, hb5⟩
                obtain ⟨A5, c5, rfl, -, -, -⟩ := ho5.form
                have HO5 := Lib.hid ho5
                have HB5 := Lib.hid (HBX.out.trans hb5)
                have HFT5 : Hid (Fit (passH (h :: pre.reverse) x)) := Lib.hid (passH_fit HF.out)
                have HLF5 : Hid (∀ y ∈ (passH (h :: pre.reverse) x).reverse, y.left ≤ 9223372036854775807) := Lib.hid (fun y hy => passH_left (st := pre.reverse) (fun z hz => HLF.out z (by simpa [or_comm] using hz)) HFN.out y (List.mem_reverse.1 hy))
                have hln5 := passH_len (h :: pre.reverse) x
                have hpp := HP.out
                simp only [List.length_cons, List.length_reverse] at hln5
                clear ho5 hb5 b0 b1 b2 b3 b4 b5
                go_wp2_with fail
                go_roundw
                case rel => exact ⟨k + 1, (passH (h :: pre.reverse) x).reverse, A5, c5, by omega, by go_num, by rw [List.length_reverse], HO5.out, HB5.out, by rw [List.reverse_reverse, HE.out], by rw [List.reverse_reverse]; exact HFT5.out, HLF5.out, by rw [List.length_reverse]; omega⟩
                case measure => simp [intOf]; omega
      · have HE : Hid (ans = st.isEmpty) := Lib.hid (by rw [← HR.out, List.drop_of_length_le (by rw [HN.out]; omega), run_nil]; simp)
        go_wp2
        go_ret
        refine ⟨ret_bool ?_, hbw⟩
        rw [HE.out]
        cases st with
        | nil => rfl
        | cons a t => simp; omega
end Go.Proofs.YtdibcamnoolnmaaGreatDoor
