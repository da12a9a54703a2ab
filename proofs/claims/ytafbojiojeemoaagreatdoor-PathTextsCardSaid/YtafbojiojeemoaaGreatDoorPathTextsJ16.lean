/-
  Joined: LenP, RefW10, PT5.
-/
import Derived.Test.YtafbojiojeemoaaGreatDoorBase
import Derived.Test.YtafbojiojeemoaaGreatDoorPathTextsJ13
import Derived.Test.YtafbojiojeemoaaGreatDoorPathTextsJ5
import Derived.Test.YtafbojiojeemoaaGreatDoorRefW1
import Derived.Test.YtafbojiojeemoaaGreatDoorPathTextsJ9
import Derived.Test.YtafbojiojeemoaaGreatDoorPathTextsJ19
import Derived.Test.YtafbojiojeemoaaGreatDoorPathTextsJ4
import Derived.Test.YtafbojiojeemoaaGreatDoorPathTextsJ7

/-
  How long a slice is. Of no function.
-/
namespace Go.Proofs.YtafbojiojeemoaaGreatDoor
open Go.RowKit
/-- How long a slice is. -/
def lenOf : Value → Nat
  | .slice _ n _ => n
  | _ => 0
end Go.Proofs.YtafbojiojeemoaaGreatDoor

/-
  What the document's own answer Object is.
-/
namespace Go.Proofs.YtafbojiojeemoaaGreatDoor
open Go.RowKit Np Rw Vp

def boc (b : Bool) : List Value := [.bool b]
theorem boc_len (b : Bool) : (boc b).length = 1 := rfl
theorem bool_info : (Tryz.prog.info? 4).map (fun i => (i.zero, i.size, i.bytes)) = some (some (.bool false), 1, 1) := by kernel_rfl
theorem make_bools (n : Nat) (hn : n ≤ 1000000) (w : World) : (Instr.makeSlice 71 (.int .i64 (n : Int)) (.int .i64 (n : Int))).run Tryz.prog w = .ok (.slice (some ⟨w.heap.size, 0, none⟩) n n) (w.alloc (.cells (madeCells #[.bool false] n) 4)) := by
  obtain ⟨i, hi, hz0, hz1, hz2⟩ := info_parts bool_info
  have := run_make (P := Tryz.prog) w 71 4 i _ Tryz.underlying71 hi hz0 .i64 .i64 n n (by omega) (by omega) (by rw [hz2]; omega) (by omega)
  rw [hz1, Int.toNat_natCast, Nat.mul_one] at this
  exact this
/-- Which places have been chosen. -/
def marks (n : Nat) (p : List Nat) : List Bool := (List.range n).map fun i => decide (i ∈ p)
theorem marks_len (n : Nat) (p : List Nat) : (marks n p).length = n := by simp [marks]
theorem marks_nil (n : Nat) : marks n [] = List.replicate n false := by apply List.ext_getElem <;> simp [marks]
theorem marks_at {n k : Nat} (p : List Nat) (h : k < n) : (marks n p)[k]? = some (decide (k ∈ p)) := by simp [marks, h]
theorem marks_set (n b : Nat) (p : List Nat) : (marks n p).set b true = marks n (p ++ [b]) := by
  apply List.ext_getElem
  · simp [marks]
  · intro i h1 h2
    simp only [marks, List.getElem_set, List.getElem_map, List.getElem_range, List.mem_append, List.mem_singleton]
    by_cases e : b = i
    · subst e; simp
    · rw [if_neg e]
      rw [decide_eq_decide]
      exact ⟨fun h => .inl h, fun h => h.elim id (fun h => absurd h.symm e)⟩

set_option maxRecDepth 100000 in
set_option maxHeartbeats 8000000 in
theorem refObject_any (v u : Value) (names : List (List UInt8)) (L : List (List Nd)) (w : World) (hv : Sts w v names) (hu : Vls w u L) (hn : names.length ≤ 1000) (hb2 : (L.map List.length).sum ≤ 131072) (hsh : ∀ s ∈ names, s.length ≤ maxLen) (hne : ∀ l ∈ L, l ≠ []) :
    Calls Tryz.prog 18 #[v, u] w (GivesO w names L) := by
  have HSH := Lib.hid hsh
  have HNE := Lib.hid hne
  have HB2 := Lib.hid hb2
  clear hsh hne hb2
  obtain ⟨zs, hels, hrow⟩ := vls_els hu
  obtain ⟨A, c, rfl, hc, hcm, -, H⟩ := hv
  obtain ⟨A2, c2, rfl, hc2, hcm2, -, H2⟩ := hrow
  have hzl := hels.1
  by_cases hl : names.length = L.length
  · have HE := Lib.hid hels
    rw [hzl, ← hl] at H2 hc2 ⊢
    have HH := Lib.hid H
    have HH2 := Lib.hid H2
    have HL := Lib.hid hl
    have HZL := Lib.hid hzl
    clear hu hels H H2 hl hzl
    have hmk := fun (W : World) => make_bools names.length (by omega) W
    generalize hnn : names.length = n at *
    have HN := Lib.hid hnn; clear hnn
    have HMK := Lib.hid hmk; clear hmk
    go_enter Tryz.func18, Tryz.ntmps18
    have hmk := HMK.out ((w.alloc (.cells #[] 9)).alloc (.cells #[] 24))
    simp only [World.size_alloc] at hmk
    have HS0 : Hid (Own stc 1 9 w.heap.size ((w.alloc (.cells #[] 9)).alloc (.cells #[] 24)) (.slice (some ⟨w.heap.size, 0, none⟩) 0 0) []) := Lib.hid ((Own.lit (base := w.heap.size) (E := 9) stc_len w #[] [] (Nat.le_refl _) (by simp) rfl).alloc _)
    have HZ0 : Hid (Own slc 1 24 w.heap.size ((w.alloc (.cells #[] 9)).alloc (.cells #[] 24)) (.slice (some ⟨w.heap.size + 1, 0, none⟩) 0 0) []) := Lib.hid (by
      have := Own.lit (base := w.heap.size) (E := 24) slc_len (w.alloc (.cells #[] 9)) #[] [] (by simp) (by simp) rfl
      simpa using this)
    have HM0 : Hid (Own boc 1 4 w.heap.size (((w.alloc (.cells #[] 9)).alloc (.cells #[] 24)).alloc (.cells (madeCells #[.bool false] n) 4)) (.slice (some ⟨w.heap.size + 1 + 1, 0, none⟩) n n) (marks n [])) := Lib.hid (by
      rw [marks_nil]
      have := Own.made1 (E := 4) (base := w.heap.size) boc_len ((w.alloc (.cells #[] 9)).alloc (.cells #[] 24)) false (.bool false) rfl n (by unfold maxLen; omega) (by simp; omega)
      simpa using this)
    go_wp2_with fail
    generalize madeCells #[Value.bool false] n = cs at HM0 ⊢
    go_loopw [6, 7] (fun sv zv wr => ∃ (p : List Nat), Sel names p ∧ (∃ As cs, sv = .slice As p.length cs) ∧ Own stc 1 9 w.heap.size wr sv (p.map (atN names)) ∧ Own slc 1 24 w.heap.size wr zv (p.map fun j => zs.getD j (none, 0, 0)) ∧ Own boc 1 4 w.heap.size wr (.slice (some ⟨w.heap.size + 1 + 1, 0, none⟩) n n) (marks n p) ∧ Below w.heap.size w wr) (fun sv _ _ => n - lenOf sv)
    case atStart => exact ⟨[], Sel.nil _, ⟨_, _, rfl⟩, HS0.out.alloc _, HZ0.out.alloc _, HM0.out, (((Below.refl _ _).alloc (Nat.le_refl _) _).alloc (by simp) _).alloc (by simp; omega) _⟩
    case round =>
      obtain ⟨p, hsel, ⟨As, cs', rfl⟩, hs, hz, hm, hb⟩ := hrel
      have HSEL := Lib.hid hsel
      have HS := Lib.hid hs
      have HZ := Lib.hid hz
      have HM := Lib.hid hm
      have HB := Lib.hid hb
      have hpl : p.length ≤ n := by have := hsel.len; rwa [HN.out] at this
      clear hsel hs hz hm hb
      by_cases hlt : p.length < n
      · obtain ⟨wo, rfl⟩ : ∃ wo : World, wo = wr := ⟨_, rfl⟩
        obtain ⟨g, o, rfl, hg, hx⟩ := HH.out (by omega)
        have HX := Lib.hid hx
        clear hx
        go_wp2_with fail
        go_loopw [9, 10] (fun bv iv wr => ∃ k : Nat, k ≤ n ∧ iv = .int .i64 k ∧ (∃ q, wr = wo.drewN q) ∧ ((bv = .int .i64 (-1) ∧ ∀ j, j < k → j ∈ p) ∨ ∃ b : Nat, bv = .int .i64 b ∧ Least names p k b)) (fun _ iv _ => n - (intOf iv).toNat)
        case atStart => exact ⟨0, Nat.zero_le _, rfl, ⟨0, rfl⟩, .inl ⟨rfl, fun j h => absurd h (by omega)⟩⟩
        case round =>
          obtain ⟨k, hk, rfl, hq, hbest⟩ := hrel
          have HQ := Lib.hid hq
          clear hq
          by_cases hkn : k < n
          · have hkx : names[k]? = some (atN names k) := by rw [atN, List.getD_eq_getElem?_getD, List.getElem?_eq_getElem (by rw [HN.out]; exact hkn)]; rfl
            have m0 : wr.cell? ⟨w.heap.size + 1 + 1, k, none⟩ = some (.bool (decide (k ∈ p))) := by
              have hm' : Own boc 1 4 w.heap.size wo (.slice (some ⟨w.heap.size + 1 + 1, 0, none⟩) (marks n p).length n) (marks n p) := by rw [marks_len]; exact HM.out
              have := cell_quiet (Own.cell boc_len (j := 0) hm' (marks_at p hkn) rfl) HQ.out
              simpa using this
            have n0 : wr.cell? ⟨g, o + k, none⟩ = some (.string ⟨(atN names k).toArray⟩) := cell_quiet ((HB.out.cell (p := ⟨g, o + k, none⟩) hg).trans (HX.out k _ hkx).st) HQ.out
            have hkI : (k : Int) < n := by omega
            clear hkx
            generalize hans : atN names k = nk at n0
            have HNK := Lib.hid hans
            clear hans
            rcases hbest with ⟨rfl, hall⟩ | ⟨b, rfl, hle⟩
            · have HALLP := Lib.hid hall
              clear hall
              by_cases hkp : k ∈ p
              · rw [decide_eq_true hkp] at m0
                have HKP := Lib.hid hkp
                clear hkp
                go_wp2_with fail
                go_quiet (fail)
                go_wp2_with fail
                go_roundw
                case rel => exact ⟨k + 1, by omega, by go_num, quiet_more HQ.out _, .inl ⟨rfl, fun j hj => if e : j = k then e ▸ HKP.out else HALLP.out j (by omega)⟩⟩
                case measure => simp [intOf]; omega
              · rw [decide_eq_false hkp] at m0
                have HKP := Lib.hid hkp
                clear hkp
                go_wp2_with fail
                go_quiet (fail)
                go_wp2_with fail
                go_roundw
                case rel => exact ⟨k + 1, by omega, by go_num, quiet_more HQ.out _, .inr ⟨k, rfl, Least.first HALLP.out HKP.out⟩⟩
                case measure => simp [intOf]; omega
            · have HLE := Lib.hid hle
              have hbk : b < k := hle.1
              clear hle
              have hb0 : decide ((b : Int) < 0) = false := by simp
              by_cases hkp : k ∈ p
              · rw [decide_eq_true hkp] at m0
                have HKP := Lib.hid hkp
                clear hkp
                go_wp2_with fail
                go_quiet (fail)
                go_wp2_with fail
                go_roundw
                case rel => exact ⟨k + 1, by omega, by go_num, quiet_more HQ.out _, .inr ⟨b, rfl, HLE.out.keep (.inl HKP.out)⟩⟩
                case measure => simp [intOf]; omega
              · rw [decide_eq_false hkp] at m0
                have HKP := Lib.hid hkp
                clear hkp
                have hbx : names[b]? = some (atN names b) := by rw [atN, List.getD_eq_getElem?_getD, List.getElem?_eq_getElem (by rw [HN.out]; omega)]; rfl
                have n1 : wr.cell? ⟨g, o + b, none⟩ = some (.string ⟨(atN names b).toArray⟩) := cell_quiet ((HB.out.cell (p := ⟨g, o + b, none⟩) hg).trans (HX.out b _ hbx).st) HQ.out
                have hbI : (b : Int) < n := by omega
                have hbn : b < n := by omega
                clear hbx
                generalize hanb : atN names b = nb at n1
                have HNB := Lib.hid hanb
                clear hanb
                by_cases hlx : nk < nb
                · have hbl : Op.bytesLess nk nb = true := by rw [bytesLess_eq]; simp [hlx]
                  have HLX := Lib.hid hlx
                  clear hlx
                  go_wp2_with fail
                  go_quiet (fail)
                  go_wp2_with fail
                  go_roundw
                  case rel => exact ⟨k + 1, by omega, by go_num, quiet_more HQ.out _, .inr ⟨k, rfl, HLE.out.less HKP.out (by rw [HNK.out, HNB.out]; exact HLX.out)⟩⟩
                  case measure => simp [intOf]; omega
                · have hbl : Op.bytesLess nk nb = false := by rw [bytesLess_eq]; simp [hlx]
                  have HLX := Lib.hid hlx
                  clear hlx
                  go_wp2_with fail
                  go_quiet (fail)
                  go_wp2_with fail
                  go_roundw
                  case rel => exact ⟨k + 1, by omega, by go_num, quiet_more HQ.out _, .inr ⟨b, rfl, HLE.out.keep (.inr (by rw [HNK.out, HNB.out]; exact HLX.out))⟩⟩
                  case measure => simp [intOf]; omega
          · have hke : k = n := by omega
            subst hke
            rcases hbest with ⟨-, hall⟩ | ⟨b, rfl, hle⟩
            · exact absurd (fun j hj => hall j (by rw [← HN.out]; exact hj)) (HSEL.out.some (by rw [HN.out]; exact hlt))
            · obtain ⟨wi, rfl⟩ : ∃ wi : World, wi = wr := ⟨_, rfl⟩
              have HLE := Lib.hid hle
              have hbn : b < k := hle.1
              clear hle
              have hbI : (b : Int) < k := by omega
              have hbI0 : ¬ (b : Int) < 0 := by omega
              have hbx : names[b]? = some (atN names b) := by rw [atN, List.getD_eq_getElem?_getD, List.getElem?_eq_getElem (by rw [HN.out]; exact hbn)]; rfl
              have HSN : Hid ((ByteArray.mk (atN names b).toArray).size ≤ maxLen) := Lib.hid (HSH.out _ (List.mem_of_getElem? hbx))
              have HNW : Hid (w.cell? ⟨g, o + b, none⟩ = some (.string ⟨(atN names b).toArray⟩)) := Lib.hid (HX.out b _ hbx).st
              obtain ⟨g2, o2, rfl, hg2, hx2⟩ := HH2.out (by omega)
              obtain ⟨zb, hzb⟩ : ∃ a, zs[b]? = some a := ⟨_, List.getElem?_eq_getElem (by rw [HZL.out, ← HL.out]; exact hbn)⟩
              have HZW : Hid (w.cell? ⟨g2, o2 + b, none⟩ = some (.slice zb.1 zb.2.1 zb.2.2)) := Lib.hid (hx2 b zb hzb).one
              have HZB : Hid (zs.getD b (none, 0, 0) = zb) := Lib.hid (by rw [List.getD_eq_getElem?_getD, hzb]; rfl)
              have HBI : Hid (Below w.heap.size w wi) := Lib.hid (HB.out.trans ((below_quiet HQ.out).mono HB.out.size))
              have HSI := Lib.hid (HS.out.below (below_quiet HQ.out))
              have HZI := Lib.hid (HZ.out.below (below_quiet HQ.out))
              have HMI := Lib.hid (HM.out.below (below_quiet HQ.out))
              have n1 := (HBI.out.cell (p := ⟨g, o + b, none⟩) hg).trans HNW.out
              have HMI' : Hid (Own boc 1 4 w.heap.size wi (.slice (some ⟨w.heap.size + 1 + 1, 0, none⟩) (marks k p).length k) (marks k p)) := Lib.hid (by rw [marks_len]; exact HMI.out)
              have m1 : wi.cell? ⟨w.heap.size + 1 + 1, b, none⟩ = some (.bool (decide (b ∈ p))) := by
                have := Own.cell boc_len (j := 0) HMI'.out (marks_at p hbn) rfl
                simpa using this
              have f1 : wi.frozen? ⟨w.heap.size + 1 + 1, b, none⟩ = false := HMI'.out.free b
              have HALLW : Hid (∀ m W', (wi.drewN m).setCell ⟨w.heap.size + 1 + 1, b, none⟩ (.bool true) = W' → Own stc 1 9 w.heap.size W' (.slice As p.length cs') (p.map (atN names)) ∧ Own slc 1 24 w.heap.size W' u7 (p.map fun j => zs.getD j (none, 0, 0)) ∧ Own boc 1 4 w.heap.size W' (.slice (some ⟨w.heap.size + 1 + 1, 0, none⟩) k k) (marks k (p ++ [b])) ∧ Below w.heap.size w W') := Lib.hid (fun m W' hW' => by
                subst hW'
                have hgr : (wi.drewN m).grownBy ((wi.drewN m).setCell ⟨w.heap.size + 1 + 1, b, none⟩ (.bool true)) (Value.slice (some ⟨w.heap.size + 1 + 1, 0, none⟩) k k).ownBlock := grown_set (World.grownBy.refl _ _) (.inl rfl) _
                have hmm : Own boc 1 4 w.heap.size (wi.drewN m) (.slice (some ⟨w.heap.size + 1 + 1, 0, none⟩) k k) (marks k p) := HMI.out.drewN m
                refine ⟨Own.aside (HSI.out.drewN m) hmm (by decide) hgr, Own.aside (HZI.out.drewN m) hmm (by decide) hgr, ?_, (drewN_below HBI.out m).setCell (by show w.heap.size ≤ w.heap.size + 1 + 1; omega) _⟩
                have h := Own.put boc_len (j := 0) (y := true) (u := .bool true) (HMI'.out.drewN m) (marks_at p hbn) (by decide) rfl
                rw [marks_set, marks_len] at h
                simpa using h)
              have HTW : Hid (∀ a, a ∈ p → atN names a = atN names b → objB names L = false) := Lib.hid (fun a ha he => Sel.twice (HSEL.out.lt a ha) (by rw [HN.out]; exact hbn) (fun (e : a = b) => HLE.out.2.1 (by rw [← e]; exact ha)) he)
              have HWR : Hid (vld (atN names b) = false → objB names L = false) := Lib.hid (fun h => Sel.wrong (by rw [HN.out]; exact hbn) h)
              have HNX : Hid (vld (atN names b) = true → (∀ q a, p = q ++ [a] → atN names a ≠ atN names b) → Sel names (p ++ [b])) := Lib.hid (fun h1 h2 => HSEL.out.next (by rw [HN.out]; exact HLE.out) h1 h2)
              clear hbx hzb hx2
              generalize hans : atN names b = nb at n1 HSN HNW HTW HWR HNX
              have HNB := Lib.hid hans
              clear hans
              cases hvl : vld nb with
              | false =>
                have HC : Hid (∀ m, Calls Tryz.prog 38 #[.string ⟨nb.toArray⟩] (wi.drewN m) fun e w' => e = .returned (.bool false) ∧ w' = wi.drewN m) := Lib.hid fun m => (refUtf_any ⟨nb.toArray⟩ _ HSN.out).mono fun _ _ ⟨h1, h2⟩ => ⟨by rw [h1, ← hvl], h2.symm⟩
                have HBAD := Lib.hid (HWR.out hvl)
                clear hvl
                go_wp2_with fail
                go_quiet ((go_at_call 38; exact Calls.quiet_of_same (HC.out _)))
                go_wp2_with fail
                go_ret2
                exact GivesO.bad HBAD.out rfl (drewN_below HBI.out _)
              | true =>
                have HC : Hid (∀ m, Calls Tryz.prog 38 #[.string ⟨nb.toArray⟩] (wi.drewN m) fun e w' => e = .returned (.bool true) ∧ w' = wi.drewN m) := Lib.hid fun m => (refUtf_any ⟨nb.toArray⟩ _ HSN.out).mono fun _ _ ⟨h1, h2⟩ => ⟨by rw [h1, ← hvl], h2.symm⟩
                have HV := Lib.hid hvl
                clear hvl
                rcases List.eq_nil_or_concat p with hp | ⟨q, a, hp⟩
                · have HNEXT := Lib.hid (HNX.out HV.out (fun q a e => by rw [hp] at e; exact absurd e (by simp)))
                  have hp0 : p.length = 0 := by rw [hp]; rfl
                  have g0 : decide ((0 : Int) < p.length) = false := by simp; omega
                  have g1 : decide (0 < p.length) = false := by simp; omega
                  clear hp hp0
                  go_wp2_with fail
                  go_quiet ((go_at_call 38; exact Calls.quiet_of_same (HC.out _)))
                  go_upto_region 16 with fail
                  generalize hW : World.setCell (World.drewN wi _) _ _ = W3
                  obtain ⟨hs3, hz3, hm3, hb3⟩ := HALLW.out _ _ hW
                  have n3 := (hb3.cell (p := ⟨g, o + b, none⟩) hg).trans HNW.out
                  have HS3 := Lib.hid hs3
                  have HZ3 := Lib.hid hz3
                  have HM3 := Lib.hid hm3
                  have HB3 := Lib.hid hb3
                  clear hs3 hz3 hm3 hb3 hW m1 f1 n1
                  go_wp2_with (at_builtin; refine wpList_append_row (base := w.heap.size) elText rfl _ _ rfl rfl (HS3.out.alloc _) rfl (row_one stc_len W3 _ rfl 9 #[.string ⟨nb.toArray⟩] nb rfl) ?_ ?_ ?_ ?_)
                  · unfold maxLen; simp; omega
                  · simp; omega
                  · have := HB3.out.size; simp; omega
                  · intro A4 c4 w4 hown4 hg4 hwh
                    clear hwh
                    have HS4 : Hid (Own stc 1 9 w.heap.size w4 (.slice A4 (p.length + 1) c4) ((p ++ [b]).map (atN names))) := Lib.hid (by rw [List.map_append]; show Own _ _ _ _ _ _ (p.map (atN names) ++ [atN names b]); rw [HNB.out]; simpa using hown4)
                    have HZ4 := Lib.hid (Own.aside (HZ3.out.alloc _) (HS3.out.alloc _) (by decide) hg4)
                    have HM4 := Lib.hid (Own.aside (HM3.out.alloc _) (HS3.out.alloc _) (by decide) hg4)
                    have HB4 : Hid (Below w.heap.size w w4) := Lib.hid ((HB3.out.alloc HB3.out.size _).trans ((HS3.out.alloc _).kept hg4 (by have := HB3.out.size; simp; omega)))
                    clear hown4 hg4 n3
                    have z4 := (HB4.out.cell (p := ⟨g2, o2 + b, none⟩) hg2).trans HZW.out
                    try simp only [List.length_map]
                    go_wp2_with (at_builtin; refine wpList_append_row (base := w.heap.size) elVal rfl _ _ rfl rfl (HZ4.out.alloc _) rfl (row_one slc_len w4 _ rfl 24 #[.slice zb.1 zb.2.1 zb.2.2] zb rfl) ?_ ?_ ?_ ?_)
                    · unfold maxLen; simp; omega
                    · simp; omega
                    · have := HB4.out.size; simp; omega
                    · intro A5 c5 w5 hown5 hg5 hwh
                      clear hwh
                      have HZ5 : Hid (Own slc 1 24 w.heap.size w5 (.slice A5 (p.length + 1) c5) ((p ++ [b]).map fun j => zs.getD j (none, 0, 0))) := Lib.hid (by rw [List.map_append]; show Own _ _ _ _ _ _ ((p.map fun j => zs.getD j (none, 0, 0)) ++ [zs.getD b (none, 0, 0)]); rw [HZB.out]; simpa using hown5)
                      have HS5 := Lib.hid (Own.aside (HS4.out.alloc _) (HZ4.out.alloc _) (by decide) hg5)
                      have HM5 := Lib.hid (Own.aside (HM4.out.alloc _) (HZ4.out.alloc _) (by decide) hg5)
                      have HB5 : Hid (Below w.heap.size w w5) := Lib.hid ((HB4.out.alloc HB4.out.size _).trans ((HZ4.out.alloc _).kept hg5 (by have := HB4.out.size; simp; omega)))
                      clear hown5 hg5 z4
                      try simp only [List.length_map]
                      go_wp2_with fail
                      go_roundw
                      case rel => exact ⟨p ++ [b], HNEXT.out, ⟨A4, c4, by simp⟩, HS5.out, HZ5.out, HM5.out, HB5.out⟩
                      case measure => simp [lenOf]; omega
                · rw [List.concat_eq_append] at hp
                  have hpq : p.length = q.length + 1 := by rw [hp]; simp
                  have hin : a ∈ p := by rw [hp]; simp
                  obtain ⟨gs, cap, hform, -, -⟩ := HSI.out.opened (by rw [List.length_map]; omega)
                  injection hform with e1 e2 e3
                  clear e2
                  subst e1
                  subst e3
                  have s1 : wi.cell? ⟨gs, q.length, none⟩ = some (.string ⟨(atN names a).toArray⟩) := by
                    have h' : Own stc 1 9 w.heap.size wi (.slice (some ⟨gs, 0, none⟩) (p.map (atN names)).length cs') (p.map (atN names)) := by rw [List.length_map]; exact HSI.out
                    have := Own.cell stc_len (k := q.length) (x := atN names a) (j := 0) h' (by rw [hp]; simp) rfl
                    simpa using this
                  have g0 : decide ((0 : Int) < p.length) = true := by simp; omega
                  have g1 : decide (0 < p.length) = true := by simp; omega
                  have hw1 : IntKind.i64.wrap ((p.length : Int) - 1) = (q.length : Int) := (IntWalk.i64_in _ (by omega)).trans (by omega)
                  have hqi : (q.length : Int) < p.length := by omega
                  have hqn : q.length < p.length := by omega
                  have HPQ := Lib.hid hp
                  clear hp hpq
                  generalize hans : atN names a = na at s1
                  have HNA := Lib.hid hans
                  clear hans
                  have HIN := Lib.hid hin
                  clear hin
                  generalize q.length = ql at *
                  by_cases he : na = nb
                  · have HBAD := Lib.hid (HTW.out a HIN.out (HNA.out.trans he))
                    subst he
                    go_wp2_with fail
                    go_quiet ((go_at_call 38; exact Calls.quiet_of_same (HC.out _)))
                    go_wp2_with fail
                    go_ret2
                    exact GivesO.bad HBAD.out rfl (drewN_below HBI.out _)
                  · have hne : (na == nb) = false := by simp [he]
                    have HNEXT := Lib.hid (HNX.out HV.out (fun q' a' e => by
                      have e2 := HPQ.out.symm.trans e
                      have e3 := (List.append_inj' e2 rfl).2
                      injection e3 with e4 _
                      rw [← e4, HNA.out]; exact he))
                    clear he
                    go_wp2_with fail
                    go_quiet ((go_at_call 38; exact Calls.quiet_of_same (HC.out _)))
                    go_upto_region 16 with fail
                    generalize hW : World.setCell (World.drewN wi _) _ _ = W3
                    obtain ⟨hs3, hz3, hm3, hb3⟩ := HALLW.out _ _ hW
                    have n3 := (hb3.cell (p := ⟨g, o + b, none⟩) hg).trans HNW.out
                    have HS3 := Lib.hid hs3
                    have HZ3 := Lib.hid hz3
                    have HM3 := Lib.hid hm3
                    have HB3 := Lib.hid hb3
                    clear hs3 hz3 hm3 hb3 hW m1 f1 n1
                    go_wp2_with (at_builtin; refine wpList_append_row (base := w.heap.size) elText rfl _ _ rfl rfl (HS3.out.alloc _) rfl (row_one stc_len W3 _ rfl 9 #[.string ⟨nb.toArray⟩] nb rfl) ?_ ?_ ?_ ?_)
                    · unfold maxLen; simp; omega
                    · simp; omega
                    · have := HB3.out.size; simp; omega
                    · intro A4 c4 w4 hown4 hg4 hwh
                      clear hwh
                      have HS4 : Hid (Own stc 1 9 w.heap.size w4 (.slice A4 (p.length + 1) c4) ((p ++ [b]).map (atN names))) := Lib.hid (by rw [List.map_append]; show Own _ _ _ _ _ _ (p.map (atN names) ++ [atN names b]); rw [HNB.out]; simpa using hown4)
                      have HZ4 := Lib.hid (Own.aside (HZ3.out.alloc _) (HS3.out.alloc _) (by decide) hg4)
                      have HM4 := Lib.hid (Own.aside (HM3.out.alloc _) (HS3.out.alloc _) (by decide) hg4)
                      have HB4 : Hid (Below w.heap.size w w4) := Lib.hid ((HB3.out.alloc HB3.out.size _).trans ((HS3.out.alloc _).kept hg4 (by have := HB3.out.size; simp; omega)))
                      clear hown4 hg4 n3
                      have z4 := (HB4.out.cell (p := ⟨g2, o2 + b, none⟩) hg2).trans HZW.out
                      try simp only [List.length_map]
                      go_wp2_with (at_builtin; refine wpList_append_row (base := w.heap.size) elVal rfl _ _ rfl rfl (HZ4.out.alloc _) rfl (row_one slc_len w4 _ rfl 24 #[.slice zb.1 zb.2.1 zb.2.2] zb rfl) ?_ ?_ ?_ ?_)
                      · unfold maxLen; simp; omega
                      · simp; omega
                      · have := HB4.out.size; simp; omega
                      · intro A5 c5 w5 hown5 hg5 hwh
                        clear hwh
                        have HZ5 : Hid (Own slc 1 24 w.heap.size w5 (.slice A5 (p.length + 1) c5) ((p ++ [b]).map fun j => zs.getD j (none, 0, 0))) := Lib.hid (by rw [List.map_append]; show Own _ _ _ _ _ _ ((p.map fun j => zs.getD j (none, 0, 0)) ++ [zs.getD b (none, 0, 0)]); rw [HZB.out]; simpa using hown5)
                        have HS5 := Lib.hid (Own.aside (HS4.out.alloc _) (HZ4.out.alloc _) (by decide) hg5)
                        have HM5 := Lib.hid (Own.aside (HM4.out.alloc _) (HZ4.out.alloc _) (by decide) hg5)
                        have HB5 : Hid (Below w.heap.size w w5) := Lib.hid ((HB4.out.alloc HB4.out.size _).trans ((HZ4.out.alloc _).kept hg5 (by have := HB4.out.size; simp; omega)))
                        clear hown5 hg5 z4
                        try simp only [List.length_map]
                        go_wp2_with fail
                        go_roundw
                        case rel => exact ⟨p ++ [b], HNEXT.out, ⟨A4, c4, by simp⟩, HS5.out, HZ5.out, HM5.out, HB5.out⟩
                        case measure => simp [lenOf]; omega
      · have hpe : p.length = n := by omega
        obtain ⟨wo, rfl⟩ : ∃ wo : World, wo = wr := ⟨_, rfl⟩
        have HD := Lib.hid (HSEL.out.done (L := L) (by rw [HN.out]; exact hpe) (by rw [HN.out]; exact HL.out))
        have hpl2 := HSEL.out.places (by rw [HN.out]; exact hpe)
        have hnl : names.length = L.length := by rw [HN.out]; exact HL.out
        have HS1 : Hid (Sts wo (.slice As p.length cs') (p.map (atN names))) := Lib.hid (HS.out.row stc_len)
        have HZ1 := Lib.hid (HZ.out.row slc_len)
        have HV1 : Hid (Vls wo u7 (p.map (atL L))) := Lib.hid (Els.vls ⟨by simp, fun k z l hz hl => by
          rw [List.getElem?_map] at hz hl
          cases hi : p[k]? with
          | none => rw [hi] at hz; cases hz
          | some i =>
            rw [hi] at hz hl
            injection hz with hz
            injection hl with hl
            have hin := HSEL.out.lt i (List.mem_of_getElem? hi)
            have hx := HE.out.2 i z l (by rw [← hz]; show zs[i]? = some (zs.getD i (none, 0, 0)); rw [List.getD_eq_getElem?_getD, List.getElem?_eq_getElem (by rw [HE.out.1, ← hnl]; exact hin)]; rfl) (by rw [← hl]; show L[i]? = some (L.getD i []); rw [List.getD_eq_getElem?_getD, List.getElem?_eq_getElem (by rw [← hnl]; exact hin)]; rfl)
            exact hx.below HB.out⟩ HZ1.out)
        have hq1 : (p.map (atN names)).length = (p.map (atL L)).length := by simp
        have hq2 : (p.map (atL L)).length ≤ 65536 := by rw [List.length_map]; omega
        have hq3 : ((p.map (atL L)).map List.length).sum ≤ 131072 := by
          rw [List.map_map]
          have := hpl2.sum (L := L) hnl
          have h2 := HB2.out
          exact Nat.le_trans (Nat.le_of_eq this) h2
        have hq4 : ∀ l ∈ p.map (atL L), l ≠ [] := fun l hl => by
          obtain ⟨i, hi, rfl⟩ := List.mem_map.1 hl
          have hin := HSEL.out.lt i hi
          refine HNE.out _ ?_
          rw [atL, List.getD_eq_getElem?_getD, List.getElem?_eq_getElem (by rw [← hnl]; exact hin)]
          exact List.getElem_mem _
        have HQ := Lib.hid (refNamed_any _ _ _ _ _ HS1.out HV1.out hq1 hq2 hq3 hq4)
        have HLN : Hid ((p.map (atL L)).length = L.length) := Lib.hid (by rw [List.length_map, hpe]; exact HL.out)
        clear hq1 hq2 hq3 hq4 hpl2 hnl hpe hpl
        go_wp2_with (go_at_call 39; refine HQ.out.mono ?_; rintro e w2 ⟨v2, rfl, ho2, hB2⟩)
        have HO2 := Lib.hid ho2
        have HB2' := Lib.hid hB2
        clear ho2 hB2
        go_ret2
        refine ⟨_, by rw [objE, HD.out.1]; rfl, ?_, HB.out.trans (HB2'.out.mono HB.out.size)⟩
        rw [HD.out.2, ← HLN.out]
        exact HO2.out.mono HB.out.size
  · have hne : ((names.length : Int) != zs.length) = true := by simp; omega
    have HO : Hid (objB names L = false) := Lib.hid (by simp [objB, hl])
    clear hl hzl H H2 hu hels
    generalize names.length = n at *
    generalize zs.length = m at *
    go_enter Tryz.func18, Tryz.ntmps18
    go_wp2_with fail
    go_ret2
    exact GivesO.bad HO.out rfl (Below.refl _ _)
end Go.Proofs.YtafbojiojeemoaaGreatDoor

/-
  The document's own step at a place: plain words, and its walk.
-/
namespace Go.Proofs.YtafbojiojeemoaaGreatDoor
open Go.RowKit Np Rw Vp Up Qp Pw

theorem figR_le {r : List UInt8} {v k : Nat} (h : figR r = some (v, k)) : v ≤ 1000000 := by
  unfold figR at h
  split at h
  · cases h
  · rename_i hc
    injection h with h
    injection h with h1 _
    rw [not_or, not_or] at hc
    omega
set_option maxRecDepth 100000 in
set_option maxHeartbeats 8000000 in
theorem refStep_any (s : ByteArray) (i : Nat) (first : Bool) (w : World) (hs : s.size ≤ 1000000) (hi : i ≤ s.size) :
    Calls Tryz.prog 84 #[.string s, .int .i64 i, .bool first] w fun e w' => e = .returned (stpV i (stepR (s.data.toList.drop i) first)) ∧ Below w.heap.size w w' := by
  have hb0 : Below w.heap.size w (w.alloc (.cells #[.bool false, .string ⟨#[]⟩, .int .i64 0] 74)) := (Below.refl _ _).alloc (Nat.le_refl _) _
  have HB0 := Lib.hid hb0
  clear hb0
  have HFG := Lib.hid (fun a W (ha : a ≤ s.size) => refFigP_any s a W hs ha)
  by_cases hlt : i < s.size
  · have hdr : s.data.toList.drop i = s[i] :: s.data.toList.drop (i + 1) := by
      rw [List.drop_eq_getElem_cons (by rw [size_toList]; exact hlt)]; rfl
    by_cases h46 : s[i].toNat = 46
    · have hc46 : s[i] = 46 := by rw [← u8_of (c := s[i]) (n := 46) h46]; rfl
      have h46b : ((s[i].toNat : Int) == 46) = true := by simp; omega
      have HS1 : Hid (∀ x, fieldR (s.data.toList.drop (i + 1)) = some x → stepR (s.data.toList.drop i) first = some (x.1, x.2 + 1)) := Lib.hid (fun x h => by
        rw [hdr]; simp only [stepR]; rw [if_pos hc46, h])
      have HS2 : Hid (fieldR (s.data.toList.drop (i + 1)) = none → first = false → stepR (s.data.toList.drop i) first = none) := Lib.hid (fun h h2 => by
        rw [hdr]; simp only [stepR]; rw [if_pos hc46, h, h2]; rfl)
      have HS3 : Hid (fieldR (s.data.toList.drop (i + 1)) = none → first = true → (∀ d r', s.data.toList.drop (i + 1) = d :: r' → ¬ d = 91) → stepR (s.data.toList.drop i) first = none) := Lib.hid (fun h h2 h3 => by
        rw [hdr]; simp only [stepR]; rw [if_pos hc46, h, h2]
        cases hq : s.data.toList.drop (i + 1) with
        | nil => rfl
        | cons d r' => simp only [if_true]; rw [if_neg (h3 d r' hq)])
      have HS4 : Hid (∀ d r', fieldR (s.data.toList.drop (i + 1)) = none → first = true → s.data.toList.drop (i + 1) = d :: r' → d = 91 → stepR (s.data.toList.drop i) first = (partR r').map fun x => (x.1, x.2 + 2)) := Lib.hid (fun d r' h h2 hq h4 => by
        rw [hdr]; simp only [stepR]; rw [if_pos hc46, h, h2, hq]; simp only [if_true]; rw [if_pos h4])
      by_cases hq34 : ∃ h : i + 1 < s.size, s[i + 1].toNat = 34
      · obtain ⟨hlt3, h34⟩ := hq34
        have h34c : s[i + 1] = 34 := by rw [← u8_of (c := s[i + 1]) (n := 34) h34]; rfl
        have hr2 : s.data.toList.drop (i + 1) = 34 :: s.data.toList.drop (i + 1 + 1) := by
          rw [List.drop_eq_getElem_cons (by rw [size_toList]; exact hlt3)]
          have : s.data.toList[i + 1]'(by rw [size_toList]; exact hlt3) = 34 := h34c
          rw [this]
        have hwr : wrd (s.data.toList.drop (i + 1)) = [] := by rw [hr2, wrd_mark]
        obtain ⟨nm, n, ee, hu⟩ : ∃ nm n ee, unqs (s.data.toList.drop (i + 1)) = (nm, n, ee) := ⟨_, _, _, rfl⟩
        have hfd : fieldR (s.data.toList.drop (i + 1)) = if ee = 0 ∧ isW nm = false ∧ quo nm = (s.data.toList.drop (i + 1)).take n then some (⟨false, nm, 0⟩, n) else none := by
          unfold fieldR
          rw [if_neg (by rw [hwr]; simp), hu]
        have hgone : fieldR (s.data.toList.drop (i + 1)) = none → stepR (s.data.toList.drop i) first = none := fun hn => by
          cases first with
          | false => exact HS2.out hn rfl
          | true =>
            refine HS3.out hn rfl (fun d r' e h => ?_)
            rw [hr2] at e
            injection e with e1 e2
            rw [← e1] at h
            exact absurd h (by decide)
        by_cases hee : ee = 0
        · cases hW : isW nm with
          | true =>
            rw [hgone (by rw [hfd, if_neg (by rw [hW]; simp)])]
            exact refStep_qWord s i first w hs hlt3 hc46 h34c nm n ee hu hee hW
          | false =>
            by_cases hq : quo nm = (s.data.toList.drop (i + 1)).take n
            · rw [HS1.out (⟨false, nm, 0⟩, n) (by rw [hfd, if_pos ⟨hee, hW, hq⟩])]
              exact refStep_qGood s i first w hs hlt3 hc46 h34c nm n ee hu hee hW hq
            · rw [hgone (by rw [hfd, if_neg (fun h => hq h.2.2)])]
              exact refStep_qNone s i first w hs hlt3 hc46 h34c nm n ee hu hee hW hq
        · rw [hgone (by rw [hfd, if_neg (fun h => hee h.1)])]
          exact refStep_qBad s i first w hs hlt3 hc46 h34c nm n ee hu hee
      have HQ34 := Lib.hid hq34
      clear hq34
      have HXT : Hid (∀ j, j ≤ (s.data.toList.drop (i + 1)).length → (∀ t, t < j → okAt (s.data.toList.drop (i + 1)) t = true) → okAt (s.data.toList.drop (i + 1)) j = false → 0 < j → stepR (s.data.toList.drop i) first = some (⟨false, (s.data.toList.drop (i + 1)).take j, 0⟩, j + 1)) := Lib.hid (fun j hj h1 h2 h0 => HS1.out _ (step_word hj h0 h1 h2))
      have HRL : Hid ((s.data.toList.drop (i + 1)).length = s.size - (i + 1)) := Lib.hid (by rw [List.length_drop, size_toList])
      have HEX : Hid (∀ m, (s.extract (i + 1) (i + 1 + m)).data.toList = (s.data.toList.drop (i + 1)).take m) := Lib.hid (fun m => by
        have h := Lib.extract_toList s (i + 1) (i + 1 + m)
        rw [ByteArray.toList_eq, Nat.add_sub_cancel_left] at h
        exact h)
      have HWD : Hid (∀ m W, Calls Tryz.prog 52 #[.string (s.extract (i + 1) (i + 1 + m))] W fun e w' => e = .returned (.bool (isW ((s.data.toList.drop (i + 1)).take m))) ∧ w' = W) := Lib.hid (fun m W => by
        have h := refWordP_any (s.extract (i + 1) (i + 1 + m)) W (by rw [ByteArray.size_extract]; unfold maxLen; omega)
        rwa [HEX.out] at h)
      clear hdr
      generalize hr : s.data.toList.drop (i + 1) = r at *
      go_enter Tryz.func84, Tryz.ntmps84
      go_wp2_with fail
      go_loopw [9] (fun kv wr => ∃ j : Nat, i + 1 + j ≤ s.size ∧ kv = .int .i64 ((i + 1 + j : Nat) : Int) ∧ Hid (∀ t, t < j → okAt r t = true) ∧ wr = w.alloc stepZ) (fun kv _ => s.size - (intOf kv).toNat)
      case atStart => exact ⟨0, by omega, by simp, Lib.hid (fun t ht => by omega), rfl⟩
      case round =>
        obtain ⟨j, hij, rfl, HA, rfl⟩ := hrel
        by_cases hlt2 : i + 1 + j < s.size
        · have hjr : j < r.length := by rw [HRL.out]; omega
          cases hw : isW (r.take (j + 1)) with
          | true =>
            have HA2 : Hid (∀ t, t < j + 1 → okAt r t = true) := Lib.hid (fun t ht => (isW_take hjr).1 hw t (by omega))
            have HWJ := HWD.out (j + 1)
            rw [hw] at HWJ
            clear hw
            go_wp2_with fail
            refine (HWJ _).mono ?_
            rintro e wf ⟨rfl, rfl⟩
            go_wp2_with fail
            refine ⟨⟨j + 1, by omega, by go_num, HA2, by first | trivial | rfl⟩, ?_⟩
            simp [intOf]; omega
          | false =>
            have hok := step_stop hjr HA.out hw
            have HWJ := HWD.out (j + 1)
            rw [hw] at HWJ
            clear hw
            by_cases hj0 : j = 0
            · subst hj0
              have hlt3 : i + 1 < s.size := by omega
              have hr2 : r = s[i + 1] :: s.data.toList.drop (i + 1 + 1) := by
                rw [← hr, List.drop_eq_getElem_cons (by rw [size_toList]; exact hlt3)]; rfl
              have hwr : wrd r = [] := by rw [wrd_of (Nat.zero_le _) (fun t ht => absurd ht (Nat.not_lt_zero _)) hok]; rfl
              by_cases h34 : s[i + 1].toNat = 34
              · exact absurd ⟨hlt3, h34⟩ HQ34.out
              · have hu : unqs r = ([], 0, 1) := by
                  have hb : bt r 0 = s[i + 1].toNat := by rw [hr2]; rfl
                  rw [unqs, if_neg (by rw [hb]; exact h34)]
                have HNF : Hid (fieldR r = none) := Lib.hid (by
                  unfold fieldR
                  rw [if_neg (by rw [hwr]; simp), hu, if_neg (by simp)])
                have HUQ : Hid (∀ W, Calls Tryz.prog 61 #[.string (s.extract (i + 1) s.size)] W fun e w' => e = .returned (.tuple #[.string ⟨#[]⟩, .int .i64 0, .int .i64 1]) ∧ Below W.heap.size W w') := Lib.hid (fun W => by
                  have h := refUnquote_any (s.extract (i + 1) s.size) W (by rw [ByteArray.size_extract]; omega)
                  have e : (s.extract (i + 1) s.size).data.toList = r := by
                    have := HEX.out (s.size - (i + 1))
                    rw [show i + 1 + (s.size - (i + 1)) = s.size by omega] at this
                    rw [this, List.take_of_length_le (by rw [HRL.out]; omega)]
                  rw [e, hu] at h
                  exact h)
                have HREQ : Hid (first = true → (s[i + 1].toNat = 91 → stepR (s.data.toList.drop i) first = (partR (s.data.toList.drop (i + 1 + 1))).map fun x => (x.1, x.2 + 2)) ∧ (¬ s[i + 1].toNat = 91 → stepR (s.data.toList.drop i) first = none)) := Lib.hid (fun hf => ⟨fun h => HS4.out _ _ HNF.out hf hr2 (by rw [← u8_of (c := s[i + 1]) (n := 91) h]; rfl), fun h => HS3.out HNF.out hf (fun d r' e h2 => by
                  rw [hr2] at e; injection e with e1 e2; exact h (by rw [e1, h2]; rfl))⟩)
                have HSF : Hid (first = false → stepR (s.data.toList.drop i) first = none) := Lib.hid (fun hf => HS2.out HNF.out hf)
                clear hok HXT HS1 HS2 HS3 HS4 hjr HA HRL HEX hwr HNF hr2 hr hu h34 HWD
                cases first with
                | false =>
                  have HS := Lib.hid (HSF.out rfl)
                  clear HSF HREQ
                  go_wp2_with fail
                  refine (HWJ _).mono ?_
                  rintro e wf ⟨rfl, rfl⟩
                  go_wp2_with fail
                  refine (HUQ.out _).mono ?_
                  rintro e w1 ⟨rfl, hb1⟩
                  have HB1 : Hid (Below w.heap.size w w1) := Lib.hid (HB0.out.trans (hb1.mono HB0.out.size))
                  obtain ⟨hz4, k0, k1, k2, hfz, -⟩ := new_step (W := w.alloc stepZ) (b := w.heap.size) (heap_alloc_new w stepZ) hb1
                  clear hb1
                  go_upto_region 10 with fail
                  go_quiet (fail)
                  go_wp2_with fail
                  all_goals exact bodyPost_ret (v := .tuple #[sta ⟨false, [], 0⟩, .int .i64 (i : Int)]) (by simp [results, Tryz.results84, go_sem, k0, k1, k2]) rfl ⟨by rw [HS.out]; rfl, (((drewN_below HB1.out _).setCell (Nat.le_refl _) _).setCell (Nat.le_refl _) _).setCell (Nat.le_refl _) _⟩
                | true =>
                  have HREQ := Lib.hid (HREQ.out rfl)
                  clear HSF
                  by_cases h91 : s[i + 1].toNat = 91
                  · have HR91 : Hid (stepR (s.data.toList.drop i) true = (partR (s.data.toList.drop (i + 1 + 1))).map fun x => (x.1, x.2 + 2)) := Lib.hid (HREQ.out.1 h91)
                    have HFR := HFG.out (i + 1 + 1)
                    have h91b : ((s[i + 1].toNat : Int) == 91) = true := by simp; omega
                    have h91c : ((s[i + 1].toNat : Int) != 91) = false := by simp; omega
                    cases hfg : figR (s.data.toList.drop (i + 1 + 1)) with
                    | none =>
                      have HN : Hid (stepR (s.data.toList.drop i) true = none) := Lib.hid (by rw [HR91.out]; unfold partR; rw [hfg]; rfl)
                      rw [hfg] at HFR
                      clear HR91 hfg
                      go_wp2_with fail
                      refine (HWJ _).mono ?_
                      rintro e wf ⟨rfl, rfl⟩
                      go_wp2_with fail
                      refine (HUQ.out _).mono ?_
                      rintro e w1 ⟨rfl, hb1⟩
                      have HB1 : Hid (Below w.heap.size w w1) := Lib.hid (HB0.out.trans (hb1.mono HB0.out.size))
                      obtain ⟨hz4, k0, k1, k2, hfz, -⟩ := new_step (W := w.alloc stepZ) (b := w.heap.size) (heap_alloc_new w stepZ) hb1
                      clear hb1
                      go_upto_region 10 with fail
                      go_quiet (fail)
                      go_wp2_with fail
                      refine (HFR _ (by omega)).mono ?_
                      rintro e wf ⟨rfl, rfl⟩
                      simp only [figV]
                      go_wp2_with fail
                      all_goals first
                        | (exact bodyPost_ret (v := .tuple #[sta ⟨false, [], 0⟩, .int .i64 (i : Int)]) (by simp [results, Tryz.results84, go_sem, k0, k1, k2]) rfl ⟨by rw [HN.out]; rfl, (((drewN_below HB1.out _).setCell (Nat.le_refl _) _).setCell (Nat.le_refl _) _).setCell (Nat.le_refl _) _⟩)
                        | (exfalso; clear HN HFG HREQ; simp at *; omega)
                    | some x =>
                      obtain ⟨v, k⟩ := x
                      rw [hfg] at HFR
                      have hvm : v ≤ 1000000 := figR_le hfg
                      by_cases hto : i + 1 + 1 + k < s.size
                      · have hat : (s.data.toList.drop (i + 1 + 1))[k]? = some s[i + 1 + 1 + k] := by
                          rw [List.getElem?_drop, List.getElem?_eq_getElem (by rw [size_toList]; exact hto)]; rfl
                        by_cases h93 : s[i + 1 + 1 + k].toNat = 93
                        · have HN : Hid (stepR (s.data.toList.drop i) true = some (⟨true, [], (v : Int)⟩, k + 1 + 2)) := Lib.hid (by
                            rw [HR91.out]; unfold partR; rw [hfg]
                            simp only
                            rw [hat, if_pos (by rw [← u8_of (c := s[i + 1 + 1 + k]) (n := 93) h93]; rfl)]
                            rfl)
                          have h93b : ((s[i + 1 + 1 + k].toNat : Int) == 93) = true := by simp; omega
                          clear HR91 hfg hat
                          go_wp2_with fail
                          refine (HWJ _).mono ?_
                          rintro e wf ⟨rfl, rfl⟩
                          go_wp2_with fail
                          refine (HUQ.out _).mono ?_
                          rintro e w1 ⟨rfl, hb1⟩
                          have HB1 : Hid (Below w.heap.size w w1) := Lib.hid (HB0.out.trans (hb1.mono HB0.out.size))
                          obtain ⟨hz4, k0, k1, k2, hfz, -⟩ := new_step (W := w.alloc stepZ) (b := w.heap.size) (heap_alloc_new w stepZ) hb1
                          clear hb1
                          go_upto_region 10 with fail
                          go_quiet (fail)
                          go_wp2_with fail
                          refine (HFR _ (by omega)).mono ?_
                          rintro e wf ⟨rfl, rfl⟩
                          simp only [figV]
                          go_wp2_with fail
                          exact bodyPost_ret (v := .tuple #[sta ⟨true, [], (v : Int)⟩, .int .i64 ((i + (k + 1 + 2) : Nat) : Int)]) (by simp [results, Tryz.results84, go_sem, k0, k1, k2]; try omega) rfl ⟨by rw [HN.out]; rfl, (((drewN_below HB1.out _).setCell (Nat.le_refl _) _).setCell (Nat.le_refl _) _).setCell (Nat.le_refl _) _⟩
                        · have HN : Hid (stepR (s.data.toList.drop i) true = none) := Lib.hid (by
                            rw [HR91.out]; unfold partR; rw [hfg]
                            simp only
                            rw [hat, if_neg (by intro e; injection e with e; exact h93 (by rw [e]; rfl))]
                            rfl)
                          have h93b : ((s[i + 1 + 1 + k].toNat : Int) == 93) = false := by simp; omega
                          have h93c : ((s[i + 1 + 1 + k].toNat : Int) != 93) = true := by simp; omega
                          clear HR91 hfg hat
                          go_wp2_with fail
                          refine (HWJ _).mono ?_
                          rintro e wf ⟨rfl, rfl⟩
                          go_wp2_with fail
                          refine (HUQ.out _).mono ?_
                          rintro e w1 ⟨rfl, hb1⟩
                          have HB1 : Hid (Below w.heap.size w w1) := Lib.hid (HB0.out.trans (hb1.mono HB0.out.size))
                          obtain ⟨hz4, k0, k1, k2, hfz, -⟩ := new_step (W := w.alloc stepZ) (b := w.heap.size) (heap_alloc_new w stepZ) hb1
                          clear hb1
                          go_upto_region 10 with fail
                          go_quiet (fail)
                          go_wp2_with fail
                          refine (HFR _ (by omega)).mono ?_
                          rintro e wf ⟨rfl, rfl⟩
                          simp only [figV]
                          go_wp2_with fail
                          all_goals first
                        | (exact bodyPost_ret (v := .tuple #[sta ⟨false, [], 0⟩, .int .i64 (i : Int)]) (by simp [results, Tryz.results84, go_sem, k0, k1, k2]) rfl ⟨by rw [HN.out]; rfl, (((drewN_below HB1.out _).setCell (Nat.le_refl _) _).setCell (Nat.le_refl _) _).setCell (Nat.le_refl _) _⟩)
                        | (exfalso; clear HN HFG HREQ; simp at *; omega)
                      · have HN : Hid (stepR (s.data.toList.drop i) true = none) := Lib.hid (by
                          rw [HR91.out]; unfold partR; rw [hfg]
                          simp only
                          rw [List.getElem?_drop, List.getElem?_eq_none (by rw [size_toList]; omega), if_neg (by simp)]
                          rfl)
                        clear HR91 hfg
                        go_wp2_with fail
                        refine (HWJ _).mono ?_
                        rintro e wf ⟨rfl, rfl⟩
                        go_wp2_with fail
                        refine (HUQ.out _).mono ?_
                        rintro e w1 ⟨rfl, hb1⟩
                        have HB1 : Hid (Below w.heap.size w w1) := Lib.hid (HB0.out.trans (hb1.mono HB0.out.size))
                        obtain ⟨hz4, k0, k1, k2, hfz, -⟩ := new_step (W := w.alloc stepZ) (b := w.heap.size) (heap_alloc_new w stepZ) hb1
                        clear hb1
                        go_upto_region 10 with fail
                        go_quiet (fail)
                        go_wp2_with fail
                        refine (HFR _ (by omega)).mono ?_
                        rintro e wf ⟨rfl, rfl⟩
                        simp only [figV]
                        go_wp2_with fail
                        all_goals first
                        | (exact bodyPost_ret (v := .tuple #[sta ⟨false, [], 0⟩, .int .i64 (i : Int)]) (by simp [results, Tryz.results84, go_sem, k0, k1, k2]) rfl ⟨by rw [HN.out]; rfl, (((drewN_below HB1.out _).setCell (Nat.le_refl _) _).setCell (Nat.le_refl _) _).setCell (Nat.le_refl _) _⟩)
                        | (exfalso; clear HN HFG HREQ; simp at *; omega)
                  · have HN : Hid (stepR (s.data.toList.drop i) true = none) := Lib.hid (HREQ.out.2 h91)
                    have h91b : ((s[i + 1].toNat : Int) == 91) = false := by simp; omega
                    go_wp2_with fail
                    refine (HWJ _).mono ?_
                    rintro e wf ⟨rfl, rfl⟩
                    go_wp2_with fail
                    refine (HUQ.out _).mono ?_
                    rintro e w1 ⟨rfl, hb1⟩
                    have HB1 : Hid (Below w.heap.size w w1) := Lib.hid (HB0.out.trans (hb1.mono HB0.out.size))
                    obtain ⟨hz4, k0, k1, k2, hfz, -⟩ := new_step (W := w.alloc stepZ) (b := w.heap.size) (heap_alloc_new w stepZ) hb1
                    clear hb1
                    go_upto_region 10 with fail
                    go_quiet (fail)
                    go_wp2_with fail
                    all_goals first
                        | (exact bodyPost_ret (v := .tuple #[sta ⟨false, [], 0⟩, .int .i64 (i : Int)]) (by simp [results, Tryz.results84, go_sem, k0, k1, k2]) rfl ⟨by rw [HN.out]; rfl, (((drewN_below HB1.out _).setCell (Nat.le_refl _) _).setCell (Nat.le_refl _) _).setCell (Nat.le_refl _) _⟩)
                        | (exfalso; clear HN HFG HREQ; simp at *; omega)
            · have HJL : j ≤ r.length := by omega
              have HS := Lib.hid (HXT.out j HJL HA.out hok (by omega))
              have HEJ : Hid (s.extract (i + 1) (i + 1 + j) = ⟨(r.take j).toArray⟩) := Lib.hid (by rw [← HEX.out j])
              clear hok HXT HS1 HS2 HS3 HS4 hjr HA HJL HRL HEX
              go_wp2_with fail
              refine (HWJ _).mono ?_
              rintro e wf ⟨rfl, rfl⟩
              go_wp2_with fail
              exact bodyPost_ret (v := .tuple #[sta ⟨false, r.take j, 0⟩, .int .i64 ((i + (j + 1) : Nat) : Int)]) (by simp [results, Tryz.results84, go_sem]; exact ⟨HEJ.out, by omega⟩) rfl ⟨by rw [HS.out]; rfl, (Below.refl _ _).alloc (Nat.le_refl _) _⟩
        · have hjr : j = r.length := by rw [HRL.out]; omega
          by_cases hj0 : j = 0
          · subst hj0
            have hrn : r = [] := List.eq_nil_of_length_eq_zero (by omega)
            have hok : okAt r 0 = false := by rw [hrn]; rfl
            have hwr : wrd r = [] := by rw [hrn]; rfl
            have HNF : Hid (fieldR r = none) := Lib.hid (by rw [hrn]; rfl)
            have HS : Hid (stepR (s.data.toList.drop i) first = none) := Lib.hid (by
              cases first with
              | false => exact HS2.out HNF.out rfl
              | true => exact HS3.out HNF.out rfl (by intro d r' e; rw [hrn] at e; cases e))
            have hsz : s.size = i + 1 := by omega
            have HUQ : Hid (∀ W, Calls Tryz.prog 61 #[.string ByteArray.empty] W fun e w' => e = .returned (.tuple #[.string ⟨#[]⟩, .int .i64 0, .int .i64 1]) ∧ Below W.heap.size W w') := Lib.hid (fun W => refUnquote_any ByteArray.empty W (by simp))
            clear hok HXT HS1 HS2 HS3 HS4 hjr HA HRL HEX hwr HNF hrn hr
            go_wp2_with fail
            refine (HUQ.out _).mono ?_
            rintro e w1 ⟨rfl, hb1⟩
            have HB1 : Hid (Below w.heap.size w w1) := Lib.hid (HB0.out.trans (hb1.mono HB0.out.size))
            obtain ⟨hz4, k0, k1, k2, hfz, -⟩ := new_step (W := w.alloc stepZ) (b := w.heap.size) (heap_alloc_new w stepZ) hb1
            clear hb1
            cases first with
            | false =>
              go_upto_region 10 with fail
              go_quiet (fail)
              go_wp2_with fail
              all_goals exact bodyPost_ret (v := .tuple #[sta ⟨false, [], 0⟩, .int .i64 (i : Int)]) (by simp [results, Tryz.results84, go_sem, k0, k1, k2]) rfl ⟨by rw [HS.out]; rfl, (((drewN_below HB1.out _).setCell (Nat.le_refl _) _).setCell (Nat.le_refl _) _).setCell (Nat.le_refl _) _⟩
            | true =>
              go_upto_region 10 with fail
              go_quiet (fail)
              go_wp2_with fail
              all_goals exact bodyPost_ret (v := .tuple #[sta ⟨false, [], 0⟩, .int .i64 (i : Int)]) (by simp [results, Tryz.results84, go_sem, k0, k1, k2]) rfl ⟨by rw [HS.out]; rfl, (((drewN_below HB1.out _).setCell (Nat.le_refl _) _).setCell (Nat.le_refl _) _).setCell (Nat.le_refl _) _⟩
          · have HJL : j ≤ r.length := by omega
            have hok : okAt r j = false := by rw [okAt, List.getElem?_eq_none (by omega)]
            have HS := Lib.hid (HXT.out j HJL HA.out hok (by omega))
            have HEJ : Hid (s.extract (i + 1) (i + 1 + j) = ⟨(r.take j).toArray⟩) := Lib.hid (by rw [← HEX.out j])
            clear hok HXT HS1 HS2 HS3 HS4 hjr HA HJL HRL HEX
            go_wp2_with fail
            exact bodyPost_ret (v := .tuple #[sta ⟨false, r.take j, 0⟩, .int .i64 ((i + (j + 1) : Nat) : Int)]) (by simp [results, Tryz.results84, go_sem]; exact ⟨HEJ.out, by omega⟩) rfl ⟨by rw [HS.out]; rfl, (Below.refl _ _).alloc (Nat.le_refl _) _⟩
    · have h46b : ((s[i].toNat : Int) == 46) = false := by simp; omega
      have hne46 : ¬ s[i] = 46 := fun e => h46 (by rw [e]; rfl)
      cases first with
      | true =>
        have HN : Hid (stepR (s.data.toList.drop i) true = none) := Lib.hid (by
          rw [hdr]; unfold stepR
          simp only
          rw [if_neg hne46]; rfl)
        clear hdr
        go_enter Tryz.func84, Tryz.ntmps84
        go_wp2_with fail
        exact bodyPost_ret (v := .tuple #[sta ⟨false, [], 0⟩, .int .i64 (i : Int)]) (by simp [results, Tryz.results84, go_sem]) rfl ⟨by rw [HN.out]; rfl, HB0.out⟩
      | false =>
        have HREQ : Hid ((s[i].toNat = 91 → stepR (s.data.toList.drop i) false = (partR (s.data.toList.drop (i + 1))).map fun x => (x.1, x.2 + 1)) ∧ (¬ s[i].toNat = 91 → stepR (s.data.toList.drop i) false = none)) := Lib.hid (by
          have hst : stepR (s.data.toList.drop i) false = if s[i] = 91 then (partR (s.data.toList.drop (i + 1))).map fun x => (x.1, x.2 + 1) else none := by
            rw [hdr]; unfold stepR
            simp only
            rw [if_neg hne46]; rfl
          rw [hst]
          refine ⟨fun h => if_pos (by rw [← u8_of (c := s[i]) (n := 91) h]; rfl), fun h => if_neg (fun e => h (by rw [e]; rfl))⟩)
        clear hdr
        by_cases h91 : s[i].toNat = 91
        · have HR91 : Hid (stepR (s.data.toList.drop i) false = (partR (s.data.toList.drop (i + 1))).map fun x => (x.1, x.2 + 1)) := Lib.hid (HREQ.out.1 h91)
          have HFR := HFG.out (i + 1)
          have h91b : ((s[i].toNat : Int) == 91) = true := by simp; omega
          have h91c : ((s[i].toNat : Int) != 91) = false := by simp; omega
          cases hfg : figR (s.data.toList.drop (i + 1)) with
          | none =>
            have HN : Hid (stepR (s.data.toList.drop i) false = none) := Lib.hid (by rw [HR91.out]; unfold partR; rw [hfg]; rfl)
            rw [hfg] at HFR
            clear HR91 hfg
            go_enter Tryz.func84, Tryz.ntmps84
            go_wp2_with fail
            refine (HFR _ (by omega)).mono ?_
            rintro e wf ⟨rfl, rfl⟩
            simp only [figV]
            go_wp2_with fail
            all_goals first
              | (exact bodyPost_ret (v := .tuple #[sta ⟨false, [], 0⟩, .int .i64 (i : Int)]) (by simp [results, Tryz.results84, go_sem]) rfl ⟨by rw [HN.out]; rfl, HB0.out⟩)
              | (exfalso; clear HN HFG HREQ; simp at *; omega)
          | some x =>
            obtain ⟨v, k⟩ := x
            rw [hfg] at HFR
            have hvm : v ≤ 1000000 := figR_le hfg
            by_cases hto : i + 1 + k < s.size
            · have hat : (s.data.toList.drop (i + 1))[k]? = some s[i + 1 + k] := by
                rw [List.getElem?_drop, List.getElem?_eq_getElem (by rw [size_toList]; exact hto)]; rfl
              by_cases h93 : s[i + 1 + k].toNat = 93
              · have HN : Hid (stepR (s.data.toList.drop i) false = some (⟨true, [], (v : Int)⟩, k + 1 + 1)) := Lib.hid (by
                  rw [HR91.out]; unfold partR; rw [hfg]
                  simp only
                  rw [hat, if_pos (by rw [← u8_of (c := s[i + 1 + k]) (n := 93) h93]; rfl)]
                  rfl)
                have h93b : ((s[i + 1 + k].toNat : Int) == 93) = true := by simp; omega
                clear HR91 hfg hat
                go_enter Tryz.func84, Tryz.ntmps84
                go_wp2_with fail
                refine (HFR _ (by omega)).mono ?_
                rintro e wf ⟨rfl, rfl⟩
                simp only [figV]
                go_wp2_with fail
                exact bodyPost_ret (v := .tuple #[sta ⟨true, [], (v : Int)⟩, .int .i64 ((i + (k + 1 + 1) : Nat) : Int)]) (by simp [results, Tryz.results84, go_sem]; try omega) rfl ⟨by rw [HN.out]; rfl, ((Below.refl _ _).alloc (Nat.le_refl _) _)⟩
              · have HN : Hid (stepR (s.data.toList.drop i) false = none) := Lib.hid (by
                  rw [HR91.out]; unfold partR; rw [hfg]
                  simp only
                  rw [hat, if_neg (by intro e; injection e with e; exact h93 (by rw [e]; rfl))]
                  rfl)
                have h93b : ((s[i + 1 + k].toNat : Int) == 93) = false := by simp; omega
                have h93c : ((s[i + 1 + k].toNat : Int) != 93) = true := by simp; omega
                clear HR91 hfg hat
                go_enter Tryz.func84, Tryz.ntmps84
                go_wp2_with fail
                refine (HFR _ (by omega)).mono ?_
                rintro e wf ⟨rfl, rfl⟩
                simp only [figV]
                go_wp2_with fail
                all_goals first
              | (exact bodyPost_ret (v := .tuple #[sta ⟨false, [], 0⟩, .int .i64 (i : Int)]) (by simp [results, Tryz.results84, go_sem]) rfl ⟨by rw [HN.out]; rfl, HB0.out⟩)
              | (exfalso; clear HN HFG HREQ; simp at *; omega)
            · have HN : Hid (stepR (s.data.toList.drop i) false = none) := Lib.hid (by
                rw [HR91.out]; unfold partR; rw [hfg]
                simp only
                rw [List.getElem?_drop, List.getElem?_eq_none (by rw [size_toList]; omega), if_neg (by simp)]
                rfl)
              clear HR91 hfg
              go_enter Tryz.func84, Tryz.ntmps84
              go_wp2_with fail
              refine (HFR _ (by omega)).mono ?_
              rintro e wf ⟨rfl, rfl⟩
              simp only [figV]
              go_wp2_with fail
              all_goals first
              | (exact bodyPost_ret (v := .tuple #[sta ⟨false, [], 0⟩, .int .i64 (i : Int)]) (by simp [results, Tryz.results84, go_sem]) rfl ⟨by rw [HN.out]; rfl, HB0.out⟩)
              | (exfalso; clear HN HFG HREQ; simp at *; omega)
        · have HN : Hid (stepR (s.data.toList.drop i) false = none) := Lib.hid (HREQ.out.2 h91)
          have h91b : ((s[i].toNat : Int) == 91) = false := by simp; omega
          go_enter Tryz.func84, Tryz.ntmps84
          go_wp2_with fail
          all_goals first
              | (exact bodyPost_ret (v := .tuple #[sta ⟨false, [], 0⟩, .int .i64 (i : Int)]) (by simp [results, Tryz.results84, go_sem]) rfl ⟨by rw [HN.out]; rfl, HB0.out⟩)
              | (exfalso; clear HN HFG HREQ; simp at *; omega)
  · have HN : Hid (stepR (s.data.toList.drop i) first = none) := Lib.hid (by
      rw [List.drop_of_length_le (by rw [size_toList]; omega)]; rfl)
    cases first with
    | true =>
      go_enter Tryz.func84, Tryz.ntmps84
      go_wp2_with fail
      exact bodyPost_ret (v := .tuple #[sta ⟨false, [], 0⟩, .int .i64 (i : Int)]) (by simp [results, Tryz.results84, go_sem]) rfl ⟨by rw [HN.out]; rfl, HB0.out⟩
    | false =>
      go_enter Tryz.func84, Tryz.ntmps84
      go_wp2_with fail
      exact bodyPost_ret (v := .tuple #[sta ⟨false, [], 0⟩, .int .i64 (i : Int)]) (by simp [results, Tryz.results84, go_sem]) rfl ⟨by rw [HN.out]; rfl, HB0.out⟩
end Go.Proofs.YtafbojiojeemoaaGreatDoor
