/-
  Joined: ValW4, Alive, ValLaw, ConcW, ValW13, ValFields, PaAl.
-/
import Derived.Test.YtdibcamnoolnmaaGreatDoorPathSetsJ16
import Derived.Test.YtdibcamnoolnmaaGreatDoorPathSetsJ9
import Derived.Test.YtdibcamnoolnmaaGreatDoorPathSetsJ15
import Derived.Test.YtdibcamnoolnmaaGreatDoorPathSetsJ12
import Derived.Test.YtdibcamnoolnmaaGreatDoorPathSetsJ8
import Derived.Test.YtdibcamnoolnmaaGreatDoorPathSetsJ11
import Derived.Test.YtdibcamnoolnmaaGreatDoorPathSetsJ17
import Derived.StillTailTactics
import Derived.Test.YtdibcamnoolnmaaGreatDoorPathSetsJ14
import Derived.Test.YtdibcamnoolnmaaGreatDoorRefW6
import Derived.Test.YtdibcamnoolnmaaGreatDoorPathSetsJ6
import Derived.Test.YtdibcamnoolnmaaGreatDoorPathSetsJ10
import Derived.Test.YtdibcamnoolnmaaGreatDoorPathSetsJ13

/-
  What val.Depth answers.
-/
namespace Go.Proofs.YtdibcamnoolnmaaGreatDoor
open Go.RowKit Np Rw Vp

theorem fits_val {t : Tr Nd} (h : okT many t) (hl : (flat t).length ≤ 65536) : Fits (flat t) := by
  intro n hn
  rw [← subs_nd, List.mem_map] at hn
  obtain ⟨s, hs, rfl⟩ := hn
  have ho := subs_ok t h s hs
  have h1 : s.nd.many = s.ks.length := (okT_eq.1 ho).1
  obtain ⟨i, hi⟩ := List.getElem?_of_mem hs
  obtain ⟨q, hq⟩ := subs_drop t [] i s hi
  have h2 := congrArg List.length hq
  rw [List.append_nil, List.length_drop, List.length_append] at h2
  have h3 : (flat s).length = 1 + (flats s.ks).length := by rw [flat_eq]; simp; omega
  have h4 := flats_len s.ks
  omega

set_option maxHeartbeats 4000000 in
theorem depthV_any (v : Value) (t : Tr Nd) (w : World) (hv : Nds w v (flat t)) (hl : (flat t).length ≤ 65536) (ht : Val t) :
    Calls Tryz.prog 192 #[v] w fun e w' => e = .returned (.int .i64 (depth t : Nat)) ∧ Below w.heap.size w w' := by
  have hans := deepG_val ht
  have hrun : Vp.run Vp.start (flat t) = true := rightL_val ht
  have HFT := Lib.hid (fits_val ht.ok hl)
  have hpos := flat_pos t
  generalize depth t = ans at hans ⊢
  generalize flat t = l at *
  have HANS := Lib.hid hans
  have HRUN := Lib.hid hrun
  clear hans hrun ht
  obtain ⟨gv, o, c, rfl, hc, hcm, hgv, hx⟩ := hv.opened hpos
  have HX := Lib.hid hx; clear hx hv
  generalize hn : l.length = n at *
  have HN := Lib.hid hn; clear hn
  go_enter Tryz.func192, Tryz.ntmps192
  go_wp2_with fail
  refine (begin_any _).mono ?_
  rintro e w1 ⟨v1, rfl, ho1, hb1⟩
  obtain ⟨g, cap, rfl, hg, hglt⟩ := ho1.opened (by decide)
  have HO := Lib.hid ho1; clear ho1
  simp only [Vp.start, List.length_singleton] at HO ⊢
  go_wp2_with fail
  go_loopw [3, 4, 10] (fun a dd b wr => ∃ (k d : Nat) (st : List Hd) (A : Option Addr) (cc : Nat), k ≤ n ∧ b = .int .i64 k ∧ dd = .int .i64 d ∧ d ≤ k + 1 ∧ a = .slice A st.length cc ∧ OwnH w.heap.size wr (.slice A st.length cc) st ∧ Below w.heap.size w wr ∧ Vp.run st.reverse (l.drop k) = true ∧ deepG st.reverse d (l.drop k) = ans ∧ Fit st.reverse ∧ (∀ x ∈ st, x.left ≤ 9223372036854775807) ∧ st.length ≤ k + 1) (fun _ _ b _ => n - (intOf b).toNat)
  case atStart => exact ⟨0, 0, Vp.start, some ⟨g, 0, none⟩, cap, Nat.zero_le _, rfl, rfl, by omega, rfl, HO.out, hb1, HRUN.out, HANS.out, ⟨by decide, by simp⟩, by simp [Vp.start], by simp [Vp.start]⟩
  case round =>
    obtain ⟨k, d, st, A, cc, hk, rfl, rfl, hd, rfl, hos, hbw, hrun, hdp, hfit, hlf, hsl⟩ := hrel
    have HOS := Lib.hid hos
    have HR := Lib.hid hrun
    have HDP := Lib.hid hdp
    have HF := Lib.hid hfit
    have HLF := Lib.hid hlf
    clear hos hrun hdp hfit hlf
    by_cases hlt : k < n
    · obtain ⟨x, hx⟩ : ∃ a, l[k]? = some a := ⟨_, List.getElem?_eq_getElem (by rw [HN.out]; exact hlt)⟩
      obtain ⟨a0, a1, a2, a3, a4, a5⟩ := (HX.out k x hx).nd.below hgv hbw
      have HD : Hid (l.drop k = x :: l.drop (k + 1)) := Lib.hid (drop_at hx)
      have HFN : Hid (x.many ≤ 9223372036854775807) := Lib.hid (HFT.out x (List.mem_of_getElem? hx))
      clear hx
      rcases List.eq_nil_or_concat st with rfl | ⟨pre, h, rfl⟩
      · have := HR.out
        rw [HD.out] at this
        simp [Vp.run] at this
      · rw [List.concat_eq_append] at *
        have hrv : (pre ++ [h]).reverse = h :: pre.reverse := by simp
        rw [hrv] at HR HF HDP
        have hrr := HR.out
        rw [HD.out, run_cons, Bool.and_eq_true] at hrr
        have HR5 := Lib.hid hrr.2
        have HD5 : Hid (deepG (passH (h :: pre.reverse) x) (if cont x.kind = true then max d (pre.length + 1) else d) (l.drop (k + 1)) = ans) := Lib.hid (by rw [← HDP.out, HD.out, deepG_cons]; simp)
        clear hrr hrv
        have hh1 : 1 ≤ h.left := HF.out.1
        have hh2 : h.left ≤ 9223372036854775807 := HLF.out h (by simp)
        have hpl : (pre ++ [h]).length = pre.length + 1 := by simp
        rw [hpl] at hsl HOS ⊢
        clear hpl
        have HO0 : Hid (OwnH w.heap.size (wr.alloc (.cells #[.int .i64 x.kind, .int .i64 x.many, .string ⟨x.name.toArray⟩, .string ⟨x.s.toArray⟩, .bool x.neg, .int .i64 x.e] 35)) (.slice A (pre.length + 1) cc) (pre ++ [h])) := Lib.hid (HOS.out.alloc _)
        have HB0 : Hid (Below w.heap.size w (wr.alloc (.cells #[.int .i64 x.kind, .int .i64 x.many, .string ⟨x.name.toArray⟩, .string ⟨x.s.toArray⟩, .bool x.neg, .int .i64 x.e] 35))) := Lib.hid (hbw.alloc hbw.size _)
        have HFT5 : Hid (Fit (passH (h :: pre.reverse) x)) := Lib.hid (passH_fit HF.out)
        have HLF5 : Hid (∀ y ∈ (passH (h :: pre.reverse) x).reverse, y.left ≤ 9223372036854775807) := Lib.hid (fun y hy => passH_left (st := pre.reverse) (fun z hz => HLF.out z (by simpa [or_comm] using hz)) HFN.out y (List.mem_reverse.1 hy))
        have hln5 := passH_len (h :: pre.reverse) x
        simp only [List.length_cons, List.length_reverse] at hln5
        cases hcn : cont x.kind
        · have HCN := Lib.hid hcn
          rw [hcn] at HD5
          simp only [Bool.false_eq_true, if_false] at HD5
          clear hcn
          go_wp2_with fail
          refine (holdsParts_any _ _).mono ?_
          rintro e w' ⟨rfl, rfl⟩
          rw [HCN.out]
          go_wp2_with fail
          refine (pass_any _ pre h x _ w.heap.size HO0.out HB0.out.size (by omega) hh1 hh2).mono ?_
          rintro e5 w5 ⟨v5, rfl, ho5, hb5⟩
          obtain ⟨A5, c5, rfl, -, -, -⟩ := ho5.form
          have HO5 := Lib.hid ho5
          have HB5 := Lib.hid (HB0.out.trans hb5)
          clear ho5 hb5 a0 a1 a2 a3 a4 a5
          go_wp2_with fail
          go_roundw
          case rel => exact ⟨k + 1, d, (passH (h :: pre.reverse) x).reverse, A5, c5, by omega, by go_num, rfl, by omega, by rw [List.length_reverse], HO5.out, HB5.out, by rw [List.reverse_reverse, HR5.out], by rw [List.reverse_reverse, HD5.out], by rw [List.reverse_reverse]; exact HFT5.out, HLF5.out, by rw [List.length_reverse]; omega⟩
          case measure => simp [intOf]; omega
        · have HCN := Lib.hid hcn
          rw [hcn] at HD5
          simp only [if_true] at HD5
          clear hcn
          go_wp2_with fail
          refine (holdsParts_any _ _).mono ?_
          rintro e w' ⟨rfl, rfl⟩
          rw [HCN.out]
          go_wp2_with fail
          refine (pass_any _ pre h x _ w.heap.size HO0.out HB0.out.size (by omega) hh1 hh2).mono ?_
          rintro e5 w5 ⟨v5, rfl, ho5, hb5⟩
          obtain ⟨A5, c5, rfl, -, -, -⟩ := ho5.form
          have HO5 := Lib.hid ho5
          have HB5 := Lib.hid (HB0.out.trans hb5)
          clear ho5 hb5 a0 a1 a2 a3 a4 a5
          go_wp2_with fail
          go_roundw
          case rel => exact ⟨k + 1, max d (pre.length + 1), (passH (h :: pre.reverse) x).reverse, A5, c5, by omega, by go_num, by go_num, by omega, by rw [List.length_reverse], HO5.out, HB5.out, by rw [List.reverse_reverse, HR5.out], by rw [List.reverse_reverse, HD5.out], by rw [List.reverse_reverse]; exact HFT5.out, HLF5.out, by rw [List.length_reverse]; omega⟩
          case measure => simp [intOf]; omega
    · have HE : Hid (d = ans) := Lib.hid (by rw [← HDP.out, List.drop_of_length_le (by rw [HN.out]; omega), deepG])
      go_wp2
      go_ret
      exact ⟨ret_i64 (by rw [HE.out]), hbw⟩
end Go.Proofs.YtdibcamnoolnmaaGreatDoor

/-
  What the live question answers: true.
-/
namespace Go.Proofs.YtdibcamnoolnmaaGreatDoor
open Go.RowKit Np Rw Vp

def IsF (w : World) (l : List Nd) (n : Nat) (b : Bool) (e : Ending) (w' : World) : Prop := ∃ (A : Option Addr) (c : Nat), e = .returned (.tuple #[.slice A n c, .bool b]) ∧ Nds w' (.slice A n c) l ∧ Below w.heap.size w w'
theorem GivesF.is {w w' : World} {nm : List UInt8} {t : Tr Nd} {n : Nat} {e : Ending} (h : GivesF w nm t e w') (hn : (fieldV nm t).length = n) : IsF w (fieldV nm t) n (fieldB nm t) e w' := by
  obtain ⟨v, rfl, h1, h2⟩ := h
  obtain ⟨A, c, rfl, h4⟩ := h1
  rw [← hn]
  exact ⟨A, c, rfl, ⟨A, c, rfl, h4⟩, h2⟩

abbrev trueN : Nd := ⟨2, 0, [], [], false, 0⟩
def oneT : Tr Nd := .mk trueN []
def twoT : Tr Nd := arrT [oneT, oneT]
def obT : Tr Nd := objT [nmd [97] oneT, nmd [98] twoT]
theorem one_val : Val oneT := ⟨okT_mk.2 ⟨rfl, by simp⟩, by rw [oneT, rightT_mk]; rfl, rfl⟩
theorem two_val : Val twoT := val_arrT (by intro t ht; simp at ht; rw [ht]; exact one_val)
theorem vld_a : vld [97] = true := by decide
theorem vld_b : vld [98] = true := by decide
theorem ob_val : Val obT := val_objT (by
    intro t ht
    simp at ht
    rcases ht with rfl | rfl
    · exact ⟨okT_nmd one_val.ok, by rw [rightT_nmd]; exact one_val.rt⟩
    · exact ⟨okT_nmd two_val.ok, by rw [rightT_nmd]; exact two_val.rt⟩) ⟨by simp [Rise, nmd_name]; decide, by
    intro t ht
    simp at ht
    rcases ht with rfl | rfl
    · exact vld_a
    · exact vld_b⟩
def oneL : List Nd := [trueN]
def twoL : List Nd := [hdN 5 2, trueN, trueN]
def obL : List Nd := [hdN 6 2, nmN [97] trueN, nmN [98] (hdN 5 2), trueN, trueN]
theorem flat_one : flat oneT = oneL := by simp [oneT, oneL, flat]
theorem flat_two : flat twoT = twoL := by rw [twoT, flat_arrT]; simp [oneT, twoL, flat]
theorem flat_ob : flat obT = obL := by rw [obT, flat_objT]; simp [nmd, oneT, twoT, arrT, obL, flat]
theorem list_two : hdN 5 [oneL, oneL].length :: laid ([oneL, oneL].map fun l => ([], l)) = twoL := by decide
theorem srt_two : srt ([[98], [97]].zip [twoL, oneL]) = [([97], oneL), ([98], twoL)] := srt_of (List.Perm.swap _ _ _) (by simp [rises]; decide)
theorem objB_two : objB [[98], [97]] [twoL, oneL] = true := by
  rw [objB, okNames, List.all_cons, List.all_cons, vld_a, vld_b]; decide
theorem obj_two : objV [[98], [97]] [twoL, oneL] = obL ∧ objE [[98], [97]] [twoL, oneL] = 0 := by
  refine ⟨?_, by rw [objE, objB_two]; rfl⟩
  rw [objV, objB_two, if_pos rfl, srt_two]; decide
theorem obj_twice : objV [[98], [98]] [oneL, oneL] = [] ∧ objE [[98], [98]] [oneL, oneL] = 4 := by
  have : objB [[98], [98]] [oneL, oneL] = false := by simp [objB, okNames]
  exact ⟨by rw [objV, this]; rfl, by rw [objE, this]; rfl⟩
theorem mid_ob : midT [98] obT = [nmd [98] twoT] := by rw [midT, if_pos (show obT.nd.kind = 6 from rfl)]; simp [obT, objT, nmd_name]
theorem field_ob : fieldV [98] obT = twoL ∧ fieldB [98] obT = true := by
  refine ⟨?_, by rw [fieldB, mid_ob]; rfl⟩
  rw [fieldV, mid_ob, ← flat_two]
  show flat (nmd [] (nmd [98] twoT)) = _
  rw [nmd_val two_val]
theorem depth_ob : depth obT = 2 := by
  have h1 : depth oneT = 0 := by rw [depth_eq]; rfl
  have h2 : depth (nmd [97] oneT) = 0 := by rw [depth_eq]; rfl
  have h3 : depth (nmd [98] twoT) = 1 := by rw [depth_eq, if_pos (show cont (nmd [98] twoT).nd.kind = true from rfl), nmd_ks]; simp [twoT, arrT, h1]
  rw [depth_eq, if_pos (show cont obT.nd.kind = true from rfl)]
  simp [obT, objT, h2, h3]

end Go.Proofs.YtdibcamnoolnmaaGreatDoor

/-
  Words for the statements on values: what the live question is, and Els.
-/


/-
  What the library's Grow (of nothing) and Concat answer for rows of nodes.
-/
namespace Go.Proofs.YtdibcamnoolnmaaGreatDoor
open Go.RowKit Go.Shelf Np Rw Vp

theorem grow_any (n : Nat) (hn : n ≤ 200000) (w : World) : Calls Tryz.prog 133 #[.slice none 0 0, .int .i64 (n : Int)] w (OwnsN w []) := by
  rcases Nat.eq_zero_or_pos n with h0 | h0
  · subst h0
    have h := Any8.slices_Grow_room Tryz.growN none 0 0 0 w (by omega) (by omega) (by omega) (by omega)
    change Calls Tryz.prog 133 _ _ _ at h
    refine h.mono fun e w' ⟨h1, h2⟩ => ?_
    subst h1 h2
    exact ⟨_, rfl, Own.nil _, Below.refl _ _⟩
  · obtain ⟨i, hi, hz0, hz1, hz2⟩ := info_parts node_info
    have h := Any8.slices_Grow_grow Tryz.growN i _ hi hz0 (by rw [hz1]; decide) none 0 0 n [] w (by omega) (by omega) (by rw [hz2]; omega) (by omega) (by simp) (fun _ => rfl) (fun a ha => by cases ha)
    change Calls Tryz.prog 133 _ _ _ at h
    refine h.mono fun e w' ⟨h1, h2⟩ => ?_
    subst h1 h2
    have hge := grownCap_ge w (0 + n) 0 35
    refine ⟨_, rfl, ⟨by simp, .inr ⟨w.heap.size, grownCap w (0 + n) 0 35, _, rfl, Nat.le_refl _, heap_alloc_new w.drew _, Nat.zero_le _, grownCap_le_maxLen w _ _ _ (by unfold maxLen; omega), ?_, by simp⟩⟩, (Below.refl _ _).drew.alloc (by simp) _⟩
    simp only [Array.size_append, size_zeroCells]
    have hz6 : (Value.agg #[.int .i64 0, .int .i64 0, .string ⟨#[]⟩, .string ⟨#[]⟩, .bool false, .int .i64 0]).cells.size = 6 := rfl
    rw [hz6]
    change 0 + (0 + n - 0) * 6 + (grownCap w (0 + n) 0 35 - (0 + n)) * 6 = grownCap w (0 + n) 0 35 * 6
    omega

set_option maxRecDepth 100000 in
set_option maxHeartbeats 2000000 in
theorem concat_any (v : Value) (L : List (List Nd)) (w : World) (hv : Vls w v L) (hb1 : L.length ≤ 65536) (hb2 : (L.map List.length).sum ≤ 131072) :
    Calls Tryz.prog 87 #[v] w (OwnsN w L.flatten) := by
  obtain ⟨us, hul, hu, hur⟩ := hv
  obtain ⟨A, c, rfl, -, -, -, H⟩ := hu
  have HUL := Lib.hid hul
  have HU := Lib.hid hur
  have HH := Lib.hid H
  clear hur H
  rw [← hul] at hb1
  clear hul
  generalize hn : us.length = n at *
  have HN := Lib.hid hn; clear hn
  have HB2 := Lib.hid hb2
  clear hb2
  go_enter Tryz.func87, Tryz.ntmps87
  go_wp2
  go_loopw [3, 11] (fun nn i wr => ∃ k q : Nat, k ≤ n ∧ i = .int .i64 k ∧ nn = .int .i64 (q : Nat) ∧ q = ((L.take k).map List.length).sum ∧ q ≤ 131072 ∧ wr = w) (fun _ i _ => n - (intOf i).toNat)
  case atStart => exact ⟨0, 0, Nat.zero_le _, rfl, rfl, rfl, by omega, rfl⟩
  case round =>
    obtain ⟨k, q, hk, rfl, rfl, hq, hqb, rfl⟩ := hrel
    have HQ := Lib.hid hq
    clear hq
    by_cases hlt : k < n
    · obtain ⟨g, o, rfl, hg, hx⟩ := HH.out (by omega)
      obtain ⟨x, hxk⟩ : ∃ a, us[k]? = some a := ⟨_, List.getElem?_eq_getElem (by rw [HN.out]; exact hlt)⟩
      obtain ⟨a, ha⟩ : ∃ a, L[k]? = some a := ⟨_, List.getElem?_eq_getElem (by rw [← HUL.out]; exact hlt)⟩
      have a0 := (hx k x hxk).one
      have hra : Nds wr x a := HU.out k x a hxk ha
      have HQ2 : Hid (q + a.length = ((L.take (k + 1)).map List.length).sum) := Lib.hid (by rw [sum_take ha, HQ.out])
      have hqa : q + a.length ≤ 131072 := by have := sum_take_le L (k + 1); have := HB2.out; rw [HQ2.out]; omega
      clear ha hxk hx
      obtain ⟨B, c', rfl, -⟩ := hra
      go_wp2_with fail
      go_roundw
      case rel => exact ⟨k + 1, q + a.length, by omega, by go_num, by go_num, HQ2.out, by omega, by simp⟩
      case measure => simp [intOf]; omega
    · obtain ⟨wo, rfl⟩ : ∃ wo : World, wo = wr := ⟨_, rfl⟩
      go_wp2_with (go_at_call 133; refine (grow_any q (by omega) _).mono ?_; rintro e w1 ⟨v1, rfl, ho1, hB1⟩)
      have HO1 := Lib.hid ho1
      have HB1 := Lib.hid hB1
      clear ho1 hB1
      go_loopw [6, 27] (fun vv i wr => ∃ k : Nat, k ≤ n ∧ i = .int .i64 k ∧ OwnN wo.heap.size wr vv (L.take k).flatten ∧ Below wo.heap.size wo wr) (fun _ i _ => n - (intOf i).toNat)
      case atStart => exact ⟨0, Nat.zero_le _, rfl, HO1.out, HB1.out⟩
      case round =>
        obtain ⟨j, hj, rfl, hown, hbw⟩ := hrel
        have HO := Lib.hid hown
        have HBW := Lib.hid hbw
        by_cases hlt2 : j < n
        · obtain ⟨g, o, rfl, hg, hx⟩ := HH.out (by omega)
          obtain ⟨x, hxk⟩ : ∃ a, us[j]? = some a := ⟨_, List.getElem?_eq_getElem (by rw [HN.out]; exact hlt2)⟩
          obtain ⟨a, ha⟩ : ∃ a, L[j]? = some a := ⟨_, List.getElem?_eq_getElem (by rw [← HUL.out]; exact hlt2)⟩
          have a0 := (hbw.cell (p := ⟨g, o + j, none⟩) hg).trans (hx j x hxk).one
          have HRA : Hid (Nds wr x a) := Lib.hid ((HU.out j x a hxk ha).below hbw)
          have HS : Hid ((L.take (j + 1)).flatten = (L.take j).flatten ++ a) := Lib.hid (by rw [List.take_add_one, ha]; simp)
          have HLN : Hid ((L.take j).flatten.length + a.length ≤ 131072) := Lib.hid (by
            have h1 := sum_take ha
            have h2 := sum_take_le L (j + 1)
            have h3 := HB2.out
            rw [List.length_flatten]; omega)
          clear ha hxk hx hown hbw
          go_wp2_with (at_builtin; refine wpList_append_row (base := wo.heap.size) elNode rfl _ _ rfl rfl HO.out rfl HRA.out ?_ ?_ ?_ ?_)
          · have := HLN.out; unfold maxLen; omega
          · have := HLN.out; omega
          · exact HBW.out.size
          · intro A' c' w2 hown2 hg2 _
            have HO2 := Lib.hid hown2
            have HG2 := Lib.hid hg2
            clear hown2 hg2 a0
            generalize ((L.take j).flatten ++ a).length = q2 at HO2 ⊢
            go_wp2_with fail
            go_roundw
            case rel => exact ⟨j + 1, by omega, by go_num, by rw [HS.out]; exact HO2.out, HBW.out.trans (HO.out.kept HG2.out HBW.out.size)⟩
            case measure => simp [intOf]; omega
        · have HE : Hid (L.take j = L) := Lib.hid (List.take_of_length_le (by rw [← HUL.out]; omega))
          clear hown hbw
          go_wp2_with fail
          go_ret
          exact ⟨_, rfl, by have := HO.out; rwa [HE.out] at this, HBW.out⟩
end Go.Proofs.YtdibcamnoolnmaaGreatDoor

/-
  What val's With and Without answer, of an object.
-/
namespace Go.Proofs.YtdibcamnoolnmaaGreatDoor
open Go.RowKit Np Rw Vp

/-- A row of the call's own that begins with an object's node: how many parts it has can be written. -/
theorem head_end {gs : Nat} {w : World} {A : Option Addr} {N c K : Nat} {rest : List Nd} (h : OwnN gs w (.slice A N c) (hdN 6 K :: rest)) :
    ∃ g', A = some ⟨g', 0, none⟩ ∧ N = rest.length + 1 ∧ N ≤ c ∧ w.cell? ⟨g', 1, none⟩ = some (.int .i64 K) ∧ w.frozen? ⟨g', 1, none⟩ = false ∧ gs ≤ g' ∧
      ∀ K' : Nat, OwnN gs (w.setCell ⟨g', 1, none⟩ (.int .i64 (K' : Int))) (.slice (some ⟨g', 0, none⟩) N c) (hdN 6 K' :: rest) := by
  obtain ⟨hN, hc, -⟩ := h.cap
  obtain ⟨g', cap, hv, hb, -⟩ := h.opened (by simp)
  injection hv with e1 e2 e3
  subst e1 e3
  have h' : OwnN gs w (.slice (some ⟨g', 0, none⟩) (hdN 6 K :: rest).length c) (hdN 6 K :: rest) := by rw [← hN]; exact h
  have h1 : w.cell? ⟨g', 0 * 6 + 1, none⟩ = some (.int .i64 (K : Int)) := Own.cell ndc_len (k := 0) (j := 1) h' rfl rfl
  refine ⟨g', rfl, by rw [hN]; rfl, hc, by simpa using h1, h'.free 1, hb, fun K' => ?_⟩
  have h2 := Own.put ndc_len (k := 0) (j := 1) (y := hdN 6 K') (u := .int .i64 (K' : Int)) h' rfl (by decide) rfl
  rw [hN]
  simpa using h2

end Go.Proofs.YtdibcamnoolnmaaGreatDoor

/-
  What the document's own answers Field, Without and With are, and the walk of the statement ValFields: it returns true. (One text, as a claim holds 60 files at most.)
-/
namespace Go.Proofs.YtdibcamnoolnmaaGreatDoor
open Go.RowKit Np Rw Vp

theorem field_none {t : Tr Nd} {nm : List UInt8} (h : ∀ j s, j < (namesT t).length → (namesT t)[j]? = some s → s ≠ nm) : midT nm t = [] := by
  rw [midT]
  by_cases hk : t.nd.kind = 6
  · rw [if_pos hk]
    refine List.filter_eq_nil_iff.2 fun u hu => ?_
    obtain ⟨j, hj, rfl⟩ := List.getElem_of_mem hu
    have h1 := h j (t.ks[j].nd.name) (by rw [namesT, if_pos hk, List.length_map]; exact hj) (by rw [namesT, if_pos hk, List.getElem?_map, List.getElem?_eq_getElem hj]; rfl)
    simpa using h1
  · rw [if_neg hk]
theorem field_hit {t : Tr Nd} {nm : List UInt8} {k : Nat} (h : ∀ j s, j < k → (namesT t)[j]? = some s → s ≠ nm) (hk : (namesT t)[k]? = some nm) : ∃ u, t.ks[k]? = some u ∧ fieldV nm t = flat (nmd [] u) ∧ fieldB nm t = true := by
  by_cases h6 : t.nd.kind = 6
  · rw [namesT, if_pos h6] at h hk
    rw [List.getElem?_map] at hk
    cases hu : t.ks[k]? with
    | none => rw [hu] at hk; cases hk
    | some u =>
      rw [hu] at hk
      injection hk with hk
      have hs := flat_split_at hu
      have hf : (t.ks.take k).filter (fun u => decide (u.nd.name = nm)) = [] := by
        refine List.filter_eq_nil_iff.2 fun x hx => ?_
        obtain ⟨j, hj, rfl⟩ := List.getElem_of_mem hx
        rw [List.length_take] at hj
        have h1 := h j (t.ks[j]'(by omega)).nd.name (by omega) (by rw [List.getElem?_map, List.getElem?_eq_getElem (by omega)]; rfl)
        simpa using h1
      have hm : midT nm t = u :: (t.ks.drop (k + 1)).filter (fun u => decide (u.nd.name = nm)) := by
        rw [midT, if_pos h6]
        conv => lhs; rw [hs]
        rw [List.filter_append, hf, List.nil_append, List.filter_cons_of_pos (by simpa using hk)]
      exact ⟨u, rfl, by rw [fieldV, hm], by rw [fieldB, hm]; rfl⟩
  · rw [namesT, if_neg h6] at hk
    cases hk

set_option maxRecDepth 100000 in
set_option maxHeartbeats 4000000 in
theorem refField_any (v : Value) (t : Tr Nd) (nm : List UInt8) (w : World) (hv : Nds w v (flat t)) (hl : (flat t).length ≤ 65536) (ht : Val t) :
    Calls Tryz.prog 132 #[v, .string ⟨nm.toArray⟩] w (GivesF w nm t) := by
  have HN := Lib.hid (refNames_any v t w hv hl ht)
  have HP := Lib.hid (fun (W : World) (hb : Below w.heap.size w W) => refParts_any v t W (hv.below hb) hl ht)
  clear hv hl ht
  go_enter Tryz.func132, Tryz.ntmps132
  go_wp2_with fail
  refine HN.out.mono ?_
  rintro e w1 ⟨v1, rfl, hp1, hb1⟩
  obtain ⟨A, c, rfl, hc, hcm, -, H⟩ := hp1
  have HH := Lib.hid H
  have HB1 := Lib.hid hb1
  have hcc : (namesT t).length ≤ maxLen := by omega
  unfold maxLen at hcc hcm
  clear H hb1
  generalize hn : (namesT t).length = n at *
  have HNN := Lib.hid hn
  clear hn
  go_wp2_with fail
  go_loopw [7] (fun i wr => ∃ k : Nat, k ≤ n ∧ i = .int .i64 k ∧ Below w1.heap.size w1 wr ∧ (∀ j s, j < k → (namesT t)[j]? = some s → s ≠ nm)) (fun i _ => n - (intOf i).toNat)
  case atStart => exact ⟨0, Nat.zero_le _, rfl, Below.refl _ _, fun j s h => absurd h (by omega)⟩
  case round =>
    obtain ⟨k, hk, rfl, hbr, hall⟩ := hrel
    have HBR := Lib.hid hbr
    have HALL := Lib.hid hall
    clear hbr hall
    by_cases hlt : k < n
    · obtain ⟨g, o, rfl, hg, hx⟩ := HH.out (by omega)
      obtain ⟨s, hs⟩ : ∃ a, (namesT t)[k]? = some a := ⟨_, List.getElem?_eq_getElem (by rw [HNN.out]; exact hlt)⟩
      have n0 := (HBR.out.cell (p := ⟨g, o + k, none⟩) hg).trans (hx k _ hs).st
      have HS := Lib.hid hs
      have hki : (k : Int) < n := by omega
      clear hx hs
      by_cases he : s = nm
      · subst he
        obtain ⟨u, hu, hfv, hfb⟩ := field_hit HALL.out HS.out
        have HU := Lib.hid hu
        have HFV := Lib.hid hfv
        have HFB := Lib.hid hfb
        clear hu hfv hfb
        go_wp2_with fail
        refine (HP.out _ (Below.after HB1.out HBR.out)).mono ?_
        rintro e w2 ⟨v2, rfl, hp2, hb2⟩
        obtain ⟨us, hul, ⟨A2, c2, rfl, hc2, hcm2, -, H2⟩, hur⟩ := hp2
        have hku : k < us.length := by
          rw [hul, List.length_map]
          exact (List.getElem?_eq_some_iff.1 HU.out).1
        obtain ⟨x, hxk⟩ : ∃ a, us[k]? = some a := ⟨_, List.getElem?_eq_getElem hku⟩
        obtain ⟨g2, o2, rfl, hg2, hx2⟩ := H2 (by omega)
        have x0 := (hx2 k x hxk).one
        have HX := Lib.hid (hur k x _ hxk (by rw [List.getElem?_map, HU.out]; rfl))
        have HB2 := Lib.hid (Below.after (Below.after HB1.out HBR.out) hb2)
        have hki2 : (k : Int) < us.length := by omega
        clear hul hur H2 hb2 hx2 hxk
        generalize us.length = m at *
        go_wp2_with fail
        go_ret2
        exact ⟨x, by rw [HFB.out]; rfl, by rw [HFV.out]; exact HX.out, HB2.out⟩
      · have hne : (s == nm) = false := by simp [he]
        have HNE := Lib.hid he
        clear he
        go_wp2_with fail
        go_roundw
        case rel => exact ⟨k + 1, by omega, by go_num, HBR.out, fun j s' hj hs' => if e : j = k then by
            subst e
            rw [HS.out] at hs'
            injection hs' with hs'
            rw [← hs']; exact HNE.out
          else HALL.out j s' (by omega) hs'⟩
        case measure => simp [intOf]; omega
    · have HMID := Lib.hid (field_none (t := t) (nm := nm) (fun j s hj => HALL.out j s (by rw [HNN.out] at hj; omega)))
      go_wp2_with fail
      go_ret2
      exact GivesF.no HMID.out rfl (Below.after HB1.out HBR.out)

/-- The places of the other names. -/
def kept (names : List (List UInt8)) (nm : List UInt8) (k : Nat) : List Nat := (List.range k).filter (fun j => decide (atN names j ≠ nm))
theorem kept_same {names : List (List UInt8)} {nm : List UInt8} {k : Nat} (h : atN names k = nm) : kept names nm (k + 1) = kept names nm k := by
  unfold kept
  rw [List.range_succ, List.filter_append]
  have : List.filter (fun j => decide (atN names j ≠ nm)) [k] = [] := List.filter_eq_nil_iff.2 (fun x hx => by
    have := List.mem_singleton.1 hx
    subst this; simpa using h)
  rw [this, List.append_nil]
theorem kept_other {names : List (List UInt8)} {nm : List UInt8} {k : Nat} (h : atN names k ≠ nm) : kept names nm (k + 1) = kept names nm k ++ [k] := by
  unfold kept
  rw [List.range_succ, List.filter_append]
  have : List.filter (fun j => decide (atN names j ≠ nm)) [k] = [k] := List.filter_eq_self.2 (fun x hx => by
    have := List.mem_singleton.1 hx
    subst this; simpa using h)
  rw [this]
theorem kept_lt {names : List (List UInt8)} {nm : List UInt8} {k i : Nat} (h : i ∈ kept names nm k) : i < k := by
  have := (List.mem_filter.1 h).1
  simpa using this
theorem kept_len (names : List (List UInt8)) (nm : List UInt8) (k : Nat) : (kept names nm k).length ≤ k := by
  have := List.length_filter_le (fun j => decide (atN names j ≠ nm)) (List.range k)
  rw [List.length_range] at this
  exact this
theorem kept_zip (names : List (List UInt8)) (L : List (List Nd)) (nm : List UInt8) (h : names.length = L.length) : ((kept names nm names.length).map fun j => (atN names j, atL L j)) = (names.zip L).filter (fun x => decide (x.1 ≠ nm)) := by
  rw [← range_zip names L h, List.filter_map]; rfl
theorem less_ks {t : Tr Nd} {nm : List UInt8} (h : Val t) (hk : t.nd.kind = 6) : t.ks.filter (fun u => decide (u.nd.name ≠ nm)) = (lessT nm t).ks := by
  have hc := h.cut hk nm
  have hne : ∀ {a b : List UInt8}, a < b → a ≠ b := fun h1 h2 => List.lt_irrefl _ (h2 ▸ h1)
  show _ = loT nm t.ks ++ ([] ++ hiT nm t.ks)
  conv => lhs; rw [hc.all]
  rw [List.filter_append, List.filter_append, List.filter_eq_self.2 (fun u hu => by simpa using hne (hc.lo u hu)), List.filter_eq_nil_iff.2 (fun u hu => by simpa using hc.eq u hu), List.filter_eq_self.2 (fun u hu => by simpa using (hne (hc.hi u hu)).symm)]
theorem kept_less {t : Tr Nd} {nm : List UInt8} (h : Val t) (hk : t.nd.kind = 6) :
    (kept (t.ks.map fun k => k.nd.name) nm (t.ks.map fun k => k.nd.name).length).map (atN (t.ks.map fun k => k.nd.name)) = (lessT nm t).ks.map (fun k => k.nd.name) ∧
    (kept (t.ks.map fun k => k.nd.name) nm (t.ks.map fun k => k.nd.name).length).map (atL (t.ks.map fun k => flat (nmd [] k))) = (lessT nm t).ks.map (fun k => flat (nmd [] k)) := by
  have h1 := kept_zip (t.ks.map fun k => k.nd.name) (t.ks.map fun k => flat (nmd [] k)) nm (by simp)
  rw [List.zip_map', List.filter_map] at h1
  have h2 : ((kept (t.ks.map fun k => k.nd.name) nm (t.ks.map fun k => k.nd.name).length).map fun j => (atN (t.ks.map fun k => k.nd.name) j, atL (t.ks.map fun k => flat (nmd [] k)) j)) = (t.ks.filter (fun u => decide (u.nd.name ≠ nm))).map (fun k => (k.nd.name, flat (nmd [] k))) := h1
  rw [less_ks h hk] at h2
  constructor
  · have := congrArg (List.map Prod.fst) h2
    rw [List.map_map, List.map_map] at this; exact this
  · have := congrArg (List.map Prod.snd) h2
    rw [List.map_map, List.map_map] at this; exact this
theorem sum_parts : ∀ us : List (Tr Nd), ((us.map fun k => flat (nmd [] k)).map List.length).sum = (flats us).length
  | [] => rfl
  | k :: us => by rw [flats_cons, List.length_append, ← sum_parts us]; simp [flat_nmd_len]

set_option maxRecDepth 100000 in
set_option maxHeartbeats 4000000 in
theorem refWithout_any (v : Value) (t : Tr Nd) (nm : List UInt8) (w : World) (hv : Nds w v (flat t)) (hl : (flat t).length ≤ 65536) (ht : Val t) (hk : t.nd.kind = 6) :
    Calls Tryz.prog 117 #[v, .string ⟨nm.toArray⟩] w (OwnsN w (flat (lessT nm t))) := by
  have hN := refNames_own v t w hv hl ht
  rw [namesT, if_pos hk] at hN
  have HN := Lib.hid hN
  have HP := Lib.hid (fun (W : World) (hb : Below w.heap.size w W) => refParts_own v t W (hv.below hb) hl ht)
  have HKL := Lib.hid (kept_less (nm := nm) ht hk)
  have hnl : (t.ks.map fun k => k.nd.name).length ≤ 65536 := by
    have h1 := flats_len t.ks
    rw [flat_eq] at hl
    simp at hl ⊢
    omega
  have HSUM : Hid (((lessT nm t).ks.map fun k => flat (nmd [] k)).length ≤ 65536 ∧ (((lessT nm t).ks.map fun k => flat (nmd [] k)).map List.length).sum ≤ 131072) := Lib.hid (by
    have h1 := len_parts ht hk nm
    have h2 := len_less nm t
    rw [sum_parts]
    rw [show flat (lessT nm t) = hdN 6 (lessT nm t).ks.length :: flats (lessT nm t).ks from flat_objT _, List.length_cons] at h2
    have h3 := flats_len (lessT nm t).ks
    simp only [List.length_map]
    omega)
  have HANS : Hid (hdN 6 ((lessT nm t).ks.map fun k => flat (nmd [] k)).length :: laid (((lessT nm t).ks.map fun k => k.nd.name).zip ((lessT nm t).ks.map fun k => flat (nmd [] k))) = flat (lessT nm t)) := Lib.hid (by
    rw [laid_named, List.length_map]; exact (flat_objT _).symm)
  have HNE : Hid (∀ l ∈ ((lessT nm t).ks.map fun k => flat (nmd [] k)), l ≠ []) := Lib.hid (fun l hl e => by
    obtain ⟨k, hk, rfl⟩ := List.mem_map.1 hl
    have := flat_pos (nmd [] k)
    rw [e] at this
    exact absurd this (by simp))
  have HLL : Hid ((t.ks.map fun k => k.nd.name).length = (t.ks.map fun k => flat (nmd [] k)).length) := Lib.hid (by simp)
  have HLQ : Hid (((lessT nm t).ks.map fun k => k.nd.name).length = ((lessT nm t).ks.map fun k => flat (nmd [] k)).length) := Lib.hid (by simp)
  clear hN hv hl ht hk
  generalize (lessT nm t).ks.map (fun k => flat (nmd [] k)) = LQ at *
  generalize (lessT nm t).ks.map (fun k => k.nd.name) = NQ at *
  generalize (t.ks.map fun k => flat (nmd [] k)) = L at *
  generalize (t.ks.map fun k => k.nd.name) = names at *
  generalize flat (lessT nm t) = ans at *
  go_enter Tryz.func117, Tryz.ntmps117
  go_wp2_with fail
  refine HN.out.mono ?_
  rintro e w1 ⟨v1, rfl, ho1, hb1⟩
  have HO1 := Lib.hid ho1
  have HB1 := Lib.hid hb1
  clear ho1 hb1
  go_wp2_with fail
  refine (HP.out _ HB1.out).mono ?_
  rintro e w2 ⟨v2, zs, rfl, ho2, he2, hb2⟩
  have HE : Hid (Els w2 zs L) := Lib.hid ⟨he2.1, fun k z l a b => (he2.2 k z l a b).row ndc_len⟩
  obtain ⟨A, c, rfl, hc, hcm, -, H⟩ := (HO1.out.row stc_len).below hb2
  obtain ⟨A2, c2, rfl, hc2, hcm2, -, H2⟩ := ho2.row slc_len
  have HB2 := Lib.hid (Below.after HB1.out hb2)
  have hzl : zs.length = names.length := by rw [HE.out.1, HLL.out]
  rw [hzl] at H2 hc2 ⊢
  have HH := Lib.hid H
  have HH2 := Lib.hid H2
  have HZL := Lib.hid hzl
  clear ho2 he2 hb2 H H2 hzl
  have HS0 : Hid (Own stc 1 9 w2.heap.size ((w2.alloc (.cells #[] 9)).alloc (.cells #[] 50)) (.slice (some ⟨w2.heap.size, 0, none⟩) 0 0) []) := Lib.hid ((Own.lit (base := w2.heap.size) (E := 9) stc_len w2 #[] [] (Nat.le_refl _) (by simp) rfl).alloc _)
  have HZ0 : Hid (Own slc 1 50 w2.heap.size ((w2.alloc (.cells #[] 9)).alloc (.cells #[] 50)) (.slice (some ⟨w2.heap.size + 1, 0, none⟩) 0 0) []) := Lib.hid (by
    have := Own.lit (base := w2.heap.size) (E := 50) slc_len (w2.alloc (.cells #[] 9)) #[] [] (by simp) (by simp) rfl
    simpa using this)
  generalize hn : names.length = n at *
  have HNN := Lib.hid hn
  clear hn
  go_wp2_with fail
  go_loopw [7, 8, 9] (fun sv zv i wr => ∃ k : Nat, k ≤ n ∧ i = .int .i64 k ∧ Own stc 1 9 w2.heap.size wr sv ((kept names nm k).map (atN names)) ∧ Own slc 1 50 w2.heap.size wr zv ((kept names nm k).map fun j => zs.getD j (none, 0, 0)) ∧ Below w2.heap.size w2 wr) (fun _ _ i _ => n - (intOf i).toNat)
  case atStart => exact ⟨0, Nat.zero_le _, rfl, HS0.out, HZ0.out, ((Below.refl _ _).alloc (Nat.le_refl _) _).alloc (by simp) _⟩
  case round =>
    obtain ⟨k, hk, rfl, hs, hz, hb⟩ := hrel
    obtain ⟨As, cs, rfl, hcs, hcs2, -⟩ := hs.form
    obtain ⟨Az, cz, rfl, hcz, hcz2, -⟩ := hz.form
    have hpl := kept_len names nm k
    have HPL := Lib.hid (fun (i : Nat) (h : i ∈ kept names nm k) => kept_lt h)
    have HKQ := Lib.hid (fun (h : k = n) => (by rw [← h] at HKL; exact HKL.out : (kept names nm k).map (atN names) = NQ ∧ (kept names nm k).map (atL L) = LQ))
    have HKS := Lib.hid (kept_same (names := names) (nm := nm) (k := k))
    have HKO := Lib.hid (kept_other (names := names) (nm := nm) (k := k))
    generalize kept names nm k = p at hs hz hpl HPL HKQ HKS HKO hcs hcz ⊢
    simp only [List.length_map] at hs hz hcs hcz ⊢
    have HS := Lib.hid hs
    have HZ := Lib.hid hz
    have HB := Lib.hid hb
    clear hs hz hb
    by_cases hlt : k < n
    · obtain ⟨g, o, rfl, hg, hx⟩ := HH.out (by omega)
      obtain ⟨g2, o2, rfl, hg2, hx2⟩ := HH2.out (by omega)
      have hkx : names[k]? = some (atN names k) := by rw [atN, List.getD_eq_getElem?_getD, List.getElem?_eq_getElem (by rw [HNN.out]; exact hlt)]; rfl
      obtain ⟨zb, hzb⟩ : ∃ a, zs[k]? = some a := ⟨_, List.getElem?_eq_getElem (by rw [HZL.out]; exact hlt)⟩
      have n0 := (HB.out.cell (p := ⟨g, o + k, none⟩) hg).trans (hx k _ hkx).st
      have HZW : Hid (w2.cell? ⟨g2, o2 + k, none⟩ = some (.slice zb.1 zb.2.1 zb.2.2)) := Lib.hid (hx2 k zb hzb).one
      have HNW : Hid (w2.cell? ⟨g, o + k, none⟩ = some (.string ⟨(atN names k).toArray⟩)) := Lib.hid (hx k _ hkx).st
      have HZB : Hid (zs.getD k (none, 0, 0) = zb) := Lib.hid (by rw [List.getD_eq_getElem?_getD, hzb]; rfl)
      have hki : (k : Int) < n := by omega
      clear hkx hzb hx hx2
      generalize hans : atN names k = nb at n0 HNW HKS HKO
      have HNB := Lib.hid hans
      clear hans
      by_cases he : nb = nm
      · have HSK := Lib.hid (HKS.out he)
        subst he
        go_wp2_with fail
        go_roundw
        case rel => exact ⟨k + 1, by omega, by go_num, by rw [HSK.out]; exact HS.out, by rw [HSK.out]; exact HZ.out, HB.out⟩
        case measure => simp [intOf]; omega
      · have hne : (nb == nm) = false := by simp [he]
        have HOK := Lib.hid (HKO.out he)
        clear he
        go_wp2_with (at_builtin; refine wpList_append_row (base := w2.heap.size) elText rfl _ _ rfl rfl (HS.out.alloc _) rfl (row_one stc_len wr _ rfl 9 #[.string ⟨nb.toArray⟩] nb rfl) ?_ ?_ ?_ ?_)
        · unfold maxLen; simp; omega
        · simp; omega
        · have := HB.out.size; simp; omega
        · intro A4 c4 w4 hown4 hg4 hwh
          clear hwh
          have HS4 : Hid (Own stc 1 9 w2.heap.size w4 (.slice A4 (p.length + 1) c4) ((p ++ [k]).map (atN names))) := Lib.hid (by rw [List.map_append]; show Own _ _ _ _ _ _ (p.map (atN names) ++ [atN names k]); rw [HNB.out]; simpa using hown4)
          have HZ4 := Lib.hid (Own.aside (HZ.out.alloc _) (HS.out.alloc _) (by decide) hg4)
          have HB4 : Hid (Below w2.heap.size w2 w4) := Lib.hid ((HB.out.alloc HB.out.size _).trans ((HS.out.alloc _).kept hg4 (by have := HB.out.size; simp; omega)))
          clear hown4 hg4 n0
          have z4 := (HB4.out.cell (p := ⟨g2, o2 + k, none⟩) hg2).trans HZW.out
          try simp only [List.length_map]
          go_wp2_with (at_builtin; refine wpList_append_row (base := w2.heap.size) elVal rfl _ _ rfl rfl (HZ4.out.alloc _) rfl (row_one slc_len w4 _ rfl 50 #[.slice zb.1 zb.2.1 zb.2.2] zb rfl) ?_ ?_ ?_ ?_)
          · unfold maxLen; simp; omega
          · simp; omega
          · have := HB4.out.size; simp; omega
          · intro A5 c5 w5 hown5 hg5 hwh
            clear hwh
            have HZ5 : Hid (Own slc 1 50 w2.heap.size w5 (.slice A5 (p.length + 1) c5) ((p ++ [k]).map fun j => zs.getD j (none, 0, 0))) := Lib.hid (by rw [List.map_append]; show Own _ _ _ _ _ _ ((p.map fun j => zs.getD j (none, 0, 0)) ++ [zs.getD k (none, 0, 0)]); rw [HZB.out]; simpa using hown5)
            have HS5 := Lib.hid (Own.aside (HS4.out.alloc _) (HZ4.out.alloc _) (by decide) hg5)
            have HB5 : Hid (Below w2.heap.size w2 w5) := Lib.hid ((HB4.out.alloc HB4.out.size _).trans ((HZ4.out.alloc _).kept hg5 (by have := HB4.out.size; simp; omega)))
            clear hown5 hg5 z4
            try simp only [List.length_map]
            go_wp2_with fail
            go_roundw
            case rel => exact ⟨k + 1, by omega, by go_num, by rw [HOK.out]; exact HS5.out, by rw [HOK.out]; exact HZ5.out, HB5.out⟩
            case measure => simp [intOf]; omega
    · have hkn : k = n := by omega
      obtain ⟨h1, h2⟩ := HKQ.out hkn
      obtain ⟨wo, rfl⟩ : ∃ wo : World, wo = wr := ⟨_, rfl⟩
      have HS1 : Hid (Sts wo (.slice As p.length cs) NQ) := Lib.hid (by rw [← h1]; exact HS.out.row stc_len)
      have HV1 : Hid (Vls wo (.slice Az p.length cz) LQ) := Lib.hid (by
        rw [← h2]
        refine Els.vls (zs := p.map fun j => zs.getD j (none, 0, 0)) ⟨by simp, fun q z l hz hl => ?_⟩ (HZ.out.row slc_len)
        rw [List.getElem?_map] at hz hl
        cases hi : p[q]? with
        | none => rw [hi] at hz; cases hz
        | some i =>
          rw [hi] at hz hl
          injection hz with hz
          injection hl with hl
          have hin := HPL.out i (List.mem_of_getElem? hi)
          have hx := HE.out.2 i z l (by rw [← hz]; show zs[i]? = some (zs.getD i (none, 0, 0)); rw [List.getD_eq_getElem?_getD, List.getElem?_eq_getElem (by rw [HZL.out]; omega)]; rfl) (by rw [← hl]; show L[i]? = some (L.getD i []); rw [List.getD_eq_getElem?_getD, List.getElem?_eq_getElem (by rw [← HLL.out]; omega)]; rfl)
          exact hx.below HB.out)
      have HQ := Lib.hid (refNamed_any _ _ _ _ _ HS1.out HV1.out HLQ.out HSUM.out.1 HSUM.out.2 HNE.out)
      clear h1 h2 hkn hpl hcs hcz
      go_wp2_with fail
      refine HQ.out.mono ?_
      rintro e w3 ⟨v3, rfl, ho3, hB3⟩
      have HO3 := Lib.hid ho3
      have HB3 := Lib.hid hB3
      clear ho3 hB3
      go_wp2_with fail
      go_ret
      exact ⟨_, rfl, by rw [← HANS.out]; exact HO3.out.mono (Nat.le_trans HB2.out.size HB.out.size), Below.after HB2.out (Below.after HB.out HB3.out)⟩

theorem objV_perm {ts us : List (Tr Nd)} (hp : ts.Perm us) (hB : objB (us.map fun k => k.nd.name) (us.map fun k => flat (nmd [] k)) = true) :
    objV (ts.map fun k => k.nd.name) (ts.map fun k => flat (nmd [] k)) = objV (us.map fun k => k.nd.name) (us.map fun k => flat (nmd [] k)) := by
  obtain ⟨h1, h2, h3⟩ := objB_iff.1 hB
  have h2' : (ts.map fun k => k.nd.name).Nodup := (hp.map _).nodup_iff.2 h2
  have hA : objB (ts.map fun k => k.nd.name) (ts.map fun k => flat (nmd [] k)) = true := objB_iff.2 ⟨by simp, h2', fun s hs => h3 s ((hp.map _).mem_iff.1 hs)⟩
  have hz : ((ts.map fun k => k.nd.name).zip (ts.map fun k => flat (nmd [] k))).Perm ((us.map fun k => k.nd.name).zip (us.map fun k => flat (nmd [] k))) := by
    rw [List.zip_map', List.zip_map']; exact hp.map _
  rw [objV, objV, if_pos hA, if_pos hB, srt_perm hz (by rw [zip_keys (by simp)]; exact h2'), List.length_map, List.length_map, hp.length_eq]
theorem with_obj {t x : Tr Nd} {nm : List UInt8} (h : Val t) (hk : t.nd.kind = 6) (hx : Val x) (hn : vld nm = true) :
    objV ((lessT nm t).ks.map (fun k => k.nd.name) ++ [nm]) ((lessT nm t).ks.map (fun k => flat (nmd [] k)) ++ [flat x]) = flat (withT nm x t) := by
  obtain ⟨hb, hv⟩ := obj_again (val_put h hk hx hn) (show (withT nm x t).nd.kind = 6 from rfl)
  have hp : ((lessT nm t).ks ++ [nmd nm x]).Perm (withT nm x t).ks := by
    show ((loT nm t.ks ++ ([] ++ hiT nm t.ks)) ++ [nmd nm x]).Perm (loT nm t.ks ++ ([nmd nm x] ++ hiT nm t.ks))
    rw [List.nil_append, List.append_assoc]
    exact List.Perm.append_left _ List.perm_append_comm
  have h1 := objV_perm hp hb
  rw [hv, List.map_append, List.map_append] at h1
  rw [← h1]
  congr 2
  show [flat x] = [flat (nmd [] (nmd nm x))]
  rw [nmd_nmd, ← hx.nm, nmd_self]

theorem els_snoc {w : World} {zs : List (Option Addr × Nat × Nat)} {L : List (List Nd)} {z : Option Addr × Nat × Nat} {l : List Nd} (h : Els w zs L) (hz : Nds w (.slice z.1 z.2.1 z.2.2) l) : Els w (zs ++ [z]) (L ++ [l]) := by
  refine ⟨by simp [h.1], fun k y m h1 h2 => ?_⟩
  rcases Nat.lt_trichotomy k zs.length with hk | hk | hk
  · rw [List.getElem?_append_left hk] at h1
    rw [List.getElem?_append_left (by rw [← h.1]; exact hk)] at h2
    exact h.2 k y m h1 h2
  · subst hk
    rw [List.getElem?_append_right (Nat.le_refl _)] at h1
    rw [h.1, List.getElem?_append_right (Nat.le_refl _)] at h2
    simp at h1 h2
    subst h1 h2
    exact hz
  · rw [List.getElem?_eq_none (by simp; omega)] at h1; cases h1

set_option maxRecDepth 100000 in
set_option maxHeartbeats 4000000 in
theorem refWith_any (v p : Value) (t x : Tr Nd) (nm : List UInt8) (w : World) (hv : Nds w v (flat t)) (hp : Nds w p (flat x)) (hl : (flat t).length ≤ 500) (hlx : (flat x).length ≤ 500) (ht : Val t) (hk : t.nd.kind = 6) (hx : Val x) (hn : vld nm = true) (hnm : nm.length ≤ maxLen) (hsh : ∀ s ∈ t.ks.map (fun k => k.nd.name), s.length ≤ maxLen) :
    Calls Tryz.prog 72 #[v, .string ⟨nm.toArray⟩, p] w (OwnsN w (flat (withT nm x t))) := by
  have hlen := len_parts ht hk nm
  have hlen2 := len_less nm t
  have HLL : Hid ((flat (lessT nm t)).length ≤ 500) := Lib.hid (by omega)
  have HW := Lib.hid (refWithout_any v t nm w hv (by omega) ht hk)
  have HVL := Lib.hid (val_less (nm := nm) ht hk)
  have HANS := Lib.hid (with_obj ht hk hx hn)
  have hnT : namesT (lessT nm t) = (lessT nm t).ks.map fun k => k.nd.name := by rw [namesT, if_pos (show (lessT nm t).nd.kind = 6 from rfl)]
  have HN := Lib.hid (fun (v1 : Value) (W : World) (h : Nds W v1 (flat (lessT nm t))) => (by have := refNames_own v1 (lessT nm t) W h (by have := HLL.out; omega) HVL.out; rwa [hnT] at this : Calls Tryz.prog 118 #[v1] W (OwnsS W ((lessT nm t).ks.map fun k => k.nd.name))))
  have HP := Lib.hid (fun (v1 : Value) (W : World) (h : Nds W v1 (flat (lessT nm t))) => refParts_own v1 (lessT nm t) W h (by have := HLL.out; omega) HVL.out)
  have hfl : (flat (lessT nm t)).length = 1 + (flats (lessT nm t).ks).length := by
    rw [show flat (lessT nm t) = hdN 6 (lessT nm t).ks.length :: flats (lessT nm t).ks from flat_objT _, List.length_cons]; omega
  have h3 := flats_len (lessT nm t).ks
  have hq1 : ((lessT nm t).ks.map fun k => k.nd.name).length ≤ 500 := by rw [List.length_map]; omega
  have HQ2 : Hid ((((lessT nm t).ks.map fun k => flat (nmd [] k)).map List.length).sum ≤ 500) := Lib.hid (by rw [sum_parts]; omega)
  have HQ3 : Hid (((lessT nm t).ks.map fun k => k.nd.name).length = ((lessT nm t).ks.map fun k => flat (nmd [] k)).length) := Lib.hid (by simp)
  have HQ4 : Hid (∀ l ∈ ((lessT nm t).ks.map fun k => flat (nmd [] k)), l ≠ []) := Lib.hid (fun l hl e => by
    obtain ⟨k, hk, rfl⟩ := List.mem_map.1 hl
    have := flat_pos (nmd [] k)
    rw [e] at this
    exact absurd this (by simp))
  have HQ5 : Hid (∀ s ∈ ((lessT nm t).ks.map fun k => k.nd.name), s.length ≤ maxLen) := Lib.hid (fun s hs => by
    obtain ⟨k, hk', rfl⟩ := List.mem_map.1 hs
    rw [← less_ks ht hk] at hk'
    exact hsh _ (List.mem_map_of_mem (List.mem_filter.1 hk').1))
  have HPX := Lib.hid hp
  have HLX := Lib.hid hlx
  have HNM := Lib.hid hnm
  have HXP := Lib.hid (flat_pos x)
  obtain ⟨Ap, cp, rfl, -⟩ := hp
  generalize hR : (lessT nm t).ks.map (fun k => flat (nmd [] k)) = L at *
  generalize hR2 : (lessT nm t).ks.map (fun k => k.nd.name) = names at *
  generalize flat (lessT nm t) = fl at *
  generalize flat (withT nm x t) = ans at *
  clear hR hR2 hv hl hlx ht hk hx hn hnm hsh hlen hlen2 hnT hfl h3
  generalize hfx : flat x = fx at *
  clear hfx
  generalize hxl : fx.length = xl at *
  have HXL := Lib.hid hxl
  clear hxl
  generalize hnn : names.length = n at *
  have HNN := Lib.hid hnn
  clear hnn
  go_enter Tryz.func72, Tryz.ntmps72
  go_wp2_with fail
  refine HW.out.mono ?_
  rintro e w1 ⟨v1, rfl, ho1, hb1⟩
  have HL1 := Lib.hid (ho1.row ndc_len)
  have HB1 := Lib.hid hb1
  clear ho1 hb1
  go_wp2_with fail
  refine (HN.out _ _ HL1.out).mono ?_
  rintro e w2 ⟨v2, rfl, ho2, hb2⟩
  obtain ⟨A2, c2, rfl, hc2, hm2, -⟩ := ho2.form
  have HO2 := Lib.hid ho2
  have HB2 := Lib.hid hb2
  clear ho2 hb2
  rw [HNN.out] at HO2 hc2 ⊢
  go_wp2_with (at_builtin; refine wpList_append_row (base := w1.heap.size) elText rfl _ _ rfl rfl ((by have := HO2.out.alloc (.cells #[.string ⟨nm.toArray⟩] 9); rw [← HNN.out] at this; rw [← HNN.out]; exact this) : Own stc 1 9 w1.heap.size (w2.alloc (.cells #[.string ⟨nm.toArray⟩] 9)) (.slice A2 n c2) names) rfl (row_one stc_len w2 _ rfl 9 #[.string ⟨nm.toArray⟩] nm rfl) ?_ ?_ ?_ ?_)
  · unfold maxLen; have := HNN.out; simp; omega
  · have := HNN.out; simp; omega
  · have := HB2.out.size; simp; omega
  · intro A3 c3 w3 hown3 hg3 hwh
    clear hwh
    have HO3 : Hid (Own stc 1 9 w1.heap.size w3 (.slice A3 (n + 1) c3) (names ++ [nm])) := Lib.hid (by have h := hown3; rw [HNN.out] at h; simpa using h)
    have HB3 : Hid (Below w1.heap.size w1 w3) := Lib.hid ((HB2.out.alloc HB2.out.size _).trans ((HO2.out.alloc _).kept hg3 (by have := HB2.out.size; simp; omega)))
    have HL3 := Lib.hid (HL1.out.below HB3.out)
    clear hown3 hg3
    try simp only [HNN.out]
    go_wp2_with fail
    refine (HP.out _ _ HL3.out).mono ?_
    rintro e w4 ⟨v4, zs, rfl, ho4, he4, hb4⟩
    obtain ⟨A4, c4, rfl, hc4, hm4, -⟩ := ho4.form
    have hzl : zs.length = n := by rw [he4.1, ← HQ3.out]
    have HZL := Lib.hid hzl
    have HO4 := Lib.hid ho4
    have HE4 := Lib.hid he4
    have HB4 := Lib.hid hb4
    rw [hzl] at HO4 hc4 ⊢
    clear ho4 he4 hb4 hzl
    go_wp2_with (at_builtin; refine wpList_append_row (base := w3.heap.size) elVal rfl _ _ rfl rfl (HO4.out.alloc _) rfl (row_one slc_len w4 _ rfl 50 #[.slice Ap xl cp] (Ap, xl, cp) rfl) ?_ ?_ ?_ ?_)
    · unfold maxLen; have := HZL.out; simp; omega
    · have := HZL.out; simp; omega
    · have := HB4.out.size; simp; omega
    · intro A5 c5 w5 hown5 hg5 hwh
      clear hwh
      have HO5 : Hid (Own slc 1 50 w3.heap.size w5 (.slice A5 (n + 1) c5) (zs ++ [(Ap, xl, cp)])) := Lib.hid (by have h := hown5; rw [HZL.out] at h; simpa using h)
      have HO4' : Hid (Own slc 1 50 w3.heap.size (w4.alloc (.cells #[.slice Ap xl cp] 50)) (.slice A4 n c4) zs) := Lib.hid (HO4.out.alloc _)
      have HB5 : Hid (Below w3.heap.size w3 w5) := Lib.hid ((HB4.out.alloc HB4.out.size _).trans (HO4'.out.kept hg5 (by have := HB4.out.size; simp; omega)))
      have HE5 := Lib.hid (Elems.aside (HE4.out.below ((Below.refl _ _).alloc (Nat.le_refl _) _)) HO4'.out hg5)
      have HBW := Lib.hid (Below.after (Below.after HB1.out HB3.out) HB5.out)
      have HS5 := Lib.hid ((HO3.out.row stc_len).below HB5.out)
      have HV5 := Lib.hid (Els.vls (els_snoc (z := (Ap, xl, cp)) ⟨HE5.out.1, fun k z l a b => (HE5.out.2 k z l a b).row ndc_len⟩ (HPX.out.below HBW.out)) (HO5.out.row slc_len))
      have hob := refObject_any _ _ (names ++ [nm]) (L ++ [fx]) w5 HS5.out HV5.out (by have := HNN.out; simp; omega) (by have h4 := HQ2.out; have h5 := HXL.out; have h6 := HLX.out; rw [List.map_append, List.sum_append]; simp only [List.map_cons, List.map_nil, List.sum_cons, List.sum_nil]; omega) (fun s hs => by
          rcases List.mem_append.1 hs with h | h
          · exact HQ5.out s h
          · rw [List.mem_singleton.1 h]; exact HNM.out) (fun l hl => by
          rcases List.mem_append.1 hl with h | h
          · exact HQ4.out l h
          · rw [List.mem_singleton.1 h]
            intro e
            have h6 := HXL.out
            rw [e] at h6
            have h7 := HXP.out
            simp at h6
            omega)
      have HOB := Lib.hid hob
      clear hown5 hg5 hob
      try simp only [HZL.out]
      go_wp2_with fail
      refine HOB.out.mono ?_
      rintro e w6 ⟨v6, rfl, ho6, hb6⟩
      rw [HANS.out] at ho6
      have HO6 := Lib.hid ho6
      have HB6 := Lib.hid hb6
      clear ho6 hb6
      go_wp2_with fail
      go_ret
      exact ⟨_, rfl, HO6.out.mono HBW.out.size, Below.after HBW.out HB6.out⟩

theorem refSame_twice (va vb : Value) (l : List Nd) (w : World) (ha : Nds w va l) (hb : Nds w vb l) :
    Calls Tryz.prog 44 #[va, vb] w fun e w' => e = .returned (.bool true) ∧ Below w.heap.size w w' :=
  (refSame_any va vb l l w ha hb).mono fun _ _ h => ⟨by rw [h.1]; simp, h.2⟩


end Go.Proofs.YtdibcamnoolnmaaGreatDoor

/-
  What the live question of path's laws answers: true.
-/
namespace Go.Proofs.YtdibcamnoolnmaaGreatDoor
open Go.RowKit Np Rw Vp Up Qp Pw

def pthA : List St := [⟨false, [97], 0⟩, ⟨true, [], 0⟩, ⟨false, [98, 32, 99], 0⟩]
def pthG : List St := [⟨false, [97], 0⟩, ⟨true, [], 1⟩]
def pthS : List St := [⟨false, [97], 0⟩]
def pthB : List St := [⟨false, [98], 0⟩]
def txtA : List UInt8 := [46, 97, 91, 48, 93, 46, 34, 98, 32, 99, 34]
set_option maxRecDepth 100000 in
theorem text_A : textP pthA = txtA := by decide +kernel
set_option maxRecDepth 100000 in
theorem right_A : rightP pthA = true := by decide +kernel
theorem read_A : readP txtA = (pthA, 0, 0) := by rw [← text_A]; exact readP_back right_A
set_option maxRecDepth 100000 in
theorem read_B : readP [46, 97, 46] = ([], 2, 1) := by decide +kernel
def obE : Tr Nd := .mk (hdN 6 0) []
def obG : Tr Nd := withT [97] twoT obE
def obL1 : List Nd := [hdN 6 1, nmN [97] (hdN 5 2), trueN, trueN]
set_option maxRecDepth 100000 in
theorem flat_G : flat obG = obL1 := by decide +kernel
set_option maxRecDepth 100000 in
theorem err_G : errP pthG obG = 0 := by decide +kernel
set_option maxRecDepth 100000 in
theorem got_G : gotP pthG obG = oneL := by decide +kernel
set_option maxRecDepth 100000 in
theorem err_S : errP pthS obG = 0 := by decide +kernel
set_option maxRecDepth 100000 in
theorem put_S : putP pthS obG oneT = [hdN 6 1, nmN [97] trueN] := by decide +kernel
theorem apart_B : apartP pthA pthB = true := by decide +kernel
theorem list_2 : hdN 5 [oneL, oneL].length :: [oneL, oneL].flatten = twoL := by decide +kernel
theorem obE_val : Val obE := ⟨okT_mk.2 ⟨rfl, by simp⟩, by rw [obE, rightT_mk]; rfl, rfl⟩
theorem obG_val : Val obG := val_put obE_val rfl two_val vld_a
end Go.Proofs.YtdibcamnoolnmaaGreatDoor
