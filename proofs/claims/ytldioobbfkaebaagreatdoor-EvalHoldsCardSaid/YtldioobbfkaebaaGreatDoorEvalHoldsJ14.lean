/-
  Joined: ObjP2, Els, PaB6, FrC, Ow3, RefW9, ConcW.
-/
import Derived.Test.YtldioobbfkaebaaGreatDoorEvalHoldsJ2
import Derived.Test.YtldioobbfkaebaaGreatDoorEvalHoldsJ12
import Derived.Test.YtldioobbfkaebaaGreatDoorEvalHoldsJ13
import Derived.Test.YtldioobbfkaebaaGreatDoorEvalHoldsJ9
import Derived.Test.YtldioobbfkaebaaGreatDoorEvalHoldsJ10
import Derived.Sort.Walk0
import Derived.Test.YtldioobbfkaebaaGreatDoorEvalHoldsJ24
import Derived.Test.YtldioobbfkaebaaGreatDoorEvalHoldsJ11
set_option maxHeartbeats 4000000000000
set_option maxRecDepth 100000
namespace Go.Proofs.YtldioobbfkaebaaGreatDoor
section
open Go.RowKit Np Rw Vp
theorem srt_perm_self (ps : List Pr) : (srt ps).Perm ps := List.mergeSort_perm ps _
theorem keys_nodup_rises : ∀ (ps : List Pr), ps.Pairwise (fun a b => decide (a.1 ≤ b.1) = true) → (ps.map (·.1)).Nodup → rises ps
 | [], _, _ => List.Pairwise.nil
 | a :: ps, h1, h2 => by
  obtain ⟨h3, h4⟩ := List.pairwise_cons.1 h1
  rw [List.map_cons, List.nodup_cons] at h2
  refine List.pairwise_cons.2 ⟨fun b hb => ?_, keys_nodup_rises ps h4 h2.2⟩
  have h5 : a.1 ≤ b.1 := by simpa using h3 b hb
  exact lt_of_ne (List.not_lt.2 h5) (fun e => h2.1 (by rw [e]; exact List.mem_map_of_mem hb))
theorem srt_rises {ps : List Pr} (h : (ps.map (·.1)).Nodup) : rises (srt ps) := by
 refine keys_nodup_rises _ ?_ (((srt_perm_self ps).map _).nodup_iff.2 h)
 exact List.pairwise_mergeSort
  (fun a b c h1 h2 => by simp only [decide_eq_true_eq] at *; exact List.le_trans h1 h2)
  (fun a b => by
   rcases List.le_total a.1 b.1 with h | h
   ·simp [h]
   ·simp [h]) ps
theorem srt_perm {ps qs : List Pr} (hp : ps.Perm qs) (h : (ps.map (·.1)).Nodup) : srt ps = srt qs :=
 (srt_of ((srt_perm_self ps).trans hp) (srt_rises h)).symm
theorem zip_keys {names : List (List UInt8)} {L : List (List Nd)} (h : names.length = L.length) : (names.zip L).map (·.1) = names := by
 rw [List.map_fst_zip]; omega
theorem objB_iff {names : List (List UInt8)} {L : List (List Nd)} : objB names L = true ↔ names.length = L.length ∧ names.Nodup ∧ ∀ s ∈ names, vld s = true := by
 simp [objB, okNames]
namespace Vp
end Vp
end
section
open Go.RowKit Np Rw Vp
def IsN (w : World) (l : List Nd) (n : Nat) (e : Ending) (w' : World) : Prop := ∃ (A : Option Addr) (c : Nat), e = .returned (.slice A n c) ∧ Nds w' (.slice A n c) l ∧ Below w.heap.size w w'
def IsO (w : World) (l : List Nd) (n : Nat) (k : Int) (e : Ending) (w' : World) : Prop := ∃ (A : Option Addr) (c : Nat), e = .returned (.tuple #[.slice A n c, .int .i64 k]) ∧ Nds w' (.slice A n c) l ∧ Below w.heap.size w w'
theorem OwnsN.is {w w' : World} {l : List Nd} {n : Nat} {e : Ending} (h : OwnsN w l e w') (hn : l.length = n) : IsN w l n e w' := by
 obtain ⟨v, rfl, h1, h2⟩ := h
 have h3 := h1.row ndc_len
 obtain ⟨A, c, rfl, h4⟩ := h3
 rw [← hn]
 exact ⟨A, c, rfl, ⟨A, c, rfl, h4⟩, h2⟩
theorem GivesO.is {w w' : World} {names : List (List UInt8)} {L : List (List Nd)} {n : Nat} {e : Ending} (h : GivesO w names L e w') (hn : (objV names L).length = n) : IsO w (objV names L) n (objE names L) e w' := by
 obtain ⟨v, rfl, h1, h2⟩ := h
 obtain ⟨A, c, rfl, h4⟩ := h1.row ndc_len
 rw [← hn]
 exact ⟨A, c, rfl, ⟨A, c, rfl, h4⟩, h2⟩
theorem GivesO.own {w w' : World} {names : List (List UInt8)} {L : List (List Nd)} {n : Nat} {e : Ending} (h : GivesO w names L e w') (hn : (objV names L).length = n) : ∃ (A : Option Addr) (c : Nat), e = .returned (.tuple #[.slice A n c, .int .i64 (objE names L)]) ∧ OwnN w.heap.size w' (.slice A n c) (objV names L) ∧ Below w.heap.size w w' := by
 obtain ⟨v, rfl, h1, h2⟩ := h
 obtain ⟨A, c, rfl, h4⟩ := h1.row ndc_len
 rw [← hn]
 exact ⟨A, c, rfl, h1, h2⟩
theorem row_one {α : Type} {enc : α → List Value} {sz : Nat} (hl : ∀ x, (enc x).length = sz) (W : World) (n : Nat) (hn : W.heap.size = n) (E : TypeId) (cs : Array Value) (x : α) (hc : cs.toList = enc x) :
  Row enc sz (W.alloc (.cells cs E)) (.slice (some ⟨n, 0, none⟩) 1 1) [x] := by
 subst hn
 exact Row.lit hl W E cs [x] (by unfold maxLen; simp) (by rw [hc]; simp)
def Els (w : World) (zs : List (Option Addr × Nat × Nat)) (L : List (List Nd)) : Prop := zs.length = L.length ∧ ∀ (k : Nat) (z : Option Addr × Nat × Nat) (l : List Nd), zs[k]? = some z → L[k]? = some l → Nds w (.slice z.1 z.2.1 z.2.2) l
theorem Els.below {w w' : World} {zs : List (Option Addr × Nat × Nat)} {L : List (List Nd)} (h : Els w zs L) (hb : Below w.heap.size w w') : Els w' zs L := ⟨h.1, fun k z l hz hl => (h.2 k z l hz hl).below hb⟩
theorem Els.vls {w : World} {v : Value} {zs : List (Option Addr × Nat × Nat)} {L : List (List Nd)} (h : Els w zs L) (hr : Row slc 1 w v zs) : Vls w v L := by
 refine ⟨zs.map fun z => .slice z.1 z.2.1 z.2.2, by rw [List.length_map]; exact h.1, ?_, fun k x l hx hk => ?_⟩
 ·obtain ⟨A, c, hv, h1, h2, h3, h4⟩ := hr
  refine ⟨A, c, by rw [List.length_map]; exact hv, by rw [List.length_map]; exact h1, h2, h3, fun h0 => ?_⟩
  obtain ⟨g, o, hA, hg, hx⟩ := h4 (by rwa [List.length_map] at h0)
  refine ⟨g, o, hA, hg, fun k x hk => ?_⟩
  rw [List.getElem?_map] at hk
  obtain ⟨z, hz, rfl⟩ := Option.map_eq_some_iff.1 hk
  exact hx k z hz
 ·rw [List.getElem?_map] at hx
  obtain ⟨z, hz, rfl⟩ := Option.map_eq_some_iff.1 hx
  exact h.2 k z l hz hk
theorem vls_els {w : World} {v : Value} {L : List (List Nd)} (h : Vls w v L) : ∃ zs, Els w zs L ∧ Row slc 1 w v zs := by
 obtain ⟨us, hl, hr, hx⟩ := h
 have key : ∀ (us : List Value) (L : List (List Nd)), us.length = L.length → (∀ (k : Nat) (x : Value) (l : List Nd), us[k]? = some x → L[k]? = some l → Nds w x l) →
   ∃ zs : List (Option Addr × Nat × Nat), zs.map (fun z => Value.slice z.1 z.2.1 z.2.2) = us ∧ Els w zs L := by
  intro us
  induction us with
  | nil => intro L hl _; exact ⟨[], rfl, by simpa using hl, fun k z l hz => by simp at hz⟩
  | cons x us ih =>
   intro L hl hx
   cases L with
   | nil => simp at hl
   | cons l L =>
    obtain ⟨zs, h1, h2, h3⟩ := ih L (by simpa using hl) (fun k y m hy hm => hx (k + 1) y m (by simpa using hy) (by simpa using hm))
    obtain ⟨A, c, h4, -⟩ := hx 0 x l rfl rfl
    refine ⟨(A, l.length, c) :: zs, by rw [List.map_cons, h1, h4], by simp [h2], fun k z m hz hm => ?_⟩
    match k, hz, hm with
    | 0, hz, hm => simp at hz hm; subst hz hm; rw [← h4]; exact hx 0 x _ rfl rfl
    | k + 1, hz, hm => exact h3 k z m (by simpa using hz) (by simpa using hm)
 obtain ⟨zs, h1, h2⟩ := key us L hl hx
 refine ⟨zs, h2, ?_⟩
 subst h1
 obtain ⟨A, c, hv, h3, h4, h5, h6⟩ := hr
 rw [List.length_map] at hv h3 h6
 refine ⟨A, c, hv, h3, h4, h5, fun h0 => ?_⟩
 obtain ⟨g, o, hA, hg, hx⟩ := h6 h0
 exact ⟨g, o, hA, hg, fun k z hz => hx k (.slice z.1 z.2.1 z.2.2) (by rw [List.getElem?_map, hz]; rfl)⟩
theorem Els.reverse {w : World} {zs : List (Option Addr × Nat × Nat)} {L : List (List Nd)} (h : Els w zs L) : Els w zs.reverse L.reverse := by
 refine ⟨by simp [h.1], fun k z l hz hl => ?_⟩
 have hk : k < zs.length := by have := (List.getElem?_eq_some_iff.1 hz).1; simpa using this
 rw [List.getElem?_reverse hk] at hz
 rw [List.getElem?_reverse (by rw [← h.1]; exact hk), ← h.1] at hl
 exact h.2 _ z l hz hl
theorem Els.snoc {w : World} {zs : List (Option Addr × Nat × Nat)} {L : List (List Nd)} {z : Option Addr × Nat × Nat} {l : List Nd} (h : Els w zs L) (hz : Nds w (.slice z.1 z.2.1 z.2.2) l) : Els w (zs ++ [z]) (L ++ [l]) := by
 refine ⟨by simp [h.1], fun k y m hy hm => ?_⟩
 rcases Nat.lt_or_ge k zs.length with hk | hk
 ·rw [List.getElem?_append_left hk] at hy
  rw [List.getElem?_append_left (by rw [← h.1]; exact hk)] at hm
  exact h.2 k y m hy hm
 ·rw [List.getElem?_append_right hk] at hy
  rw [List.getElem?_append_right (by rw [← h.1]; exact hk), ← h.1] at hm
  cases hkk : k - zs.length with
  | zero => rw [hkk] at hy hm; simp at hy hm; subst hy hm; exact hz
  | succ j => rw [hkk] at hy; simp at hy
theorem Own.aside {α β : Type} {e1 : α → List Value} {s1 E1 : Nat} {e2 : β → List Value} {s2 E2 base base2 : Nat} {w w' : World} {v1 v2 : Value} {l1 : List α} {l2 : List β} (h1 : Own e1 s1 E1 base w v1 l1) (h2 : Own e2 s2 E2 base2 w v2 l2) (he : E1 ≠ E2)
  (hg : w.grownBy w' v2.ownBlock) : Own e1 s1 E1 base w' v1 l1 := by
 refine World.ownsRow.kept h1 (row := v2.ownBlock) hg ?_
 exact own_apart h1 h2 he
theorem GivesV.is {w w' : World} {L : List (List Nd)} {n : Nat} {e : Ending} (h : GivesV w L e w') (hn : L.length = n) : ∃ (A : Option Addr) (c : Nat), e = .returned (.slice A n c) ∧ Vls w' (.slice A n c) L ∧ Below w.heap.size w w' := by
 obtain ⟨v, rfl, ⟨us, h1, h2, h3⟩, h4⟩ := h
 obtain ⟨A, c, rfl, h5⟩ := h2
 have : us.length = n := h1.trans hn
 rw [this]
 exact ⟨A, c, rfl, ⟨us, h1, ⟨A, c, by rw [this], h5⟩, h3⟩, h4⟩
theorem GivesS.is {w w' : World} {L : List (List UInt8)} {n : Nat} {e : Ending} (h : GivesS w L e w') (hn : L.length = n) : ∃ (A : Option Addr) (c : Nat), e = .returned (.slice A n c) ∧ Sts w' (.slice A n c) L ∧ Below w.heap.size w w' := by
 obtain ⟨v, rfl, h2, h4⟩ := h
 obtain ⟨A, c, rfl, h5⟩ := h2
 rw [hn]
 exact ⟨A, c, rfl, ⟨A, c, by rw [hn], h5⟩, h4⟩
end
section
open Go.RowKit Np Rw Vp Up Qp Pw
theorem step_info : (Tryz.prog.info? 49).map (fun i => (i.zero, i.size, i.bytes)) = some (some (.agg #[.bool false, .string ⟨#[]⟩, .int .i64 0]), 3, 32) := by kernel_rfl
theorem elStep : Elem Tryz.prog 25 49 spc 3 32 := by
 obtain ⟨i, hi, hz0, hz1, hz2⟩ := info_parts step_info
 refine ⟨Tryz.underlying25, ⟨i, _, hi, hz0, hz1, hz2, rfl⟩, by decide, spc_len, fun n u hu => ?_⟩
 simp only [spc, List.mem_cons, List.not_mem_nil, or_false] at hu
 rcases hu with rfl | rfl | rfl <;> rfl
def ReadE (w : World) (R : List St × Nat × Int) (e : Ending) (w' : World) : Prop := ∃ (A : Option Addr) (n c : Nat), e = .returned (.tuple #[.slice A n c, .int .i64 (R.2.1 : Nat), .int .i64 R.2.2]) ∧ Sps w' (.slice A n c) R.1 ∧ Below w.heap.size w w'
def ReadO (w : World) (R : List St × Nat × Int) (e : Ending) (w' : World) : Prop := ∃ (A : Option Addr) (n c : Nat), e = .returned (.tuple #[.slice A n c, .int .i64 (R.2.1 : Nat), .int .i64 R.2.2]) ∧ Sps w' (.slice A n c) R.1 ∧ Below w.heap.size w w' ∧ ∀ (g o : Nat), A = some ⟨g, o, none⟩ → w.heap.size ≤ g
theorem preadO_any (s : ByteArray) (w : World) (hs : s.size ≤ 1000000) (hT : Pv w) :
  Calls Tryz.prog 95 #[.string s] w (ReadO w (readP s.data.toList)) := by
 by_cases hd : s.data.toList = [46]
 ·have HR : Hid (readP s.data.toList = ([], 0, 0)) := Lib.hid (by unfold readP; rw [if_pos hd])
  have hq : (s.toList == [46]) = true := by rw [ByteArray.toList_eq, hd]; rfl
  generalize readP s.data.toList = R at *
  go_enter Tryz.func95, Tryz.ntmps95
  go_wp2_with fail
  refine bodyPost_ret (v := .tuple #[.slice none 0 0, .int .i64 0, .int .i64 0]) (by simp [results, Tryz.results95, go_sem]) rfl ⟨none, 0, 0, by rw [HR.out]; rfl, by rw [HR.out]; exact Row.nil _, Below.refl _ _, fun g o h => by cases h⟩
 ·have HR : Hid (readF (s.size + 1) [] s.data.toList 0 = readP s.data.toList) := Lib.hid (by unfold readP; rw [if_neg hd, size_toList])
  have hq : (s.toList == [46]) = false := by
   rw [ByteArray.toList_eq, beq_eq_false_iff_ne]
   exact hd
  have HT := Lib.hid hT
  have HBG : Hid (∀ (k : Nat) W, Pv W → Calls Tryz.prog 139 #[.string (s.extract k s.size), .bool ((k : Int) == 0)] W fun e w' => e = .returned (bgv (bgn (s.data.toList.drop k) (k == 0))) ∧ Below W.heap.size W w') := Lib.hid (fun k W hW => by
   have h := begun_any (s.extract k s.size) (k == 0) W (by rw [ByteArray.size_extract]; omega) hW
   have hk : ((k : Int) == 0) = (k == 0) := by rw [Bool.eq_iff_iff]; simp
   rw [ext_tail] at h
   rw [hk]; exact h)
  have HBL : Hid (∀ (k : Nat) g n, bgn (s.data.toList.drop k) (k == 0) = some (g, n) → 1 ≤ n ∧ n ≤ s.size - k) := Lib.hid (fun k g n h => by
   have := bgn_len h
   rwa [List.length_drop, size_toList] at this)
  generalize readP s.data.toList = R at *
  clear hT hd
  go_enter Tryz.func95, Tryz.ntmps95
  go_wp2_with fail
  go_loopw [5, 6] (fun pv fv wr => ∃ (k f : Nat) (acc : List St), k ≤ s.size ∧ s.size < k + f ∧ acc.length ≤ 20 ∧ fv = .int .i64 k ∧ Own spc 3 49 w.heap.size wr pv acc ∧ Hid (readF f acc s.data.toList k = R) ∧ Hid (Below w.heap.size w wr)) (fun _ fv _ => s.size - (intOf fv).toNat)
  case atStart => exact ⟨0, s.size + 1, [], Nat.zero_le _, by omega, by simp, rfl, Own.nil _, HR, Lib.hid (Below.refl _ _)⟩
  case round =>
   obtain ⟨k, f, acc, hk, hf, ha, rfl, hown, HF, HB⟩ := hrel
   obtain ⟨f, rfl⟩ : ∃ g, f = g + 1 := ⟨f - 1, by omega⟩
   obtain ⟨A, c, rfl, -⟩ := hown.form
   have HO := Lib.hid hown
   have HC := Lib.hid (HBG.out k _ (HT.out.below HB.out))
   clear hown
   cases hg : bgn (s.data.toList.drop k) (k == 0) with
   | none =>
    have HFR : Hid (R = ([], k, 1)) := Lib.hid (by rw [← HF.out, Pw.readF, hg])
    rw [hg] at HC
    simp only [bgv] at HC
    clear hg
    go_wp2_with fail
    refine HC.out.mono ?_
    rintro e w1 ⟨rfl, hb1⟩
    go_wp2_with fail
    exact bodyPost_ret (v := .tuple #[.slice none 0 0, .int .i64 (k : Int), .int .i64 1]) (by simp [results, Tryz.results95, go_sem]) rfl ⟨none, 0, 0, by rw [HFR.out], by rw [HFR.out]; exact Row.nil _, (HB.out.trans (hb1.mono HB.out.size)).alloc (Nat.le_trans HB.out.size hb1.size) _, fun g o h => by cases h⟩
   | some x =>
    obtain ⟨g, n⟩ := x
    obtain ⟨hn1, hn2⟩ := HBL.out k g n hg
    rw [hg] at HC
    simp only [bgv] at HC
    have hn0 : ((n : Int) == 0) = false := by simp; omega
    by_cases h20 : acc.length = 20
    ·have HFR : Hid (R = ([], k, 1)) := Lib.hid (by rw [← HF.out, Pw.readF, hg]; simp only; rw [if_pos h20])
     have h20b : ((acc.length : Int) == 20) = true := by simp; omega
     clear hg
     go_wp2_with fail
     refine HC.out.mono ?_
     rintro e w1 ⟨rfl, hb1⟩
     go_wp2_with fail
     exact bodyPost_ret (v := .tuple #[.slice none 0 0, .int .i64 (k : Int), .int .i64 1]) (by simp [results, Tryz.results95, go_sem]) rfl ⟨none, 0, 0, by rw [HFR.out], by rw [HFR.out]; exact Row.nil _, (HB.out.trans (hb1.mono HB.out.size)).alloc (Nat.le_trans HB.out.size hb1.size) _, fun g o h => by cases h⟩
    ·have HFR : Hid (R = if k + n = s.size then (acc ++ [g], 0, 0) else Pw.readF f (acc ++ [g]) s.data.toList (k + n)) := Lib.hid (by rw [← HF.out, Pw.readF, hg]; simp only; rw [if_neg h20, size_toList])
     have h20b : ((acc.length : Int) == 20) = false := by simp; omega
     clear hg
     go_wp2_with fail
     refine HC.out.mono ?_
     rintro e w1 ⟨rfl, hb1⟩
     have HO1 := Lib.hid (HO.out.below hb1)
     have HB1 : Hid (Below w.heap.size w w1) := Lib.hid (HB.out.trans (hb1.mono HB.out.size))
     clear hb1
     have HAL : Hid (acc.length ≤ 20) := Lib.hid ha
     go_wp2_with (at_builtin; refine wpList_append_row (base := w.heap.size) elStep rfl _ _ rfl rfl ((HO1.out.alloc _).alloc _) rfl (row_one spc_len (w1.alloc (stepO g)) (w1.heap.size + 1) (by simp) 49 #[.bool g.part, .string ⟨g.name.toArray⟩, .int .i64 g.n] g rfl) ?_ ?_ ?_ ?_)
     ·have := HAL.out; unfold maxLen; simp only [List.length_singleton]; omega
     ·have := HAL.out; simp only [List.length_singleton]; omega
     ·have := HB1.out.size; simp; omega
     ·intro A' c' w2 hown2 hg2 hwh
      clear hwh
      have HO2 : Hid (Own spc 3 49 w.heap.size w2 (.slice A' (acc.length + 1) c') (acc ++ [g])) := Lib.hid hown2
      have HB2 : Hid (Below w.heap.size w w2) := Lib.hid (((HB1.out.alloc HB1.out.size _).alloc (by have := HB1.out.size; simp; omega) _).trans (((HO1.out.alloc _).alloc _).kept hg2 (by have := HB1.out.size; simp; omega)))
      clear hown2 hg2
      have HAL2 : Hid ((acc ++ [g]).length ≤ 20) := Lib.hid (by have := HAL.out; simp; omega)
      by_cases hend : k + n = s.size
      ·have HFE : Hid (R = (acc ++ [g], 0, 0)) := Lib.hid (by rw [HFR.out, if_pos hend])
       have he2 : ((k : Int) + (n : Int) == (s.size : Int)) = true := by simp; omega
       have he3 : (k : Int) + (n : Int) = (s.size : Int) := by omega
       generalize hz : acc.length + 1 = zl at HO2 ⊢
       go_wp2_with fail
       exact bodyPost_ret (v := .tuple #[.slice A' zl c', .int .i64 0, .int .i64 0]) (by simp [results, Tryz.results95, go_sem]) rfl ⟨A', zl, c', by rw [HFE.out]; rfl, by rw [HFE.out, ← hz]; exact Own.row spc_len (by rw [hz]; exact HO2.out), HB2.out, fun g o h => by
        obtain ⟨g', cap', h1, h2, -⟩ := HO2.out.opened (by simp)
        injection h1 with h1 _ _
        rw [h] at h1
        injection h1 with h1
        injection h1 with h1 _ _
        omega⟩
      ·have HFE : Hid (Pw.readF f (acc ++ [g]) s.data.toList (k + n) = R) := Lib.hid (by rw [HFR.out, if_neg hend])
       have he2 : ((k : Int) + (n : Int) == (s.size : Int)) = false := by simp; omega
       generalize hz : acc.length + 1 = zl at HO2 ⊢
       go_wp2_with fail
       refine ⟨⟨k + n, f, acc ++ [g], by omega, by omega, HAL2.out, by rw [Int.natCast_add], HO2.out, HFE, HB2⟩, ?_⟩
       simp [intOf]; omega
theorem pread_any (s : ByteArray) (w : World) (hs : s.size ≤ 1000000) (hT : Pv w) :
  Calls Tryz.prog 95 #[.string s] w (ReadE w (readP s.data.toList)) :=
 (preadO_any s w hs hT).mono fun _ _ ⟨A, n, c, h1, h2, h3, _⟩ => ⟨A, n, c, h1, h2, h3⟩
end
section
open Go.RowKit Np Rw Vp Pw Fw
def ShortF (l : List Tm) : Prop := ∀ t ∈ l, t.name.length ≤ maxLen ∧ t.s.length ≤ 1000000 ∧ t.c.name.length ≤ maxLen ∧ t.c.s.length ≤ maxLen
theorem fpart_at {l r : List Tm} {at_ : Nat} {s : Tr Tm} {pre post : List (Tr Tm)} (h : l.drop at_ = flat s ++ r) (hk : s.ks = pre ++ post) : l.drop (at_ + 1 + (flats pre).length) = flats post ++ r := by
 rw [Nat.add_assoc, Nat.add_comm 1, ← List.drop_drop]
 rw [h, flat_eq, hk, flats_append, List.cons_append, List.drop_succ_cons, List.append_assoc, List.drop_left]
theorem fhead_at {l r : List Tm} {k : Nat} {t : Tr Tm} (h : l.drop k = flat t ++ r) : l[k]? = some t.nd := by
 have : (l.drop k)[0]? = some t.nd := by rw [h, flat_eq]; rfl
 rwa [List.getElem?_drop, Nat.add_zero] at this
theorem frpart_lt {l r : List Tm} {k : Nat} {t : Tr Tm} (h : l.drop k = flat t ++ r) : k + (flat t).length ≤ l.length := by
 have := congrArg List.length h
 have := flat_pos t
 simp at *; omega
theorem refHad_any (v : Value) (l : List Tm) (at_ tz : Nat) (s k : Tr Tm) (pre post : List (Tr Tm)) (r : List Tm) (w : World) (hv : Tms w v l) (hl : l.length ≤ 65536) (hs : l.drop at_ = flat s ++ r) (ho : okT tmany s) (hks : s.ks = pre ++ k :: post) (hto : tz = at_ + 1 + (flats pre).length) :
  Calls Tryz.prog 147 #[v, .int .i64 at_, .int .i64 tz] w fun e w' => e = .returned (.bool (decide (k.nd.name ∈ pre.map fun x => x.nd.name))) ∧ ∃ n, w' = w.drewN n := by
 generalize hans : decide (k.nd.name ∈ pre.map fun x => x.nd.name) = ans
 have HANS := Lib.hid hans; clear hans
 have hat := frpart_lt hs
 have hfp := flat_pos s
 have hvH := Lib.hid hv
 obtain ⟨g, o, c, rfl, hc, hcm, hg, hx⟩ := hv.opened (by omega)
 have HX := Lib.hid hx; clear hx
 have HS := Lib.hid hs; clear hs
 have HKS : Hid (okTs tmany s.ks) := Lib.hid (okT_eq.1 ho).2
 have HPK : Hid (l.drop tz = flat k ++ (flats post ++ r)) := Lib.hid (by rw [hto, fpart_at HS.out hks, flats_cons, List.append_assoc])
 have hkl := frpart_lt HPK.out
 have hkp := flat_pos k
 obtain ⟨-, -, k2, -, -, -, -, -, -, -, -⟩ := (HX.out tz _ (fhead_at HPK.out)).tm
 have HK := Lib.hid hks
 have HTO := Lib.hid hto
 clear ho hks hto
 generalize hnk : k.nd.name = nk at *
 generalize hn : l.length = n at *
 have HN := Lib.hid hn; clear hn
 go_enter Tryz.func147, Tryz.ntmps147
 go_wp2_with fail
 go_loopw [7] (fun i wr => ∃ p1 p2 : List (Tr Tm), Hid (pre = p1 ++ p2) ∧ i = .int .i64 (at_ + 1 + (flats p1).length : Nat) ∧ (∃ m, wr = w.drewN m) ∧ Hid (nk ∉ p1.map fun x => x.nd.name)) (fun i _ => n - (intOf i).toNat)
 case atStart => exact ⟨[], pre, Lib.hid rfl, by simp, ⟨0, rfl⟩, Lib.hid (by simp)⟩
 case round =>
  obtain ⟨p1, p2, HP, rfl, hq, HNI⟩ := hrel
  have HQ := Lib.hid hq
  clear hq
  have k2 := cell_quiet k2 HQ.out
  cases p2 with
  | nil =>
   have he : p1 = pre := by rw [HP.out, List.append_nil]
   subst he
   have HE : Hid (ans = false) := Lib.hid (by rw [← HANS.out]; simp [HNI.out])
   have hi := HTO.out
   clear HPK HTO
   subst hi
   go_wp2_with fail
   go_ret
   exact ⟨ret_bool HE.out.symm, HQ.out⟩
  | cons u p3 =>
   have hu : l.drop (at_ + 1 + (flats p1).length) = flat u ++ (flats p3 ++ flats (k :: post) ++ r) := by
    have := fpart_at (pre := p1) (post := u :: p3 ++ k :: post) HS.out (by rw [HK.out, HP.out, List.append_assoc])
    rw [this, flats_append, flats_cons]; simp
   have hoku : okT tmany u := by have := HKS.out; rw [HK.out, HP.out, okTs_append, okTs_append, okTs_cons] at this; exact this.1.2.1
   have hilt : at_ + 1 + (flats p1).length < tz := by
    rw [HTO.out, HP.out, flats_append, flats_cons]
    have := flat_pos u
    simp only [List.length_append]; omega
   have HNX : Hid (nxtF l.length (l.drop (at_ + 1 + (flats p1).length)) 1 (at_ + 1 + (flats p1).length) = (at_ + 1 + (flats p1).length + (flat u).length : Nat)) := Lib.hid (nxtF_at hu hoku)
   have HN2 : Hid (at_ + 1 + (flats (p1 ++ [u])).length = at_ + 1 + (flats p1).length + (flat u).length) := Lib.hid (by rw [flats_append, flats_cons, flats_nil, List.append_nil, List.length_append]; omega)
   have HP2 : Hid (pre = (p1 ++ [u]) ++ p3) := Lib.hid (by rw [HP.out]; simp)
   obtain ⟨-, -, b2, -, -, -, -, -, -, -, -⟩ := (HX.out _ _ (fhead_at hu)).tm.quiet HQ.out
   have hup := flat_pos u
   have HVR : Hid (∀ m, Tms (wr.drewN m) (.slice (some ⟨g, o, none⟩) n c) l) := Lib.hid (fun m => hvH.out.quiet (quiet_more HQ.out m))
   have hlu := frpart_lt hu
   rw [HN.out] at hlu
   generalize at_ + 1 + (flats p1).length = i at *
   generalize (flat u).length = ul at *
   clear hu hoku
   by_cases he : u.nd.name = nk
   ·have HE : Hid (ans = true) := Lib.hid (by
     rw [← HANS.out, HP.out]
     simp [he])
    rw [he] at b2
    go_wp2_with fail
    go_quiet (fail)
    go_wp2_with fail
    go_ret
    exact ⟨ret_bool HE.out.symm, quiet_more HQ.out _⟩
   ·have HNI2 : Hid (nk ∉ (p1 ++ [u]).map fun x => x.nd.name) := Lib.hid (by
     rw [List.map_append, List.mem_append]
     rintro (h | h)
     ·exact HNI.out h
     ·simp at h; exact he h.symm)
    generalize u.nd.name = nu at *
    have hb : (nu == nk) = false := by simpa using he
    go_wp2_with fail
    go_quiet (fail)
    go_wp2_with (go_at_call 60; refine (refNextT_any _ l i _ (HVR.out _) (by rw [HN.out]; exact hl) (by rw [HN.out]; omega)).mono ?_; rintro e w' ⟨rfl, rfl⟩; rw [HNX.out])
    go_roundw
    case rel => exact ⟨p1 ++ [u], p3, HP2, by rw [HN2.out, Int.natCast_add], quiet_more HQ.out _, HNI2⟩
    case measure => simp [intOf]; omega
end
section
open Go.RowKit Np Rw Vp Ov
def ValueQ (t u : Tr Nd) : Prop := ∀ (rb : Nat) (ra rc : List Nd) (k : Nat) (w : World), Prs rb (flat t ++ ra) (flat u ++ rc) k w → (flat t ++ ra).length ≤ 2000000000000 → (flat u ++ rc).length ≤ 2000000000000 → k + (flat t).length ≤ 2000000000000 →
 Calls Tryz.prog 138 #[.pointer (some ⟨rb, 0, none⟩)] w fun e w' => e = .returned (.int .i64 (cmpT t u)) ∧ Prx rb (0 < k ∨ cmpT t u = 0) ra rc k w' ∧ Kb w.heap.size rb w w'
theorem Prx.get {rb : Nat} {b : Prop} {ra rc : List Nd} {k : Nat} {w : World} (h : Prx rb b ra rc k w) (hb : b) : Prs rb ra rc k w := by
 obtain ⟨la, lb, h1, h2⟩ := h
 obtain ⟨rfl, rfl⟩ := h2 hb
 exact h1
theorem Prx.mono {rb : Nat} {b c : Prop} {ra rc ra' rc' : List Nd} {k : Nat} {w : World} (h : Prx rb b ra rc k w) (hcb : c → b) (h1 : c → ra = ra') (h2 : c → rc = rc') : Prx rb c ra' rc' k w := by
 obtain ⟨la, lb, h3, h4⟩ := h
 exact ⟨la, lb, h3, fun hc => ⟨(h4 (hcb hc)).1.trans (h1 hc), (h4 (hcb hc)).2.trans (h2 hc)⟩⟩
theorem Prs.x {rb : Nat} {b : Prop} {la lb : List Nd} {k : Nat} {w : World} (h : Prs rb la lb k w) : Prx rb b la lb k w := ⟨la, lb, h, fun _ => ⟨rfl, rfl⟩⟩
theorem flats_drop_cons {ts : List (Tr Nd)} {j : Nat} (h : j < ts.length) : flats (ts.drop j) = flat ts[j] ++ flats (ts.drop (j + 1)) := by
 rw [← List.getElem_cons_drop h, flats_cons]
theorem flats_drop_le (ts : List (Tr Nd)) (j : Nat) : (flats (ts.drop j)).length ≤ (flats ts).length := by
 have h : flats ts = flats (ts.take j) ++ flats (ts.drop j) := by rw [← flats_append, List.take_append_drop]
 rw [h, List.length_append]; omega
theorem cmpTs_at {ts us : List (Tr Nd)} {j : Nat} (h1 : j < ts.length) (h2 : j < us.length) : cmpTs (ts.drop j) (us.drop j) = orI (cmpT ts[j] us[j]) (cmpTs (ts.drop (j + 1)) (us.drop (j + 1))) := by
 rw [← List.getElem_cons_drop h1, ← List.getElem_cons_drop h2, cmpTs_cons]
theorem cmpTs_end {ts us : List (Tr Nd)} {j : Nat} (h : j = ts.length ∨ j = us.length) (h1 : j ≤ ts.length) (h2 : j ≤ us.length) : cmpTs (ts.drop j) (us.drop j) = Lib.compareInt ((ts.length - j : Nat) : Int) ((us.length - j : Nat) : Int) := by
 have e1 : (ts.drop j).length = ts.length - j := List.length_drop
 have e2 : (us.drop j).length = us.length - j := List.length_drop
 rw [← e1, ← e2]
 generalize hx : ts.drop j = x
 generalize hy : us.drop j = y
 rw [hx] at e1
 rw [hy] at e2
 cases x with
 | nil =>
  cases y with
  | nil => rw [cmpTs_nil]; exact ((cmpI_eq _ _).2 rfl).symm
  | cons b y => rw [cmpTs_less]; exact ((cmpI_lt _ _).2 (by simp)).symm
 | cons a x =>
  cases y with
  | nil => rw [cmpTs_more]; exact ((cmpI_gt _ _).2 (by simp)).symm
  | cons b y => simp at e1 e2; omega
theorem skip_parts {ts : List (Tr Nd)} (h : okTs many ts) (ra : List Nd) (j : Nat) : skip many (flats (ts.drop j) ++ ra) (ts.length - j) = some ra := by
 have h1 : okTs many (ts.drop j) := okTs_all.2 fun t ht => okTs_all.1 h t (List.mem_of_mem_drop ht)
 have := skip_flats (ts.drop j) ra 0 h1
 rw [List.length_drop, Nat.add_zero, skip_zero] at this
 exact this
def orL : List Int → Int
 | [] => 0
 | a :: l => orI a (orL l)
theorem orL_drop {l : List Int} {j : Nat} (h : j < l.length) : orL (l.drop j) = orI l[j] (orL (l.drop (j + 1))) := by
 rw [← List.getElem_cons_drop h, orL]
theorem orInt_any (v : Value) (l : List Int) (w : World) (hv : Ins w v l) (hl : l.length ≤ 1000) :
  Calls Tryz.prog 185 #[v] w fun e w' => e = .returned (.int .i64 (orL l)) ∧ Below w.heap.size w w' := by
 have hB : Below w.heap.size w w := Below.refl _ _
 have HX : Hid (∀ j x, l[j]? = some x → ∃ g o c, v = .slice (some ⟨g, o, none⟩) l.length c ∧ w.cell? ⟨g, o + j, none⟩ = some (.int .i64 x)) := Lib.hid fun j x hx => by
  obtain ⟨g, o, c, hv, -, -, -, h⟩ := hv.opened (by have := (List.getElem?_eq_some_iff.1 hx).1; omega)
  exact ⟨g, o, c, hv, (h j x hx).int⟩
 obtain ⟨A, c, rfl, -, -, -, -⟩ := hv
 have HO : Hid (orL l = orL (l.drop 0)) := Lib.hid (by simp)
 generalize hn : l.length = n at *
 generalize orL l = R at *
 have HN := Lib.hid hn
 clear hn
 go_enter Tryz.func185, Tryz.ntmps185
 go_wp2_with fail
 go_loopw [8] (fun iv wr => ∃ j : Nat, j ≤ n ∧ iv = .int .i64 j ∧ Hid (R = orL (l.drop j)) ∧ wr = w) (fun iv _ => n - (intOf iv).toNat)
 case atStart => exact ⟨0, Nat.zero_le _, rfl, HO, rfl⟩
 case round =>
  obtain ⟨j, hj, rfl, HR, rfl⟩ := hrel
  by_cases hlt : j < n
  ·have hj' : j < l.length := by rw [HN.out]; exact hlt
   obtain ⟨g, o, c', hv, hc⟩ := HX.out j l[j] (List.getElem?_eq_getElem hj')
   injection hv with e1 e2 e3
   subst e1 e3
   clear e2
   have hd := orL_drop hj'
   generalize l[j] = x at *
   by_cases hx : x = 0
   ·subst hx
    rw [orI_z] at hd
    have HD : Hid (R = orL (l.drop (j + 1))) := Lib.hid (by rw [HR.out, hd])
    clear hd
    go_wp2_with fail
    go_roundw
    case rel => exact ⟨j + 1, by omega, by go_num, HD, trivial⟩
    case measure => simp [intOf]; omega
   ·rw [orI_ne hx] at hd
    have HD : Hid (R = x) := Lib.hid (by rw [HR.out, hd])
    have hx' : ((x != 0) : Bool) = true := by simpa using hx
    clear hd
    go_wp2_with fail
    go_ret
    exact ⟨ret_i64 HD.out.symm, hB⟩
  ·obtain rfl : j = n := by omega
   have HD : Hid (R = 0) := Lib.hid (by rw [HR.out, List.drop_eq_nil_of_le (by rw [HN.out]; exact Nat.le_refl _)]; rfl)
   go_wp2_with fail
   go_ret
   exact ⟨ret_i64 HD.out.symm, hB⟩
theorem orInt_lit (l : List Int) (E : TypeId) (cs : Array Value) (n N : Nat) (w : World) (hc : cs.toList = l.flatMap inc) (hn : w.heap.size = n) (hN : l.length = N) (hl : N ≤ 1000) :
  Calls Tryz.prog 185 #[.slice (some ⟨n, 0, none⟩) N N] (w.alloc (.cells cs E)) fun e w' => e = .returned (.int .i64 (orL l)) ∧ Below w.heap.size w w' := by
 subst hn hN
 refine (orInt_any _ l _ (Row.lit inc_len w E cs l (by unfold maxLen; omega) hc) hl).mono ?_
 rintro e w' ⟨rfl, hb⟩
 exact ⟨rfl, ((Below.refl w.heap.size w).alloc (Nat.le_refl _) _).trans (hb.mono (by simp))⟩
theorem leave_any {ts us : List (Tr Nd)} (hts : okTs many ts) (hus : okTs many us) (rb : Nat) (b : Prop) (ra rc : List Nd) (k : Nat) (w : World) (m n : Nat) (hm : ts.length = m) (hn : us.length = n)
  (h : Prx rb b (flats ts ++ ra) (flats us ++ rc) k w) (hkb : 0 < k → b) (hla : (flats ts ++ ra).length ≤ 2000000000000) (hlb : (flats us ++ rc).length ≤ 2000000000000) :
  Calls Tryz.prog 160 #[.pointer (some ⟨rb, 0, none⟩), .int .i64 m, .int .i64 n] w fun e w' => e = .returned (.tuple #[]) ∧ Prx rb (0 < k ∨ (b ∧ m = 0 ∧ n = 0)) ra rc k w' ∧ Kb w.heap.size rb w w' := by
 subst hm hn
 rcases Nat.eq_zero_or_pos k with h0 | h0
 ·subst h0
  obtain ⟨la, lb, h1, h2⟩ := h
  refine (leave_none rb la lb _ _ w h1).mono ?_
  rintro e w' ⟨rfl, h3, h4⟩
  refine ⟨rfl, ⟨la, lb, h3, ?_⟩, h4⟩
  rintro (h5 | ⟨h5, h6, h7⟩)
  ·exact absurd h5 (Nat.lt_irrefl _)
  ·obtain ⟨e1, e2⟩ := h2 h5
   rw [List.eq_nil_of_length_eq_zero h6] at e1
   rw [List.eq_nil_of_length_eq_zero h7] at e2
   exact ⟨by simpa using e1, by simpa using e2⟩
 ·refine (leave_past rb _ _ ts.length us.length k ra rc w (h.get (hkb h0)) h0 ?_ ?_ (by omega) (by omega)).mono ?_
  ·have := skip_parts hts ra 0
   simpa using this
  ·have := skip_parts hus rc 0
   simpa using this
  ·rintro e w' ⟨rfl, h3, h4⟩
   exact ⟨rfl, h3.x, h4⟩
theorem lists_of {ts us : List (Tr Nd)} (H : ∀ t ∈ ts, ∀ u ∈ us, ValueQ t u) (hts : okTs many ts) (hus : okTs many us) (rb : Nat) (ra rc : List Nd) (k : Nat) (w : World)
  (h : Prs rb (flats ts ++ ra) (flats us ++ rc) k w) (hla : (flats ts ++ ra).length ≤ 2000000000000) (hlb : (flats us ++ rc).length ≤ 2000000000000) (hk : k + (flats ts).length ≤ 2000000000000) :
  Calls Tryz.prog 163 #[.pointer (some ⟨rb, 0, none⟩), .int .i64 ts.length, .int .i64 us.length] w fun e w' => e = .returned (.int .i64 (cmpTs ts us)) ∧ Prx rb (0 < k ∨ cmpTs ts us = 0) ra rc k w' ∧ Kb w.heap.size rb w w' := by
 have hlt := h.lt
 have HP := Lib.hid h
 have HH := Lib.hid H
 have hl1 := flats_len ts
 have hl2 := flats_len us
 rw [List.length_append] at hla hlb
 clear h H
 generalize hm : ts.length = m at *
 generalize hn : us.length = n at *
 have HM := Lib.hid hm
 have HN := Lib.hid hn
 clear hm hn
 go_enter Tryz.func163, Tryz.ntmps163
 go_wp2_with fail
 go_loopw [1, 2, 7] (fun mv nv pv wr => ∃ (j : Nat) (p : Int), j ≤ m ∧ j ≤ n ∧ mv = .int .i64 ((m - j : Nat) : Int) ∧ nv = .int .i64 ((n - j : Nat) : Int) ∧ pv = .int .i64 p ∧ Hid (Prx rb (0 < k ∨ p = 0) (flats (ts.drop j) ++ ra) (flats (us.drop j) ++ rc) k wr) ∧ Hid (cmpTs ts us = orI p (cmpTs (ts.drop j) (us.drop j))) ∧ Hid (Kb w.heap.size rb w wr)) (fun mv _ _ _ => (intOf mv).toNat)
 case atStart => exact ⟨0, 0, Nat.zero_le _, Nat.zero_le _, rfl, rfl, rfl, Lib.hid (by simpa using HP.out.x), Lib.hid (by simp), Lib.hid (Kb.refl _ _ _)⟩
 case round =>
  obtain ⟨j, p, hjm, hjn, rfl, rfl, rfl, HX, HC, HK⟩ := hrel
  by_cases hp : p = 0
  ·subst hp
   by_cases hj : j < m ∧ j < n
   ·obtain ⟨hj1, hj2⟩ := hj
    have HV : Hid (Calls Tryz.prog 138 #[.pointer (some ⟨rb, 0, none⟩)] wr fun e w' => e = .returned (.int .i64 (cmpT (ts[j]'(HM.out ▸ hj1)) (us[j]'(HN.out ▸ hj2)))) ∧ Prx rb (0 < k ∨ cmpT (ts[j]'(HM.out ▸ hj1)) (us[j]'(HN.out ▸ hj2)) = 0) (flats (ts.drop (j + 1)) ++ ra) (flats (us.drop (j + 1)) ++ rc) k w' ∧ Kb wr.heap.size rb wr w') := by
     have h1 := HX.out.get (.inr rfl)
     have g1 := flats_drop_le ts j
     have g2 := flats_drop_le us j
     have d1 := flats_drop_cons (ts := ts) (j := j) (HM.out ▸ hj1)
     have d2 := flats_drop_cons (ts := us) (j := j) (HN.out ▸ hj2)
     rw [d1, d2, List.append_assoc, List.append_assoc] at h1
     rw [d1, List.length_append] at g1
     rw [d2, List.length_append] at g2
     exact Lib.hid (HH.out _ (List.getElem_mem _) _ (List.getElem_mem _) rb _ _ k wr h1 (by simp only [List.length_append]; omega) (by simp only [List.length_append]; omega) (by omega))
    have HC2 : Hid (cmpTs ts us = orI (cmpT (ts[j]'(HM.out ▸ hj1)) (us[j]'(HN.out ▸ hj2))) (cmpTs (ts.drop (j + 1)) (us.drop (j + 1)))) := Lib.hid (by rw [HC.out, orI_z, cmpTs_at])
    generalize cmpT (ts[j]'(HM.out ▸ hj1)) (us[j]'(HN.out ▸ hj2)) = q at HV HC2
    go_wp2_with fail
    go_at_call 138
    refine HV.out.mono ?_
    rintro e w1 ⟨rfl, hx1, hk1⟩
    have HX1 := Lib.hid hx1
    have HK1 := Lib.hid (HK.out.trans (hk1.mono HK.out.size))
    clear hx1 hk1
    go_wp2_with fail
    refine ⟨⟨j + 1, q, by omega, by omega, by congr 1; omega, by congr 1; omega, rfl, HX1, HC2, HK1⟩, ?_⟩
    simp [intOf]; omega
   ·have hend : cmpTs ts us = Lib.compareInt ((m - j : Nat) : Int) ((n - j : Nat) : Int) := by
     rw [HC.out, orI_z, cmpTs_end (by rw [HM.out, HN.out]; omega) (by rw [HM.out]; exact hjm) (by rw [HN.out]; exact hjn), HM.out, HN.out]
    have HE : Hid (orL [0, Lib.compareInt ((m - j : Nat) : Int) ((n - j : Nat) : Int)] = cmpTs ts us) := Lib.hid (by rw [hend]; simp [orL])
    have HZ : Hid (cmpTs ts us = 0 → (0 < k ∨ (0 : Int) = 0) ∧ m - j = 0 ∧ n - j = 0) := Lib.hid (by rw [hend, cmpI_eq]; omega)
    have HL := Lib.hid (leave_any (ts := ts.drop j) (us := us.drop j) (okTs_all.2 fun t ht => okTs_all.1 hts t (List.mem_of_mem_drop ht)) (okTs_all.2 fun t ht => okTs_all.1 hus t (List.mem_of_mem_drop ht)) rb _ ra rc k wr (m - j) (n - j) (by rw [List.length_drop, HM.out]) (by rw [List.length_drop, HN.out]) HX.out (fun h => .inl h)
     (by have := flats_drop_le ts j; rw [List.length_append]; omega) (by have := flats_drop_le us j; rw [List.length_append]; omega))
    have hMN : m - j = 0 ∨ n - j = 0 := by omega
    clear hend hj
    generalize m - j = M at *
    generalize n - j = N at *
    go_wp2_with fail
    all_goals go_at_call 160
    all_goals refine HL.out.mono ?_
    all_goals rintro e w1 ⟨rfl, hx1, hk1⟩
    all_goals have HX1 := Lib.hid hx1
    all_goals have HK1 := Lib.hid (HK.out.trans (hk1.mono HK.out.size))
    all_goals clear hx1 hk1
    all_goals go_wp2_with fail
    all_goals go_at_call 159
    all_goals refine (Tryz.cmp_Compare_int _ _ _).mono ?_
    all_goals rintro e w2 ⟨rfl, rfl⟩
    all_goals go_wp2_with fail
    all_goals go_at_call 185
    all_goals refine (orInt_lit [0, Lib.compareInt (M : Int) (N : Int)] _ _ _ _ _ rfl rfl rfl (by simp)).mono ?_
    all_goals rintro e w3 ⟨rfl, hb3⟩
    all_goals go_wp2_with fail
    all_goals go_ret
    all_goals
     obtain ⟨la, lb, hp1, hp2⟩ := HX1.out
     exact ⟨ret_i64 HE.out, ⟨la, lb, hp1.below hb3, fun h => hp2 (h.imp id HZ.out)⟩, HK1.out.trans (Kb.of (hb3.mono HK1.out.size))⟩
  ·have HE : Hid (orL [p, Lib.compareInt ((m - j : Nat) : Int) ((n - j : Nat) : Int)] = cmpTs ts us) := Lib.hid (by rw [HC.out, orL, orI_ne hp, orI_ne hp])
   have HZ : Hid (¬ cmpTs ts us = 0) := Lib.hid (by rw [HC.out, orI_ne hp]; exact hp)
   have HL := Lib.hid (leave_any (ts := ts.drop j) (us := us.drop j) (okTs_all.2 fun t ht => okTs_all.1 hts t (List.mem_of_mem_drop ht)) (okTs_all.2 fun t ht => okTs_all.1 hus t (List.mem_of_mem_drop ht)) rb _ ra rc k wr (m - j) (n - j) (by rw [List.length_drop, HM.out]) (by rw [List.length_drop, HN.out]) HX.out (fun h => .inl h)
     (by have := flats_drop_le ts j; rw [List.length_append]; omega) (by have := flats_drop_le us j; rw [List.length_append]; omega))
   have hp' : ((p == 0) : Bool) = false := by simpa using hp
   generalize m - j = M at *
   generalize n - j = N at *
   go_wp2_with fail
   all_goals go_at_call 160
   all_goals refine HL.out.mono ?_
   all_goals rintro e w1 ⟨rfl, hx1, hk1⟩
   all_goals have HX1 := Lib.hid hx1
   all_goals have HK1 := Lib.hid (HK.out.trans (hk1.mono HK.out.size))
   all_goals clear hx1 hk1
   all_goals go_wp2_with fail
   all_goals go_at_call 159
   all_goals refine (Tryz.cmp_Compare_int _ _ _).mono ?_
   all_goals rintro e w2 ⟨rfl, rfl⟩
   all_goals go_wp2_with fail
   all_goals go_at_call 185
   all_goals refine (orInt_lit [p, Lib.compareInt (M : Int) (N : Int)] _ _ _ _ _ rfl rfl rfl (by simp)).mono ?_
   all_goals rintro e w3 ⟨rfl, hb3⟩
   all_goals go_wp2_with fail
   all_goals go_ret
   all_goals
    obtain ⟨la, lb, hp1, hp2⟩ := HX1.out
    exact ⟨ret_i64 HE.out, ⟨la, lb, hp1.below hb3, fun h => hp2 (.inl (h.resolve_right HZ.out))⟩, HK1.out.trans (Kb.of (hb3.mono HK1.out.size))⟩
end
section
open Go.RowKit Np Rw Vp
theorem own_head (w : World) (E : Nat) (hE : E = 30) (k n : Nat) : OwnN w.heap.size (w.alloc (.cells #[.int .i64 (k : Int), .int .i64 (n : Int), .string ⟨#[]⟩, .string ⟨#[]⟩, .bool false, .int .i64 0] E)) (.slice (some ⟨w.heap.size, 0, none⟩) 1 1) [hdN k n] := by
 subst hE
 exact Own.lit (base := w.heap.size) ndc_len w _ [hdN k n] (Nat.le_refl _) (by unfold maxLen; simp) rfl
theorem refList_any (v : Value) (L : List (List Nd)) (w : World) (hv : Vls w v L) (hb1 : L.length ≤ 65536) (hb2 : (L.map List.length).sum ≤ 131072) :
  Calls Tryz.prog 41 #[v] w (OwnsN w (hdN 5 L.length :: L.flatten)) := by
 obtain ⟨us, hul, hu, hur⟩ := hv
 obtain ⟨A, c, rfl, -, -, -, H⟩ := hu
 have HUL := Lib.hid hul
 have HU := Lib.hid hur
 have HH := Lib.hid H
 have HB2 := Lib.hid hb2
 clear hur H hb2
 rw [← hul] at hb1
 clear hul
 generalize hn : us.length = n at *
 have HN := Lib.hid hn; clear hn
 have HO0 : Hid (OwnN w.heap.size (w.alloc (.cells #[.int .i64 5, .int .i64 (n : Int), .string ⟨#[]⟩, .string ⟨#[]⟩, .bool false, .int .i64 0] 30)) (.slice (some ⟨w.heap.size, 0, none⟩) 1 1) (hdN 5 L.length :: (L.take 0).flatten)) := Lib.hid (by rw [← HUL.out]; exact own_head w _ rfl 5 n)
 go_enter Tryz.func41, Tryz.ntmps41
 go_wp2_with fail
 go_loopw [3, 4] (fun vv i wr => ∃ k : Nat, k ≤ n ∧ i = .int .i64 k ∧ OwnN w.heap.size wr vv (hdN 5 L.length :: (L.take k).flatten) ∧ Below w.heap.size w wr) (fun _ i _ => n - (intOf i).toNat)
 case atStart => exact ⟨0, Nat.zero_le _, rfl, HO0.out, (Below.refl _ _).alloc (Nat.le_refl _) _⟩
 case round =>
  obtain ⟨j, hj, rfl, hown, hbw⟩ := hrel
  have HO := Lib.hid hown
  have HBW := Lib.hid hbw
  by_cases hlt2 : j < n
  ·obtain ⟨g, o, rfl, hg, hx⟩ := HH.out (by omega)
   obtain ⟨x, hxk⟩ : ∃ a, us[j]? = some a := ⟨_, List.getElem?_eq_getElem (by rw [HN.out]; exact hlt2)⟩
   obtain ⟨a, ha⟩ : ∃ a, L[j]? = some a := ⟨_, List.getElem?_eq_getElem (by rw [← HUL.out]; exact hlt2)⟩
   have a0 := (hbw.cell (p := ⟨g, o + j, none⟩) hg).trans (hx j x hxk).one
   have HRA : Hid (Nds wr x a) := Lib.hid ((HU.out j x a hxk ha).below hbw)
   have HS : Hid (hdN 5 L.length :: (L.take (j + 1)).flatten = (hdN 5 L.length :: (L.take j).flatten) ++ a) := Lib.hid (by rw [List.take_add_one, ha]; simp)
   have HLN : Hid ((hdN 5 L.length :: (L.take j).flatten).length + a.length ≤ 131073) := Lib.hid (by
    have h1 := sum_take ha
    have h2 := sum_take_le L (j + 1)
    have h3 := HB2.out
    rw [List.length_cons, List.length_flatten]; omega)
   generalize hdN 5 L.length :: (L.take j).flatten = l1 at HO HS HLN
   clear ha hxk hx hown hbw
   go_wp2_with (at_builtin; refine wpList_append_row (base := w.heap.size) elNode rfl _ _ rfl rfl HO.out rfl HRA.out ?_ ?_ ?_ ?_)
   ·have := HLN.out; unfold maxLen; omega
   ·have := HLN.out; omega
   ·exact HBW.out.size
   ·intro A' c' w2 hown2 hg2 hwh
    clear hwh
    have HO2 : Hid (OwnN w.heap.size w2 (.slice A' (l1.length + a.length) c') (l1 ++ a)) := Lib.hid (by simpa using hown2)
    have HG2 := Lib.hid hg2
    clear hown2 hg2 a0
    generalize l1.length + a.length = q2 at HO2 ⊢
    go_wp2_with fail
    go_roundw
    case rel => exact ⟨j + 1, by omega, by go_num, by rw [HS.out]; exact HO2.out, HBW.out.trans (HO.out.kept HG2.out HBW.out.size)⟩
    case measure => simp [intOf]; omega
  ·have HE : Hid (L.take j = L) := Lib.hid (List.take_of_length_le (by rw [← HUL.out]; omega))
   clear hown hbw
   go_wp2_with fail
   go_ret
   exact ⟨_, rfl, by have := HO.out; rwa [HE.out] at this, HBW.out⟩
theorem refNamed_any (v u : Value) (names : List (List UInt8)) (L : List (List Nd)) (w : World) (hv : Sts w v names) (hu : Vls w u L) (hl : names.length = L.length) (hb1 : L.length ≤ 65536) (hb2 : (L.map List.length).sum ≤ 131072) (hne : ∀ l ∈ L, l ≠ []) :
  Calls Tryz.prog 46 #[v, u] w (OwnsN w (hdN 6 L.length :: laid (names.zip L))) := by
 obtain ⟨us, hul, hu, hur⟩ := hu
 obtain ⟨A, c, rfl, -, -, -, H⟩ := hu
 obtain ⟨A0, c0, rfl, -, -, -, H0⟩ := hv
 have HUL := Lib.hid hul
 have HU := Lib.hid hur
 have HH := Lib.hid H
 have HH0 := Lib.hid H0
 have HB2 := Lib.hid hb2
 have HNE := Lib.hid hne
 have HLL := Lib.hid hl
 clear hur H hb2 hne H0
 rw [hl, ← hul]
 rw [← hul] at hb1
 clear hul hl
 generalize hn : us.length = n at *
 have HN := Lib.hid hn; clear hn
 have HO0 : Hid (OwnN w.heap.size (w.alloc (.cells #[.int .i64 6, .int .i64 (n : Int), .string ⟨#[]⟩, .string ⟨#[]⟩, .bool false, .int .i64 0] 30)) (.slice (some ⟨w.heap.size, 0, none⟩) 1 1) (hdN 6 n :: laid ((names.zip L).take 0))) := Lib.hid (own_head w _ rfl 6 n)
 go_enter Tryz.func46, Tryz.ntmps46
 go_wp2_with fail
 go_loopw [5, 6] (fun vv i wr => ∃ k : Nat, k ≤ n ∧ i = .int .i64 k ∧ OwnN w.heap.size wr vv (hdN 6 n :: laid ((names.zip L).take k)) ∧ Below w.heap.size w wr) (fun _ i _ => n - (intOf i).toNat)
 case atStart => exact ⟨0, Nat.zero_le _, rfl, HO0.out, (Below.refl _ _).alloc (Nat.le_refl _) _⟩
 case round =>
  obtain ⟨j, hj, rfl, hown, hbw⟩ := hrel
  have HO := Lib.hid hown
  have HBW := Lib.hid hbw
  by_cases hlt2 : j < n
  ·obtain ⟨g, o, rfl, hg, hx⟩ := HH.out (by omega)
   obtain ⟨g0, o0, rfl, hg0, hx0⟩ := HH0.out (by rw [HLL.out, ← HUL.out]; omega)
   obtain ⟨x, hxk⟩ : ∃ a, us[j]? = some a := ⟨_, List.getElem?_eq_getElem (by rw [HN.out]; exact hlt2)⟩
   obtain ⟨nm, hnm⟩ : ∃ a, names[j]? = some a := ⟨_, List.getElem?_eq_getElem (by rw [HLL.out, ← HUL.out]; exact hlt2)⟩
   obtain ⟨a, ha⟩ : ∃ a, L[j]? = some a := ⟨_, List.getElem?_eq_getElem (by rw [← HUL.out]; exact hlt2)⟩
   have a0 := (hbw.cell (p := ⟨g, o + j, none⟩) hg).trans (hx j x hxk).one
   have HNC : Hid (w.cell? ⟨g0, o0 + j, none⟩ = some (.string ⟨nm.toArray⟩)) := Lib.hid (hx0 j nm hnm).st
   have HG0 := Lib.hid hg0
   obtain ⟨y, ys, hya⟩ : ∃ y ys, a = y :: ys := by
    cases a with
    | nil => exact absurd rfl (HNE.out [] (List.mem_of_getElem? ha))
    | cons y ys => exact ⟨y, ys, rfl⟩
   have HRA : Hid (Nds wr x a) := Lib.hid ((HU.out j x a hxk ha).below hbw)
   have HS : Hid (hdN 6 n :: laid ((names.zip L).take (j + 1)) = (hdN 6 n :: laid ((names.zip L).take j)) ++ setNm nm a) := Lib.hid (by
    have hz : (names.zip L)[j]? = some (nm, a) := by rw [List.getElem?_zip_eq_some]; exact ⟨hnm, ha⟩
    rw [List.take_add_one, hz]; simp [laid_snoc])
   have HLN : Hid ((hdN 6 n :: laid ((names.zip L).take j)).length + a.length ≤ 131073) := Lib.hid (by
    have h1 := sum_take ha
    have h2 := sum_take_le L (j + 1)
    have h3 := HB2.out
    have h4 : (((names.zip L).take j).map fun p : Pr => p.2.length).sum = ((L.take j).map List.length).sum := by
     have : ((names.zip L).take j).map (fun p : Pr => p.2.length) = (L.take j).map List.length := by
      rw [show (fun p : Pr => p.2.length) = List.length ∘ Prod.snd from rfl, ← List.map_map, List.map_take, List.map_snd_zip (by rw [HLL.out]; exact Nat.le_refl _)]
     rw [this]
    rw [List.length_cons, laid_len]; omega)
   generalize hdN 6 n :: laid ((names.zip L).take j) = l1 at HO HS HLN
   have HYA := Lib.hid hya
   have hapos : 0 < a.length := by rw [hya]; simp
   clear ha hxk hx hown hbw hnm hx0 hya
   obtain ⟨Ao, co, rfl, -⟩ := HO.out.form
   generalize hal : a.length = al at *
   have HAL := Lib.hid hal
   clear hal
   go_wp2_with (at_builtin; refine wpList_append_row (base := w.heap.size) elNode rfl _ _ rfl rfl HO.out rfl HRA.out ?_ ?_ ?_ ?_)
   ·have := HLN.out; have := HAL.out; unfold maxLen; omega
   ·have := HLN.out; have := HAL.out; omega
   ·exact HBW.out.size
   ·intro A' c' w2 hown2 hg2 hwh
    clear hwh
    rw [HAL.out]
    have HLA : Hid ((l1 ++ a).length = l1.length + al) := Lib.hid (by rw [List.length_append, HAL.out])
    have HO2 : Hid (OwnN w.heap.size w2 (.slice A' (l1 ++ a).length c') (l1 ++ a)) := Lib.hid (by simpa using hown2)
    have HB2' : Hid (Below w.heap.size w w2) := Lib.hid (HBW.out.trans (HO.out.kept hg2 HBW.out.size))
    clear hown2 hg2 a0
    obtain ⟨g', rfl, hc3, HG⟩ : ∃ g', A' = some ⟨g', 0, none⟩ ∧ l1.length + al ≤ c' ∧ Hid (w.heap.size ≤ g' ∧ g' < w2.heap.size) := by
     have h := HO2.out
     obtain ⟨g', cap, hv, h1, h2⟩ := h.opened (by rw [HLA.out]; omega)
     injection hv with e1 _ e3
     have := h.cap.2.1
     exact ⟨g', e1, by rw [← HLA.out]; exact this, Lib.hid ⟨h1, h2⟩⟩
    have hk0 : (l1 ++ a)[l1.length]? = some y := by rw [HYA.out]; simp
    have x0 := Own.cell ndc_len (j := 0) HO2.out hk0 rfl
    have x1 := Own.cell ndc_len (j := 1) HO2.out hk0 rfl
    have x2 := Own.cell ndc_len (j := 2) HO2.out hk0 rfl
    have x3 := Own.cell ndc_len (j := 3) HO2.out hk0 rfl
    have x4 := Own.cell ndc_len (j := 4) HO2.out hk0 rfl
    have x5 := Own.cell ndc_len (j := 5) HO2.out hk0 rfl
    simp only [Nat.add_zero] at x0
    have HTH : Hid (∀ ob : Obj, (w2.alloc ob).there g' (l1.length * 6) 6) := Lib.hid (fun ob => Own.there ndc_len (HO2.out.alloc ob) hk0)
    have HPU : Hid (∀ ob : Obj, OwnN w.heap.size ((w2.alloc ob).setCells g' (l1.length * 6) (ndc (nmN nm y))) (.slice (some ⟨g', 0, none⟩) (l1.length + al) c') (l1 ++ setNm nm a)) := Lib.hid (fun ob => by
     have h2 := Own.puts (y := nmN nm y) ndc_len (HO2.out.alloc ob) hk0
     rw [HLA.out] at h2
     have e : (l1 ++ a).set l1.length (nmN nm y) = l1 ++ setNm nm a := by rw [HYA.out, List.set_append_right _ _ (Nat.le_refl _)]; simp [setNm, nmN]
     rwa [e] at h2)
    have n0 := (HB2'.out.cell (p := ⟨g0, o0 + j, none⟩) HG0.out).trans HNC.out
    rw [HLA.out] at HO2
    clear hk0
    generalize hq : l1.length = q at *
    have HQ := Lib.hid hq
    clear hq
    have hqs : q ≤ 131073 := by have := HLN.out; omega
    have hqi : (q : Int) < q + al := by omega
    have hqn : q < q + al := by omega
    have hg02 : g0 < w2.heap.size := Nat.lt_of_lt_of_le HG0.out HB2'.out.size
    have hqi2 : (0 : Int) < al := by omega
    go_upto_region 9 with fail
    have HTH1 := Lib.hid (HTH.out (.cells #[.int .i64 y.kind, .int .i64 y.many, .string ⟨nm.toArray⟩, .string ⟨y.s.toArray⟩, .bool y.neg, .int .i64 y.e] 30))
    have HPU1 := Lib.hid (HPU.out (.cells #[.int .i64 y.kind, .int .i64 y.many, .string ⟨nm.toArray⟩, .string ⟨y.s.toArray⟩, .bool y.neg, .int .i64 y.e] 30))
    have HBA : Hid (Below w.heap.size w (w2.alloc (.cells #[.int .i64 y.kind, .int .i64 y.many, .string ⟨nm.toArray⟩, .string ⟨y.s.toArray⟩, .bool y.neg, .int .i64 y.e] 30))) := Lib.hid (HB2'.out.alloc HB2'.out.size _)
    have cB : (w2.alloc (.cells #[.int .i64 y.kind, .int .i64 y.many, .string ⟨nm.toArray⟩, .string ⟨y.s.toArray⟩, .bool y.neg, .int .i64 y.e] 30)).heap.size = w2.heap.size + 1 := by simp
    clear x0 x1 x2 x3 x4 x5 n0 cB
    go_wp2_with ((with_reducible refine wpList_store_node rfl _ _ rfl g' (q * 6) (nmN nm y) ?sx ?sy HTH1.out ?sz))
    case sx => simp [Act.eval]
    case sy => simp [Act.eval, nmN]
    all_goals
     go_roundw
     case rel => exact ⟨j + 1, by omega, by go_num, by rw [HS.out]; exact HPU1.out, Below.setCells HG.out.1 _ _ HBA.out⟩
     case measure => simp [intOf]; omega
  ·have HE : Hid ((names.zip L).take j = names.zip L) := Lib.hid (List.take_of_length_le (by rw [List.length_zip, HLL.out, ← HUL.out]; omega))
   clear hown hbw
   go_wp2_with fail
   go_ret
   exact ⟨_, rfl, by have := HO.out; rwa [HE.out] at this, HBW.out⟩
end
section
open Go.RowKit Go.Shelf Np Rw Vp
end
end Go.Proofs.YtldioobbfkaebaaGreatDoor
