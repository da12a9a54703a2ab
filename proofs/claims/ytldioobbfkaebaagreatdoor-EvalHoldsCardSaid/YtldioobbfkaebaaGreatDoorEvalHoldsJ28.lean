/-
  Joined: Pa2, Pa3, Pa5, ValFields, PaAl, PaAl2, PaLw, PaLv, PGP.
-/
import Derived.Test.YtldioobbfkaebaaGreatDoorEvalHoldsJ6
import Derived.Test.YtldioobbfkaebaaGreatDoorEvalHoldsJ7
import Derived.Deep.RegionHeld3
import Derived.WalkMore
import Derived.Deep.LoopGhost
import Derived.Test.YtldioobbfkaebaaGreatDoorEvalHoldsJ11
import Derived.Test.YtldioobbfkaebaaGreatDoorEvalHoldsJ10
import Derived.Test.YtldioobbfkaebaaGreatDoorEvalHoldsJ29
import Derived.Test.YtldioobbfkaebaaGreatDoorEvalHoldsJ13
import Derived.Test.YtldioobbfkaebaaGreatDoorEvalHoldsJ26
import Derived.Test.YtldioobbfkaebaaGreatDoorEvalHoldsJ8
import Derived.Test.YtldioobbfkaebaaGreatDoorEvalHoldsJ14
import Derived.Test.YtldioobbfkaebaaGreatDoorEvalHoldsJ9
set_option maxHeartbeats 4000000
set_option maxRecDepth 100000
namespace Go.Proofs.YtldioobbfkaebaaGreatDoor
section
open Go.RowKit Np Rw Vp Pw
def StAt (B : Nat) (s : St) (w : World) : Prop := w.heap[B]? = some (.cells #[.bool s.part, .string ⟨s.name.toArray⟩, .int .i64 s.n] 49 (0, 0))
theorem StAt.lt {B : Nat} {s : St} {w : World} (h : StAt B s w) : B < w.heap.size := (Array.getElem?_eq_some_iff.1 h).1
theorem StAt.sp {B : Nat} {s : St} {w : World} (h : StAt B s w) : Sp3 w B 0 s := ⟨by rw [Lib.cell_of_heap h]; rfl, by rw [Lib.cell_of_heap h]; rfl, by rw [Lib.cell_of_heap h]; rfl⟩
theorem StAt.below {B C : Nat} {s : St} {w w' : World} (h : StAt B s w) (hb : Below C w w') (hB : B < C) : StAt B s w' := (hb.block B hB).trans h
end
section
open Go.RowKit Np Rw Vp Pw
def gotP (p : List St) (t : Tr Nd) : List Nd := match subP p t with
 | none => []
 | some u => flat (nmd [] u)
end
section
open Go.RowKit Np Rw Vp Pw
def putP (p : List St) (t x : Tr Nd) : List Nd := if errP p t = 0 then flat (setP p t x) else []
end
section
open Go.RowKit Np Rw Vp
theorem field_none {t : Tr Nd} {nm : List UInt8} (h : ∀ j s, j < (namesT t).length → (namesT t)[j]? = some s → s ≠ nm) : midT nm t = [] := by
 rw [midT]
 by_cases hk : t.nd.kind = 6
 ·rw [if_pos hk]
  refine List.filter_eq_nil_iff.2 fun u hu => ?_
  obtain ⟨j, hj, rfl⟩ := List.getElem_of_mem hu
  have h1 := h j (t.ks[j].nd.name) (by rw [namesT, if_pos hk, List.length_map]; exact hj) (by rw [namesT, if_pos hk, List.getElem?_map, List.getElem?_eq_getElem hj]; rfl)
  simpa using h1
 ·rw [if_neg hk]
theorem field_hit {t : Tr Nd} {nm : List UInt8} {k : Nat} (h : ∀ j s, j < k → (namesT t)[j]? = some s → s ≠ nm) (hk : (namesT t)[k]? = some nm) : ∃ u, t.ks[k]? = some u ∧ fieldV nm t = flat (nmd [] u) ∧ fieldB nm t = true := by
 by_cases h6 : t.nd.kind = 6
 ·rw [namesT, if_pos h6] at h hk
  rw [List.getElem?_map] at hk
  cases hu : t.ks[k]? with
  | none => rw [hu] at hk; cases hk
  | some u =>
   rw [hu] at hk
   injection hk with hk
   have hs := flat_split_at hu
   have hf : (t.ks.take k).filter (fun u => decide (u.nd.name = nm)) = [] := by
    refine List.filter_eq_nil_iff.2 fun x hx => ?_
    obtain ⟨j, hj, rfl⟩ := List.getElem_of_mem hx
    rw [List.length_take] at hj
    have h1 := h j (t.ks[j]'(by omega)).nd.name (by omega) (by rw [List.getElem?_map, List.getElem?_eq_getElem (by omega)]; rfl)
    simpa using h1
   have hm : midT nm t = u :: (t.ks.drop (k + 1)).filter (fun u => decide (u.nd.name = nm)) := by
    rw [midT, if_pos h6]
    conv => lhs; rw [hs]
    rw [List.filter_append, hf, List.nil_append, List.filter_cons_of_pos (by simpa using hk)]
   exact ⟨u, rfl, by rw [fieldV, hm], by rw [fieldB, hm]; rfl⟩
 ·rw [namesT, if_neg h6] at hk
  cases hk
theorem refField_any (v : Value) (t : Tr Nd) (nm : List UInt8) (w : World) (hv : Nds w v (flat t)) (hl : (flat t).length ≤ 65536) (ht : Val t) :
  Calls Tryz.prog 38 #[v, .string ⟨nm.toArray⟩] w (GivesF w nm t) := by
 have HN := Lib.hid (refNames_any v t w hv hl ht)
 have HP := Lib.hid (fun (W : World) (hb : Below w.heap.size w W) => refParts_any v t W (hv.below hb) hl ht)
 clear hv hl ht
 go_enter Tryz.func38, Tryz.ntmps38
 go_wp2_with fail
 refine HN.out.mono ?_
 rintro e w1 ⟨v1, rfl, hp1, hb1⟩
 obtain ⟨A, c, rfl, hc, hcm, -, H⟩ := hp1
 have HH := Lib.hid H
 have HB1 := Lib.hid hb1
 have hcc : (namesT t).length ≤ maxLen := by omega
 unfold maxLen at hcc hcm
 clear H hb1
 generalize hn : (namesT t).length = n at *
 have HNN := Lib.hid hn
 clear hn
 go_wp2_with fail
 go_loopw [7] (fun i wr => ∃ k : Nat, k ≤ n ∧ i = .int .i64 k ∧ Below w1.heap.size w1 wr ∧ (∀ j s, j < k → (namesT t)[j]? = some s → s ≠ nm)) (fun i _ => n - (intOf i).toNat)
 case atStart => exact ⟨0, Nat.zero_le _, rfl, Below.refl _ _, fun j s h => absurd h (by omega)⟩
 case round =>
  obtain ⟨k, hk, rfl, hbr, hall⟩ := hrel
  have HBR := Lib.hid hbr
  have HALL := Lib.hid hall
  clear hbr hall
  by_cases hlt : k < n
  ·obtain ⟨g, o, rfl, hg, hx⟩ := HH.out (by omega)
   obtain ⟨s, hs⟩ : ∃ a, (namesT t)[k]? = some a := ⟨_, List.getElem?_eq_getElem (by rw [HNN.out]; exact hlt)⟩
   have n0 := (HBR.out.cell (p := ⟨g, o + k, none⟩) hg).trans (hx k _ hs).st
   have HS := Lib.hid hs
   have hki : (k : Int) < n := by omega
   clear hx hs
   by_cases he : s = nm
   ·subst he
    obtain ⟨u, hu, hfv, hfb⟩ := field_hit HALL.out HS.out
    have HU := Lib.hid hu
    have HFV := Lib.hid hfv
    have HFB := Lib.hid hfb
    clear hu hfv hfb
    go_wp2_with fail
    refine (HP.out _ (Below.after HB1.out HBR.out)).mono ?_
    rintro e w2 ⟨v2, rfl, hp2, hb2⟩
    obtain ⟨us, hul, ⟨A2, c2, rfl, hc2, hcm2, -, H2⟩, hur⟩ := hp2
    have hku : k < us.length := by
     rw [hul, List.length_map]
     exact (List.getElem?_eq_some_iff.1 HU.out).1
    obtain ⟨x, hxk⟩ : ∃ a, us[k]? = some a := ⟨_, List.getElem?_eq_getElem hku⟩
    obtain ⟨g2, o2, rfl, hg2, hx2⟩ := H2 (by omega)
    have x0 := (hx2 k x hxk).one
    have HX := Lib.hid (hur k x _ hxk (by rw [List.getElem?_map, HU.out]; rfl))
    have HB2 := Lib.hid (Below.after (Below.after HB1.out HBR.out) hb2)
    have hki2 : (k : Int) < us.length := by omega
    clear hul hur H2 hb2 hx2 hxk
    generalize us.length = m at *
    go_wp2_with fail
    go_ret2
    exact ⟨x, by rw [HFB.out]; rfl, by rw [HFV.out]; exact HX.out, HB2.out⟩
   ·have hne : (s == nm) = false := by simp [he]
    have HNE := Lib.hid he
    clear he
    go_wp2_with fail
    go_roundw
    case rel => exact ⟨k + 1, by omega, by go_num, HBR.out, fun j s' hj hs' => if e : j = k then by
      subst e
      rw [HS.out] at hs'
      injection hs' with hs'
      rw [← hs']; exact HNE.out
     else HALL.out j s' (by omega) hs'⟩
    case measure => simp [intOf]; omega
  ·have HMID := Lib.hid (field_none (t := t) (nm := nm) (fun j s hj => HALL.out j s (by rw [HNN.out] at hj; omega)))
   go_wp2_with fail
   go_ret2
   exact GivesF.no HMID.out rfl (Below.after HB1.out HBR.out)
def kept (names : List (List UInt8)) (nm : List UInt8) (k : Nat) : List Nat := (List.range k).filter (fun j => decide (atN names j ≠ nm))
theorem kept_same {names : List (List UInt8)} {nm : List UInt8} {k : Nat} (h : atN names k = nm) : kept names nm (k + 1) = kept names nm k := by
 unfold kept
 rw [List.range_succ, List.filter_append]
 have : List.filter (fun j => decide (atN names j ≠ nm)) [k] = [] := List.filter_eq_nil_iff.2 (fun x hx => by
  have := List.mem_singleton.1 hx
  subst this; simpa using h)
 rw [this, List.append_nil]
theorem kept_other {names : List (List UInt8)} {nm : List UInt8} {k : Nat} (h : atN names k ≠ nm) : kept names nm (k + 1) = kept names nm k ++ [k] := by
 unfold kept
 rw [List.range_succ, List.filter_append]
 have : List.filter (fun j => decide (atN names j ≠ nm)) [k] = [k] := List.filter_eq_self.2 (fun x hx => by
  have := List.mem_singleton.1 hx
  subst this; simpa using h)
 rw [this]
theorem kept_lt {names : List (List UInt8)} {nm : List UInt8} {k i : Nat} (h : i ∈ kept names nm k) : i < k := by
 have := (List.mem_filter.1 h).1
 simpa using this
theorem kept_len (names : List (List UInt8)) (nm : List UInt8) (k : Nat) : (kept names nm k).length ≤ k := by
 have := List.length_filter_le (fun j => decide (atN names j ≠ nm)) (List.range k)
 rw [List.length_range] at this
 exact this
theorem kept_zip (names : List (List UInt8)) (L : List (List Nd)) (nm : List UInt8) (h : names.length = L.length) : ((kept names nm names.length).map fun j => (atN names j, atL L j)) = (names.zip L).filter (fun x => decide (x.1 ≠ nm)) := by
 rw [← range_zip names L h, List.filter_map]; rfl
theorem less_ks {t : Tr Nd} {nm : List UInt8} (h : Val t) (hk : t.nd.kind = 6) : t.ks.filter (fun u => decide (u.nd.name ≠ nm)) = (lessT nm t).ks := by
 have hc := h.cut hk nm
 have hne : ∀ {a b : List UInt8}, a < b → a ≠ b := fun h1 h2 => List.lt_irrefl _ (h2 ▸ h1)
 show _ = loT nm t.ks ++ ([] ++ hiT nm t.ks)
 conv => lhs; rw [hc.all]
 rw [List.filter_append, List.filter_append, List.filter_eq_self.2 (fun u hu => by simpa using hne (hc.lo u hu)), List.filter_eq_nil_iff.2 (fun u hu => by simpa using hc.eq u hu), List.filter_eq_self.2 (fun u hu => by simpa using (hne (hc.hi u hu)).symm)]
theorem kept_less {t : Tr Nd} {nm : List UInt8} (h : Val t) (hk : t.nd.kind = 6) :
  (kept (t.ks.map fun k => k.nd.name) nm (t.ks.map fun k => k.nd.name).length).map (atN (t.ks.map fun k => k.nd.name)) = (lessT nm t).ks.map (fun k => k.nd.name) ∧
  (kept (t.ks.map fun k => k.nd.name) nm (t.ks.map fun k => k.nd.name).length).map (atL (t.ks.map fun k => flat (nmd [] k))) = (lessT nm t).ks.map (fun k => flat (nmd [] k)) := by
 have h1 := kept_zip (t.ks.map fun k => k.nd.name) (t.ks.map fun k => flat (nmd [] k)) nm (by simp)
 rw [List.zip_map', List.filter_map] at h1
 have h2 : ((kept (t.ks.map fun k => k.nd.name) nm (t.ks.map fun k => k.nd.name).length).map fun j => (atN (t.ks.map fun k => k.nd.name) j, atL (t.ks.map fun k => flat (nmd [] k)) j)) = (t.ks.filter (fun u => decide (u.nd.name ≠ nm))).map (fun k => (k.nd.name, flat (nmd [] k))) := h1
 rw [less_ks h hk] at h2
 constructor
 ·have := congrArg (List.map Prod.fst) h2
  rw [List.map_map, List.map_map] at this; exact this
 ·have := congrArg (List.map Prod.snd) h2
  rw [List.map_map, List.map_map] at this; exact this
theorem sum_parts : ∀ us : List (Tr Nd), ((us.map fun k => flat (nmd [] k)).map List.length).sum = (flats us).length
 | [] => rfl
 | k :: us => by rw [flats_cons, List.length_append, ← sum_parts us]; simp [flat_nmd_len]
theorem refWithout_any (v : Value) (t : Tr Nd) (nm : List UInt8) (w : World) (hv : Nds w v (flat t)) (hl : (flat t).length ≤ 65536) (ht : Val t) (hk : t.nd.kind = 6) :
  Calls Tryz.prog 40 #[v, .string ⟨nm.toArray⟩] w (OwnsN w (flat (lessT nm t))) := by
 have hN := refNames_own v t w hv hl ht
 rw [namesT, if_pos hk] at hN
 have HN := Lib.hid hN
 have HP := Lib.hid (fun (W : World) (hb : Below w.heap.size w W) => refParts_own v t W (hv.below hb) hl ht)
 have HKL := Lib.hid (kept_less (nm := nm) ht hk)
 have hnl : (t.ks.map fun k => k.nd.name).length ≤ 65536 := by
  have h1 := flats_len t.ks
  rw [flat_eq] at hl
  simp at hl ⊢
  omega
 have HSUM : Hid (((lessT nm t).ks.map fun k => flat (nmd [] k)).length ≤ 65536 ∧ (((lessT nm t).ks.map fun k => flat (nmd [] k)).map List.length).sum ≤ 131072) := Lib.hid (by
  have h1 := len_parts ht hk nm
  have h2 := len_less nm t
  rw [sum_parts]
  rw [show flat (lessT nm t) = hdN 6 (lessT nm t).ks.length :: flats (lessT nm t).ks from flat_objT _, List.length_cons] at h2
  have h3 := flats_len (lessT nm t).ks
  simp only [List.length_map]
  omega)
 have HANS : Hid (hdN 6 ((lessT nm t).ks.map fun k => flat (nmd [] k)).length :: laid (((lessT nm t).ks.map fun k => k.nd.name).zip ((lessT nm t).ks.map fun k => flat (nmd [] k))) = flat (lessT nm t)) := Lib.hid (by
  rw [laid_named, List.length_map]; exact (flat_objT _).symm)
 have HNE : Hid (∀ l ∈ ((lessT nm t).ks.map fun k => flat (nmd [] k)), l ≠ []) := Lib.hid (fun l hl e => by
  obtain ⟨k, hk, rfl⟩ := List.mem_map.1 hl
  have := flat_pos (nmd [] k)
  rw [e] at this
  exact absurd this (by simp))
 have HLL : Hid ((t.ks.map fun k => k.nd.name).length = (t.ks.map fun k => flat (nmd [] k)).length) := Lib.hid (by simp)
 have HLQ : Hid (((lessT nm t).ks.map fun k => k.nd.name).length = ((lessT nm t).ks.map fun k => flat (nmd [] k)).length) := Lib.hid (by simp)
 clear hN hv hl ht hk
 generalize (lessT nm t).ks.map (fun k => flat (nmd [] k)) = LQ at *
 generalize (lessT nm t).ks.map (fun k => k.nd.name) = NQ at *
 generalize (t.ks.map fun k => flat (nmd [] k)) = L at *
 generalize (t.ks.map fun k => k.nd.name) = names at *
 generalize flat (lessT nm t) = ans at *
 go_enter Tryz.func40, Tryz.ntmps40
 go_wp2_with fail
 refine HN.out.mono ?_
 rintro e w1 ⟨v1, rfl, ho1, hb1⟩
 have HO1 := Lib.hid ho1
 have HB1 := Lib.hid hb1
 clear ho1 hb1
 go_wp2_with fail
 refine (HP.out _ HB1.out).mono ?_
 rintro e w2 ⟨v2, zs, rfl, ho2, he2, hb2⟩
 have HE : Hid (Els w2 zs L) := Lib.hid ⟨he2.1, fun k z l a b => (he2.2 k z l a b).row ndc_len⟩
 obtain ⟨A, c, rfl, hc, hcm, -, H⟩ := (HO1.out.row stc_len).below hb2
 obtain ⟨A2, c2, rfl, hc2, hcm2, -, H2⟩ := ho2.row slc_len
 have HB2 := Lib.hid (Below.after HB1.out hb2)
 have hzl : zs.length = names.length := by rw [HE.out.1, HLL.out]
 rw [hzl] at H2 hc2 ⊢
 have HH := Lib.hid H
 have HH2 := Lib.hid H2
 have HZL := Lib.hid hzl
 clear ho2 he2 hb2 H H2 hzl
 have HS0 : Hid (Own stc 1 9 w2.heap.size ((w2.alloc (.cells #[] 9)).alloc (.cells #[] 27)) (.slice (some ⟨w2.heap.size, 0, none⟩) 0 0) []) := Lib.hid ((Own.lit (base := w2.heap.size) (E := 9) stc_len w2 #[] [] (Nat.le_refl _) (by simp) rfl).alloc _)
 have HZ0 : Hid (Own slc 1 27 w2.heap.size ((w2.alloc (.cells #[] 9)).alloc (.cells #[] 27)) (.slice (some ⟨w2.heap.size + 1, 0, none⟩) 0 0) []) := Lib.hid (by
  have := Own.lit (base := w2.heap.size) (E := 27) slc_len (w2.alloc (.cells #[] 9)) #[] [] (by simp) (by simp) rfl
  simpa using this)
 generalize hn : names.length = n at *
 have HNN := Lib.hid hn
 clear hn
 go_wp2_with fail
 go_loopw [7, 8, 9] (fun sv zv i wr => ∃ k : Nat, k ≤ n ∧ i = .int .i64 k ∧ Own stc 1 9 w2.heap.size wr sv ((kept names nm k).map (atN names)) ∧ Own slc 1 27 w2.heap.size wr zv ((kept names nm k).map fun j => zs.getD j (none, 0, 0)) ∧ Below w2.heap.size w2 wr) (fun _ _ i _ => n - (intOf i).toNat)
 case atStart => exact ⟨0, Nat.zero_le _, rfl, HS0.out, HZ0.out, ((Below.refl _ _).alloc (Nat.le_refl _) _).alloc (by simp) _⟩
 case round =>
  obtain ⟨k, hk, rfl, hs, hz, hb⟩ := hrel
  obtain ⟨As, cs, rfl, hcs, hcs2, -⟩ := hs.form
  obtain ⟨Az, cz, rfl, hcz, hcz2, -⟩ := hz.form
  have hpl := kept_len names nm k
  have HPL := Lib.hid (fun (i : Nat) (h : i ∈ kept names nm k) => kept_lt h)
  have HKQ := Lib.hid (fun (h : k = n) => (by rw [← h] at HKL; exact HKL.out : (kept names nm k).map (atN names) = NQ ∧ (kept names nm k).map (atL L) = LQ))
  have HKS := Lib.hid (kept_same (names := names) (nm := nm) (k := k))
  have HKO := Lib.hid (kept_other (names := names) (nm := nm) (k := k))
  generalize kept names nm k = p at hs hz hpl HPL HKQ HKS HKO hcs hcz ⊢
  simp only [List.length_map] at hs hz hcs hcz ⊢
  have HS := Lib.hid hs
  have HZ := Lib.hid hz
  have HB := Lib.hid hb
  clear hs hz hb
  by_cases hlt : k < n
  ·obtain ⟨g, o, rfl, hg, hx⟩ := HH.out (by omega)
   obtain ⟨g2, o2, rfl, hg2, hx2⟩ := HH2.out (by omega)
   have hkx : names[k]? = some (atN names k) := by rw [atN, List.getD_eq_getElem?_getD, List.getElem?_eq_getElem (by rw [HNN.out]; exact hlt)]; rfl
   obtain ⟨zb, hzb⟩ : ∃ a, zs[k]? = some a := ⟨_, List.getElem?_eq_getElem (by rw [HZL.out]; exact hlt)⟩
   have n0 := (HB.out.cell (p := ⟨g, o + k, none⟩) hg).trans (hx k _ hkx).st
   have HZW : Hid (w2.cell? ⟨g2, o2 + k, none⟩ = some (.slice zb.1 zb.2.1 zb.2.2)) := Lib.hid (hx2 k zb hzb).one
   have HNW : Hid (w2.cell? ⟨g, o + k, none⟩ = some (.string ⟨(atN names k).toArray⟩)) := Lib.hid (hx k _ hkx).st
   have HZB : Hid (zs.getD k (none, 0, 0) = zb) := Lib.hid (by rw [List.getD_eq_getElem?_getD, hzb]; rfl)
   have hki : (k : Int) < n := by omega
   clear hkx hzb hx hx2
   generalize hans : atN names k = nb at n0 HNW HKS HKO
   have HNB := Lib.hid hans
   clear hans
   by_cases he : nb = nm
   ·have HSK := Lib.hid (HKS.out he)
    subst he
    go_wp2_with fail
    go_roundw
    case rel => exact ⟨k + 1, by omega, by go_num, by rw [HSK.out]; exact HS.out, by rw [HSK.out]; exact HZ.out, HB.out⟩
    case measure => simp [intOf]; omega
   ·have hne : (nb == nm) = false := by simp [he]
    have HOK := Lib.hid (HKO.out he)
    clear he
    go_wp2_with (at_builtin; refine wpList_append_row (base := w2.heap.size) elText rfl _ _ rfl rfl (HS.out.alloc _) rfl (row_one stc_len wr _ rfl 9 #[.string ⟨nb.toArray⟩] nb rfl) ?_ ?_ ?_ ?_)
    ·unfold maxLen; simp; omega
    ·simp; omega
    ·have := HB.out.size; simp; omega
    ·intro A4 c4 w4 hown4 hg4 hwh
     clear hwh
     have HS4 : Hid (Own stc 1 9 w2.heap.size w4 (.slice A4 (p.length + 1) c4) ((p ++ [k]).map (atN names))) := Lib.hid (by rw [List.map_append]; show Own _ _ _ _ _ _ (p.map (atN names) ++ [atN names k]); rw [HNB.out]; simpa using hown4)
     have HZ4 := Lib.hid (Own.aside (HZ.out.alloc _) (HS.out.alloc _) (by decide) hg4)
     have HB4 : Hid (Below w2.heap.size w2 w4) := Lib.hid ((HB.out.alloc HB.out.size _).trans ((HS.out.alloc _).kept hg4 (by have := HB.out.size; simp; omega)))
     clear hown4 hg4 n0
     have z4 := (HB4.out.cell (p := ⟨g2, o2 + k, none⟩) hg2).trans HZW.out
     try simp only [List.length_map]
     go_wp2_with (at_builtin; refine wpList_append_row (base := w2.heap.size) elVal rfl _ _ rfl rfl (HZ4.out.alloc _) rfl (row_one slc_len w4 _ rfl 27 #[.slice zb.1 zb.2.1 zb.2.2] zb rfl) ?_ ?_ ?_ ?_)
     ·unfold maxLen; simp; omega
     ·simp; omega
     ·have := HB4.out.size; simp; omega
     ·intro A5 c5 w5 hown5 hg5 hwh
      clear hwh
      have HZ5 : Hid (Own slc 1 27 w2.heap.size w5 (.slice A5 (p.length + 1) c5) ((p ++ [k]).map fun j => zs.getD j (none, 0, 0))) := Lib.hid (by rw [List.map_append]; show Own _ _ _ _ _ _ ((p.map fun j => zs.getD j (none, 0, 0)) ++ [zs.getD k (none, 0, 0)]); rw [HZB.out]; simpa using hown5)
      have HS5 := Lib.hid (Own.aside (HS4.out.alloc _) (HZ4.out.alloc _) (by decide) hg5)
      have HB5 : Hid (Below w2.heap.size w2 w5) := Lib.hid ((HB4.out.alloc HB4.out.size _).trans ((HZ4.out.alloc _).kept hg5 (by have := HB4.out.size; simp; omega)))
      clear hown5 hg5 z4
      try simp only [List.length_map]
      go_wp2_with fail
      go_roundw
      case rel => exact ⟨k + 1, by omega, by go_num, by rw [HOK.out]; exact HS5.out, by rw [HOK.out]; exact HZ5.out, HB5.out⟩
      case measure => simp [intOf]; omega
  ·have hkn : k = n := by omega
   obtain ⟨h1, h2⟩ := HKQ.out hkn
   obtain ⟨wo, rfl⟩ : ∃ wo : World, wo = wr := ⟨_, rfl⟩
   have HS1 : Hid (Sts wo (.slice As p.length cs) NQ) := Lib.hid (by rw [← h1]; exact HS.out.row stc_len)
   have HV1 : Hid (Vls wo (.slice Az p.length cz) LQ) := Lib.hid (by
    rw [← h2]
    refine Els.vls (zs := p.map fun j => zs.getD j (none, 0, 0)) ⟨by simp, fun q z l hz hl => ?_⟩ (HZ.out.row slc_len)
    rw [List.getElem?_map] at hz hl
    cases hi : p[q]? with
    | none => rw [hi] at hz; cases hz
    | some i =>
     rw [hi] at hz hl
     injection hz with hz
     injection hl with hl
     have hin := HPL.out i (List.mem_of_getElem? hi)
     have hx := HE.out.2 i z l (by rw [← hz]; show zs[i]? = some (zs.getD i (none, 0, 0)); rw [List.getD_eq_getElem?_getD, List.getElem?_eq_getElem (by rw [HZL.out]; omega)]; rfl) (by rw [← hl]; show L[i]? = some (L.getD i []); rw [List.getD_eq_getElem?_getD, List.getElem?_eq_getElem (by rw [← HLL.out]; omega)]; rfl)
     exact hx.below HB.out)
   have HQ := Lib.hid (refNamed_any _ _ _ _ _ HS1.out HV1.out HLQ.out HSUM.out.1 HSUM.out.2 HNE.out)
   clear h1 h2 hkn hpl hcs hcz
   go_wp2_with fail
   refine HQ.out.mono ?_
   rintro e w3 ⟨v3, rfl, ho3, hB3⟩
   have HO3 := Lib.hid ho3
   have HB3 := Lib.hid hB3
   clear ho3 hB3
   go_wp2_with fail
   go_ret
   exact ⟨_, rfl, by rw [← HANS.out]; exact HO3.out.mono (Nat.le_trans HB2.out.size HB.out.size), Below.after HB2.out (Below.after HB.out HB3.out)⟩
theorem objV_perm {ts us : List (Tr Nd)} (hp : ts.Perm us) (hB : objB (us.map fun k => k.nd.name) (us.map fun k => flat (nmd [] k)) = true) :
  objV (ts.map fun k => k.nd.name) (ts.map fun k => flat (nmd [] k)) = objV (us.map fun k => k.nd.name) (us.map fun k => flat (nmd [] k)) := by
 obtain ⟨h1, h2, h3⟩ := objB_iff.1 hB
 have h2' : (ts.map fun k => k.nd.name).Nodup := (hp.map _).nodup_iff.2 h2
 have hA : objB (ts.map fun k => k.nd.name) (ts.map fun k => flat (nmd [] k)) = true := objB_iff.2 ⟨by simp, h2', fun s hs => h3 s ((hp.map _).mem_iff.1 hs)⟩
 have hz : ((ts.map fun k => k.nd.name).zip (ts.map fun k => flat (nmd [] k))).Perm ((us.map fun k => k.nd.name).zip (us.map fun k => flat (nmd [] k))) := by
  rw [List.zip_map', List.zip_map']; exact hp.map _
 rw [objV, objV, if_pos hA, if_pos hB, srt_perm hz (by rw [zip_keys (by simp)]; exact h2'), List.length_map, List.length_map, hp.length_eq]
theorem with_obj {t x : Tr Nd} {nm : List UInt8} (h : Val t) (hk : t.nd.kind = 6) (hx : Val x) (hn : vld nm = true) :
  objV ((lessT nm t).ks.map (fun k => k.nd.name) ++ [nm]) ((lessT nm t).ks.map (fun k => flat (nmd [] k)) ++ [flat x]) = flat (withT nm x t) := by
 obtain ⟨hb, hv⟩ := obj_again (val_put h hk hx hn) (show (withT nm x t).nd.kind = 6 from rfl)
 have hp : ((lessT nm t).ks ++ [nmd nm x]).Perm (withT nm x t).ks := by
  show ((loT nm t.ks ++ ([] ++ hiT nm t.ks)) ++ [nmd nm x]).Perm (loT nm t.ks ++ ([nmd nm x] ++ hiT nm t.ks))
  rw [List.nil_append, List.append_assoc]
  exact List.Perm.append_left _ List.perm_append_comm
 have h1 := objV_perm hp hb
 rw [hv, List.map_append, List.map_append] at h1
 rw [← h1]
 congr 2
 show [flat x] = [flat (nmd [] (nmd nm x))]
 rw [nmd_nmd, ← hx.nm, nmd_self]
theorem els_snoc {w : World} {zs : List (Option Addr × Nat × Nat)} {L : List (List Nd)} {z : Option Addr × Nat × Nat} {l : List Nd} (h : Els w zs L) (hz : Nds w (.slice z.1 z.2.1 z.2.2) l) : Els w (zs ++ [z]) (L ++ [l]) := by
 refine ⟨by simp [h.1], fun k y m h1 h2 => ?_⟩
 rcases Nat.lt_trichotomy k zs.length with hk | hk | hk
 ·rw [List.getElem?_append_left hk] at h1
  rw [List.getElem?_append_left (by rw [← h.1]; exact hk)] at h2
  exact h.2 k y m h1 h2
 ·subst hk
  rw [List.getElem?_append_right (Nat.le_refl _)] at h1
  rw [h.1, List.getElem?_append_right (Nat.le_refl _)] at h2
  simp at h1 h2
  subst h1 h2
  exact hz
 ·rw [List.getElem?_eq_none (by simp; omega)] at h1; cases h1
theorem refWith_any (v p : Value) (t x : Tr Nd) (nm : List UInt8) (w : World) (hv : Nds w v (flat t)) (hp : Nds w p (flat x)) (hl : (flat t).length ≤ 500) (hlx : (flat x).length ≤ 500) (ht : Val t) (hk : t.nd.kind = 6) (hx : Val x) (hn : vld nm = true) (hnm : nm.length ≤ maxLen) (hsh : ∀ s ∈ t.ks.map (fun k => k.nd.name), s.length ≤ maxLen) :
  Calls Tryz.prog 70 #[v, .string ⟨nm.toArray⟩, p] w (OwnsN w (flat (withT nm x t))) := by
 have hlen := len_parts ht hk nm
 have hlen2 := len_less nm t
 have HLL : Hid ((flat (lessT nm t)).length ≤ 500) := Lib.hid (by omega)
 have HW := Lib.hid (refWithout_any v t nm w hv (by omega) ht hk)
 have HVL := Lib.hid (val_less (nm := nm) ht hk)
 have HANS := Lib.hid (with_obj ht hk hx hn)
 have hnT : namesT (lessT nm t) = (lessT nm t).ks.map fun k => k.nd.name := by rw [namesT, if_pos (show (lessT nm t).nd.kind = 6 from rfl)]
 have HN := Lib.hid (fun (v1 : Value) (W : World) (h : Nds W v1 (flat (lessT nm t))) => (by have := refNames_own v1 (lessT nm t) W h (by have := HLL.out; omega) HVL.out; rwa [hnT] at this : Calls Tryz.prog 36 #[v1] W (OwnsS W ((lessT nm t).ks.map fun k => k.nd.name))))
 have HP := Lib.hid (fun (v1 : Value) (W : World) (h : Nds W v1 (flat (lessT nm t))) => refParts_own v1 (lessT nm t) W h (by have := HLL.out; omega) HVL.out)
 have hfl : (flat (lessT nm t)).length = 1 + (flats (lessT nm t).ks).length := by
  rw [show flat (lessT nm t) = hdN 6 (lessT nm t).ks.length :: flats (lessT nm t).ks from flat_objT _, List.length_cons]; omega
 have h3 := flats_len (lessT nm t).ks
 have hq1 : ((lessT nm t).ks.map fun k => k.nd.name).length ≤ 500 := by rw [List.length_map]; omega
 have HQ2 : Hid ((((lessT nm t).ks.map fun k => flat (nmd [] k)).map List.length).sum ≤ 500) := Lib.hid (by rw [sum_parts]; omega)
 have HQ3 : Hid (((lessT nm t).ks.map fun k => k.nd.name).length = ((lessT nm t).ks.map fun k => flat (nmd [] k)).length) := Lib.hid (by simp)
 have HQ4 : Hid (∀ l ∈ ((lessT nm t).ks.map fun k => flat (nmd [] k)), l ≠ []) := Lib.hid (fun l hl e => by
  obtain ⟨k, hk, rfl⟩ := List.mem_map.1 hl
  have := flat_pos (nmd [] k)
  rw [e] at this
  exact absurd this (by simp))
 have HQ5 : Hid (∀ s ∈ ((lessT nm t).ks.map fun k => k.nd.name), s.length ≤ maxLen) := Lib.hid (fun s hs => by
  obtain ⟨k, hk', rfl⟩ := List.mem_map.1 hs
  rw [← less_ks ht hk] at hk'
  exact hsh _ (List.mem_map_of_mem (List.mem_filter.1 hk').1))
 have HPX := Lib.hid hp
 have HLX := Lib.hid hlx
 have HNM := Lib.hid hnm
 have HXP := Lib.hid (flat_pos x)
 obtain ⟨Ap, cp, rfl, -⟩ := hp
 generalize hR : (lessT nm t).ks.map (fun k => flat (nmd [] k)) = L at *
 generalize hR2 : (lessT nm t).ks.map (fun k => k.nd.name) = names at *
 generalize flat (lessT nm t) = fl at *
 generalize flat (withT nm x t) = ans at *
 clear hR hR2 hv hl hlx ht hk hx hn hnm hsh hlen hlen2 hnT hfl h3
 generalize hfx : flat x = fx at *
 clear hfx
 generalize hxl : fx.length = xl at *
 have HXL := Lib.hid hxl
 clear hxl
 generalize hnn : names.length = n at *
 have HNN := Lib.hid hnn
 clear hnn
 go_enter Tryz.func70, Tryz.ntmps70
 go_wp2_with fail
 refine HW.out.mono ?_
 rintro e w1 ⟨v1, rfl, ho1, hb1⟩
 have HL1 := Lib.hid (ho1.row ndc_len)
 have HB1 := Lib.hid hb1
 clear ho1 hb1
 go_wp2_with fail
 refine (HN.out _ _ HL1.out).mono ?_
 rintro e w2 ⟨v2, rfl, ho2, hb2⟩
 obtain ⟨A2, c2, rfl, hc2, hm2, -⟩ := ho2.form
 have HO2 := Lib.hid ho2
 have HB2 := Lib.hid hb2
 clear ho2 hb2
 rw [HNN.out] at HO2 hc2 ⊢
 go_wp2_with (at_builtin; refine wpList_append_row (base := w1.heap.size) elText rfl _ _ rfl rfl ((by have := HO2.out.alloc (.cells #[.string ⟨nm.toArray⟩] 9); rw [← HNN.out] at this; rw [← HNN.out]; exact this) : Own stc 1 9 w1.heap.size (w2.alloc (.cells #[.string ⟨nm.toArray⟩] 9)) (.slice A2 n c2) names) rfl (row_one stc_len w2 _ rfl 9 #[.string ⟨nm.toArray⟩] nm rfl) ?_ ?_ ?_ ?_)
 ·unfold maxLen; have := HNN.out; simp; omega
 ·have := HNN.out; simp; omega
 ·have := HB2.out.size; simp; omega
 ·intro A3 c3 w3 hown3 hg3 hwh
  clear hwh
  have HO3 : Hid (Own stc 1 9 w1.heap.size w3 (.slice A3 (n + 1) c3) (names ++ [nm])) := Lib.hid (by have h := hown3; rw [HNN.out] at h; simpa using h)
  have HB3 : Hid (Below w1.heap.size w1 w3) := Lib.hid ((HB2.out.alloc HB2.out.size _).trans ((HO2.out.alloc _).kept hg3 (by have := HB2.out.size; simp; omega)))
  have HL3 := Lib.hid (HL1.out.below HB3.out)
  clear hown3 hg3
  try simp only [HNN.out]
  go_wp2_with fail
  refine (HP.out _ _ HL3.out).mono ?_
  rintro e w4 ⟨v4, zs, rfl, ho4, he4, hb4⟩
  obtain ⟨A4, c4, rfl, hc4, hm4, -⟩ := ho4.form
  have hzl : zs.length = n := by rw [he4.1, ← HQ3.out]
  have HZL := Lib.hid hzl
  have HO4 := Lib.hid ho4
  have HE4 := Lib.hid he4
  have HB4 := Lib.hid hb4
  rw [hzl] at HO4 hc4 ⊢
  clear ho4 he4 hb4 hzl
  go_wp2_with (at_builtin; refine wpList_append_row (base := w3.heap.size) elVal rfl _ _ rfl rfl (HO4.out.alloc _) rfl (row_one slc_len w4 _ rfl 27 #[.slice Ap xl cp] (Ap, xl, cp) rfl) ?_ ?_ ?_ ?_)
  ·unfold maxLen; have := HZL.out; simp; omega
  ·have := HZL.out; simp; omega
  ·have := HB4.out.size; simp; omega
  ·intro A5 c5 w5 hown5 hg5 hwh
   clear hwh
   have HO5 : Hid (Own slc 1 27 w3.heap.size w5 (.slice A5 (n + 1) c5) (zs ++ [(Ap, xl, cp)])) := Lib.hid (by have h := hown5; rw [HZL.out] at h; simpa using h)
   have HO4' : Hid (Own slc 1 27 w3.heap.size (w4.alloc (.cells #[.slice Ap xl cp] 27)) (.slice A4 n c4) zs) := Lib.hid (HO4.out.alloc _)
   have HB5 : Hid (Below w3.heap.size w3 w5) := Lib.hid ((HB4.out.alloc HB4.out.size _).trans (HO4'.out.kept hg5 (by have := HB4.out.size; simp; omega)))
   have HE5 := Lib.hid (Elems.aside (HE4.out.below ((Below.refl _ _).alloc (Nat.le_refl _) _)) HO4'.out hg5)
   have HBW := Lib.hid (Below.after (Below.after HB1.out HB3.out) HB5.out)
   have HS5 := Lib.hid ((HO3.out.row stc_len).below HB5.out)
   have HV5 := Lib.hid (Els.vls (els_snoc (z := (Ap, xl, cp)) ⟨HE5.out.1, fun k z l a b => (HE5.out.2 k z l a b).row ndc_len⟩ (HPX.out.below HBW.out)) (HO5.out.row slc_len))
   have hob := refObject_any _ _ (names ++ [nm]) (L ++ [fx]) w5 HS5.out HV5.out (by have := HNN.out; simp; omega) (by have h4 := HQ2.out; have h5 := HXL.out; have h6 := HLX.out; rw [List.map_append, List.sum_append]; simp only [List.map_cons, List.map_nil, List.sum_cons, List.sum_nil]; omega) (fun s hs => by
     rcases List.mem_append.1 hs with h | h
     ·exact HQ5.out s h
     ·rw [List.mem_singleton.1 h]; exact HNM.out) (fun l hl => by
     rcases List.mem_append.1 hl with h | h
     ·exact HQ4.out l h
     ·rw [List.mem_singleton.1 h]
      intro e
      have h6 := HXL.out
      rw [e] at h6
      have h7 := HXP.out
      simp at h6
      omega)
   have HOB := Lib.hid hob
   clear hown5 hg5 hob
   try simp only [HZL.out]
   go_wp2_with fail
   refine HOB.out.mono ?_
   rintro e w6 ⟨v6, rfl, ho6, hb6⟩
   rw [HANS.out] at ho6
   have HO6 := Lib.hid ho6
   have HB6 := Lib.hid hb6
   clear ho6 hb6
   go_wp2_with fail
   go_ret
   exact ⟨_, rfl, HO6.out.mono HBW.out.size, Below.after HBW.out HB6.out⟩
end
section
open Go.RowKit Np Rw Vp Up Qp Pw
end
section
open Go.RowKit Np Rw Vp Up Qp Pw
end
section
open Go.RowKit Np Rw Vp Up Qp Pw
def Stp (p : List St) : Prop := ∀ s ∈ p, s.name.length ≤ maxLen ∧ -9223372036854775808 ≤ s.n ∧ s.n ≤ 9223372036854775807
theorem Stp.nm {p : List St} (h : Stp p) : ∀ s ∈ p, s.name.length ≤ maxLen := fun s hs => (h s hs).1
theorem got_none {p : List St} {t : Tr Nd} (h : errP p t ≠ 0) : gotP p t = [] := by
 unfold gotP
 cases hs : subP p t with
 | none => rfl
 | some u => exact absurd ((errP_iff p t).2 (by rw [hs]; rfl)) h
theorem put_none {p : List St} {t x : Tr Nd} (h : errP p t ≠ 0) : putP p t x = [] := by unfold putP; rw [if_neg h]
theorem sub_some {p : List St} {t : Tr Nd} (h : errP p t = 0) : ∃ u, subP p t = some u := by
 have := (errP_iff p t).1 h
 exact Option.isSome_iff_exists.1 this
theorem set_len {p : List St} {t u x : Tr Nd} (h : subP p t = some u) : (flat (setP p t x)).length ≤ (flat t).length + (flat x).length := by
 obtain ⟨pre, post, h1, -, h2⟩ := row_at p t u h
 rw [h2 x, h1]
 have : (flat (nmd u.nd.name x)).length = (flat x).length := by rw [nmd, flat_mk, flat_eq x]; simp
 simp only [List.length_append, this]
 omega
theorem short_nmd {nm : List UInt8} {x : Tr Nd} (hn : nm.length ≤ maxLen) (h : Short (flat x)) : Short (flat (nmd nm x)) := by
 intro n hn2
 rw [nmd, flat_mk] at hn2
 rcases List.mem_cons.1 hn2 with rfl | hn3
 ·exact ⟨hn, (h x.nd (by rw [flat_eq]; simp)).2⟩
 ·exact h n (by rw [flat_eq]; exact List.mem_cons_of_mem _ hn3)
theorem val_name {x : Tr Nd} (h : Val x) : nmd [] x = x := nmd_val h []
theorem got_some {p : List St} {t u : Tr Nd} (h : subP p t = some u) : gotP p t = flat (nmd [] u) := by unfold gotP; rw [h]
end
section
open Go.RowKit Np Rw Vp Up Qp Pw
theorem kid_nmd (s : St) (nm : List UInt8) (t : Tr Nd) : kid s (nmd nm t) = kid s t := rfl
theorem getD_eq {α : Type} {l : List α} {k : Nat} (h : k < l.length) (a b : α) : l.getD k a = l.getD k b := by
 simp [List.getD, List.getElem?_eq_getElem h]
theorem got_nmd : ∀ (q : List St) (t : Tr Nd), gotP q (nmd [] t) = gotP q t ∧ errP q (nmd [] t) = errP q t
 | [], t => ⟨rfl, rfl⟩
 | s :: q, t => by
  unfold gotP
  rw [subP, subP, errP, errP, kid_nmd]
  show (match (match kid s t with | none => none | some k => subP q ((nmd [] t).ks.getD k (nmd [] t))) with | none => [] | some u => flat (nmd [] u)) = _ ∧ (if t.nd.kind ≠ stKind s then 5 else match kid s t with | none => 6 | some k => errP q ((nmd [] t).ks.getD k (nmd [] t))) = _
  cases hk : kid s t with
  | none => exact ⟨rfl, rfl⟩
  | some k =>
   have hl := (kid_lt hk).1
   simp only
   rw [show (nmd [] t).ks.getD k (nmd [] t) = t.ks.getD k t from getD_eq hl _ _]
   exact ⟨rfl, rfl⟩
theorem got_append {p q : List St} {t u : Tr Nd} (h : subP p t = some u) : gotP (p ++ q) t = gotP q (nmd [] u) ∧ errP (p ++ q) t = errP q (nmd [] u) := by
 obtain ⟨h1, h2⟩ := got_nmd q u
 rw [h1, h2]
 refine ⟨?_, ?_⟩
 ·unfold gotP
  rw [sub_append, h]; rfl
 ·rw [err_append, if_pos ((errP_iff p t).2 (by rw [h]; rfl)), h]
theorem got_append_bad {p q : List St} {t : Tr Nd} (h : errP p t ≠ 0) : gotP (p ++ q) t = [] ∧ errP (p ++ q) t = errP p t := by
 have h2 : errP (p ++ q) t = errP p t := by rw [err_append, if_neg h]
 exact ⟨got_none (by rw [h2]; exact h), h2⟩
structure LcAt (w : World) (b : Nat) (x y : Value) : Prop where
 c0 : w.cell? ⟨b, 0, none⟩ = some x
 c1 : w.cell? ⟨b, 1, none⟩ = some y
 lt : b < w.heap.size
theorem LcAt.below {w w' : World} {b : Nat} {x y : Value} (h : LcAt w b x y) (hb : Below w.heap.size w w') : LcAt w' b x y :=
 ⟨(hb.cell (p := ⟨b, 0, none⟩) h.lt).trans h.c0, (hb.cell (p := ⟨b, 1, none⟩) h.lt).trans h.c1, Nat.lt_of_lt_of_le h.lt hb.size⟩
end
section
open Go.RowKit Np Rw Vp Up Qp Pw
theorem seek_field {s : St} (hs : s.part = false) : ∀ (ts : List (Tr Nd)) (k0 : Nat), (seekN s (names ts) k0 = none → ts.filter (fun u => decide (u.nd.name = s.name)) = []) ∧
  ∀ j, seekN s (names ts) k0 = some j → ∃ u rest, k0 ≤ j ∧ ts[j - k0]? = some u ∧ ts.filter (fun u => decide (u.nd.name = s.name)) = u :: rest
 | [], k0 => ⟨fun _ => rfl, fun j h => by simp [names, seekN] at h⟩
 | a :: ts, k0 => by
  obtain ⟨h1, h2⟩ := seek_field hs ts (k0 + 1)
  have hl : lead s k0 a.nd.name = decide (a.nd.name = s.name) := by unfold lead; rw [hs]; simp
  show (seekN s (a.nd.name :: names ts) k0 = none → _) ∧ ∀ j, seekN s (a.nd.name :: names ts) k0 = some j → _
  rw [seekN, hl]
  by_cases ha : a.nd.name = s.name
  ·have hd : decide (a.nd.name = s.name) = true := by simpa using ha
   rw [hd]
   refine ⟨fun h => by simp at h, fun j h => ?_⟩
   simp at h
   subst h
   exact ⟨a, _, Nat.le_refl _, by simp, by rw [List.filter_cons, hd]; rfl⟩
  ·have hd : decide (a.nd.name = s.name) = false := by simpa using ha
   rw [hd]
   refine ⟨fun h => ?_, fun j h => ?_⟩
   ·rw [List.filter_cons, hd]
    exact h1 (by simpa using h)
   ·obtain ⟨u, rest, g1, g2, g3⟩ := h2 j (by simpa using h)
    refine ⟨u, rest, by omega, ?_, by rw [List.filter_cons, hd]; exact g3⟩
    rw [show j - k0 = (j - (k0 + 1)) + 1 by omega, List.getElem?_cons_succ]
    exact g2
theorem seek_part {s : St} (hs : s.part = true) {n : Nat} (hn : s.n = n) : ∀ (l : List (List UInt8)) (k0 : Nat), k0 ≤ n → seekN s l k0 = if n < k0 + l.length then some n else none
 | [], k0, h => by rw [seekN, if_neg (by simp; omega)]
 | a :: l, k0, h => by
  have hl : lead s k0 a = decide ((k0 : Int) = n) := by unfold lead; rw [hs, hn]; simp
  rw [seekN, hl]
  by_cases hk : k0 = n
  ·subst hk
   simp
  ·have : decide ((k0 : Int) = (n : Int)) = false := by simp; omega
   rw [this, seek_part hs hn l (k0 + 1) (by omega)]
   simp only [Bool.false_eq_true, if_false, List.length_cons]
   rw [show k0 + 1 + l.length = k0 + (l.length + 1) by omega]
theorem kid_part {s : St} {t : Tr Nd} {n : Nat} (hs : s.part = true) (hn : s.n = n) : kid s t = if t.nd.kind = 5 then (if n < t.ks.length then some n else none) else none := by
 unfold kid stKind
 rw [hs, seek_part hs hn _ 0 (Nat.zero_le _)]
 simp [names]
theorem kid_field {s : St} {t : Tr Nd} (hs : s.part = false) (hk : t.nd.kind = 6) : (kid s t = none → fieldV s.name t = [] ∧ fieldB s.name t = false) ∧ ∀ k, kid s t = some k → fieldV s.name t = flat (nmd [] (t.ks.getD k t)) ∧ fieldB s.name t = true := by
 have hkd : kid s t = seekN s (names t.ks) 0 := by unfold kid stKind; rw [hs]; simp [hk]
 have hm : midT s.name t = t.ks.filter (fun u => decide (u.nd.name = s.name)) := by rw [midT, if_pos hk]
 obtain ⟨h1, h2⟩ := seek_field hs t.ks 0
 rw [hkd]
 unfold fieldV fieldB
 rw [hm]
 refine ⟨fun h => ?_, fun k h => ?_⟩
 ·rw [h1 h]; exact ⟨rfl, rfl⟩
 ·obtain ⟨u, rest, -, g2, g3⟩ := h2 k h
  rw [g3]
  rw [Nat.sub_zero] at g2
  have : t.ks.getD k t = u := by simp [List.getD, g2]
  rw [this]
  exact ⟨rfl, rfl⟩
theorem got_one (s : St) (t : Tr Nd) : gotP [s] t = match kid s t with | none => [] | some k => flat (nmd [] (t.ks.getD k t)) := by
 unfold gotP
 rw [subP]
 cases kid s t <;> rfl
theorem err_one (s : St) (t : Tr Nd) : errP [s] t = if t.nd.kind ≠ stKind s then 5 else match kid s t with | none => 6 | some _ => 0 := by
 rw [errP]
 cases kid s t <;> rfl
theorem set_nmd : ∀ (p : List St) (c x : Tr Nd), setP p (nmd [] c) x = nmd [] (setP p c x)
 | [], c, x => rfl
 | s :: p, c, x => by
  rw [setP, setP, kid_nmd]
  cases hk : kid s c with
  | none => rfl
  | some k =>
   have hl := (kid_lt hk).1
   simp only
   rw [show (nmd [] c).ks.getD k (nmd [] c) = c.ks.getD k c from getD_eq hl _ _]
   rfl
theorem list_set {t : Tr Nd} {k : Nat} {y : Tr Nd} (ht : Val t) (hk : t.nd.kind = 5) : hdN 5 (((t.ks.map fun u => flat (nmd [] u)).set k (flat y)).length) :: ((t.ks.map fun u => flat (nmd [] u)).set k (flat y)).flatten = flat (.mk t.nd (t.ks.set k y)) := by
 have h1 := ht.arr hk
 have hnd : t.nd = hdN 5 t.ks.length := by
  conv => lhs; rw [h1]
  rfl
 have hp : t.ks.map (fun u => flat (nmd [] u)) = t.ks.map flat := by
  apply List.map_congr_left
  intro u hu
  have h0 := nmd_self u
  rw [ht.unnamed hk u hu] at h0
  rw [h0]
 rw [hp, flat_mk, List.length_set, List.length_map, ← hnd]
 congr 1
 rw [flats_map, List.map_set]
theorem obj_set {t u : Tr Nd} {k : Nat} {s : St} (y : Tr Nd) (ht : Val t) (hk : t.nd.kind = 6) (hu : t.ks[k]? = some u) (hn : u.nd.name = s.name) : withT s.name y t = .mk t.nd (t.ks.set k (nmd s.name y)) := by
 have hc := ht.cut hk s.name
 have h1 := ht.obj hk
 have hall := hc.all
 have hlt : ∀ {a b : List UInt8}, a < b → ¬ a = b := fun h1 h2 => List.lt_irrefl _ (h2 ▸ h1)
 have hkl := (List.getElem?_eq_some_iff.1 hu).1
 obtain ⟨hlo, hhi⟩ : ¬ k < (loT s.name t.ks).length ∧ ¬ (loT s.name t.ks).length + (eqT s.name t.ks).length ≤ k := by
  constructor
  ·intro h
   rw [hall, List.getElem?_append_left h] at hu
   exact hlt (hc.lo u (List.mem_of_getElem? hu)) hn
  ·intro h
   rw [hall, List.getElem?_append_right (by omega), List.getElem?_append_right (by omega)] at hu
   exact hlt (hc.hi u (List.mem_of_getElem? hu)) hn.symm
 have hone := hc.one
 have hkk : k = (loT s.name t.ks).length := by omega
 have hel : (eqT s.name t.ks).length = 1 := by omega
 obtain ⟨e, he⟩ : ∃ e, eqT s.name t.ks = [e] := by
  match hm : eqT s.name t.ks, hel with
  | [e], _ => exact ⟨e, rfl⟩
 have hset : t.ks.set k (nmd s.name y) = loT s.name t.ks ++ ([nmd s.name y] ++ hiT s.name t.ks) := by
  conv => lhs; rw [hall, he, hkk]
  rw [List.set_append_right _ _ (Nat.le_refl _), Nat.sub_self]
  rfl
 have hnd : t.nd = hdN 6 t.ks.length := by
  conv => lhs; rw [h1]
  rfl
 rw [hset, hnd]
 unfold withT objT
 congr 2
 rw [← hset, List.length_set]
end
end Go.Proofs.YtldioobbfkaebaaGreatDoor
