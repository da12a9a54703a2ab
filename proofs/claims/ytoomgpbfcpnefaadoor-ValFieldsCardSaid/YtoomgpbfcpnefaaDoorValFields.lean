/-
  What the document's own answers Field, Without and With are, and the walk of the statement ValFields: it returns true. (One text, as a claim holds 60 files at most.)
-/
import Derived.Test.YtoomgpbfcpnefaaDoorRefW7
import Derived.Test.YtoomgpbfcpnefaaDoorValW12
import Derived.Test.YtoomgpbfcpnefaaDoorRefW10
import Derived.Test.YtoomgpbfcpnefaaDoorPutP
import Derived.Test.YtoomgpbfcpnefaaDoorValW8
import Derived.Test.YtoomgpbfcpnefaaDoorRefW6
import Derived.Test.YtoomgpbfcpnefaaDoorValW13
import Derived.Test.YtoomgpbfcpnefaaDoorAlive
namespace Go.Proofs.YtoomgpbfcpnefaaDoor
open Go.RowKit Np Rw Vp

theorem field_none {t : Tr Nd} {nm : List UInt8} (h : ∀ j s, j < (namesT t).length → (namesT t)[j]? = some s → s ≠ nm) : midT nm t = [] := by
  rw [midT]
  by_cases hk : t.nd.kind = 6
  · rw [if_pos hk]
    refine List.filter_eq_nil_iff.2 fun u hu => ?_
    obtain ⟨j, hj, rfl⟩ := List.getElem_of_mem hu
    have h1 := h j (t.ks[j].nd.name) (by rw [namesT, if_pos hk, List.length_map]; exact hj) (by rw [namesT, if_pos hk, List.getElem?_map, List.getElem?_eq_getElem hj]; rfl)
    simpa using h1
  · rw [if_neg hk]
theorem field_hit {t : Tr Nd} {nm : List UInt8} {k : Nat} (h : ∀ j s, j < k → (namesT t)[j]? = some s → s ≠ nm) (hk : (namesT t)[k]? = some nm) : ∃ u, t.ks[k]? = some u ∧ fieldV nm t = flat (nmd [] u) ∧ fieldB nm t = true := by
  by_cases h6 : t.nd.kind = 6
  · rw [namesT, if_pos h6] at h hk
    rw [List.getElem?_map] at hk
    cases hu : t.ks[k]? with
    | none => rw [hu] at hk; cases hk
    | some u =>
      rw [hu] at hk
      injection hk with hk
      have hs := flat_split_at hu
      have hf : (t.ks.take k).filter (fun u => decide (u.nd.name = nm)) = [] := by
        refine List.filter_eq_nil_iff.2 fun x hx => ?_
        obtain ⟨j, hj, rfl⟩ := List.getElem_of_mem hx
        rw [List.length_take] at hj
        have h1 := h j (t.ks[j]'(by omega)).nd.name (by omega) (by rw [List.getElem?_map, List.getElem?_eq_getElem (by omega)]; rfl)
        simpa using h1
      have hm : midT nm t = u :: (t.ks.drop (k + 1)).filter (fun u => decide (u.nd.name = nm)) := by
        rw [midT, if_pos h6]
        conv => lhs; rw [hs]
        rw [List.filter_append, hf, List.nil_append, List.filter_cons_of_pos (by simpa using hk)]
      exact ⟨u, rfl, by rw [fieldV, hm], by rw [fieldB, hm]; rfl⟩
  · rw [namesT, if_neg h6] at hk
    cases hk

set_option maxRecDepth 100000 in
set_option maxHeartbeats 4000000 in
theorem refField_any (v : Value) (t : Tr Nd) (nm : List UInt8) (w : World) (hv : Nds w v (flat t)) (hl : (flat t).length ≤ 65536) (ht : Val t) :
    Calls Tryd.prog 30 #[v, .string ⟨nm.toArray⟩] w (GivesF w nm t) := by
  have HN := Lib.hid (refNames_any v t w hv hl ht)
  have HP := Lib.hid (fun (W : World) (hb : Below w.heap.size w W) => refParts_any v t W (hv.below hb) hl ht)
  clear hv hl ht
  go_enter Tryd.func30, Tryd.ntmps30
  go_wp2_with fail
  refine HN.out.mono ?_
  rintro e w1 ⟨v1, rfl, hp1, hb1⟩
  obtain ⟨A, c, rfl, hc, hcm, -, H⟩ := hp1
  have HH := Lib.hid H
  have HB1 := Lib.hid hb1
  have hcc : (namesT t).length ≤ maxLen := by omega
  unfold maxLen at hcc hcm
  clear H hb1
  generalize hn : (namesT t).length = n at *
  have HNN := Lib.hid hn
  clear hn
  go_wp2_with fail
  go_loopw [7] (fun i wr => ∃ k : Nat, k ≤ n ∧ i = .int .i64 k ∧ Below w1.heap.size w1 wr ∧ (∀ j s, j < k → (namesT t)[j]? = some s → s ≠ nm)) (fun i _ => n - (intOf i).toNat)
  case atStart => exact ⟨0, Nat.zero_le _, rfl, Below.refl _ _, fun j s h => absurd h (by omega)⟩
  case round =>
    obtain ⟨k, hk, rfl, hbr, hall⟩ := hrel
    have HBR := Lib.hid hbr
    have HALL := Lib.hid hall
    clear hbr hall
    by_cases hlt : k < n
    · obtain ⟨g, o, rfl, hg, hx⟩ := HH.out (by omega)
      obtain ⟨s, hs⟩ : ∃ a, (namesT t)[k]? = some a := ⟨_, List.getElem?_eq_getElem (by rw [HNN.out]; exact hlt)⟩
      have n0 := (HBR.out.cell (p := ⟨g, o + k, none⟩) hg).trans (hx k _ hs).st
      have HS := Lib.hid hs
      have hki : (k : Int) < n := by omega
      clear hx hs
      by_cases he : s = nm
      · subst he
        obtain ⟨u, hu, hfv, hfb⟩ := field_hit HALL.out HS.out
        have HU := Lib.hid hu
        have HFV := Lib.hid hfv
        have HFB := Lib.hid hfb
        clear hu hfv hfb
        go_wp2_with fail
        refine (HP.out _ (Below.after HB1.out HBR.out)).mono ?_
        rintro e w2 ⟨v2, rfl, hp2, hb2⟩
        obtain ⟨us, hul, ⟨A2, c2, rfl, hc2, hcm2, -, H2⟩, hur⟩ := hp2
        have hku : k < us.length := by
          rw [hul, List.length_map]
          exact (List.getElem?_eq_some_iff.1 HU.out).1
        obtain ⟨x, hxk⟩ : ∃ a, us[k]? = some a := ⟨_, List.getElem?_eq_getElem hku⟩
        obtain ⟨g2, o2, rfl, hg2, hx2⟩ := H2 (by omega)
        have x0 := (hx2 k x hxk).one
        have HX := Lib.hid (hur k x _ hxk (by rw [List.getElem?_map, HU.out]; rfl))
        have HB2 := Lib.hid (Below.after (Below.after HB1.out HBR.out) hb2)
        have hki2 : (k : Int) < us.length := by omega
        clear hul hur H2 hb2 hx2 hxk
        generalize us.length = m at *
        go_wp2_with fail
        go_ret2
        exact ⟨x, by rw [HFB.out]; rfl, by rw [HFV.out]; exact HX.out, HB2.out⟩
      · have hne : (s == nm) = false := by simp [he]
        have HNE := Lib.hid he
        clear he
        go_wp2_with fail
        go_roundw
        case rel => exact ⟨k + 1, by omega, by go_num, HBR.out, fun j s' hj hs' => if e : j = k then by
            subst e
            rw [HS.out] at hs'
            injection hs' with hs'
            rw [← hs']; exact HNE.out
          else HALL.out j s' (by omega) hs'⟩
        case measure => simp [intOf]; omega
    · have HMID := Lib.hid (field_none (t := t) (nm := nm) (fun j s hj => HALL.out j s (by rw [HNN.out] at hj; omega)))
      go_wp2_with fail
      go_ret2
      exact GivesF.no HMID.out rfl (Below.after HB1.out HBR.out)

/-- The places of the other names. -/
def kept (names : List (List UInt8)) (nm : List UInt8) (k : Nat) : List Nat := (List.range k).filter (fun j => decide (atN names j ≠ nm))
theorem kept_same {names : List (List UInt8)} {nm : List UInt8} {k : Nat} (h : atN names k = nm) : kept names nm (k + 1) = kept names nm k := by
  unfold kept
  rw [List.range_succ, List.filter_append]
  have : List.filter (fun j => decide (atN names j ≠ nm)) [k] = [] := List.filter_eq_nil_iff.2 (fun x hx => by
    have := List.mem_singleton.1 hx
    subst this; simpa using h)
  rw [this, List.append_nil]
theorem kept_other {names : List (List UInt8)} {nm : List UInt8} {k : Nat} (h : atN names k ≠ nm) : kept names nm (k + 1) = kept names nm k ++ [k] := by
  unfold kept
  rw [List.range_succ, List.filter_append]
  have : List.filter (fun j => decide (atN names j ≠ nm)) [k] = [k] := List.filter_eq_self.2 (fun x hx => by
    have := List.mem_singleton.1 hx
    subst this; simpa using h)
  rw [this]
theorem kept_lt {names : List (List UInt8)} {nm : List UInt8} {k i : Nat} (h : i ∈ kept names nm k) : i < k := by
  have := (List.mem_filter.1 h).1
  simpa using this
theorem kept_len (names : List (List UInt8)) (nm : List UInt8) (k : Nat) : (kept names nm k).length ≤ k := by
  have := List.length_filter_le (fun j => decide (atN names j ≠ nm)) (List.range k)
  rw [List.length_range] at this
  exact this
theorem kept_zip (names : List (List UInt8)) (L : List (List Nd)) (nm : List UInt8) (h : names.length = L.length) : ((kept names nm names.length).map fun j => (atN names j, atL L j)) = (names.zip L).filter (fun x => decide (x.1 ≠ nm)) := by
  rw [← range_zip names L h, List.filter_map]; rfl
theorem less_ks {t : Tr Nd} {nm : List UInt8} (h : Val t) (hk : t.nd.kind = 6) : t.ks.filter (fun u => decide (u.nd.name ≠ nm)) = (lessT nm t).ks := by
  have hc := h.cut hk nm
  have hne : ∀ {a b : List UInt8}, a < b → a ≠ b := fun h1 h2 => List.lt_irrefl _ (h2 ▸ h1)
  show _ = loT nm t.ks ++ ([] ++ hiT nm t.ks)
  conv => lhs; rw [hc.all]
  rw [List.filter_append, List.filter_append, List.filter_eq_self.2 (fun u hu => by simpa using hne (hc.lo u hu)), List.filter_eq_nil_iff.2 (fun u hu => by simpa using hc.eq u hu), List.filter_eq_self.2 (fun u hu => by simpa using (hne (hc.hi u hu)).symm)]
theorem kept_less {t : Tr Nd} {nm : List UInt8} (h : Val t) (hk : t.nd.kind = 6) :
    (kept (t.ks.map fun k => k.nd.name) nm (t.ks.map fun k => k.nd.name).length).map (atN (t.ks.map fun k => k.nd.name)) = (lessT nm t).ks.map (fun k => k.nd.name) ∧
    (kept (t.ks.map fun k => k.nd.name) nm (t.ks.map fun k => k.nd.name).length).map (atL (t.ks.map fun k => flat (nmd [] k))) = (lessT nm t).ks.map (fun k => flat (nmd [] k)) := by
  have h1 := kept_zip (t.ks.map fun k => k.nd.name) (t.ks.map fun k => flat (nmd [] k)) nm (by simp)
  rw [List.zip_map', List.filter_map] at h1
  have h2 : ((kept (t.ks.map fun k => k.nd.name) nm (t.ks.map fun k => k.nd.name).length).map fun j => (atN (t.ks.map fun k => k.nd.name) j, atL (t.ks.map fun k => flat (nmd [] k)) j)) = (t.ks.filter (fun u => decide (u.nd.name ≠ nm))).map (fun k => (k.nd.name, flat (nmd [] k))) := h1
  rw [less_ks h hk] at h2
  constructor
  · have := congrArg (List.map Prod.fst) h2
    rw [List.map_map, List.map_map] at this; exact this
  · have := congrArg (List.map Prod.snd) h2
    rw [List.map_map, List.map_map] at this; exact this
theorem sum_parts : ∀ us : List (Tr Nd), ((us.map fun k => flat (nmd [] k)).map List.length).sum = (flats us).length
  | [] => rfl
  | k :: us => by rw [flats_cons, List.length_append, ← sum_parts us]; simp [flat_nmd_len]

set_option maxRecDepth 100000 in
set_option maxHeartbeats 4000000 in
theorem refWithout_any (v : Value) (t : Tr Nd) (nm : List UInt8) (w : World) (hv : Nds w v (flat t)) (hl : (flat t).length ≤ 65536) (ht : Val t) (hk : t.nd.kind = 6) :
    Calls Tryd.prog 35 #[v, .string ⟨nm.toArray⟩] w (OwnsN w (flat (lessT nm t))) := by
  have hN := refNames_own v t w hv hl ht
  rw [namesT, if_pos hk] at hN
  have HN := Lib.hid hN
  have HP := Lib.hid (fun (W : World) (hb : Below w.heap.size w W) => refParts_own v t W (hv.below hb) hl ht)
  have HKL := Lib.hid (kept_less (nm := nm) ht hk)
  have hnl : (t.ks.map fun k => k.nd.name).length ≤ 65536 := by
    have h1 := flats_len t.ks
    rw [flat_eq] at hl
    simp at hl ⊢
    omega
  have HSUM : Hid (((lessT nm t).ks.map fun k => flat (nmd [] k)).length ≤ 65536 ∧ (((lessT nm t).ks.map fun k => flat (nmd [] k)).map List.length).sum ≤ 131072) := Lib.hid (by
    have h1 := len_parts ht hk nm
    have h2 := len_less nm t
    rw [sum_parts]
    rw [show flat (lessT nm t) = hdN 6 (lessT nm t).ks.length :: flats (lessT nm t).ks from flat_objT _, List.length_cons] at h2
    have h3 := flats_len (lessT nm t).ks
    simp only [List.length_map]
    omega)
  have HANS : Hid (hdN 6 ((lessT nm t).ks.map fun k => flat (nmd [] k)).length :: laid (((lessT nm t).ks.map fun k => k.nd.name).zip ((lessT nm t).ks.map fun k => flat (nmd [] k))) = flat (lessT nm t)) := Lib.hid (by
    rw [laid_named, List.length_map]; exact (flat_objT _).symm)
  have HNE : Hid (∀ l ∈ ((lessT nm t).ks.map fun k => flat (nmd [] k)), l ≠ []) := Lib.hid (fun l hl e => by
    obtain ⟨k, hk, rfl⟩ := List.mem_map.1 hl
    have := flat_pos (nmd [] k)
    rw [e] at this
    exact absurd this (by simp))
  have HLL : Hid ((t.ks.map fun k => k.nd.name).length = (t.ks.map fun k => flat (nmd [] k)).length) := Lib.hid (by simp)
  have HLQ : Hid (((lessT nm t).ks.map fun k => k.nd.name).length = ((lessT nm t).ks.map fun k => flat (nmd [] k)).length) := Lib.hid (by simp)
  clear hN hv hl ht hk
  generalize (lessT nm t).ks.map (fun k => flat (nmd [] k)) = LQ at *
  generalize (lessT nm t).ks.map (fun k => k.nd.name) = NQ at *
  generalize (t.ks.map fun k => flat (nmd [] k)) = L at *
  generalize (t.ks.map fun k => k.nd.name) = names at *
  generalize flat (lessT nm t) = ans at *
  go_enter Tryd.func35, Tryd.ntmps35
  go_wp2_with fail
  refine HN.out.mono ?_
  rintro e w1 ⟨v1, rfl, ho1, hb1⟩
  have HO1 := Lib.hid ho1
  have HB1 := Lib.hid hb1
  clear ho1 hb1
  go_wp2_with fail
  refine (HP.out _ HB1.out).mono ?_
  rintro e w2 ⟨v2, zs, rfl, ho2, he2, hb2⟩
  have HE : Hid (Els w2 zs L) := Lib.hid ⟨he2.1, fun k z l a b => (he2.2 k z l a b).row ndc_len⟩
  obtain ⟨A, c, rfl, hc, hcm, -, H⟩ := (HO1.out.row stc_len).below hb2
  obtain ⟨A2, c2, rfl, hc2, hcm2, -, H2⟩ := ho2.row slc_len
  have HB2 := Lib.hid (Below.after HB1.out hb2)
  have hzl : zs.length = names.length := by rw [HE.out.1, HLL.out]
  rw [hzl] at H2 hc2 ⊢
  have HH := Lib.hid H
  have HH2 := Lib.hid H2
  have HZL := Lib.hid hzl
  clear ho2 he2 hb2 H H2 hzl
  have HS0 : Hid (Own stc 1 9 w2.heap.size ((w2.alloc (.cells #[] 9)).alloc (.cells #[] 23)) (.slice (some ⟨w2.heap.size, 0, none⟩) 0 0) []) := Lib.hid ((Own.lit (base := w2.heap.size) (E := 9) stc_len w2 #[] [] (Nat.le_refl _) (by simp) rfl).alloc _)
  have HZ0 : Hid (Own slc 1 23 w2.heap.size ((w2.alloc (.cells #[] 9)).alloc (.cells #[] 23)) (.slice (some ⟨w2.heap.size + 1, 0, none⟩) 0 0) []) := Lib.hid (by
    have := Own.lit (base := w2.heap.size) (E := 23) slc_len (w2.alloc (.cells #[] 9)) #[] [] (by simp) (by simp) rfl
    simpa using this)
  generalize hn : names.length = n at *
  have HNN := Lib.hid hn
  clear hn
  go_wp2_with fail
  go_loopw [7, 8, 9] (fun sv zv i wr => ∃ k : Nat, k ≤ n ∧ i = .int .i64 k ∧ Own stc 1 9 w2.heap.size wr sv ((kept names nm k).map (atN names)) ∧ Own slc 1 23 w2.heap.size wr zv ((kept names nm k).map fun j => zs.getD j (none, 0, 0)) ∧ Below w2.heap.size w2 wr) (fun _ _ i _ => n - (intOf i).toNat)
  case atStart => exact ⟨0, Nat.zero_le _, rfl, HS0.out, HZ0.out, ((Below.refl _ _).alloc (Nat.le_refl _) _).alloc (by simp) _⟩
  case round =>
    obtain ⟨k, hk, rfl, hs, hz, hb⟩ := hrel
    obtain ⟨As, cs, rfl, hcs, hcs2, -⟩ := hs.form
    obtain ⟨Az, cz, rfl, hcz, hcz2, -⟩ := hz.form
    have hpl := kept_len names nm k
    have HPL := Lib.hid (fun (i : Nat) (h : i ∈ kept names nm k) => kept_lt h)
    have HKQ := Lib.hid (fun (h : k = n) => (by rw [← h] at HKL; exact HKL.out : (kept names nm k).map (atN names) = NQ ∧ (kept names nm k).map (atL L) = LQ))
    have HKS := Lib.hid (kept_same (names := names) (nm := nm) (k := k))
    have HKO := Lib.hid (kept_other (names := names) (nm := nm) (k := k))
    generalize kept names nm k = p at hs hz hpl HPL HKQ HKS HKO hcs hcz ⊢
    simp only [List.length_map] at hs hz hcs hcz ⊢
    have HS := Lib.hid hs
    have HZ := Lib.hid hz
    have HB := Lib.hid hb
    clear hs hz hb
    by_cases hlt : k < n
    · obtain ⟨g, o, rfl, hg, hx⟩ := HH.out (by omega)
      obtain ⟨g2, o2, rfl, hg2, hx2⟩ := HH2.out (by omega)
      have hkx : names[k]? = some (atN names k) := by rw [atN, List.getD_eq_getElem?_getD, List.getElem?_eq_getElem (by rw [HNN.out]; exact hlt)]; rfl
      obtain ⟨zb, hzb⟩ : ∃ a, zs[k]? = some a := ⟨_, List.getElem?_eq_getElem (by rw [HZL.out]; exact hlt)⟩
      have n0 := (HB.out.cell (p := ⟨g, o + k, none⟩) hg).trans (hx k _ hkx).st
      have HZW : Hid (w2.cell? ⟨g2, o2 + k, none⟩ = some (.slice zb.1 zb.2.1 zb.2.2)) := Lib.hid (hx2 k zb hzb).one
      have HNW : Hid (w2.cell? ⟨g, o + k, none⟩ = some (.string ⟨(atN names k).toArray⟩)) := Lib.hid (hx k _ hkx).st
      have HZB : Hid (zs.getD k (none, 0, 0) = zb) := Lib.hid (by rw [List.getD_eq_getElem?_getD, hzb]; rfl)
      have hki : (k : Int) < n := by omega
      clear hkx hzb hx hx2
      generalize hans : atN names k = nb at n0 HNW HKS HKO
      have HNB := Lib.hid hans
      clear hans
      by_cases he : nb = nm
      · have HSK := Lib.hid (HKS.out he)
        subst he
        go_wp2_with fail
        go_roundw
        case rel => exact ⟨k + 1, by omega, by go_num, by rw [HSK.out]; exact HS.out, by rw [HSK.out]; exact HZ.out, HB.out⟩
        case measure => simp [intOf]; omega
      · have hne : (nb == nm) = false := by simp [he]
        have HOK := Lib.hid (HKO.out he)
        clear he
        go_wp2_with (at_builtin; refine wpList_append_row (base := w2.heap.size) elText rfl _ _ rfl rfl (HS.out.alloc _) rfl (row_one stc_len wr _ rfl 9 #[.string ⟨nb.toArray⟩] nb rfl) ?_ ?_ ?_ ?_)
        · unfold maxLen; simp; omega
        · simp; omega
        · have := HB.out.size; simp; omega
        · intro A4 c4 w4 hown4 hg4 hwh
          clear hwh
          have HS4 : Hid (Own stc 1 9 w2.heap.size w4 (.slice A4 (p.length + 1) c4) ((p ++ [k]).map (atN names))) := Lib.hid (by rw [List.map_append]; show Own _ _ _ _ _ _ (p.map (atN names) ++ [atN names k]); rw [HNB.out]; simpa using hown4)
          have HZ4 := Lib.hid (Own.aside (HZ.out.alloc _) (HS.out.alloc _) (by decide) hg4)
          have HB4 : Hid (Below w2.heap.size w2 w4) := Lib.hid ((HB.out.alloc HB.out.size _).trans ((HS.out.alloc _).kept hg4 (by have := HB.out.size; simp; omega)))
          clear hown4 hg4 n0
          have z4 := (HB4.out.cell (p := ⟨g2, o2 + k, none⟩) hg2).trans HZW.out
          try simp only [List.length_map]
          go_wp2_with (at_builtin; refine wpList_append_row (base := w2.heap.size) elVal rfl _ _ rfl rfl (HZ4.out.alloc _) rfl (row_one slc_len w4 _ rfl 23 #[.slice zb.1 zb.2.1 zb.2.2] zb rfl) ?_ ?_ ?_ ?_)
          · unfold maxLen; simp; omega
          · simp; omega
          · have := HB4.out.size; simp; omega
          · intro A5 c5 w5 hown5 hg5 hwh
            clear hwh
            have HZ5 : Hid (Own slc 1 23 w2.heap.size w5 (.slice A5 (p.length + 1) c5) ((p ++ [k]).map fun j => zs.getD j (none, 0, 0))) := Lib.hid (by rw [List.map_append]; show Own _ _ _ _ _ _ ((p.map fun j => zs.getD j (none, 0, 0)) ++ [zs.getD k (none, 0, 0)]); rw [HZB.out]; simpa using hown5)
            have HS5 := Lib.hid (Own.aside (HS4.out.alloc _) (HZ4.out.alloc _) (by decide) hg5)
            have HB5 : Hid (Below w2.heap.size w2 w5) := Lib.hid ((HB4.out.alloc HB4.out.size _).trans ((HZ4.out.alloc _).kept hg5 (by have := HB4.out.size; simp; omega)))
            clear hown5 hg5 z4
            try simp only [List.length_map]
            go_wp2_with fail
            go_roundw
            case rel => exact ⟨k + 1, by omega, by go_num, by rw [HOK.out]; exact HS5.out, by rw [HOK.out]; exact HZ5.out, HB5.out⟩
            case measure => simp [intOf]; omega
    · have hkn : k = n := by omega
      obtain ⟨h1, h2⟩ := HKQ.out hkn
      obtain ⟨wo, rfl⟩ : ∃ wo : World, wo = wr := ⟨_, rfl⟩
      have HS1 : Hid (Sts wo (.slice As p.length cs) NQ) := Lib.hid (by rw [← h1]; exact HS.out.row stc_len)
      have HV1 : Hid (Vls wo (.slice Az p.length cz) LQ) := Lib.hid (by
        rw [← h2]
        refine Els.vls (zs := p.map fun j => zs.getD j (none, 0, 0)) ⟨by simp, fun q z l hz hl => ?_⟩ (HZ.out.row slc_len)
        rw [List.getElem?_map] at hz hl
        cases hi : p[q]? with
        | none => rw [hi] at hz; cases hz
        | some i =>
          rw [hi] at hz hl
          injection hz with hz
          injection hl with hl
          have hin := HPL.out i (List.mem_of_getElem? hi)
          have hx := HE.out.2 i z l (by rw [← hz]; show zs[i]? = some (zs.getD i (none, 0, 0)); rw [List.getD_eq_getElem?_getD, List.getElem?_eq_getElem (by rw [HZL.out]; omega)]; rfl) (by rw [← hl]; show L[i]? = some (L.getD i []); rw [List.getD_eq_getElem?_getD, List.getElem?_eq_getElem (by rw [← HLL.out]; omega)]; rfl)
          exact hx.below HB.out)
      have HQ := Lib.hid (refNamed_any _ _ _ _ _ HS1.out HV1.out HLQ.out HSUM.out.1 HSUM.out.2 HNE.out)
      clear h1 h2 hkn hpl hcs hcz
      go_wp2_with fail
      refine HQ.out.mono ?_
      rintro e w3 ⟨v3, rfl, ho3, hB3⟩
      have HO3 := Lib.hid ho3
      have HB3 := Lib.hid hB3
      clear ho3 hB3
      go_wp2_with fail
      go_ret
      exact ⟨_, rfl, by rw [← HANS.out]; exact HO3.out.mono (Nat.le_trans HB2.out.size HB.out.size), Below.after HB2.out (Below.after HB.out HB3.out)⟩

theorem objV_perm {ts us : List (Tr Nd)} (hp : ts.Perm us) (hB : objB (us.map fun k => k.nd.name) (us.map fun k => flat (nmd [] k)) = true) :
    objV (ts.map fun k => k.nd.name) (ts.map fun k => flat (nmd [] k)) = objV (us.map fun k => k.nd.name) (us.map fun k => flat (nmd [] k)) := by
  obtain ⟨h1, h2, h3⟩ := objB_iff.1 hB
  have h2' : (ts.map fun k => k.nd.name).Nodup := (hp.map _).nodup_iff.2 h2
  have hA : objB (ts.map fun k => k.nd.name) (ts.map fun k => flat (nmd [] k)) = true := objB_iff.2 ⟨by simp, h2', fun s hs => h3 s ((hp.map _).mem_iff.1 hs)⟩
  have hz : ((ts.map fun k => k.nd.name).zip (ts.map fun k => flat (nmd [] k))).Perm ((us.map fun k => k.nd.name).zip (us.map fun k => flat (nmd [] k))) := by
    rw [List.zip_map', List.zip_map']; exact hp.map _
  rw [objV, objV, if_pos hA, if_pos hB, srt_perm hz (by rw [zip_keys (by simp)]; exact h2'), List.length_map, List.length_map, hp.length_eq]
theorem with_obj {t x : Tr Nd} {nm : List UInt8} (h : Val t) (hk : t.nd.kind = 6) (hx : Val x) (hn : vld nm = true) :
    objV ((lessT nm t).ks.map (fun k => k.nd.name) ++ [nm]) ((lessT nm t).ks.map (fun k => flat (nmd [] k)) ++ [flat x]) = flat (withT nm x t) := by
  obtain ⟨hb, hv⟩ := obj_again (val_put h hk hx hn) (show (withT nm x t).nd.kind = 6 from rfl)
  have hp : ((lessT nm t).ks ++ [nmd nm x]).Perm (withT nm x t).ks := by
    show ((loT nm t.ks ++ ([] ++ hiT nm t.ks)) ++ [nmd nm x]).Perm (loT nm t.ks ++ ([nmd nm x] ++ hiT nm t.ks))
    rw [List.nil_append, List.append_assoc]
    exact List.Perm.append_left _ List.perm_append_comm
  have h1 := objV_perm hp hb
  rw [hv, List.map_append, List.map_append] at h1
  rw [← h1]
  congr 2
  show [flat x] = [flat (nmd [] (nmd nm x))]
  rw [nmd_nmd, ← hx.nm, nmd_self]

theorem els_snoc {w : World} {zs : List (Option Addr × Nat × Nat)} {L : List (List Nd)} {z : Option Addr × Nat × Nat} {l : List Nd} (h : Els w zs L) (hz : Nds w (.slice z.1 z.2.1 z.2.2) l) : Els w (zs ++ [z]) (L ++ [l]) := by
  refine ⟨by simp [h.1], fun k y m h1 h2 => ?_⟩
  rcases Nat.lt_trichotomy k zs.length with hk | hk | hk
  · rw [List.getElem?_append_left hk] at h1
    rw [List.getElem?_append_left (by rw [← h.1]; exact hk)] at h2
    exact h.2 k y m h1 h2
  · subst hk
    rw [List.getElem?_append_right (Nat.le_refl _)] at h1
    rw [h.1, List.getElem?_append_right (Nat.le_refl _)] at h2
    simp at h1 h2
    subst h1 h2
    exact hz
  · rw [List.getElem?_eq_none (by simp; omega)] at h1; cases h1

set_option maxRecDepth 100000 in
set_option maxHeartbeats 4000000 in
theorem refWith_any (v p : Value) (t x : Tr Nd) (nm : List UInt8) (w : World) (hv : Nds w v (flat t)) (hp : Nds w p (flat x)) (hl : (flat t).length ≤ 500) (hlx : (flat x).length ≤ 500) (ht : Val t) (hk : t.nd.kind = 6) (hx : Val x) (hn : vld nm = true) (hnm : nm.length ≤ maxLen) (hsh : ∀ s ∈ t.ks.map (fun k => k.nd.name), s.length ≤ maxLen) :
    Calls Tryd.prog 33 #[v, .string ⟨nm.toArray⟩, p] w (OwnsN w (flat (withT nm x t))) := by
  have hlen := len_parts ht hk nm
  have hlen2 := len_less nm t
  have HLL : Hid ((flat (lessT nm t)).length ≤ 500) := Lib.hid (by omega)
  have HW := Lib.hid (refWithout_any v t nm w hv (by omega) ht hk)
  have HVL := Lib.hid (val_less (nm := nm) ht hk)
  have HANS := Lib.hid (with_obj ht hk hx hn)
  have hnT : namesT (lessT nm t) = (lessT nm t).ks.map fun k => k.nd.name := by rw [namesT, if_pos (show (lessT nm t).nd.kind = 6 from rfl)]
  have HN := Lib.hid (fun (v1 : Value) (W : World) (h : Nds W v1 (flat (lessT nm t))) => (by have := refNames_own v1 (lessT nm t) W h (by have := HLL.out; omega) HVL.out; rwa [hnT] at this : Calls Tryd.prog 22 #[v1] W (OwnsS W ((lessT nm t).ks.map fun k => k.nd.name))))
  have HP := Lib.hid (fun (v1 : Value) (W : World) (h : Nds W v1 (flat (lessT nm t))) => refParts_own v1 (lessT nm t) W h (by have := HLL.out; omega) HVL.out)
  have hfl : (flat (lessT nm t)).length = 1 + (flats (lessT nm t).ks).length := by
    rw [show flat (lessT nm t) = hdN 6 (lessT nm t).ks.length :: flats (lessT nm t).ks from flat_objT _, List.length_cons]; omega
  have h3 := flats_len (lessT nm t).ks
  have hq1 : ((lessT nm t).ks.map fun k => k.nd.name).length ≤ 500 := by rw [List.length_map]; omega
  have HQ2 : Hid ((((lessT nm t).ks.map fun k => flat (nmd [] k)).map List.length).sum ≤ 500) := Lib.hid (by rw [sum_parts]; omega)
  have HQ3 : Hid (((lessT nm t).ks.map fun k => k.nd.name).length = ((lessT nm t).ks.map fun k => flat (nmd [] k)).length) := Lib.hid (by simp)
  have HQ4 : Hid (∀ l ∈ ((lessT nm t).ks.map fun k => flat (nmd [] k)), l ≠ []) := Lib.hid (fun l hl e => by
    obtain ⟨k, hk, rfl⟩ := List.mem_map.1 hl
    have := flat_pos (nmd [] k)
    rw [e] at this
    exact absurd this (by simp))
  have HQ5 : Hid (∀ s ∈ ((lessT nm t).ks.map fun k => k.nd.name), s.length ≤ maxLen) := Lib.hid (fun s hs => by
    obtain ⟨k, hk', rfl⟩ := List.mem_map.1 hs
    rw [← less_ks ht hk] at hk'
    exact hsh _ (List.mem_map_of_mem (List.mem_filter.1 hk').1))
  have HPX := Lib.hid hp
  have HLX := Lib.hid hlx
  have HNM := Lib.hid hnm
  have HXP := Lib.hid (flat_pos x)
  obtain ⟨Ap, cp, rfl, -⟩ := hp
  generalize hR : (lessT nm t).ks.map (fun k => flat (nmd [] k)) = L at *
  generalize hR2 : (lessT nm t).ks.map (fun k => k.nd.name) = names at *
  generalize flat (lessT nm t) = fl at *
  generalize flat (withT nm x t) = ans at *
  clear hR hR2 hv hl hlx ht hk hx hn hnm hsh hlen hlen2 hnT hfl h3
  generalize hfx : flat x = fx at *
  clear hfx
  generalize hxl : fx.length = xl at *
  have HXL := Lib.hid hxl
  clear hxl
  generalize hnn : names.length = n at *
  have HNN := Lib.hid hnn
  clear hnn
  go_enter Tryd.func33, Tryd.ntmps33
  go_wp2_with fail
  refine HW.out.mono ?_
  rintro e w1 ⟨v1, rfl, ho1, hb1⟩
  have HL1 := Lib.hid (ho1.row ndc_len)
  have HB1 := Lib.hid hb1
  clear ho1 hb1
  go_wp2_with fail
  refine (HN.out _ _ HL1.out).mono ?_
  rintro e w2 ⟨v2, rfl, ho2, hb2⟩
  obtain ⟨A2, c2, rfl, hc2, hm2, -⟩ := ho2.form
  have HO2 := Lib.hid ho2
  have HB2 := Lib.hid hb2
  clear ho2 hb2
  rw [HNN.out] at HO2 hc2 ⊢
  go_wp2_with (at_builtin; refine wpList_append_row (base := w1.heap.size) elText rfl _ _ rfl rfl ((by have := HO2.out.alloc (.cells #[.string ⟨nm.toArray⟩] 9); rw [← HNN.out] at this; rw [← HNN.out]; exact this) : Own stc 1 9 w1.heap.size (w2.alloc (.cells #[.string ⟨nm.toArray⟩] 9)) (.slice A2 n c2) names) rfl (row_one stc_len w2 _ rfl 9 #[.string ⟨nm.toArray⟩] nm rfl) ?_ ?_ ?_ ?_)
  · unfold maxLen; have := HNN.out; simp; omega
  · have := HNN.out; simp; omega
  · have := HB2.out.size; simp; omega
  · intro A3 c3 w3 hown3 hg3 hwh
    clear hwh
    have HO3 : Hid (Own stc 1 9 w1.heap.size w3 (.slice A3 (n + 1) c3) (names ++ [nm])) := Lib.hid (by have h := hown3; rw [HNN.out] at h; simpa using h)
    have HB3 : Hid (Below w1.heap.size w1 w3) := Lib.hid ((HB2.out.alloc HB2.out.size _).trans ((HO2.out.alloc _).kept hg3 (by have := HB2.out.size; simp; omega)))
    have HL3 := Lib.hid (HL1.out.below HB3.out)
    clear hown3 hg3
    try simp only [HNN.out]
    go_wp2_with fail
    refine (HP.out _ _ HL3.out).mono ?_
    rintro e w4 ⟨v4, zs, rfl, ho4, he4, hb4⟩
    obtain ⟨A4, c4, rfl, hc4, hm4, -⟩ := ho4.form
    have hzl : zs.length = n := by rw [he4.1, ← HQ3.out]
    have HZL := Lib.hid hzl
    have HO4 := Lib.hid ho4
    have HE4 := Lib.hid he4
    have HB4 := Lib.hid hb4
    rw [hzl] at HO4 hc4 ⊢
    clear ho4 he4 hb4 hzl
    go_wp2_with (at_builtin; refine wpList_append_row (base := w3.heap.size) elVal rfl _ _ rfl rfl (HO4.out.alloc _) rfl (row_one slc_len w4 _ rfl 23 #[.slice Ap xl cp] (Ap, xl, cp) rfl) ?_ ?_ ?_ ?_)
    · unfold maxLen; have := HZL.out; simp; omega
    · have := HZL.out; simp; omega
    · have := HB4.out.size; simp; omega
    · intro A5 c5 w5 hown5 hg5 hwh
      clear hwh
      have HO5 : Hid (Own slc 1 23 w3.heap.size w5 (.slice A5 (n + 1) c5) (zs ++ [(Ap, xl, cp)])) := Lib.hid (by have h := hown5; rw [HZL.out] at h; simpa using h)
      have HO4' : Hid (Own slc 1 23 w3.heap.size (w4.alloc (.cells #[.slice Ap xl cp] 23)) (.slice A4 n c4) zs) := Lib.hid (HO4.out.alloc _)
      have HB5 : Hid (Below w3.heap.size w3 w5) := Lib.hid ((HB4.out.alloc HB4.out.size _).trans (HO4'.out.kept hg5 (by have := HB4.out.size; simp; omega)))
      have HE5 := Lib.hid (Elems.aside (HE4.out.below ((Below.refl _ _).alloc (Nat.le_refl _) _)) HO4'.out hg5)
      have HBW := Lib.hid (Below.after (Below.after HB1.out HB3.out) HB5.out)
      have HS5 := Lib.hid ((HO3.out.row stc_len).below HB5.out)
      have HV5 := Lib.hid (Els.vls (els_snoc (z := (Ap, xl, cp)) ⟨HE5.out.1, fun k z l a b => (HE5.out.2 k z l a b).row ndc_len⟩ (HPX.out.below HBW.out)) (HO5.out.row slc_len))
      have hob := refObject_any _ _ (names ++ [nm]) (L ++ [fx]) w5 HS5.out HV5.out (by have := HNN.out; simp; omega) (by have h4 := HQ2.out; have h5 := HXL.out; have h6 := HLX.out; rw [List.map_append, List.sum_append]; simp only [List.map_cons, List.map_nil, List.sum_cons, List.sum_nil]; omega) (fun s hs => by
          rcases List.mem_append.1 hs with h | h
          · exact HQ5.out s h
          · rw [List.mem_singleton.1 h]; exact HNM.out) (fun l hl => by
          rcases List.mem_append.1 hl with h | h
          · exact HQ4.out l h
          · rw [List.mem_singleton.1 h]
            intro e
            have h6 := HXL.out
            rw [e] at h6
            have h7 := HXP.out
            simp at h6
            omega)
      have HOB := Lib.hid hob
      clear hown5 hg5 hob
      try simp only [HZL.out]
      go_wp2_with fail
      refine HOB.out.mono ?_
      rintro e w6 ⟨v6, rfl, ho6, hb6⟩
      rw [HANS.out] at ho6
      have HO6 := Lib.hid ho6
      have HB6 := Lib.hid hb6
      clear ho6 hb6
      go_wp2_with fail
      go_ret
      exact ⟨_, rfl, HO6.out.mono HBW.out.size, Below.after HBW.out HB6.out⟩

theorem refSame_twice (va vb : Value) (l : List Nd) (w : World) (ha : Nds w va l) (hb : Nds w vb l) :
    Calls Tryd.prog 14 #[va, vb] w fun e w' => e = .returned (.bool true) ∧ Below w.heap.size w w' :=
  (refSame_any va vb l l w ha hb).mono fun _ _ h => ⟨by rw [h.1]; simp, h.2⟩

set_option maxRecDepth 100000 in
set_option maxHeartbeats 4000000 in
theorem valFields_list (v p : Value) (l0 l1 : List Nd) (nm : List UInt8) (w : World) (hv : Nds w v l0) (hp : Nds w p l1) (hT : Tabs w) (hs : nm.length ≤ maxLen) :
    Calls Tryd.prog 5 #[v, .string ⟨nm.toArray⟩, p] w fun e w' => e = .returned (.bool true) ∧ Below w.heap.size w w' := by
  have HT := Lib.hid hT
  have HAL := Lib.hid (fun (W : World) (hb : Below w.heap.size w W) => (alive_any W (HT.out.below hb)).mono fun (e : Ending) w' (h : e = .returned (.bool true) ∧ Below W.heap.size W w') => (⟨h.1, Below.after hb h.2⟩ : e = .returned (.bool true) ∧ Below w.heap.size w w'))
  have HF0 := Lib.hid (refFew_any v l0 60 w hv (by decide))
  have HF1 := Lib.hid (fun (W : World) (hb : Below w.heap.size w W) => refFew_any p l1 60 W (hp.below hb) (by decide))
  have HUTF := Lib.hid (fun (W : World) => (refUtf_any ⟨nm.toArray⟩ W hs).mono fun (e : Ending) w' (h : e = .returned (.bool (Lib.validD (ByteArray.mk nm.toArray).data.toList)) ∧ W = w') => (h : e = .returned (.bool (vld nm)) ∧ W = w'))
  have HV := Lib.hid hv
  have HP := Lib.hid hp
  have HS := Lib.hid hs
  clear hT hs
  cases hf0 : few 60 l0 with
  | false =>
    have HFF := Lib.hid hf0
    clear hf0
    go_enter Tryd.func5, Tryd.ntmps5
    go_wp2_with fail
    refine HF0.out.mono ?_
    rintro e w1 ⟨rfl, hb0⟩
    rw [HFF.out]
    have HB1 := Lib.hid hb0
    clear hb0
    go_wp2_with fail
    refine (HAL.out _ HB1.out).mono ?_
    rintro e w2 ⟨rfl, hb1⟩
    go_wp2_with fail
    go_ret
    exact ⟨rfl, hb1⟩
  | true =>
    have HFF := Lib.hid hf0
    rw [few, Bool.and_eq_true, Bool.and_eq_true, decide_eq_true_eq] at hf0
    obtain ⟨⟨hl60, hsh0⟩, hr0⟩ := hf0
    have hsh := few_short hsh0
    cases hf1 : few 60 l1 with
    | false =>
      have HFX := Lib.hid hf1
      clear hf1 hl60 hsh0 hr0 hsh
      go_enter Tryd.func5, Tryd.ntmps5
      go_wp2_with fail
      refine HF0.out.mono ?_
      rintro e w1 ⟨rfl, hb0⟩
      rw [HFF.out]
      have HB1 := Lib.hid hb0
      clear hb0
      go_wp2_with fail
      refine (HF1.out _ HB1.out).mono ?_
      rintro e w2 ⟨rfl, hb1⟩
      rw [HFX.out]
      have HB2 := Lib.hid (Below.after HB1.out hb1)
      clear hb1
      go_wp2_with fail
      refine (HAL.out _ HB2.out).mono ?_
      rintro e w3 ⟨rfl, hb3⟩
      go_wp2_with fail
      go_ret
      exact ⟨rfl, hb3⟩
    | true =>
      have HFX := Lib.hid hf1
      rw [few, Bool.and_eq_true, Bool.and_eq_true, decide_eq_true_eq] at hf1
      obtain ⟨⟨hx60, -⟩, hrx⟩ := hf1
      obtain ⟨t, ht, rfl⟩ := val_of_rightL hr0
      obtain ⟨x, hx, rfl⟩ := val_of_rightL hrx
      have HFA := Lib.hid (fun (W : World) (hb : Below w.heap.size w W) => field_any v t nm W (hv.below hb) (by omega) ht)
      have HFB := Lib.hid (fun (W : World) (hb : Below w.heap.size w W) => refField_any v t nm W (hv.below hb) (by omega) ht)
      have HNS : Hid (∀ s ∈ t.ks.map (fun k => k.nd.name), s.length ≤ maxLen) := Lib.hid (fun s hs => by
        obtain ⟨k, hk, rfl⟩ := List.mem_map.1 hs
        exact (hsh k.nd (by rw [flat_eq]; exact List.mem_cons_of_mem _ (mem_flats hk (by rw [flat_eq]; simp)))).1)
      have HWA := Lib.hid (fun (hk : t.nd.kind = 6) (W : World) (hb : Below w.heap.size w W) => withV_any v p t x nm W (hv.below hb) (hp.below hb) (by omega) (by omega) ht hk)
      have HWB := Lib.hid (fun (hk : t.nd.kind = 6) (hn : vld nm = true) (W : World) (hb : Below w.heap.size w W) => refWith_any v p t x nm W (hv.below hb) (hp.below hb) (by omega) (by omega) ht hk hx hn HS.out HNS.out)
      have HLA := Lib.hid (fun (hk : t.nd.kind = 6) (W : World) (hb : Below w.heap.size w W) => withoutV_any v t nm W (hv.below hb) (by omega) ht hk)
      have HLB := Lib.hid (fun (hk : t.nd.kind = 6) (W : World) (hb : Below w.heap.size w W) => refWithout_any v t nm W (hv.below hb) (by omega) ht hk)
      obtain ⟨g, o, c, rfl, hc, hcm, hg, hxx⟩ := hv.opened (flat_pos t)
      have a0 : w.cell? ⟨g, o, none⟩ = some (.int .i64 t.nd.kind) := by
        have := (hxx 0 t.nd (by rw [flat_eq]; rfl)).nd.c0
        simpa using this
      have HA0 := Lib.hid a0
      have hpos := flat_pos t
      clear hxx hp hl60 hx60 hsh0 hsh hr0 hrx ht hx a0 hv
      generalize (flat t).length = n at *
      obtain ⟨F, HF⟩ : ∃ F, Hid ((fieldV nm t).length = F) := ⟨_, Lib.hid rfl⟩
      generalize hkk : t.nd.kind = kk at *
      clear hkk
      by_cases hk : kk = 6
      · have HK := Lib.hid hk
        subst hk
        cases hvl : vld nm with
        | false =>
          have HVL : Hid (Lib.validD nm = false) := Lib.hid hvl
          clear hvl
          go_enter Tryd.func5, Tryd.ntmps5
          go_wp2_with fail
          refine HF0.out.mono ?_
          rintro e w1 ⟨rfl, hb0⟩
          rw [HFF.out]
          have HB1 := Lib.hid hb0
          clear hb0
          go_wp2_with fail
          refine (HF1.out _ HB1.out).mono ?_
          rintro e w2 ⟨rfl, hb1⟩
          rw [HFX.out]
          have HB2 := Lib.hid (Below.after HB1.out hb1)
          clear hb1
          go_wp2_with fail
          refine (HFA.out _ HB2.out).mono ?_
          rintro e w3 hh
          obtain ⟨A3, c3, rfl, hx3, hb3⟩ := hh.is HF.out
          have HB3 := Lib.hid (Below.after HB2.out hb3)
          have HX3 := Lib.hid hx3
          clear hh hx3 hb3
          go_wp2_with fail
          refine (HFB.out _ HB3.out).mono ?_
          rintro e w4 hh
          obtain ⟨A4, c4, rfl, hx4, hb4⟩ := hh.is HF.out
          have HB4 := Lib.hid (Below.after HB3.out hb4)
          have HX34 := Lib.hid (HX3.out.below hb4)
          have HX4 := Lib.hid hx4
          clear hh hx4 hb4 HX3
          generalize fieldB nm t = fb
          go_wp2_with fail
          refine (refSame_twice _ _ _ w4 HX34.out HX4.out).mono ?_
          rintro e w5 ⟨rfl, hb5⟩
          have HB5 := Lib.hid (Below.after HB4.out hb5)
          clear hb5
          have a1 : w5.cell? ⟨g, o, none⟩ = some (.int .i64 6) := (HB5.out.cell (p := ⟨g, o, none⟩) hg).trans HA0.out
          go_wp2_with fail
          refine (HUTF.out _).mono ?_
          rintro e w5' ⟨rfl, rfl⟩
          rw [HVL.out]
          go_wp2_with fail
          refine (HAL.out _ HB5.out).mono ?_
          rintro e w6 ⟨rfl, hb6⟩
          go_wp2_with fail
          go_ret
          exact ⟨rfl, hb6⟩
        | true =>
          have HVL : Hid (Lib.validD nm = true) := Lib.hid hvl
          have HWB' := Lib.hid (HWB.out HK.out hvl)
          obtain ⟨M1, HM1⟩ : ∃ F, Hid ((flat (withT nm x t)).length = F) := ⟨_, Lib.hid rfl⟩
          obtain ⟨M2, HM2⟩ : ∃ F, Hid ((flat (lessT nm t)).length = F) := ⟨_, Lib.hid rfl⟩
          clear hvl
          go_enter Tryd.func5, Tryd.ntmps5
          go_wp2_with fail
          refine HF0.out.mono ?_
          rintro e w1 ⟨rfl, hb0⟩
          rw [HFF.out]
          have HB1 := Lib.hid hb0
          clear hb0
          go_wp2_with fail
          refine (HF1.out _ HB1.out).mono ?_
          rintro e w2 ⟨rfl, hb1⟩
          rw [HFX.out]
          have HB2 := Lib.hid (Below.after HB1.out hb1)
          clear hb1
          go_wp2_with fail
          refine (HFA.out _ HB2.out).mono ?_
          rintro e w3 hh
          obtain ⟨A3, c3, rfl, hx3, hb3⟩ := hh.is HF.out
          have HB3 := Lib.hid (Below.after HB2.out hb3)
          have HX3 := Lib.hid hx3
          clear hh hx3 hb3
          go_wp2_with fail
          refine (HFB.out _ HB3.out).mono ?_
          rintro e w4 hh
          obtain ⟨A4, c4, rfl, hx4, hb4⟩ := hh.is HF.out
          have HB4 := Lib.hid (Below.after HB3.out hb4)
          have HX34 := Lib.hid (HX3.out.below hb4)
          have HX4 := Lib.hid hx4
          clear hh hx4 hb4 HX3
          generalize fieldB nm t = fb
          go_wp2_with fail
          refine (refSame_twice _ _ _ w4 HX34.out HX4.out).mono ?_
          rintro e w5 ⟨rfl, hb5⟩
          have HB5 := Lib.hid (Below.after HB4.out hb5)
          clear hb5
          have a1 : w5.cell? ⟨g, o, none⟩ = some (.int .i64 6) := (HB5.out.cell (p := ⟨g, o, none⟩) hg).trans HA0.out
          go_wp2_with fail
          refine (HUTF.out _).mono ?_
          rintro e w5' ⟨rfl, rfl⟩
          rw [HVL.out]
          go_wp2_with fail
          refine (HAL.out _ HB5.out).mono ?_
          rintro e w6 ⟨rfl, hb6⟩
          have HB6 := Lib.hid hb6
          clear hb6 a1
          go_wp2_with fail
          refine (HWA.out HK.out _ HB6.out).mono ?_
          rintro e w7 hh
          obtain ⟨A7, c7, rfl, hx7, hb7⟩ := hh.is HM1.out
          have HB7 := Lib.hid (Below.after HB6.out hb7)
          have HX7 := Lib.hid hx7
          clear hh hx7 hb7
          go_wp2_with fail
          refine (HWB'.out _ HB7.out).mono ?_
          rintro e w8 hh
          obtain ⟨A8, c8, rfl, hx8, hb8⟩ := hh.is HM1.out
          have HB8 := Lib.hid (Below.after HB7.out hb8)
          have HX7' := Lib.hid (HX7.out.below hb8)
          have HX8 := Lib.hid hx8
          clear hh hx8 hb8 HX7
          go_wp2_with fail
          refine (refSame_twice _ _ _ w8 HX7'.out HX8.out).mono ?_
          rintro e w9 ⟨rfl, hb9⟩
          have HB9 := Lib.hid (Below.after HB8.out hb9)
          clear hb9
          go_wp2_with fail
          refine (HLA.out HK.out _ HB9.out).mono ?_
          rintro e w10 hh
          obtain ⟨A10, c10, rfl, hx10, hb10⟩ := hh.is HM2.out
          have HB10 := Lib.hid (Below.after HB9.out hb10)
          have HX10 := Lib.hid hx10
          clear hh hx10 hb10
          go_wp2_with fail
          refine (HLB.out HK.out _ HB10.out).mono ?_
          rintro e w11 hh
          obtain ⟨A11, c11, rfl, hx11, hb11⟩ := hh.is HM2.out
          have HB11 := Lib.hid (Below.after HB10.out hb11)
          have HX10' := Lib.hid (HX10.out.below hb11)
          have HX11 := Lib.hid hx11
          clear hh hx11 hb11 HX10
          go_wp2_with fail
          refine (refSame_twice _ _ _ w11 HX10'.out HX11.out).mono ?_
          rintro e w12 ⟨rfl, hb12⟩
          have HB12 := Lib.hid (Below.after HB11.out hb12)
          clear hb12
          go_wp2_with fail
          go_ret
          exact ⟨rfl, HB12.out⟩
      · have hk1 : (kk != (6 : Int)) = true := by simp [hk]
        have hk2 : decide (kk = 6) = false := by simp [hk]
        have hk3 : (kk == (6 : Int)) = false := by simp [hk]
        go_enter Tryd.func5, Tryd.ntmps5
        go_wp2_with fail
        refine HF0.out.mono ?_
        rintro e w1 ⟨rfl, hb0⟩
        rw [HFF.out]
        have HB1 := Lib.hid hb0
        clear hb0
        go_wp2_with fail
        refine (HF1.out _ HB1.out).mono ?_
        rintro e w2 ⟨rfl, hb1⟩
        rw [HFX.out]
        have HB2 := Lib.hid (Below.after HB1.out hb1)
        clear hb1
        go_wp2_with fail
        refine (HFA.out _ HB2.out).mono ?_
        rintro e w3 hh
        obtain ⟨A3, c3, rfl, hx3, hb3⟩ := hh.is HF.out
        have HB3 := Lib.hid (Below.after HB2.out hb3)
        have HX3 := Lib.hid hx3
        clear hh hx3 hb3
        go_wp2_with fail
        refine (HFB.out _ HB3.out).mono ?_
        rintro e w4 hh
        obtain ⟨A4, c4, rfl, hx4, hb4⟩ := hh.is HF.out
        have HB4 := Lib.hid (Below.after HB3.out hb4)
        have HX34 := Lib.hid (HX3.out.below hb4)
        have HX4 := Lib.hid hx4
        clear hh hx4 hb4 HX3
        generalize fieldB nm t = fb
        go_wp2_with fail
        refine (refSame_twice _ _ _ w4 HX34.out HX4.out).mono ?_
        rintro e w5 ⟨rfl, hb5⟩
        have HB5 := Lib.hid (Below.after HB4.out hb5)
        clear hb5
        have a1 : w5.cell? ⟨g, o, none⟩ = some (.int .i64 kk) := (HB5.out.cell (p := ⟨g, o, none⟩) hg).trans HA0.out
        go_wp2_with fail
        refine (HAL.out _ HB5.out).mono ?_
        rintro e w6 ⟨rfl, hb6⟩
        go_wp2_with fail
        go_ret
        exact ⟨rfl, hb6⟩

theorem valFields_any (v p : Value) (l0 l1 : List Nd) (nm : ByteArray) (w : World) (hv : Nds w v l0) (hp : Nds w p l1) (hT : Tabs w) (hs : nm.size ≤ maxLen) :
    Calls Tryd.prog 5 #[v, .string nm, p] w fun e w' => e = .returned (.bool true) ∧ Below w.heap.size w w' := by
  obtain ⟨⟨nl⟩⟩ := nm
  exact valFields_list v p l0 l1 nl w hv hp hT hs
end Go.Proofs.YtoomgpbfcpnefaaDoor
