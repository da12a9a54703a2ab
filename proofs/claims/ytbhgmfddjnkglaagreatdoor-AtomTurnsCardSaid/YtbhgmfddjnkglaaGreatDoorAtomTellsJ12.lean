/-
  Joined: Ow4.
-/
import Derived.Test.YtbhgmfddjnkglaaGreatDoorAtomTellsJ11
import Derived.Deep.RegionHeld3

/-
  What (*pair).objects answers, over any two lists of values whose comparison is what it should be.
-/
namespace Go.Proofs.YtbhgmfddjnkglaaGreatDoor
open Go.RowKit Np Rw Vp Ov

theorem nxt_parts {ts : List (Tr Nd)} {j : Nat} (h : j < ts.length) (ra : List Nd) : nxtN (flats (ts.drop j) ++ ra) = ts[j].nd := by
  rw [flats_drop_cons h, flat_eq]; rfl
theorem nms_at {ts us : List (Tr Nd)} {j : Nat} (h1 : j < ts.length) (h2 : j < us.length) : cmpNm (nms (ts.drop j)) (nms (us.drop j)) = orI (cmpB ts[j].nd.name us[j].nd.name) (cmpNm (nms (ts.drop (j + 1))) (nms (us.drop (j + 1)))) := by
  rw [← List.getElem_cons_drop h1, ← List.getElem_cons_drop h2]
  simp only [nms, List.map_cons]
  rw [cmpNm_cons]
theorem cmpNm_nn {x y : List (List UInt8)} (h : x.length = 0 ∨ y.length = 0) : cmpNm x y = Lib.compareInt (x.length : Int) (y.length : Int) := by
  cases x with
  | nil =>
    cases y with
    | nil => rw [cmpNm_nil]; exact ((cmpI_eq _ _).2 rfl).symm
    | cons b y => rw [cmpNm_less]; exact ((cmpI_lt _ _).2 (by simp)).symm
  | cons a x =>
    cases y with
    | nil => rw [cmpNm_more]; exact ((cmpI_gt _ _).2 (by simp)).symm
    | cons b y => simp at h
theorem nms_end {ts us : List (Tr Nd)} {j : Nat} (h : j = ts.length ∨ j = us.length) : cmpNm (nms (ts.drop j)) (nms (us.drop j)) = Lib.compareInt ((ts.length - j : Nat) : Int) ((us.length - j : Nat) : Int) := by
  rw [cmpNm_nn (by simp; omega)]
  simp
/-- What the region of the two names holds fast. -/
def Os (rb : Nat) (va vb : Value) (la lb : List Nd) (k : Nat) (w w' : World) : Prop := w'.cell? ⟨rb, 0, none⟩ = some va ∧ w'.cell? ⟨rb, 1, none⟩ = some vb ∧ Pr2 rb va vb k w' ∧ Nds w' va la ∧ Nds w' vb lb ∧ Kb w.heap.size rb w w'
theorem Os.mk' {rb : Nat} {va vb : Value} {la lb : List Nd} {k : Nat} {w w' : World} (h : Pr2 rb va vb k w') (ha : Nds w' va la) (hb : Nds w' vb lb) (hk : Kb w.heap.size rb w w') : Os rb va vb la lb k w w' := ⟨h.c0, h.c1, h, ha, hb, hk⟩
theorem Os.step {rb : Nat} {va vb : Value} {la lb : List Nd} {k : Nat} {w w' w'' : World} (h : Os rb va vb la lb k w w') (hb : Below w'.heap.size w' w'') : Os rb va vb la lb k w w'' := by
  obtain ⟨-, -, h3, h4, h5, h6⟩ := h
  exact Os.mk' (h3.below hb h3.lt) (h4.below hb) (h5.below hb) (h6.trans (Kb.of (hb.mono h6.size)))
theorem Os.a {rb : Nat} {va vb : Value} {la lb : List Nd} {k : Nat} {w w' : World} (h : Os rb va vb la lb k w w') : Nds w' va la := h.2.2.2.1
theorem Os.b {rb : Nat} {va vb : Value} {la lb : List Nd} {k : Nat} {w w' : World} (h : Os rb va vb la lb k w w') : Nds w' vb lb := h.2.2.2.2.1
theorem Os.p {rb : Nat} {va vb : Value} {la lb : List Nd} {k : Nat} {w w' : World} (h : Os rb va vb la lb k w w') : Prs rb la lb k w' := ⟨va, vb, h.2.2.1, h.a, h.b⟩
theorem Os.k {rb : Nat} {va vb : Value} {la lb : List Nd} {k : Nat} {w w' : World} (h : Os rb va vb la lb k w w') : Kb w.heap.size rb w w' := h.2.2.2.2.2
theorem Os.pk {rb : Nat} {va vb : Value} {la lb : List Nd} {k : Nat} {w w' : World} (h : Os rb va vb la lb k w w') : Prs rb la lb k w' ∧ Kb w.heap.size rb w w' := ⟨h.p, h.k⟩
theorem cmpStr_below (s t : List UInt8) (w : World) :
    Calls Tryz.prog 76 #[.string ⟨s.toArray⟩, .string ⟨t.toArray⟩] w fun e w' => e = .returned (.int .i64 (cmpB s t)) ∧ Below w.heap.size w w' :=
  (cmpStr_any _ _ w).mono fun _ _ ⟨he, hw⟩ => ⟨he, hw ▸ Below.refl _ _⟩
/-- What the walk tells of objects, j parts on. -/
structure Ob4 (rb : Nat) (ts us : List (Tr Nd)) (ra rc : List Nd) (k j : Nat) (q p : Int) (w wr : World) : Prop where
  pr : Prs rb (flats (ts.drop j) ++ ra) (flats (us.drop j) ++ rc) (k + 1) wr
  nm : cmpNm (nms ts) (nms us) = orI q (cmpNm (nms (ts.drop j)) (nms (us.drop j)))
  vl : q = 0 → cmpTs ts us = orI p (cmpTs (ts.drop j) (us.drop j))
  kb : Kb w.heap.size rb w wr
theorem Ob4.done {rb : Nat} {ts us : List (Tr Nd)} {ra rc : List Nd} {k j : Nat} {q p : Int} {w wr : World} (h : Ob4 rb ts us ra rc k j q p w wr) (hj1 : j ≤ ts.length) (hj2 : j ≤ us.length) (he : q ≠ 0 ∨ j = ts.length ∨ j = us.length) :
    orL [q, Lib.compareInt ((ts.length - j : Nat) : Int) ((us.length - j : Nat) : Int), p] = orI (cmpNm (nms ts) (nms us)) (cmpTs ts us) ∧ (orI (cmpNm (nms ts) (nms us)) (cmpTs ts us) = 0 → ts.length - j = 0 ∧ us.length - j = 0) := by
  have h1 := h.nm
  have h2 := h.vl
  simp only [orL, orI_r]
  by_cases hq : q = 0
  · subst hq
    have he' := he.resolve_left (by simp)
    rw [orI_z] at h1
    rw [nms_end he'] at h1
    rw [orI_z, h1]
    have h3 := h2 rfl
    by_cases hc : Lib.compareInt ((ts.length - j : Nat) : Int) ((us.length - j : Nat) : Int) = 0
    · have hc' := (cmpI_eq _ _).1 hc
      rw [hc, orI_z, orI_z, h3, cmpTs_end he' hj1 hj2, hc, orI_r]
      exact ⟨rfl, fun _ => by omega⟩
    · rw [orI_ne hc, orI_ne hc]
      exact ⟨rfl, fun h => absurd h hc⟩
  · rw [h1, orI_ne hq, orI_ne hq, orI_ne hq]
    exact ⟨rfl, fun h => absurd h hq⟩

set_option maxRecDepth 100000 in
set_option maxHeartbeats 4000000 in
theorem objects_of {ts us : List (Tr Nd)} (H : ∀ t ∈ ts, ∀ u ∈ us, ValueQ t u) (hts : okTs many ts) (hus : okTs many us) (rb : Nat) (ra rc : List Nd) (k : Nat) (w : World)
    (h : Prs rb (flats ts ++ ra) (flats us ++ rc) k w) (hla : (flats ts ++ ra).length ≤ 2000000000000) (hlb : (flats us ++ rc).length ≤ 2000000000000) (hk : k + 1 + (flats ts).length ≤ 2000000000000) :
    Calls Tryz.prog 78 #[.pointer (some ⟨rb, 0, none⟩), .int .i64 ts.length, .int .i64 us.length] w fun e w' => e = .returned (.int .i64 (orI (cmpNm (nms ts) (nms us)) (cmpTs ts us))) ∧ Prx rb (0 < k ∨ orI (cmpNm (nms ts) (nms us)) (cmpTs ts us) = 0) ra rc k w' ∧ Kb w.heap.size rb w w' := by
  have hlt := h.lt
  have HP := Lib.hid h
  have HH := Lib.hid H
  have hl1 := flats_len ts
  have hl2 := flats_len us
  rw [List.length_append] at hla hlb
  obtain ⟨va, vb, hp, ha, hb⟩ := h
  have c2 := hp.c2
  have f2 := hp.fz 2
  have hS : Ob4 rb ts us ra rc k 0 0 0 w (w.setCell ⟨rb, 2, none⟩ (.int .i64 ((k : Int) + 1))) := by
    have hK := (Kb.refl w.heap.size rb w).set 2 (.int .i64 ((k : Int) + 1))
    exact ⟨⟨va, vb, hp.setI (k + 1), by simpa using ha.pr hp hK, by simpa using hb.pr hp hK⟩, by simp, fun _ => by simp, hK⟩
  have HS := Lib.hid hS
  clear hp ha hb H hS
  generalize hR : orI (cmpNm (nms ts) (nms us)) (cmpTs ts us) = R at *
  have HR := Lib.hid hR
  clear hR
  generalize hm : ts.length = m at *
  generalize hn : us.length = n at *
  have HM := Lib.hid hm
  have HN := Lib.hid hn
  clear hm hn
  go_enter Tryz.func78, Tryz.ntmps78
  go_wp2_with fail
  go_loopw [1, 2, 7, 8] (fun mv nv qv pv wr => ∃ (j : Nat) (q p : Int), j ≤ m ∧ j ≤ n ∧ mv = .int .i64 ((m - j : Nat) : Int) ∧ nv = .int .i64 ((n - j : Nat) : Int) ∧ qv = .int .i64 q ∧ pv = .int .i64 p ∧ Hid (Ob4 rb ts us ra rc k j q p w wr)) (fun mv _ _ _ _ => (intOf mv).toNat)
  case atStart => exact ⟨0, 0, 0, Nat.zero_le _, Nat.zero_le _, rfl, rfl, rfl, rfl, HS⟩
  case round =>
    obtain ⟨j, q, p, hjm, hjn, rfl, rfl, rfl, rfl, HO⟩ := hrel
    by_cases hgo : q = 0 ∧ j < m ∧ j < n
    · obtain ⟨rfl, hj1, hj2⟩ := hgo
      obtain ⟨va1, vb1, hp1, ha1, hb1⟩ := HO.out.pr
      have hK1 := HO.out.kb
      have hnm := HO.out.nm
      have hvl := HO.out.vl rfl
      rw [orI_z] at hnm
      rw [nms_at (HM.out ▸ hj1) (HN.out ▸ hj2)] at hnm
      rw [cmpTs_at (HM.out ▸ hj1) (HN.out ▸ hj2)] at hvl
      have hN1 : nxtN (flats (ts.drop j) ++ ra) = (ts[j]'(HM.out ▸ hj1)).nd := nxt_parts _ _
      have hN2 : nxtN (flats (us.drop j) ++ rc) = (us[j]'(HN.out ▸ hj2)).nd := nxt_parts _ _
      have hA : ∀ W, Nds W va1 (flats (ts.drop j) ++ ra) → Calls Tryz.prog 113 #[va1] W fun e w' => e = .returned (.string ⟨(ts[j]'(HM.out ▸ hj1)).nd.name.toArray⟩) ∧ Below W.heap.size W w' := fun W h => by have := oname_any va1 _ W h; rwa [hN1] at this
      have hB : ∀ W, Nds W vb1 (flats (us.drop j) ++ rc) → Calls Tryz.prog 113 #[vb1] W fun e w' => e = .returned (.string ⟨(us[j]'(HN.out ▸ hj2)).nd.name.toArray⟩) ∧ Below W.heap.size W w' := fun W h => by have := oname_any vb1 _ W h; rwa [hN2] at this
      have HVQ : Hid (ValueQ (ts[j]'(HM.out ▸ hj1)) (us[j]'(HN.out ▸ hj2))) := Lib.hid (HH.out _ (List.getElem_mem _) _ (List.getElem_mem _))
      have HD1 : Hid (flats (ts.drop j) = flat (ts[j]'(HM.out ▸ hj1)) ++ flats (ts.drop (j + 1))) := Lib.hid (flats_drop_cons _)
      have HD2 : Hid (flats (us.drop j) = flat (us[j]'(HN.out ▸ hj2)) ++ flats (us.drop (j + 1))) := Lib.hid (flats_drop_cons _)
      have HO1 : Hid (okT many (ts[j]'(HM.out ▸ hj1))) := Lib.hid (okTs_all.1 hts _ (List.getElem_mem _))
      have HO2 : Hid (okT many (us[j]'(HN.out ▸ hj2))) := Lib.hid (okTs_all.1 hus _ (List.getElem_mem _))
      have HL1 := Lib.hid (flats_drop_le ts j)
      have HL2 := Lib.hid (flats_drop_le us j)
      have HA := Lib.hid hA
      have HB := Lib.hid hB
      have HNM := Lib.hid hnm
      have HVL := Lib.hid hvl
      clear hA hB hnm hvl hN1 hN2
      generalize ts[j]'(HM.out ▸ hj1) = t at *
      generalize us[j]'(HN.out ▸ hj2) = u at *
      obtain ⟨A1, c1, rfl, -⟩ := (id ha1 : Nds wr va1 (flats (ts.drop j) ++ ra))
      obtain ⟨B1, d1, rfl, -⟩ := (id hb1 : Nds wr vb1 (flats (us.drop j) ++ rc))
      have hStart := Os.mk' hp1 ha1 hb1 hK1
      generalize (flats (ts.drop j) ++ ra).length = na at *
      generalize (flats (us.drop j) ++ rc).length = nb at *
      have HST := Lib.hid hStart
      clear hStart hp1 ha1 hb1 hK1 HO HS HP
      go_upto_region 4 with fail
      go_cut [7] from 24 to 37 (fun s7 wx => s7 = .int .i64 (cmpB t.nd.name u.nd.name) ∧ Hid (Prs rb (flats (ts.drop j) ++ ra) (flats (us.drop j) ++ rc) (k + 1) wx ∧ Kb w.heap.size rb w wx))
      case first =>
        go_region_held3 (fun w' => w'.cell? ⟨rb, 0, none⟩ = some (.slice A1 na c1) ∧ w'.cell? ⟨rb, 1, none⟩ = some (.slice B1 nb d1) ∧ Pr2 rb (.slice A1 na c1) (.slice B1 nb d1) (k + 1) w' ∧ Nds w' (.slice A1 na c1) (flats (ts.drop j) ++ ra) ∧ Nds w' (.slice B1 nb d1) (flats (us.drop j) ++ rc) ∧ Kb w.heap.size rb w w') (first | exact Os.step (by assumption : Os rb (.slice A1 na c1) (.slice B1 nb d1) (flats (ts.drop j) ++ ra) (flats (us.drop j) ++ rc) (k + 1) w _) hb3 | exact Os.step HST.out (Below.refl _ _).drew | go_keep)
          (first
            | (go_at_call_of 113 A1; refine (HA.out _ (by assumption : Os rb (.slice A1 na c1) (.slice B1 nb d1) (flats (ts.drop j) ++ ra) (flats (us.drop j) ++ rc) (k + 1) w _).a).mono ?_; rintro e3 w3 ⟨rfl, hb3⟩)
            | (go_at_call_of 113 B1; refine (HB.out _ (by assumption : Os rb (.slice A1 na c1) (.slice B1 nb d1) (flats (ts.drop j) ++ ra) (flats (us.drop j) ++ rc) (k + 1) w _).b).mono ?_; rintro e3 w3 ⟨rfl, hb3⟩)
            | (go_at_call 76; refine (cmpStr_below _ _ _).mono ?_; rintro e3 w3 ⟨rfl, hb3⟩))
        go_wp2_with fail
        go_meet
        exact ⟨rfl, Lib.hid (Os.pk (va := .slice A1 na c1) (vb := .slice B1 nb d1) (by assumption))⟩
      case rest =>
        obtain ⟨rfl, HC⟩ := hcut
        by_cases hq : cmpB t.nd.name u.nd.name = 0 ∧ p = 0
        · obtain ⟨hq, rfl⟩ := hq
          rw [hq]
          have HV : Hid (Calls Tryz.prog 58 #[.pointer (some ⟨rb, 0, none⟩)] wc fun e w' => e = .returned (.int .i64 (cmpT t u)) ∧ Prx rb (0 < k + 1 ∨ cmpT t u = 0) (flats (ts.drop (j + 1)) ++ ra) (flats (us.drop (j + 1)) ++ rc) (k + 1) w' ∧ Kb wc.heap.size rb wc w') := by
            have h1 := HC.out.1
            have g1 := HL1.out
            have g2 := HL2.out
            rw [HD1.out, HD2.out, List.append_assoc, List.append_assoc] at h1
            rw [HD1.out, List.length_append] at g1
            rw [HD2.out, List.length_append] at g2
            exact Lib.hid (HVQ.out rb _ _ (k + 1) wc h1 (by simp only [List.length_append]; omega) (by simp only [List.length_append]; omega) (by omega))
          have HQ := Lib.hid hq
          clear hq
          go_wp2_with fail
          go_at_call 58
          refine HV.out.mono ?_
          rintro e w1 ⟨rfl, hx1, hk1⟩
          have HO2 : Hid (Ob4 rb ts us ra rc k (j + 1) 0 (cmpT t u) w w1) := Lib.hid ⟨hx1.get (.inl (Nat.succ_pos _)), by rw [HNM.out, HQ.out], fun _ => by rw [HVL.out, orI_z], HC.out.2.trans (hk1.mono HC.out.2.size)⟩
          clear hx1 hk1
          go_wp2_with fail
          refine ⟨⟨j + 1, 0, cmpT t u, by omega, by omega, by congr 1; omega, by congr 1; omega, rfl, rfl, HO2⟩, ?_⟩
          simp [intOf]; omega
        · have HL : Hid (Calls Tryz.prog 74 #[.pointer (some ⟨rb, 0, none⟩), .int .i64 (1 : Nat), .int .i64 (1 : Nat)] wc fun e w' => e = .returned (.tuple #[]) ∧ Prx rb (0 < k + 1 ∨ (True ∧ 1 = 0 ∧ 1 = 0)) (flats (ts.drop (j + 1)) ++ ra) (flats (us.drop (j + 1)) ++ rc) (k + 1) w' ∧ Kb wc.heap.size rb wc w') := by
            have h1 := HC.out.1
            have g1 := HL1.out
            have g2 := HL2.out
            rw [HD1.out, HD2.out, List.append_assoc, List.append_assoc] at h1
            rw [HD1.out, List.length_append] at g1
            rw [HD2.out, List.length_append] at g2
            refine Lib.hid (leave_any (ts := [t]) (us := [u]) (okTs_all.2 (by simpa using HO1.out)) (okTs_all.2 (by simpa using HO2.out)) rb True _ _ (k + 1) wc 1 1 rfl rfl ?_ (fun _ => trivial) ?_ ?_)
            · simpa using h1.x
            · simp only [List.length_append, flats_cons, flats_nil, List.append_nil]; omega
            · simp only [List.length_append, flats_cons, flats_nil, List.append_nil]; omega
          have HV2 : Hid (cmpB t.nd.name u.nd.name = 0 → cmpTs ts us = orI p (cmpTs (ts.drop (j + 1)) (us.drop (j + 1)))) := Lib.hid fun h => by
            have hp0 : p ≠ 0 := fun h2 => hq ⟨h, h2⟩
            rw [HVL.out, orI_ne hp0, orI_ne hp0]
          generalize cmpB t.nd.name u.nd.name = q at *
          by_cases hq0 : q = 0
          · subst hq0
            have hp0 : ((p == 0) : Bool) = false := by simpa using hq
            go_wp2_with fail
            go_at_call 74
            refine HL.out.mono ?_
            rintro e w1 ⟨rfl, hx1, hk1⟩
            have HO2 : Hid (Ob4 rb ts us ra rc k (j + 1) 0 p w w1) := Lib.hid ⟨hx1.get (.inl (Nat.succ_pos _)), HNM.out, fun _ => HV2.out (by trivial), HC.out.2.trans (hk1.mono HC.out.2.size)⟩
            clear hx1 hk1
            go_wp2_with fail
            refine ⟨⟨j + 1, 0, p, by omega, by omega, by congr 1; omega, by congr 1; omega, rfl, rfl, HO2⟩, ?_⟩
            simp [intOf]; omega
          · have hq1 : ((q == 0) : Bool) = false := by simpa using hq0
            go_wp2_with fail
            go_at_call 74
            refine HL.out.mono ?_
            rintro e w1 ⟨rfl, hx1, hk1⟩
            have HO2 : Hid (Ob4 rb ts us ra rc k (j + 1) q p w w1) := Lib.hid ⟨hx1.get (.inl (Nat.succ_pos _)), HNM.out, HV2.out, HC.out.2.trans (hk1.mono HC.out.2.size)⟩
            clear hx1 hk1
            go_wp2_with fail
            refine ⟨⟨j + 1, q, p, by omega, by omega, by congr 1; omega, by congr 1; omega, rfl, rfl, HO2⟩, ?_⟩
            simp [intOf]; omega
    · have hend : q ≠ 0 ∨ j = m ∨ j = n := by
        by_cases h : q = 0
        · exact .inr (by omega)
        · exact .inl h
      have hdone := HO.out.done (by rw [HM.out]; exact hjm) (by rw [HN.out]; exact hjn) (by rw [HM.out, HN.out]; exact hend)
      rw [HM.out, HN.out, HR.out] at hdone
      have HE := Lib.hid hdone.1
      have HZ := Lib.hid hdone.2
      obtain ⟨va1, vb1, hp1, ha1, hb1⟩ := HO.out.pr
      have c2 := hp1.c2
      have f2 := hp1.fz 2
      have HK0 : Hid (Kb w.heap.size rb w (wr.setCell ⟨rb, 2, none⟩ (.int .i64 k))) := Lib.hid (HO.out.kb.set _ _)
      have HL := Lib.hid (leave_any (ts := ts.drop j) (us := us.drop j) (okTs_all.2 fun t ht => okTs_all.1 hts t (List.mem_of_mem_drop ht)) (okTs_all.2 fun t ht => okTs_all.1 hus t (List.mem_of_mem_drop ht)) rb True ra rc k (wr.setCell ⟨rb, 2, none⟩ (.int .i64 k)) (m - j) (n - j) (by rw [List.length_drop, HM.out]) (by rw [List.length_drop, HN.out])
          (Prs.x ⟨va1, vb1, hp1.setI k, ha1.pr hp1 ((Kb.refl _ _ _).set _ _), hb1.pr hp1 ((Kb.refl _ _ _).set _ _)⟩) (fun _ => trivial)
          (by have := flats_drop_le ts j; rw [List.length_append]; omega) (by have := flats_drop_le us j; rw [List.length_append]; omega))
      have hmn : q = 0 → m - j = 0 ∨ n - j = 0 := by omega
      clear hend hdone hp1 ha1 hb1 hgo
      generalize m - j = M at *
      generalize n - j = N at *
      by_cases hq0 : q = 0
      · subst hq0
        have hMN := hmn rfl
        clear hmn
        go_wp2_with fail
        all_goals go_at_call 74
        all_goals refine HL.out.mono ?_
        all_goals rintro e w1 ⟨rfl, hx1, hk1⟩
        all_goals have HX1 := Lib.hid hx1
        all_goals have HK1 := Lib.hid (HK0.out.trans (hk1.mono HK0.out.size))
        all_goals clear hx1 hk1
        all_goals go_wp2_with fail
        all_goals go_at_call 73
        all_goals refine (Tryz.cmp_Compare_int _ _ _).mono ?_
        all_goals rintro e w2 ⟨rfl, rfl⟩
        all_goals go_wp2_with fail
        all_goals go_at_call 112
        all_goals refine (orInt_lit [0, Lib.compareInt (M : Int) (N : Int), p] _ _ _ _ _ rfl rfl rfl (by simp)).mono ?_
        all_goals rintro e w3 ⟨rfl, hb3⟩
        all_goals go_wp2_with fail
        all_goals go_ret
        all_goals
          obtain ⟨la, lb, hp1, hp2⟩ := HX1.out
          exact ⟨ret_i64 HE.out, ⟨la, lb, hp1.below hb3, fun h => hp2 (h.imp id fun h => ⟨trivial, HZ.out h⟩)⟩, HK1.out.trans (Kb.of (hb3.mono HK1.out.size))⟩
      · have hq1 : ((q == 0) : Bool) = false := by simpa using hq0
        clear hmn
        go_wp2_with fail
        all_goals go_at_call 74
        all_goals refine HL.out.mono ?_
        all_goals rintro e w1 ⟨rfl, hx1, hk1⟩
        all_goals have HX1 := Lib.hid hx1
        all_goals have HK1 := Lib.hid (HK0.out.trans (hk1.mono HK0.out.size))
        all_goals clear hx1 hk1
        all_goals go_wp2_with fail
        all_goals go_at_call 73
        all_goals refine (Tryz.cmp_Compare_int _ _ _).mono ?_
        all_goals rintro e w2 ⟨rfl, rfl⟩
        all_goals go_wp2_with fail
        all_goals go_at_call 112
        all_goals refine (orInt_lit [q, Lib.compareInt (M : Int) (N : Int), p] _ _ _ _ _ rfl rfl rfl (by simp)).mono ?_
        all_goals rintro e w3 ⟨rfl, hb3⟩
        all_goals go_wp2_with fail
        all_goals go_ret
        all_goals
          obtain ⟨la, lb, hp1, hp2⟩ := HX1.out
          exact ⟨ret_i64 HE.out, ⟨la, lb, hp1.below hb3, fun h => hp2 (h.imp id fun h => ⟨trivial, HZ.out h⟩)⟩, HK1.out.trans (Kb.of (hb3.mono HK1.out.size))⟩
end Go.Proofs.YtbhgmfddjnkglaaGreatDoor
