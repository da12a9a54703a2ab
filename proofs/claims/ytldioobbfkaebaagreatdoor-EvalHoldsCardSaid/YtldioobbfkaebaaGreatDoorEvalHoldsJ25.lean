/-
  Joined: Ow4, Ow5, Ow6, EvF, EvG.
-/
import Derived.Test.YtldioobbfkaebaaGreatDoorEvalHoldsJ14
import Derived.Deep.RegionHeld3
import Derived.Test.YtldioobbfkaebaaGreatDoorEvalHoldsJ23
import Derived.Test.YtldioobbfkaebaaGreatDoorEvalHoldsJ13
set_option maxHeartbeats 4000000000000
set_option maxRecDepth 100000
namespace Go.Proofs.YtldioobbfkaebaaGreatDoor
section
open Go.RowKit Np Rw Vp Ov
theorem nxt_parts {ts : List (Tr Nd)} {j : Nat} (h : j < ts.length) (ra : List Nd) : nxtN (flats (ts.drop j) ++ ra) = ts[j].nd := by
 rw [flats_drop_cons h, flat_eq]; rfl
theorem nms_at {ts us : List (Tr Nd)} {j : Nat} (h1 : j < ts.length) (h2 : j < us.length) : cmpNm (nms (ts.drop j)) (nms (us.drop j)) = orI (cmpB ts[j].nd.name us[j].nd.name) (cmpNm (nms (ts.drop (j + 1))) (nms (us.drop (j + 1)))) := by
 rw [← List.getElem_cons_drop h1, ← List.getElem_cons_drop h2]
 simp only [nms, List.map_cons]
 rw [cmpNm_cons]
theorem cmpNm_nn {x y : List (List UInt8)} (h : x.length = 0 ∨ y.length = 0) : cmpNm x y = Lib.compareInt (x.length : Int) (y.length : Int) := by
 cases x with
 | nil =>
  cases y with
  | nil => rw [cmpNm_nil]; exact ((cmpI_eq _ _).2 rfl).symm
  | cons b y => rw [cmpNm_less]; exact ((cmpI_lt _ _).2 (by simp)).symm
 | cons a x =>
  cases y with
  | nil => rw [cmpNm_more]; exact ((cmpI_gt _ _).2 (by simp)).symm
  | cons b y => simp at h
theorem nms_end {ts us : List (Tr Nd)} {j : Nat} (h : j = ts.length ∨ j = us.length) : cmpNm (nms (ts.drop j)) (nms (us.drop j)) = Lib.compareInt ((ts.length - j : Nat) : Int) ((us.length - j : Nat) : Int) := by
 rw [cmpNm_nn (by simp; omega)]
 simp
def Os (rb : Nat) (va vb : Value) (la lb : List Nd) (k : Nat) (w w' : World) : Prop := w'.cell? ⟨rb, 0, none⟩ = some va ∧ w'.cell? ⟨rb, 1, none⟩ = some vb ∧ Pr2 rb va vb k w' ∧ Nds w' va la ∧ Nds w' vb lb ∧ Kb w.heap.size rb w w'
theorem Os.mk' {rb : Nat} {va vb : Value} {la lb : List Nd} {k : Nat} {w w' : World} (h : Pr2 rb va vb k w') (ha : Nds w' va la) (hb : Nds w' vb lb) (hk : Kb w.heap.size rb w w') : Os rb va vb la lb k w w' := ⟨h.c0, h.c1, h, ha, hb, hk⟩
theorem Os.step {rb : Nat} {va vb : Value} {la lb : List Nd} {k : Nat} {w w' w'' : World} (h : Os rb va vb la lb k w w') (hb : Below w'.heap.size w' w'') : Os rb va vb la lb k w w'' := by
 obtain ⟨-, -, h3, h4, h5, h6⟩ := h
 exact Os.mk' (h3.below hb h3.lt) (h4.below hb) (h5.below hb) (h6.trans (Kb.of (hb.mono h6.size)))
theorem Os.a {rb : Nat} {va vb : Value} {la lb : List Nd} {k : Nat} {w w' : World} (h : Os rb va vb la lb k w w') : Nds w' va la := h.2.2.2.1
theorem Os.b {rb : Nat} {va vb : Value} {la lb : List Nd} {k : Nat} {w w' : World} (h : Os rb va vb la lb k w w') : Nds w' vb lb := h.2.2.2.2.1
theorem Os.p {rb : Nat} {va vb : Value} {la lb : List Nd} {k : Nat} {w w' : World} (h : Os rb va vb la lb k w w') : Prs rb la lb k w' := ⟨va, vb, h.2.2.1, h.a, h.b⟩
theorem Os.k {rb : Nat} {va vb : Value} {la lb : List Nd} {k : Nat} {w w' : World} (h : Os rb va vb la lb k w w') : Kb w.heap.size rb w w' := h.2.2.2.2.2
theorem Os.pk {rb : Nat} {va vb : Value} {la lb : List Nd} {k : Nat} {w w' : World} (h : Os rb va vb la lb k w w') : Prs rb la lb k w' ∧ Kb w.heap.size rb w w' := ⟨h.p, h.k⟩
theorem cmpStr_below (s t : List UInt8) (w : World) :
  Calls Tryz.prog 162 #[.string ⟨s.toArray⟩, .string ⟨t.toArray⟩] w fun e w' => e = .returned (.int .i64 (cmpB s t)) ∧ Below w.heap.size w w' :=
 (cmpStr_any _ _ w).mono fun _ _ ⟨he, hw⟩ => ⟨he, hw ▸ Below.refl _ _⟩
structure Ob4 (rb : Nat) (ts us : List (Tr Nd)) (ra rc : List Nd) (k j : Nat) (q p : Int) (w wr : World) : Prop where
 pr : Prs rb (flats (ts.drop j) ++ ra) (flats (us.drop j) ++ rc) (k + 1) wr
 nm : cmpNm (nms ts) (nms us) = orI q (cmpNm (nms (ts.drop j)) (nms (us.drop j)))
 vl : q = 0 → cmpTs ts us = orI p (cmpTs (ts.drop j) (us.drop j))
 kb : Kb w.heap.size rb w wr
theorem Ob4.done {rb : Nat} {ts us : List (Tr Nd)} {ra rc : List Nd} {k j : Nat} {q p : Int} {w wr : World} (h : Ob4 rb ts us ra rc k j q p w wr) (hj1 : j ≤ ts.length) (hj2 : j ≤ us.length) (he : q ≠ 0 ∨ j = ts.length ∨ j = us.length) :
  orL [q, Lib.compareInt ((ts.length - j : Nat) : Int) ((us.length - j : Nat) : Int), p] = orI (cmpNm (nms ts) (nms us)) (cmpTs ts us) ∧ (orI (cmpNm (nms ts) (nms us)) (cmpTs ts us) = 0 → ts.length - j = 0 ∧ us.length - j = 0) := by
 have h1 := h.nm
 have h2 := h.vl
 simp only [orL, orI_r]
 by_cases hq : q = 0
 ·subst hq
  have he' := he.resolve_left (by simp)
  rw [orI_z] at h1
  rw [nms_end he'] at h1
  rw [orI_z, h1]
  have h3 := h2 rfl
  by_cases hc : Lib.compareInt ((ts.length - j : Nat) : Int) ((us.length - j : Nat) : Int) = 0
  ·have hc' := (cmpI_eq _ _).1 hc
   rw [hc, orI_z, orI_z, h3, cmpTs_end he' hj1 hj2, hc, orI_r]
   exact ⟨rfl, fun _ => by omega⟩
  ·rw [orI_ne hc, orI_ne hc]
   exact ⟨rfl, fun h => absurd h hc⟩
 ·rw [h1, orI_ne hq, orI_ne hq, orI_ne hq]
  exact ⟨rfl, fun h => absurd h hq⟩
theorem objects_of {ts us : List (Tr Nd)} (H : ∀ t ∈ ts, ∀ u ∈ us, ValueQ t u) (hts : okTs many ts) (hus : okTs many us) (rb : Nat) (ra rc : List Nd) (k : Nat) (w : World)
  (h : Prs rb (flats ts ++ ra) (flats us ++ rc) k w) (hla : (flats ts ++ ra).length ≤ 2000000000000) (hlb : (flats us ++ rc).length ≤ 2000000000000) (hk : k + 1 + (flats ts).length ≤ 2000000000000) :
  Calls Tryz.prog 164 #[.pointer (some ⟨rb, 0, none⟩), .int .i64 ts.length, .int .i64 us.length] w fun e w' => e = .returned (.int .i64 (orI (cmpNm (nms ts) (nms us)) (cmpTs ts us))) ∧ Prx rb (0 < k ∨ orI (cmpNm (nms ts) (nms us)) (cmpTs ts us) = 0) ra rc k w' ∧ Kb w.heap.size rb w w' := by
 have hlt := h.lt
 have HP := Lib.hid h
 have HH := Lib.hid H
 have hl1 := flats_len ts
 have hl2 := flats_len us
 rw [List.length_append] at hla hlb
 obtain ⟨va, vb, hp, ha, hb⟩ := h
 have c2 := hp.c2
 have f2 := hp.fz 2
 have hS : Ob4 rb ts us ra rc k 0 0 0 w (w.setCell ⟨rb, 2, none⟩ (.int .i64 ((k : Int) + 1))) := by
  have hK := (Kb.refl w.heap.size rb w).set 2 (.int .i64 ((k : Int) + 1))
  exact ⟨⟨va, vb, hp.setI (k + 1), by simpa using ha.pr hp hK, by simpa using hb.pr hp hK⟩, by simp, fun _ => by simp, hK⟩
 have HS := Lib.hid hS
 clear hp ha hb H hS
 generalize hR : orI (cmpNm (nms ts) (nms us)) (cmpTs ts us) = R at *
 have HR := Lib.hid hR
 clear hR
 generalize hm : ts.length = m at *
 generalize hn : us.length = n at *
 have HM := Lib.hid hm
 have HN := Lib.hid hn
 clear hm hn
 go_enter Tryz.func164, Tryz.ntmps164
 go_wp2_with fail
 go_loopw [1, 2, 7, 8] (fun mv nv qv pv wr => ∃ (j : Nat) (q p : Int), j ≤ m ∧ j ≤ n ∧ mv = .int .i64 ((m - j : Nat) : Int) ∧ nv = .int .i64 ((n - j : Nat) : Int) ∧ qv = .int .i64 q ∧ pv = .int .i64 p ∧ Hid (Ob4 rb ts us ra rc k j q p w wr)) (fun mv _ _ _ _ => (intOf mv).toNat)
 case atStart => exact ⟨0, 0, 0, Nat.zero_le _, Nat.zero_le _, rfl, rfl, rfl, rfl, HS⟩
 case round =>
  obtain ⟨j, q, p, hjm, hjn, rfl, rfl, rfl, rfl, HO⟩ := hrel
  by_cases hgo : q = 0 ∧ j < m ∧ j < n
  ·obtain ⟨rfl, hj1, hj2⟩ := hgo
   obtain ⟨va1, vb1, hp1, ha1, hb1⟩ := HO.out.pr
   have hK1 := HO.out.kb
   have hnm := HO.out.nm
   have hvl := HO.out.vl rfl
   rw [orI_z] at hnm
   rw [nms_at (HM.out ▸ hj1) (HN.out ▸ hj2)] at hnm
   rw [cmpTs_at (HM.out ▸ hj1) (HN.out ▸ hj2)] at hvl
   have hN1 : nxtN (flats (ts.drop j) ++ ra) = (ts[j]'(HM.out ▸ hj1)).nd := nxt_parts _ _
   have hN2 : nxtN (flats (us.drop j) ++ rc) = (us[j]'(HN.out ▸ hj2)).nd := nxt_parts _ _
   have hA : ∀ W, Nds W va1 (flats (ts.drop j) ++ ra) → Calls Tryz.prog 186 #[va1] W fun e w' => e = .returned (.string ⟨(ts[j]'(HM.out ▸ hj1)).nd.name.toArray⟩) ∧ Below W.heap.size W w' := fun W h => by have := oname_any va1 _ W h; rwa [hN1] at this
   have hB : ∀ W, Nds W vb1 (flats (us.drop j) ++ rc) → Calls Tryz.prog 186 #[vb1] W fun e w' => e = .returned (.string ⟨(us[j]'(HN.out ▸ hj2)).nd.name.toArray⟩) ∧ Below W.heap.size W w' := fun W h => by have := oname_any vb1 _ W h; rwa [hN2] at this
   have HVQ : Hid (ValueQ (ts[j]'(HM.out ▸ hj1)) (us[j]'(HN.out ▸ hj2))) := Lib.hid (HH.out _ (List.getElem_mem _) _ (List.getElem_mem _))
   have HD1 : Hid (flats (ts.drop j) = flat (ts[j]'(HM.out ▸ hj1)) ++ flats (ts.drop (j + 1))) := Lib.hid (flats_drop_cons _)
   have HD2 : Hid (flats (us.drop j) = flat (us[j]'(HN.out ▸ hj2)) ++ flats (us.drop (j + 1))) := Lib.hid (flats_drop_cons _)
   have HO1 : Hid (okT many (ts[j]'(HM.out ▸ hj1))) := Lib.hid (okTs_all.1 hts _ (List.getElem_mem _))
   have HO2 : Hid (okT many (us[j]'(HN.out ▸ hj2))) := Lib.hid (okTs_all.1 hus _ (List.getElem_mem _))
   have HL1 := Lib.hid (flats_drop_le ts j)
   have HL2 := Lib.hid (flats_drop_le us j)
   have HA := Lib.hid hA
   have HB := Lib.hid hB
   have HNM := Lib.hid hnm
   have HVL := Lib.hid hvl
   clear hA hB hnm hvl hN1 hN2
   generalize ts[j]'(HM.out ▸ hj1) = t at *
   generalize us[j]'(HN.out ▸ hj2) = u at *
   obtain ⟨A1, c1, rfl, -⟩ := (id ha1 : Nds wr va1 (flats (ts.drop j) ++ ra))
   obtain ⟨B1, d1, rfl, -⟩ := (id hb1 : Nds wr vb1 (flats (us.drop j) ++ rc))
   have hStart := Os.mk' hp1 ha1 hb1 hK1
   generalize (flats (ts.drop j) ++ ra).length = na at *
   generalize (flats (us.drop j) ++ rc).length = nb at *
   have HST := Lib.hid hStart
   clear hStart hp1 ha1 hb1 hK1 HO HS HP
   go_upto_region 4 with fail
   go_cut [7] from 24 to 37 (fun s7 wx => s7 = .int .i64 (cmpB t.nd.name u.nd.name) ∧ Hid (Prs rb (flats (ts.drop j) ++ ra) (flats (us.drop j) ++ rc) (k + 1) wx ∧ Kb w.heap.size rb w wx))
   case first =>
    go_region_held3 (fun w' => w'.cell? ⟨rb, 0, none⟩ = some (.slice A1 na c1) ∧ w'.cell? ⟨rb, 1, none⟩ = some (.slice B1 nb d1) ∧ Pr2 rb (.slice A1 na c1) (.slice B1 nb d1) (k + 1) w' ∧ Nds w' (.slice A1 na c1) (flats (ts.drop j) ++ ra) ∧ Nds w' (.slice B1 nb d1) (flats (us.drop j) ++ rc) ∧ Kb w.heap.size rb w w') (first | exact Os.step (by assumption : Os rb (.slice A1 na c1) (.slice B1 nb d1) (flats (ts.drop j) ++ ra) (flats (us.drop j) ++ rc) (k + 1) w _) hb3 | exact Os.step HST.out (Below.refl _ _).drew | go_keep)
     (first
      | (go_at_call_of 186 A1; refine (HA.out _ (by assumption : Os rb (.slice A1 na c1) (.slice B1 nb d1) (flats (ts.drop j) ++ ra) (flats (us.drop j) ++ rc) (k + 1) w _).a).mono ?_; rintro e3 w3 ⟨rfl, hb3⟩)
      | (go_at_call_of 186 B1; refine (HB.out _ (by assumption : Os rb (.slice A1 na c1) (.slice B1 nb d1) (flats (ts.drop j) ++ ra) (flats (us.drop j) ++ rc) (k + 1) w _).b).mono ?_; rintro e3 w3 ⟨rfl, hb3⟩)
      | (go_at_call 162; refine (cmpStr_below _ _ _).mono ?_; rintro e3 w3 ⟨rfl, hb3⟩))
    go_wp2_with fail
    go_meet
    exact ⟨rfl, Lib.hid (Os.pk (va := .slice A1 na c1) (vb := .slice B1 nb d1) (by assumption))⟩
   case rest =>
    obtain ⟨rfl, HC⟩ := hcut
    by_cases hq : cmpB t.nd.name u.nd.name = 0 ∧ p = 0
    ·obtain ⟨hq, rfl⟩ := hq
     rw [hq]
     have HV : Hid (Calls Tryz.prog 138 #[.pointer (some ⟨rb, 0, none⟩)] wc fun e w' => e = .returned (.int .i64 (cmpT t u)) ∧ Prx rb (0 < k + 1 ∨ cmpT t u = 0) (flats (ts.drop (j + 1)) ++ ra) (flats (us.drop (j + 1)) ++ rc) (k + 1) w' ∧ Kb wc.heap.size rb wc w') := by
      have h1 := HC.out.1
      have g1 := HL1.out
      have g2 := HL2.out
      rw [HD1.out, HD2.out, List.append_assoc, List.append_assoc] at h1
      rw [HD1.out, List.length_append] at g1
      rw [HD2.out, List.length_append] at g2
      exact Lib.hid (HVQ.out rb _ _ (k + 1) wc h1 (by simp only [List.length_append]; omega) (by simp only [List.length_append]; omega) (by omega))
     have HQ := Lib.hid hq
     clear hq
     go_wp2_with fail
     go_at_call 138
     refine HV.out.mono ?_
     rintro e w1 ⟨rfl, hx1, hk1⟩
     have HO2 : Hid (Ob4 rb ts us ra rc k (j + 1) 0 (cmpT t u) w w1) := Lib.hid ⟨hx1.get (.inl (Nat.succ_pos _)), by rw [HNM.out, HQ.out], fun _ => by rw [HVL.out, orI_z], HC.out.2.trans (hk1.mono HC.out.2.size)⟩
     clear hx1 hk1
     go_wp2_with fail
     refine ⟨⟨j + 1, 0, cmpT t u, by omega, by omega, by congr 1; omega, by congr 1; omega, rfl, rfl, HO2⟩, ?_⟩
     simp [intOf]; omega
    ·have HL : Hid (Calls Tryz.prog 160 #[.pointer (some ⟨rb, 0, none⟩), .int .i64 (1 : Nat), .int .i64 (1 : Nat)] wc fun e w' => e = .returned (.tuple #[]) ∧ Prx rb (0 < k + 1 ∨ (True ∧ 1 = 0 ∧ 1 = 0)) (flats (ts.drop (j + 1)) ++ ra) (flats (us.drop (j + 1)) ++ rc) (k + 1) w' ∧ Kb wc.heap.size rb wc w') := by
      have h1 := HC.out.1
      have g1 := HL1.out
      have g2 := HL2.out
      rw [HD1.out, HD2.out, List.append_assoc, List.append_assoc] at h1
      rw [HD1.out, List.length_append] at g1
      rw [HD2.out, List.length_append] at g2
      refine Lib.hid (leave_any (ts := [t]) (us := [u]) (okTs_all.2 (by simpa using HO1.out)) (okTs_all.2 (by simpa using HO2.out)) rb True _ _ (k + 1) wc 1 1 rfl rfl ?_ (fun _ => trivial) ?_ ?_)
      ·simpa using h1.x
      ·simp only [List.length_append, flats_cons, flats_nil, List.append_nil]; omega
      ·simp only [List.length_append, flats_cons, flats_nil, List.append_nil]; omega
     have HV2 : Hid (cmpB t.nd.name u.nd.name = 0 → cmpTs ts us = orI p (cmpTs (ts.drop (j + 1)) (us.drop (j + 1)))) := Lib.hid fun h => by
      have hp0 : p ≠ 0 := fun h2 => hq ⟨h, h2⟩
      rw [HVL.out, orI_ne hp0, orI_ne hp0]
     generalize cmpB t.nd.name u.nd.name = q at *
     by_cases hq0 : q = 0
     ·subst hq0
      have hp0 : ((p == 0) : Bool) = false := by simpa using hq
      go_wp2_with fail
      go_at_call 160
      refine HL.out.mono ?_
      rintro e w1 ⟨rfl, hx1, hk1⟩
      have HO2 : Hid (Ob4 rb ts us ra rc k (j + 1) 0 p w w1) := Lib.hid ⟨hx1.get (.inl (Nat.succ_pos _)), HNM.out, fun _ => HV2.out (by trivial), HC.out.2.trans (hk1.mono HC.out.2.size)⟩
      clear hx1 hk1
      go_wp2_with fail
      refine ⟨⟨j + 1, 0, p, by omega, by omega, by congr 1; omega, by congr 1; omega, rfl, rfl, HO2⟩, ?_⟩
      simp [intOf]; omega
     ·have hq1 : ((q == 0) : Bool) = false := by simpa using hq0
      go_wp2_with fail
      go_at_call 160
      refine HL.out.mono ?_
      rintro e w1 ⟨rfl, hx1, hk1⟩
      have HO2 : Hid (Ob4 rb ts us ra rc k (j + 1) q p w w1) := Lib.hid ⟨hx1.get (.inl (Nat.succ_pos _)), HNM.out, HV2.out, HC.out.2.trans (hk1.mono HC.out.2.size)⟩
      clear hx1 hk1
      go_wp2_with fail
      refine ⟨⟨j + 1, q, p, by omega, by omega, by congr 1; omega, by congr 1; omega, rfl, rfl, HO2⟩, ?_⟩
      simp [intOf]; omega
  ·have hend : q ≠ 0 ∨ j = m ∨ j = n := by
    by_cases h : q = 0
    ·exact .inr (by omega)
    ·exact .inl h
   have hdone := HO.out.done (by rw [HM.out]; exact hjm) (by rw [HN.out]; exact hjn) (by rw [HM.out, HN.out]; exact hend)
   rw [HM.out, HN.out, HR.out] at hdone
   have HE := Lib.hid hdone.1
   have HZ := Lib.hid hdone.2
   obtain ⟨va1, vb1, hp1, ha1, hb1⟩ := HO.out.pr
   have c2 := hp1.c2
   have f2 := hp1.fz 2
   have HK0 : Hid (Kb w.heap.size rb w (wr.setCell ⟨rb, 2, none⟩ (.int .i64 k))) := Lib.hid (HO.out.kb.set _ _)
   have HL := Lib.hid (leave_any (ts := ts.drop j) (us := us.drop j) (okTs_all.2 fun t ht => okTs_all.1 hts t (List.mem_of_mem_drop ht)) (okTs_all.2 fun t ht => okTs_all.1 hus t (List.mem_of_mem_drop ht)) rb True ra rc k (wr.setCell ⟨rb, 2, none⟩ (.int .i64 k)) (m - j) (n - j) (by rw [List.length_drop, HM.out]) (by rw [List.length_drop, HN.out])
     (Prs.x ⟨va1, vb1, hp1.setI k, ha1.pr hp1 ((Kb.refl _ _ _).set _ _), hb1.pr hp1 ((Kb.refl _ _ _).set _ _)⟩) (fun _ => trivial)
     (by have := flats_drop_le ts j; rw [List.length_append]; omega) (by have := flats_drop_le us j; rw [List.length_append]; omega))
   have hmn : q = 0 → m - j = 0 ∨ n - j = 0 := by omega
   clear hend hdone hp1 ha1 hb1 hgo
   generalize m - j = M at *
   generalize n - j = N at *
   by_cases hq0 : q = 0
   ·subst hq0
    have hMN := hmn rfl
    clear hmn
    go_wp2_with fail
    all_goals go_at_call 160
    all_goals refine HL.out.mono ?_
    all_goals rintro e w1 ⟨rfl, hx1, hk1⟩
    all_goals have HX1 := Lib.hid hx1
    all_goals have HK1 := Lib.hid (HK0.out.trans (hk1.mono HK0.out.size))
    all_goals clear hx1 hk1
    all_goals go_wp2_with fail
    all_goals go_at_call 159
    all_goals refine (Tryz.cmp_Compare_int _ _ _).mono ?_
    all_goals rintro e w2 ⟨rfl, rfl⟩
    all_goals go_wp2_with fail
    all_goals go_at_call 185
    all_goals refine (orInt_lit [0, Lib.compareInt (M : Int) (N : Int), p] _ _ _ _ _ rfl rfl rfl (by simp)).mono ?_
    all_goals rintro e w3 ⟨rfl, hb3⟩
    all_goals go_wp2_with fail
    all_goals go_ret
    all_goals
     obtain ⟨la, lb, hp1, hp2⟩ := HX1.out
     exact ⟨ret_i64 HE.out, ⟨la, lb, hp1.below hb3, fun h => hp2 (h.imp id fun h => ⟨trivial, HZ.out h⟩)⟩, HK1.out.trans (Kb.of (hb3.mono HK1.out.size))⟩
   ·have hq1 : ((q == 0) : Bool) = false := by simpa using hq0
    clear hmn
    go_wp2_with fail
    all_goals go_at_call 160
    all_goals refine HL.out.mono ?_
    all_goals rintro e w1 ⟨rfl, hx1, hk1⟩
    all_goals have HX1 := Lib.hid hx1
    all_goals have HK1 := Lib.hid (HK0.out.trans (hk1.mono HK0.out.size))
    all_goals clear hx1 hk1
    all_goals go_wp2_with fail
    all_goals go_at_call 159
    all_goals refine (Tryz.cmp_Compare_int _ _ _).mono ?_
    all_goals rintro e w2 ⟨rfl, rfl⟩
    all_goals go_wp2_with fail
    all_goals go_at_call 185
    all_goals refine (orInt_lit [q, Lib.compareInt (M : Int) (N : Int), p] _ _ _ _ _ rfl rfl rfl (by simp)).mono ?_
    all_goals rintro e w3 ⟨rfl, hb3⟩
    all_goals go_wp2_with fail
    all_goals go_ret
    all_goals
     obtain ⟨la, lb, hp1, hp2⟩ := HX1.out
     exact ⟨ret_i64 HE.out, ⟨la, lb, hp1.below hb3, fun h => hp2 (h.imp id fun h => ⟨trivial, HZ.out h⟩)⟩, HK1.out.trans (Kb.of (hb3.mono HK1.out.size))⟩
end
section
open Go.RowKit Np Rw Vp Ov
theorem drop_flat (t : Tr Nd) (r : List Nd) : (flat t ++ r).tail = flats t.ks ++ r := by rw [flat_eq]; rfl
theorem nxt_flat (t : Tr Nd) (r : List Nd) : nxtN (flat t ++ r) = t.nd := by rw [flat_eq]; rfl
structure Ok9 (t : Tr Nd) : Prop where
 ok : okT many t
 rt : rightT t = true
theorem Ok9.kids {t : Tr Nd} (h : Ok9 t) : ∀ u ∈ t.ks, Ok9 u := fun u hu => ⟨((Val.clr h.ok h.rt).parts u hu).1, ((Val.clr h.ok h.rt).parts u hu).2⟩
theorem Ok9.plain {t : Tr Nd} (h : Ok9 t) : plainN t.nd = true := (Val.clr h.ok h.rt).plain
theorem Ok9.many {t : Tr Nd} (h : Ok9 t) : t.nd.many = t.ks.length := (okT_eq.1 h.ok).1
theorem Ok9.kinds {t : Tr Nd} (h : Ok9 t) : t.nd.kind = 0 ∨ t.nd.kind = 1 ∨ t.nd.kind = 2 ∨ t.nd.kind = 3 ∨ t.nd.kind = 4 ∨ t.nd.kind = 5 ∨ t.nd.kind = 6 := by
 have := h.plain
 unfold plainN at this
 split at this
 ·omega
 ·split at this
  ·omega
  ·split at this
   ·omega
   ·split at this
    ·omega
    ·cases this
theorem Ok9.leaf {t : Tr Nd} (h : Ok9 t) (h5 : t.nd.kind ≠ 5) (h6 : t.nd.kind ≠ 6) : t.ks = [] := (Val.clr h.ok h.rt).leaf h5 h6
theorem value_of {t u : Tr Nd} (ht : Ok9 t) (hu : Ok9 u) (H : ∀ a ∈ t.ks, ∀ b ∈ u.ks, ValueQ a b) : ValueQ t u := by
 intro rb ra rc k w hp hla hlb hk
 have hk2 : k + 1 + (flats t.ks).length ≤ 2000000000000 := by rw [flat_eq, List.length_cons] at hk; omega
 have HN := Lib.hid (node_any rb _ _ k w hp)
 rw [drop_flat, drop_flat, nxt_flat, nxt_flat] at HN
 have hlt := hp.lt
 have hla' : (flats t.ks ++ ra).length ≤ 2000000000000 := by rw [List.length_append] at hla ⊢; rw [flat_eq, List.length_cons] at hla; omega
 have hlb' : (flats u.ks ++ rc).length ≤ 2000000000000 := by rw [List.length_append] at hlb ⊢; rw [flat_eq, List.length_cons] at hlb; omega
 have HL : Hid (∀ w1, Prs rb (flats t.ks ++ ra) (flats u.ks ++ rc) k w1 → Calls Tryz.prog 163 #[.pointer (some ⟨rb, 0, none⟩), .int .i64 t.ks.length, .int .i64 u.ks.length] w1 fun e w' => e = .returned (.int .i64 (cmpTs t.ks u.ks)) ∧ Prx rb (0 < k ∨ cmpTs t.ks u.ks = 0) ra rc k w' ∧ Kb w1.heap.size rb w1 w') :=
  Lib.hid fun w1 h1 => lists_of H (okT_eq.1 ht.ok).2 (okT_eq.1 hu.ok).2 rb ra rc k w1 h1 hla' hlb' (by omega)
 have HO : Hid (∀ w1, Prs rb (flats t.ks ++ ra) (flats u.ks ++ rc) k w1 → Calls Tryz.prog 164 #[.pointer (some ⟨rb, 0, none⟩), .int .i64 t.ks.length, .int .i64 u.ks.length] w1 fun e w' => e = .returned (.int .i64 (orI (cmpNm (nms t.ks) (nms u.ks)) (cmpTs t.ks u.ks))) ∧ Prx rb (0 < k ∨ orI (cmpNm (nms t.ks) (nms u.ks)) (cmpTs t.ks u.ks) = 0) ra rc k w' ∧ Kb w1.heap.size rb w1 w') :=
  Lib.hid fun w1 h1 => objects_of H (okT_eq.1 ht.ok).2 (okT_eq.1 hu.ok).2 rb ra rc k w1 h1 hla' hlb' (by omega)
 have HV : Hid (∀ w1, Prs rb (flats t.ks ++ ra) (flats u.ks ++ rc) k w1 → Calls Tryz.prog 160 #[.pointer (some ⟨rb, 0, none⟩), .int .i64 t.ks.length, .int .i64 u.ks.length] w1 fun e w' => e = .returned (.tuple #[]) ∧ Prx rb (0 < k ∨ (True ∧ t.ks.length = 0 ∧ u.ks.length = 0)) ra rc k w' ∧ Kb w1.heap.size rb w1 w') :=
  Lib.hid fun w1 h1 => leave_any (okT_eq.1 ht.ok).2 (okT_eq.1 hu.ok).2 rb True ra rc k w1 _ _ rfl rfl h1.x (fun _ => trivial) hla' hlb'
 have HRn := Lib.hid (fun h => cmpT_kind (t := t) (u := u) h)
 have HRs := Lib.hid (fun h => cmpT_same (t := t) (u := u) h)
 have hm := ht.many
 have hn := hu.many
 have HPx := Lib.hid ht.plain
 have HPy := Lib.hid hu.plain
 have HKx := Lib.hid ht.kinds
 have HLx := Lib.hid (fun a b => ht.leaf a b)
 have HLy := Lib.hid (fun a b => hu.leaf a b)
 have g1 := flats_len t.ks
 have g2 := flats_len u.ks
 have e1 : (flats t.ks ++ ra).length = (flats t.ks).length + ra.length := List.length_append
 have e2 : (flats u.ks ++ rc).length = (flats u.ks).length + rc.length := List.length_append
 generalize cmpT t u = R at *
 generalize t.nd = x at *
 generalize u.nd = y at *
 obtain ⟨kx, mx, nx, sx, gx, ex⟩ := x
 obtain ⟨ky, my, ny, sy, gy, ey⟩ := y
 simp only at hm hn HRn HRs HKx HLx HLy
 subst hm hn
 dsimp only [nda] at HN
 clear hp H hla hlb ht hu
 go_enter Tryz.func138, Tryz.ntmps138
 go_wp2_with fail
 go_at_call 158
 refine HN.out.mono ?_
 rintro e w1 ⟨rfl, hx1, hk1⟩
 have HX1 := Lib.hid hx1
 have HK1 := Lib.hid hk1
 obtain ⟨va, vb, hp1, ha1, hb1⟩ := hx1
 have hsz1 := hk1.size
 have hrb : rb < w1.heap.size := hp1.lt
 have hrb1 : ¬ rb = w1.heap.size := by omega
 have hrb2 : ¬ rb = w1.heap.size + 1 := by omega
 have c0 := hp1.c0
 have c1 := hp1.c1
 obtain ⟨A, c, rfl, -⟩ := ha1
 obtain ⟨B, d, rfl, -⟩ := hb1
 have HT : Hid (t.ks.length = 0 → t.ks = []) := Lib.hid List.eq_nil_of_length_eq_zero
 generalize (flats t.ks ++ ra).length = na at *
 generalize (flats u.ks ++ rc).length = nb at *
 have hmA : t.ks.length ≤ na := by omega
 have hmB : u.ks.length ≤ nb := by omega
 clear hk1 hp1 g1 g2 e1 e2 HN
 have HM : Hid (∃ m n, m = t.ks.length ∧ n = u.ks.length) := Lib.hid ⟨_, _, rfl, rfl⟩
 generalize hm : t.ks.length = m at *
 generalize hn : u.ks.length = n at *
 have HM1 := Lib.hid hm
 have HM2 := Lib.hid hn
 clear hm hn
 go_wp2_with fail
 have hmin1 : min (m : Int) (na : Int) = m := by omega
 have hmin2 : min (n : Int) (nb : Int) = n := by omega
 go_quiet (fail)
 go_wp2_with fail
 go_at_call 159
 refine (Tryz.cmp_Compare_int _ _ _).mono ?_
 rintro e w2 ⟨rfl, rfl⟩
 have HB2 : Hid (∀ a b q, Prs rb (flats t.ks ++ ra) (flats u.ks ++ rc) k (((w1.alloc a).alloc b).drewN q) ∧ Kb w.heap.size rb w (((w1.alloc a).alloc b).drewN q)) := Lib.hid fun a b q => by
  have hb : Below w1.heap.size w1 (((w1.alloc a).alloc b).drewN q) := drewN_below (((Below.refl _ w1).alloc (Nat.le_refl _) _).alloc (by simp) _) q
  exact ⟨HX1.out.below hb, HK1.out.trans (Kb.of (hb.mono HK1.out.size))⟩
 by_cases hk3 : kx = ky
 ·subst hk3
  have hR := HRs.out rfl
  have hc0 : Lib.compareInt kx kx = 0 := (cmpI_eq _ _).2 rfl
  rw [hc0]
  rcases HKx.out with rfl | rfl | rfl | rfl | rfl | rfl | rfl
  ·have HC : Hid (R = 0) := Lib.hid (by simpa using hR)
   have hks1 := HLx.out (by decide) (by decide)
   have hks2 := HLy.out (by decide) (by decide)
   clear hR
   go_wp2_with fail
   go_ret
   refine ⟨ret_i64 HC.out.symm, (HB2.out _ _ _).1.x.mono (fun _ => trivial) (fun _ => by rw [hks1]; rfl) (fun _ => by rw [hks2]; rfl), (HB2.out _ _ _).2⟩
  ·have HC : Hid (R = 0) := Lib.hid (by simpa using hR)
   have hks1 := HLx.out (by decide) (by decide)
   have hks2 := HLy.out (by decide) (by decide)
   clear hR
   go_wp2_with fail
   go_ret
   refine ⟨ret_i64 HC.out.symm, (HB2.out _ _ _).1.x.mono (fun _ => trivial) (fun _ => by rw [hks1]; rfl) (fun _ => by rw [hks2]; rfl), (HB2.out _ _ _).2⟩
  ·have HC : Hid (R = 0) := Lib.hid (by simpa using hR)
   have hks1 := HLx.out (by decide) (by decide)
   have hks2 := HLy.out (by decide) (by decide)
   clear hR
   go_wp2_with fail
   go_ret
   refine ⟨ret_i64 HC.out.symm, (HB2.out _ _ _).1.x.mono (fun _ => trivial) (fun _ => by rw [hks1]; rfl) (fun _ => by rw [hks2]; rfl), (HB2.out _ _ _).2⟩
  ·have HC : Hid (R = cmpN sx gx ex sy gy ey) := Lib.hid (by simpa using hR)
   have hks1 := HLx.out (by decide) (by decide)
   have hks2 := HLy.out (by decide) (by decide)
   have q1 : right ⟨3, m, [], sx, gx, ex⟩ = true := HPx.out
   have q2 : right ⟨3, n, [], sy, gy, ey⟩ = true := HPy.out
   obtain ⟨b1, b2, b3⟩ := right_bounds q1
   obtain ⟨b4, b5, b6⟩ := right_bounds q2
   simp only at b1 b2 b3 b4 b5 b6
   clear hR q1 q2
   have HB3 : Hid (∀ a b q v1 v2, Prs rb (flats t.ks ++ ra) (flats u.ks ++ rc) k (((((w1.alloc a).alloc b).drewN q).setCell ⟨w1.heap.size, 2, none⟩ v1).setCell ⟨w1.heap.size + 1, 2, none⟩ v2) ∧ Kb w.heap.size rb w (((((w1.alloc a).alloc b).drewN q).setCell ⟨w1.heap.size, 2, none⟩ v1).setCell ⟨w1.heap.size + 1, 2, none⟩ v2)) := Lib.hid fun a b q v1 v2 => by
    have hb : Below w1.heap.size w1 (((((w1.alloc a).alloc b).drewN q).setCell ⟨w1.heap.size, 2, none⟩ v1).setCell ⟨w1.heap.size + 1, 2, none⟩ v2) := ((drewN_below (((Below.refl _ w1).alloc (Nat.le_refl _) _).alloc (by simp) _) q).setCell (by simp) _).setCell (by simp) _
    exact ⟨HX1.out.below hb, HK1.out.trans (Kb.of (hb.mono HK1.out.size))⟩
   go_wp2_with fail
   go_at_call 161
   refine (cmp_any 3 m ⟨#[]⟩ ⟨sx.toArray⟩ gx ex 3 n ⟨#[]⟩ ⟨sy.toArray⟩ gy ey _ (by rw [mk_size]; omega) (by rw [mk_size]; omega) (by omega) (by omega) (by omega) (by omega)).mono ?_
   rintro e w3 ⟨rfl, hb3⟩
   go_wp2_with fail
   go_ret
   refine ⟨ret_i64 (by rw [HC.out]), ((HB3.out _ _ _ _ _).1.below hb3).x.mono (fun _ => trivial) (fun _ => by rw [hks1]; rfl) (fun _ => by rw [hks2]; rfl), (HB3.out _ _ _ _ _).2.trans (Kb.of (hb3.mono (HB3.out _ _ _ _ _).2.size))⟩
  ·have HC : Hid (R = cmpB sx sy) := Lib.hid (by simpa using hR)
   have hks1 := HLx.out (by decide) (by decide)
   have hks2 := HLy.out (by decide) (by decide)
   clear hR
   go_wp2_with fail
   go_at_call 162
   refine (cmpStr_below _ _ _).mono ?_
   rintro e w3 ⟨rfl, hb3⟩
   go_wp2_with fail
   go_ret
   refine ⟨ret_i64 (by rw [HC.out]), ((HB2.out _ _ _).1.below hb3).x.mono (fun _ => trivial) (fun _ => by rw [hks1]; rfl) (fun _ => by rw [hks2]; rfl), (HB2.out _ _ _).2.trans (Kb.of (hb3.mono (HB2.out _ _ _).2.size))⟩
  ·have HC : Hid (R = cmpTs t.ks u.ks) := Lib.hid hR
   clear hR
   go_wp2_with fail
   go_at_call 163
   refine (HL.out _ (HB2.out _ _ _).1).mono ?_
   rintro e w3 ⟨rfl, hx3, hk3⟩
   have HX3 := Lib.hid hx3
   have HK3 := Lib.hid ((HB2.out _ _ _).2.trans (hk3.mono (HB2.out _ _ _).2.size))
   clear hx3 hk3
   go_wp2_with fail
   go_ret
   rw [HC.out]
   exact ⟨rfl, HX3.out, HK3.out⟩
  ·have HC : Hid (R = orI (cmpNm (nms t.ks) (nms u.ks)) (cmpTs t.ks u.ks)) := Lib.hid hR
   clear hR
   go_wp2_with fail
   go_at_call 164
   refine (HO.out _ (HB2.out _ _ _).1).mono ?_
   rintro e w3 ⟨rfl, hx3, hk3⟩
   have HX3 := Lib.hid hx3
   have HK3 := Lib.hid ((HB2.out _ _ _).2.trans (hk3.mono (HB2.out _ _ _).2.size))
   clear hx3 hk3
   go_wp2_with fail
   go_ret
   rw [HC.out]
   exact ⟨rfl, HX3.out, HK3.out⟩
 ·have hc0 : ¬ Lib.compareInt kx ky = 0 := fun h => hk3 ((cmpI_eq _ _).1 h)
  have HC : Hid (R = Lib.compareInt kx ky) := Lib.hid (HRn.out hk3)
  generalize Lib.compareInt kx ky = cc at *
  have hcc : ((cc != 0) : Bool) = true := by simpa using hc0
  go_wp2_with fail
  go_at_call 160
  refine (HV.out _ (HB2.out _ _ _).1).mono ?_
  rintro e w3 ⟨rfl, hx3, hk3⟩
  have HX3 := Lib.hid hx3
  have HK3 := Lib.hid ((HB2.out _ _ _).2.trans (hk3.mono (HB2.out _ _ _).2.size))
  clear hx3 hk3
  go_wp2_with fail
  go_ret
  exact ⟨ret_i64 HC.out.symm, HX3.out.mono (fun h => h.imp id fun h => absurd (HC.out.symm.trans h) hc0) (fun _ => rfl) (fun _ => rfl), HK3.out⟩
theorem value_any : ∀ (n : Nat) (t u : Tr Nd), (flat t).length ≤ n → Ok9 t → Ok9 u → ValueQ t u := by
 intro n
 induction n with
 | zero => intro t u h; have := flat_pos t; omega
 | succ n ih =>
  intro t u h ht hu
  refine value_of ht hu fun a ha b hb => ih a b ?_ (ht.kids a ha) (hu.kids b hb)
  rw [flat_eq, List.length_cons] at h
  have : (flat a).length ≤ (flats t.ks).length := by
   obtain ⟨x, y, hxy⟩ := List.append_of_mem ha
   rw [hxy, flats_append, flats_cons, List.length_append, List.length_append]; omega
  omega
end
section
open Go.RowKit Np Rw Vp Ov
theorem Vp.Val.ok9 {t : Tr Nd} (h : Val t) : Ok9 t := ⟨h.ok, h.rt⟩
theorem ordCmp_any (va vb : Value) (t u : Tr Nd) (w : World) (ha : Nds w va (flat t)) (hb : Nds w vb (flat u)) (ht : Val t) (hu : Val u) (h1 : (flat t).length ≤ 1000000000000) (h2 : (flat u).length ≤ 1000000000000) :
  Calls Tryz.prog 93 #[va, vb] w fun e w' => e = .returned (.int .i64 (cmpT t u)) ∧ Below w.heap.size w w' := by
 have HV : Hid (∀ W, W = w.alloc (.cells #[va, vb, .int .i64 (0 : Nat)] 158) → Calls Tryz.prog 138 #[.pointer (some ⟨w.heap.size, 0, none⟩)] W fun e w' => e = .returned (.int .i64 (cmpT t u)) ∧ Below w.heap.size w w') := Lib.hid fun W hW => by
  subst hW
  have hB : Below w.heap.size w (w.alloc (.cells #[va, vb, .int .i64 (0 : Nat)] 158)) := (Below.refl _ _).alloc (Nat.le_refl _) _
  have hp : Prs w.heap.size (flat t ++ []) (flat u ++ []) 0 (w.alloc (.cells #[va, vb, .int .i64 (0 : Nat)] 158)) := ⟨va, vb, alloc_at _ _ rfl, by rw [List.append_nil]; exact ha.below hB, by rw [List.append_nil]; exact hb.below hB⟩
  refine (value_any _ t u (Nat.le_refl _) ht.ok9 hu.ok9 w.heap.size [] [] 0 _ hp (by rw [List.append_nil]; omega) (by rw [List.append_nil]; omega) (by omega)).mono ?_
  rintro e w' ⟨rfl, -, hk⟩
  exact ⟨rfl, hB.trans (hk.below (by simp) (Nat.le_refl _))⟩
 obtain ⟨A, c, rfl, -⟩ := ha
 obtain ⟨B, d, rfl, -⟩ := hb
 generalize cmpT t u = R at *
 go_enter Tryz.func93, Tryz.ntmps93
 go_wp2_with fail
 go_at_call 138
 refine (HV.out _ rfl).mono ?_
 rintro e w' ⟨rfl, hb1⟩
 go_wp2_with fail
 go_ret
 exact ⟨rfl, hb1⟩
structure Keys (w : World) (v : Value) (ts : List (Tr Nd)) : Prop where
 vls : Vls w v (ts.map flat)
 val : ∀ t ∈ ts, Val t
 len : ∀ t ∈ ts, (flat t).length ≤ 1000000000000
theorem Keys.below {w w' : World} {v : Value} {ts : List (Tr Nd)} (h : Keys w v ts) (hb : Below w.heap.size w w') : Keys w' v ts := ⟨h.vls.below hb, h.val, h.len⟩
theorem Keys.at {w : World} {v : Value} {ts : List (Tr Nd)} (h : Keys w v ts) {i : Nat} (hi : i < ts.length) : ∃ g o c A n d, v = .slice (some ⟨g, o, none⟩) ts.length c ∧ g < w.heap.size ∧ w.cell? ⟨g, o + i, none⟩ = some (.slice A n d) ∧ Nds w (.slice A n d) (flat ts[i]) ∧ n = (flat ts[i]).length := by
 obtain ⟨vs, hl, hr, hx⟩ := h.vls
 rw [List.length_map] at hl
 obtain ⟨g, o, c, hv, -, -, hg, hc⟩ := hr.opened (by omega)
 have hi' : i < vs.length := by omega
 have h1 := hc i vs[i] (List.getElem?_eq_getElem hi')
 have h2 := hx i vs[i] (flat ts[i]) (List.getElem?_eq_getElem hi') (by rw [List.getElem?_map, List.getElem?_eq_getElem hi]; rfl)
 obtain ⟨A, d, h3, -⟩ := id h2
 rw [h3] at h1 h2
 exact ⟨g, o, c, A, _, d, by rw [hv, hl], hg, h1.one, h2, rfl⟩
end
section
open Go.RowKit Go.Shelf Np Rw Vp Pw Fw Ev Ov
def soP (n told : Int) : Bool := if n = 0 then told == 0 else if n = 1 then told != 0 else if n = 2 then decide (told < 0) else if n = 3 then decide (told ≤ 0) else if n = 4 then decide (0 < told) else if n = 5 then decide (0 ≤ told) else false
theorem isSo_any (n told : Int) (w : World) : Calls Tryz.prog 92 #[.int .i64 n, .int .i64 told] w fun e w' => e = .returned (.bool (soP n told)) ∧ w' = w := by
 by_cases h : n = 0 ∨ n = 1 ∨ n = 2 ∨ n = 3 ∨ n = 4 ∨ n = 5
 ·rcases h with rfl | rfl | rfl | rfl | rfl | rfl
  all_goals
   go_enter Tryz.func92, Tryz.ntmps92
   go_wp2_with fail
   go_ret
   exact ⟨ret_bool (by simp [soP]), rfl⟩
 ·have e0 : (n == 0) = false := by simp; omega
  have e1 : (n == 1) = false := by simp; omega
  have e2 : (n == 2) = false := by simp; omega
  have e3 : (n == 3) = false := by simp; omega
  have e4 : (n == 4) = false := by simp; omega
  have e5 : (n == 5) = false := by simp; omega
  have HS : Hid (soP n told = false) := Lib.hid (by unfold soP; rw [if_neg (by omega), if_neg (by omega), if_neg (by omega), if_neg (by omega), if_neg (by omega), if_neg (by omega)])
  clear h
  go_enter Tryz.func92, Tryz.ntmps92
  go_wp2_with fail
  go_ret
  exact ⟨ret_bool HS.out.symm, rfl⟩
def cndR (n : Int) (c : Nd) : Rz → Bool × Int
 | .bad k => (false, k)
 | .ok u => (soP n (cmpT (flatT u) (.mk c [])), 0)
theorem comparedC_any (B : Nat) (S : Nat → Prop) (t : Tr Nd) (v give : Value) (bg bn bc : Nat) (n : Int) (c : Nd) (F : Tr Nd → Rz) (W : World) (hg : W.cell? ⟨bg, 0, none⟩ = some give) (hn : W.cell? ⟨bn, 0, none⟩ = some (.int .i64 n)) (hc : Nd6 W bc 0 c)
  (hbn : bn < W.heap.size) (hbc : bc < W.heap.size) (hG : Gives B W give F) (h : TrS S W t v) (ht : Val t) (hl : (flat t).length ≤ B) (hok : ∀ u, F t = .ok u → Val (flatT u)) (hbad : ∀ k, F t = .bad k → k ≠ 0) (hcv : Val (.mk c [])) :
  Calls Tryz.prog 91 #[v, .pointer (some ⟨bg, 0, none⟩), .pointer (some ⟨bn, 0, none⟩), .pointer (some ⟨bc, 0, none⟩)] W fun e w' => e = .returned (.tuple #[.bool (cndR n c (F t)).1, .int .i64 (cndR n c (F t)).2]) ∧ Below W.heap.size W w' := by
 obtain ⟨K, cap, rfl, eK, hC⟩ := hG
 have HC1 := Lib.hid (hC W S t v (Below.refl _ _) h ht hl)
 have HOK := Lib.hid hok
 have HBAD := Lib.hid hbad
 have HN := Lib.hid hn
 have HC6 := Lib.hid hc
 have HCV := Lib.hid hcv
 clear hC hok hbad ht hn hc hcv h
 generalize F t = R at *
 go_enter Tryz.func91, Tryz.ntmps91
 go_wp2_with fail
 cases R with
 | bad k =>
  have hk := HBAD.out k rfl
  have hk2 : (k == 0) = false := by simpa using hk
  clear hk HBAD HOK
  refine HC1.out.mono ?_
  rintro e w2 ⟨rfl, hb2⟩
  go_wp2_with fail
  go_ret2
  exact ⟨rfl, hb2⟩
 | ok u =>
  have HFV := Lib.hid (HOK.out u rfl)
  clear HOK HBAD
  refine HC1.out.mono ?_
  rintro e w2 ⟨gu, rfl, htu, hb2⟩
  have n2 := (hb2.cell (p := ⟨bn, 0, none⟩) hbn).trans HN.out
  have HB2 := Lib.hid hb2
  have HTU := Lib.hid htu
  clear htu hb2 HC1
  have HCE : Hid (∀ w', Below w2.heap.size w2 w' → w'.cell? ⟨bn, 0, none⟩ = some (.int .i64 n)) := Lib.hid (fun w' hw => (hw.cell (p := ⟨bn, 0, none⟩) (Nat.lt_of_lt_of_le hbn HB2.out.size)).trans n2)
  have HCC : Hid (∀ w', Below w2.heap.size w2 w' → w'.cell? ⟨bc, 0, none⟩ = some (.int .i64 c.kind) ∧ w'.cell? ⟨bc, 1, none⟩ = some (.int .i64 c.many) ∧ w'.cell? ⟨bc, 2, none⟩ = some (.string ⟨c.name.toArray⟩) ∧ w'.cell? ⟨bc, 3, none⟩ = some (.string ⟨c.s.toArray⟩) ∧ w'.cell? ⟨bc, 4, none⟩ = some (.bool c.neg) ∧ w'.cell? ⟨bc, 5, none⟩ = some (.int .i64 c.e)) := Lib.hid (fun w' hw => by
   obtain ⟨z0, z1, z2, z3, z4, z5⟩ := (HC6.out.below hbc HB2.out).below (Nat.lt_of_lt_of_le hbc HB2.out.size) hw
   simp only [Nat.zero_add] at z1 z2 z3 z4 z5
   exact ⟨z0, z1, z2, z3, z4, z5⟩)
  have HFL : Hid (∀ w', Below w2.heap.size w2 w' → Calls Tryz.prog 94 #[.pointer (some ⟨gu, 0, none⟩)] w' fun e w'' => e = .returned (.slice (some ⟨w'.heap.size + 1, 0, none⟩) 1 1) ∧ Nds w'' (.slice (some ⟨w'.heap.size + 1, 0, none⟩) 1 1) (flat (flatT u)) ∧ Below w'.heap.size w' w'') := Lib.hid (fun w' hw => evFlat_any _ u _ w' (HTU.out.below hw))
  have HROW : Hid (∀ W : World, Nds (W.alloc (.cells #[.int .i64 c.kind, .int .i64 c.many, .string ⟨c.name.toArray⟩, .string ⟨c.s.toArray⟩, .bool c.neg, .int .i64 c.e] 30)) (.slice (some ⟨W.heap.size, 0, none⟩) 1 1) (flat (.mk c []))) := Lib.hid (fun W => by
   rw [flat_mk, flats_nil]
   exact Row.lit ndc_len W 30 _ [c] (by show 1 ≤ maxLen; decide) rfl)
  have HL1 : Hid ((flat (flatT u)).length ≤ 1000000000000 ∧ (flat (.mk c [] : Tr Nd)).length ≤ 1000000000000) := Lib.hid (by unfold flatT; rw [flat_mk, flat_mk]; simp)
  go_wp2_with fail
  refine wp_region_held_drew (S := fun w' => Below w2.heap.size w2 w') (by kernel_rfl) ((Below.refl _ _).drew) (fun hH => ?_)
  generalize w2.drew = Wd at hH ⊢
  refine rtk 0 (.int .i64 n) ?_ ?_
  ·intro w' hSw; have hel := HCE.out w' hSw; go_simp
  try simp only [ls1, ls0]
  refine rtk 1 (.pointer (some ⟨gu, 0, none⟩)) ?_ ?_
  ·intro w' hSw; go_simp
  try simp only [ls1, ls0]
  refine rtk 3 (nda c) ?_ ?_
  ·intro w' hSw; obtain ⟨z0, z1, z2, z3, z4, z5⟩ := HCC.out w' hSw; go_simp
  try simp only [ls1, ls0]
  refine wpAnyH_ready (rs := [2, 4]) (by kernel_rfl) (by simp) ?_
  refine AllReadyH.cons rfl (fun K2 hK2 => ?_) (AllReadyH.cons rfl (fun K4 hK4 => ?_) AllReadyH.nil)
  ·go_simp
   go_at_call 94
   refine (HFL.out Wd hH).mono ?_
   rintro e w3 ⟨rfl, hv2, hb2⟩
   go_wp2_with fail
   refine hK2.out _ _ (hH.trans (hb2.mono hH.size)) (fun hH2 => ?_)
   clear hK2 K2
   try simp only [ls1, ls0]
   refine wpAnyH_ready (rs := [4]) (by kernel_rfl) (by simp) ?_
   refine AllReadyH.cons rfl (fun K4 hK4 => ?_) AllReadyH.nil
   go_simp
   have ha4 := (Below.refl w3.heap.size w3).alloc (Nat.le_refl _) (.cells #[.int .i64 c.kind, .int .i64 c.many, .string ⟨c.name.toArray⟩, .string ⟨c.s.toArray⟩, .bool c.neg, .int .i64 c.e] 30)
   have hr4 := HROW.out w3
   refine hK4.out _ _ (hH2.trans (ha4.mono hH2.size)) (fun hH4 => ?_)
   clear hK4 K4
   generalize w3.alloc (.cells #[.int .i64 c.kind, .int .i64 c.many, .string ⟨c.name.toArray⟩, .string ⟨c.s.toArray⟩, .bool c.neg, .int .i64 c.e] 30) = W4 at hH4 hr4 ha4 ⊢
   try simp only [ls1, ls0]
   refine wpAnyH_ready (rs := [5]) (by kernel_rfl) (by simp) ?_
   refine AllReadyH.cons rfl (fun K5 hK5 => ?_) AllReadyH.nil
   go_simp
   go_at_call 93
   refine (ordCmp_any _ _ (flatT u) (.mk c []) W4 (hv2.below ha4) hr4 HFV.out HCV.out HL1.out.1 HL1.out.2).mono ?_
   rintro e w5 ⟨rfl, hb5⟩
   go_wp2_with fail
   refine hK5.out _ _ (hH4.trans (hb5.mono hH4.size)) (fun hH5 => ?_)
   clear hK5 K5
   try simp only [ls1, ls0]
   refine wpAnyH_ready (rs := [6]) (by kernel_rfl) (by simp) ?_
   refine AllReadyH.cons rfl (fun K6 hK6 => ?_) AllReadyH.nil
   go_simp
   go_at_call 92
   refine (isSo_any n _ _).mono ?_
   rintro e w6 ⟨rfl, rfl⟩
   go_wp2_with fail
   refine hK6.out _ _ hH5 (fun hH6 => ?_)
   clear hK6 K6
   try simp only [ls1, ls0]
   refine rtk 7 (.bool (soP n (cmpT (flatT u) (.mk c [])))) ?_ ?_
   ·intro w' hSw; go_simp
   try simp only [ls1, ls0]
   refine rtk 8 (.int .i64 0) ?_ ?_
   ·intro w' hSw; go_simp
   try simp only [ls1, ls0]
   refine wpAnyH_done (by kernel_rfl) ?_ _
   go_wp2_with fail
   go_ret2
   exact ⟨rfl, Below.after HB2.out hH6⟩
  ·go_simp
   have ha4 := (Below.refl Wd.heap.size Wd).alloc (Nat.le_refl _) (.cells #[.int .i64 c.kind, .int .i64 c.many, .string ⟨c.name.toArray⟩, .string ⟨c.s.toArray⟩, .bool c.neg, .int .i64 c.e] 30)
   have hr4 := HROW.out Wd
   refine hK4.out _ _ (hH.trans (ha4.mono hH.size)) (fun hH4 => ?_)
   clear hK4 K4
   generalize Wd.alloc (.cells #[.int .i64 c.kind, .int .i64 c.many, .string ⟨c.name.toArray⟩, .string ⟨c.s.toArray⟩, .bool c.neg, .int .i64 c.e] 30) = W4 at hH4 hr4 ha4 ⊢
   try simp only [ls1, ls0]
   refine wpAnyH_ready (rs := [2]) (by kernel_rfl) (by simp) ?_
   refine AllReadyH.cons rfl (fun K2 hK2 => ?_) AllReadyH.nil
   go_simp
   go_at_call 94
   refine (HFL.out W4 hH4).mono ?_
   rintro e w3 ⟨rfl, hv2, hb2⟩
   go_wp2_with fail
   refine hK2.out _ _ (hH4.trans (hb2.mono hH4.size)) (fun hH2 => ?_)
   clear hK2 K2
   try simp only [ls1, ls0]
   refine wpAnyH_ready (rs := [5]) (by kernel_rfl) (by simp) ?_
   refine AllReadyH.cons rfl (fun K5 hK5 => ?_) AllReadyH.nil
   go_simp
   go_at_call 93
   refine (ordCmp_any _ _ (flatT u) (.mk c []) w3 hv2 (hr4.below hb2) HFV.out HCV.out HL1.out.1 HL1.out.2).mono ?_
   rintro e w5 ⟨rfl, hb5⟩
   go_wp2_with fail
   refine hK5.out _ _ (hH2.trans (hb5.mono hH2.size)) (fun hH5 => ?_)
   clear hK5 K5
   try simp only [ls1, ls0]
   refine wpAnyH_ready (rs := [6]) (by kernel_rfl) (by simp) ?_
   refine AllReadyH.cons rfl (fun K6 hK6 => ?_) AllReadyH.nil
   go_simp
   go_at_call 92
   refine (isSo_any n _ _).mono ?_
   rintro e w6 ⟨rfl, rfl⟩
   go_wp2_with fail
   refine hK6.out _ _ hH5 (fun hH6 => ?_)
   clear hK6 K6
   try simp only [ls1, ls0]
   refine rtk 7 (.bool (soP n (cmpT (flatT u) (.mk c [])))) ?_ ?_
   ·intro w' hSw; go_simp
   try simp only [ls1, ls0]
   refine rtk 8 (.int .i64 0) ?_ ?_
   ·intro w' hSw; go_simp
   try simp only [ls1, ls0]
   refine wpAnyH_done (by kernel_rfl) ?_ _
   go_wp2_with fail
   go_ret2
   exact ⟨rfl, Below.after HB2.out hH6⟩
def GivesC (B : Nat) (w : World) (fv : Value) (F : Tr Nd → Bool × Int) : Prop := ∃ (K : FuncId) (cap : Array Value), fv = .func (.func K) #[] cap ∧ (∀ args w, (callFunc K args).run Tryz.prog w = .ok (.enter K args) w) ∧
 ∀ (W : World) (S : Nat → Prop) (t : Tr Nd) (v : Value), Below w.heap.size w W → TrS S W t v → Val t → (flat t).length ≤ B → Calls Tryz.prog K (#[v] ++ cap) W fun e w' => e = .returned (.tuple #[.bool (F t).1, .int .i64 (F t).2]) ∧ Below W.heap.size W w'
theorem compared_any (B : Nat) (give : Value) (n : Int) (c : Nd) (F : Tr Nd → Rz) (w : World) (hG : Gives B w give F) (hok : ∀ t, Val t → (flat t).length ≤ B → ∀ u, F t = .ok u → Val (flatT u)) (hbad : ∀ t k, F t = .bad k → k ≠ 0) (hcv : Val (.mk c [])) :
  Calls Tryz.prog 49 #[give, .int .i64 n, nda c] w fun e w' => ∃ K cap, e = .returned (.func (.func K) #[] cap) ∧ GivesC B w' (.func (.func K) #[] cap) (fun t => cndR n c (F t)) ∧ Below w.heap.size w w' := by
 have eK : ∀ args w, (callFunc 91 args).run Tryz.prog w = .ok (.enter 91 args) w := enters_of Tryz.func91 (by kernel_rfl) rfl
 have hmf : ∀ (fn : Fn) (first cap : Array Value) (w : World), (Instr.makeFunc fn first cap).run Tryz.prog w = .ok (.func fn first cap) w := fun _ _ _ _ => rfl
 obtain ⟨K0, cap0, rfl, hG'⟩ := id hG
 obtain ⟨W3, hW3⟩ : ∃ W3, W3 = (((w.alloc (.cells #[.func (.func K0) #[] cap0] 69)).alloc (.cells #[.int .i64 n] 3)).alloc (.cells #[.int .i64 c.kind, .int .i64 c.many, .string ⟨c.name.toArray⟩, .string ⟨c.s.toArray⟩, .bool c.neg, .int .i64 c.e] 30)) := ⟨_, rfl⟩
 have h12 : Below (w.alloc (.cells #[.func (.func K0) #[] cap0] 69)).heap.size (w.alloc (.cells #[.func (.func K0) #[] cap0] 69)) W3 := by rw [hW3]; exact ((Below.refl _ _).alloc (Nat.le_refl _) _).alloc (by simp) _
 have h23 : Below ((w.alloc (.cells #[.func (.func K0) #[] cap0] 69)).alloc (.cells #[.int .i64 n] 3)).heap.size ((w.alloc (.cells #[.func (.func K0) #[] cap0] 69)).alloc (.cells #[.int .i64 n] 3)) W3 := by rw [hW3]; exact (Below.refl _ _).alloc (Nat.le_refl _) _
 have f1 : W3.cell? ⟨w.heap.size, 0, none⟩ = some (.func (.func K0) #[] cap0) := (h12.cell (p := ⟨w.heap.size, 0, none⟩) (by simp)).trans (by simp [World.cell?_alloc_new])
 have f2 : W3.cell? ⟨w.heap.size + 1, 0, none⟩ = some (.int .i64 n) := (h23.cell (p := ⟨w.heap.size + 1, 0, none⟩) (by simp)).trans (by
  have h := heap_alloc_new (w.alloc (.cells #[.func (.func K0) #[] cap0] 69)) (.cells #[.int .i64 n] 3)
  rw [show (w.alloc (.cells #[.func (.func K0) #[] cap0] 69)).heap.size = w.heap.size + 1 by simp] at h
  rw [Lib.cell_of_heap h]; rfl)
 have f3 : Nd6 W3 (w.heap.size + 1 + 1) 0 c := by
  have h := heap_alloc_new ((w.alloc (.cells #[.func (.func K0) #[] cap0] 69)).alloc (.cells #[.int .i64 n] 3)) (.cells #[.int .i64 c.kind, .int .i64 c.many, .string ⟨c.name.toArray⟩, .string ⟨c.s.toArray⟩, .bool c.neg, .int .i64 c.e] 30)
  rw [← hW3] at h
  have hs : ((w.alloc (.cells #[.func (.func K0) #[] cap0] 69)).alloc (.cells #[.int .i64 n] 3)).heap.size = w.heap.size + 1 + 1 := by simp
  rw [hs] at h
  constructor <;> (rw [Lib.cell_of_heap h]; rfl)
 have HB3 : Hid (Below w.heap.size w W3) := Lib.hid (by rw [hW3]; exact (((Below.refl _ w).alloc (Nat.le_refl _) _).alloc (by simp) _).alloc (by simp; omega) _)
 have hz3 : w.heap.size + 1 + 1 < W3.heap.size := by rw [hW3]; simp
 have HGC : Hid (GivesC B W3 (.func (.func 91) #[] #[.pointer (some ⟨w.heap.size, 0, none⟩), .pointer (some ⟨w.heap.size + 1, 0, none⟩), .pointer (some ⟨w.heap.size + 1 + 1, 0, none⟩)]) (fun t => cndR n c (F t))) := Lib.hid
  ⟨_, _, rfl, eK, fun W S t v hW h ht hl => comparedC_any B S t v _ _ _ _ n c F W ((hW.cell (p := ⟨w.heap.size, 0, none⟩) (by show w.heap.size < _; omega)).trans f1) ((hW.cell (p := ⟨w.heap.size + 1, 0, none⟩) (by show w.heap.size + 1 < _; omega)).trans f2) (f3.below hz3 hW) (by have := hW.size; omega) (by have := hW.size; omega) (hG.below (HB3.out.trans (hW.mono HB3.out.size))) h ht hl (hok t ht hl) (hbad t) hcv⟩
 clear hG hG' h12 h23 f1 f2 f3 hz3 hok hbad hcv
 go_enter Tryz.func49, Tryz.ntmps49
 go_wp2_with fail
 rw [← hW3]
 go_ret
 exact ⟨_, _, rfl, HGC.out, HB3.out⟩
theorem byPath_along (s : List UInt8) (p : List St) (k : Nat) (w : World) (hr : readP s = (p, k, 0)) (hp : ∀ x ∈ p, rightS x = true) (hs : s.length ≤ 1000000) (hT : Pv w) :
  Calls Tryz.prog 50 #[.string ⟨s.toArray⟩, .func (.func 31) #[] #[]] w (GivesE 60000 w fun t => ofO (alongE p t)) := by
 have eK : ∀ args w, (callFunc 31 args).run Tryz.prog w = .ok (.enter 31 args) w := enters_of Tryz.func31 (by kernel_rfl) rfl
 have HR := Lib.hid (pread_any ⟨s.toArray⟩ w (by rw [mk_size]; exact hs) hT)
 rw [show readP (ByteArray.mk s.toArray).data.toList = (p, k, 0) from hr] at HR
 have HP := Lib.hid hp
 clear hr hp hT
 go_enter Tryz.func50, Tryz.ntmps50
 go_wp2_with fail
 refine HR.out.mono ?_
 rintro e w1 ⟨A1, n1, c1, rfl, hp1, hb1⟩
 have HB1 := Lib.hid hb1
 have HA := Lib.hid (evAlong_any 60000 _ p w1 hp1 HP.out)
 clear hb1 hp1 HR
 go_wp2_with fail
 refine HA.out.mono ?_
 rintro e w2 ⟨K, cap, rfl, hg2, hb2⟩
 have HG2 := Lib.hid hg2
 have HB2 := Lib.hid (Below.after HB1.out hb2)
 clear hg2 hb2
 go_wp2_with fail
 go_ret
 exact ⟨K, cap, rfl, HG2.out, HB2.out⟩
end
section
open Go.RowKit Go.Shelf Np Rw Vp Pw Fw Ev Ov
theorem evCond_cmp (rb : Nat) (t : Tm) (p : List St) (k : Nat) (w : World) (h : Rdr w rb t) (h1 : t.op = 16) (hr : readP t.s = (p, k, 0)) (hp : ∀ x ∈ p, rightS x = true) (hs : t.s.length ≤ 1000000) (hc : Val (.mk t.c [])) (hrT : ∀ W, Below rb w W → Pv W)
  (hok : ∀ t, Val t → (flat t).length ≤ 60000 → ∀ u, ofO (alongE p t) = .ok u → Val (flatT u)) :
  Calls Tryz.prog 24 #[.pointer (some ⟨rb, 0, none⟩)] w fun e w' => ∃ K cap, e = .returned (.func (.func K) #[] cap) ∧ GivesC 60000 w' (.func (.func K) #[] cap) (fun u => cndR t.n t.c (ofO (alongE p u))) ∧ Below rb w w' := by
 have HTK := Lib.hid (evTake_any rb t w h)
 have hl := h.l
 have HBP := Lib.hid (fun (W : World) (hW : Below rb w W) => byPath_along t.s p k W hr hp hs (hrT W hW))
 have HCP := Lib.hid (fun (W : World) (give : Value) (hG : Gives 60000 W give fun t => ofO (alongE p t)) => compared_any 60000 give t.n t.c (fun t => ofO (alongE p t)) W hG hok (fun y e he => by
  cases hy : alongE p y with
  | none => rw [hy] at he; injection he with he; subst he; decide
  | some z => rw [hy] at he; cases he) hc)
 clear h hs hp hr hc hrT hok
 obtain ⟨op, many, name, s, n, c⟩ := t
 simp only at *
 subst h1
 go_enter Tryz.func24, Tryz.ntmps24
 go_wp2_with fail
 refine HTK.out.mono ?_
 rintro e w1 ⟨rfl, hb1⟩
 have HB1 := Lib.hid hb1
 have hl1 : rb < w1.heap.size := Nat.lt_of_lt_of_le hl hb1.size
 clear hb1 HTK
 obtain ⟨W0, hW0⟩ : ∃ W0, W0 = w1.alloc (.cells #[.int .i64 16, .int .i64 many, .string ⟨name.toArray⟩, .string ⟨s.toArray⟩, .int .i64 n, .int .i64 c.kind, .int .i64 c.many, .string ⟨c.name.toArray⟩, .string ⟨c.s.toArray⟩, .bool c.neg, .int .i64 c.e] 32) := ⟨_, rfl⟩
 have HB0 : Hid (Below rb w W0) := Lib.hid (by rw [hW0]; exact HB1.out.alloc (by omega) _)
 have hlt : w1.heap.size < W0.heap.size := by rw [hW0]; simp
 have HTM : Tm11 W0 w1.heap.size 0 ⟨16, many, name, s, n, c⟩ := by
  have h := heap_alloc_new w1 (.cells #[.int .i64 16, .int .i64 many, .string ⟨name.toArray⟩, .string ⟨s.toArray⟩, .int .i64 n, .int .i64 c.kind, .int .i64 c.many, .string ⟨c.name.toArray⟩, .string ⟨c.s.toArray⟩, .bool c.neg, .int .i64 c.e] 32)
  rw [← hW0] at h
  constructor <;> (rw [Lib.cell_of_heap h]; rfl)
 have HCL : Hid (∀ W, Below W0.heap.size W0 W → W.cell? ⟨w1.heap.size, 3, none⟩ = some (.string ⟨s.toArray⟩) ∧ W.cell? ⟨w1.heap.size, 4, none⟩ = some (.int .i64 n) ∧ W.cell? ⟨w1.heap.size, 5, none⟩ = some (.int .i64 c.kind) ∧ W.cell? ⟨w1.heap.size, 6, none⟩ = some (.int .i64 c.many) ∧ W.cell? ⟨w1.heap.size, 7, none⟩ = some (.string ⟨c.name.toArray⟩) ∧ W.cell? ⟨w1.heap.size, 8, none⟩ = some (.string ⟨c.s.toArray⟩) ∧ W.cell? ⟨w1.heap.size, 9, none⟩ = some (.bool c.neg) ∧ W.cell? ⟨w1.heap.size, 10, none⟩ = some (.int .i64 c.e)) := Lib.hid (fun W hW => by
  obtain ⟨-, -, -, z3, z4, z5, z6, z7, z8, z9, z10⟩ := HTM.below hlt hW
  simp only [Nat.zero_add] at z3 z4 z5 z6 z7 z8 z9 z10
  exact ⟨z3, z4, z5, z6, z7, z8, z9, z10⟩)
 clear HTM
 go_wp2_with fail
 rw [← hW0]
 clear hW0
 refine wp_region_held_drew (S := fun w' => Below W0.heap.size W0 w') (by kernel_rfl) ((Below.refl _ _).drew) (fun hH => ?_)
 generalize W0.drew = Wd at hH ⊢
 refine rtk 0 (.pointer (some ⟨w1.heap.size, 3, none⟩)) ?_ ?_
 ·intro w' hSw; go_simp
 try simp only [ls1, ls0]
 refine rtk 1 (.string ⟨s.toArray⟩) ?_ ?_
 ·intro w' hSw; obtain ⟨x3, x4, x5, x6, x7, x8, x9, x10⟩ := HCL.out w' hSw; go_simp
 try simp only [ls1, ls0]
 refine rtk 3 (.pointer (some ⟨w1.heap.size, 4, none⟩)) ?_ ?_
 ·intro w' hSw; go_simp
 try simp only [ls1, ls0]
 refine rtk 4 (.int .i64 n) ?_ ?_
 ·intro w' hSw; obtain ⟨x3, x4, x5, x6, x7, x8, x9, x10⟩ := HCL.out w' hSw; go_simp
 try simp only [ls1, ls0]
 refine rtk 5 (.pointer (some ⟨w1.heap.size, 5, none⟩)) ?_ ?_
 ·intro w' hSw; go_simp
 try simp only [ls1, ls0]
 refine rtk 6 (nda c) ?_ ?_
 ·intro w' hSw; obtain ⟨x3, x4, x5, x6, x7, x8, x9, x10⟩ := HCL.out w' hSw; go_simp
 try simp only [ls1, ls0]
 refine wpAnyH_ready (rs := [2]) (by kernel_rfl) (by simp) ?_
 refine AllReadyH.cons rfl (fun K2 hK2 => ?_) AllReadyH.nil
 go_simp
 go_at_call 50
 refine (HBP.out Wd (HB0.out.trans (hH.mono (by omega)))).mono ?_
 rintro e w2 ⟨K, cap, rfl, hg2, hb2⟩
 have HG2 := Lib.hid hg2
 clear hg2
 go_wp2_with fail
 refine hK2.out _ _ (hH.trans (hb2.mono hH.size)) (fun hH2 => ?_)
 clear hK2 K2
 try simp only [ls1, ls0]
 refine wpAnyH_ready (rs := [7]) (by kernel_rfl) (by simp) ?_
 refine AllReadyH.cons rfl (fun K7 hK7 => ?_) AllReadyH.nil
 go_simp
 go_at_call 49
 refine (HCP.out w2 _ HG2.out).mono ?_
 rintro e w3 ⟨K3, cap3, rfl, hg3, hb3⟩
 have HG3 := Lib.hid hg3
 clear hg3
 go_wp2_with fail
 refine hK7.out _ _ (hH2.trans (hb3.mono hH2.size)) (fun hH7 => ?_)
 clear hK7 K7
 try simp only [ls1, ls0]
 refine rtk 8 (.func (.func K3) #[] cap3) ?_ ?_
 ·intro w' hSw; go_simp
 try simp only [ls1, ls0]
 refine wpAnyH_done (by kernel_rfl) ?_ _
 go_wp2_with fail
 go_ret
 exact ⟨K3, cap3, rfl, HG3.out, HB0.out.trans (hH7.mono (by omega))⟩
theorem evHolds_cmp (fv v : Value) (t : Tm) (p : List St) (k : Nat) (u : Tr Nd) (w : World) (hf : ∃ g o : Nat, g < w.heap.size ∧ fv = .slice (some ⟨g, o, none⟩) 1 1 ∧ Tm11 w g o t) (h1 : t.op = 16) (hr : readP t.s = (p, k, 0)) (hp : ∀ x ∈ p, rightS x = true) (hs : t.s.length ≤ 1000000) (hc : Val (.mk t.c []))
  (hv : Nds w v (flat u)) (hu : Val u) (hl : (flat u).length ≤ 60000) (hT : Pv w) (hok : ∀ t, Val t → (flat t).length ≤ 60000 → ∀ u, ofO (alongE p t) = .ok u → Val (flatT u)) :
  Calls Tryz.prog 9 #[fv, v] w fun e w' => e = .returned (.tuple #[.bool (cndR t.n t.c (ofO (alongE p u))).1, .int .i64 (cndR t.n t.c (ofO (alongE p u))).2]) ∧ Below w.heap.size w w' := by
 obtain ⟨g, o, hg, rfl, ht⟩ := hf
 have HB0 : Hid (Below w.heap.size w (w.alloc (.cells #[.slice (some ⟨g, o, none⟩) 1 1] 57))) := Lib.hid ((Below.refl _ w).alloc (Nat.le_refl _) _)
 have HFI := Lib.hid (evCond_cmp w.heap.size t p k (w.alloc (.cells #[.slice (some ⟨g, o, none⟩) 1 1] 57)) ⟨⟨g, o, by simp; omega, by simp [World.cell?_alloc_new], ht.below hg HB0.out⟩, by simp [World.frozen?_alloc_new], by simp⟩ h1 hr hp hs hc (fun W hW => hT.below (HB0.out.trans hW)) hok)
 have HG := Lib.hid (fun (W : World) (hW : Below w.heap.size w W) => evGrow_any u v W hu.ok (hv.below hW) (by omega))
 have HU := Lib.hid hu
 obtain ⟨A2, c2, rfl, -⟩ := hv
 clear hu ht hp hr hs hc hT hok
 generalize hRR : cndR t.n t.c (ofO (alongE p u)) = RR at *
 have HRR := Lib.hid hRR
 clear hRR
 go_enter Tryz.func9, Tryz.ntmps9
 go_wp2_with fail
 refine HFI.out.mono ?_
 rintro e w1 ⟨K, cap, rfl, hg1, hb1⟩
 have HB1 : Hid (Below w.heap.size w w1) := Lib.hid (HB0.out.trans hb1)
 obtain ⟨K', cap', hv', eK, hC⟩ := hg1
 injection hv' with e1 _ e3
 injection e1 with e1
 subst e1 e3
 have HC := Lib.hid hC
 clear hC hb1 HFI
 go_wp2_with fail
 refine (HG.out w1 HB1.out).mono ?_
 rintro e w2 ⟨gu, rfl, htu, hb2⟩
 have HB2 := Lib.hid (Below.after HB1.out hb2)
 have HCL := Lib.hid (HC.out w2 _ u _ hb2 htu HU.out hl)
 rw [HRR.out] at HCL
 clear htu hb2 HC
 go_wp2_with fail
 refine HCL.out.mono ?_
 rintro e w3 ⟨rfl, hb3⟩
 go_wp2_with fail
 go_ret2
 exact ⟨rfl, Below.after HB2.out hb3⟩
end
end Go.Proofs.YtldioobbfkaebaaGreatDoor
