/-
  Joined: Ow3.
-/
import Derived.Test.YtbhgmfddjnkglaaGreatDoorAtomTellsJ10

/-
  What (*pair).lists and objects answer, over any two lists of values whose comparison is what it should be.
-/
namespace Go.Proofs.YtbhgmfddjnkglaaGreatDoor
open Go.RowKit Np Rw Vp Ov

theorem Nds.len6 {w : World} {v : Value} {l : List Nd} (h : Nds w v l) : l.length ≤ maxLen := h.len
/-- A comparison of two values by (*pair).value. -/
def ValueQ (t u : Tr Nd) : Prop := ∀ (rb : Nat) (ra rc : List Nd) (k : Nat) (w : World), Prs rb (flat t ++ ra) (flat u ++ rc) k w → (flat t ++ ra).length ≤ 2000000000000 → (flat u ++ rc).length ≤ 2000000000000 → k + (flat t).length ≤ 2000000000000 →
  Calls Tryz.prog 58 #[.pointer (some ⟨rb, 0, none⟩)] w fun e w' => e = .returned (.int .i64 (cmpT t u)) ∧ Prx rb (0 < k ∨ cmpT t u = 0) ra rc k w' ∧ Kb w.heap.size rb w w'

theorem Prx.get {rb : Nat} {b : Prop} {ra rc : List Nd} {k : Nat} {w : World} (h : Prx rb b ra rc k w) (hb : b) : Prs rb ra rc k w := by
  obtain ⟨la, lb, h1, h2⟩ := h
  obtain ⟨rfl, rfl⟩ := h2 hb
  exact h1
theorem Prx.mono {rb : Nat} {b c : Prop} {ra rc ra' rc' : List Nd} {k : Nat} {w : World} (h : Prx rb b ra rc k w) (hcb : c → b) (h1 : c → ra = ra') (h2 : c → rc = rc') : Prx rb c ra' rc' k w := by
  obtain ⟨la, lb, h3, h4⟩ := h
  exact ⟨la, lb, h3, fun hc => ⟨(h4 (hcb hc)).1.trans (h1 hc), (h4 (hcb hc)).2.trans (h2 hc)⟩⟩
theorem Prs.x {rb : Nat} {b : Prop} {la lb : List Nd} {k : Nat} {w : World} (h : Prs rb la lb k w) : Prx rb b la lb k w := ⟨la, lb, h, fun _ => ⟨rfl, rfl⟩⟩
theorem flats_drop_cons {ts : List (Tr Nd)} {j : Nat} (h : j < ts.length) : flats (ts.drop j) = flat ts[j] ++ flats (ts.drop (j + 1)) := by
  rw [← List.getElem_cons_drop h, flats_cons]
theorem flats_drop_le (ts : List (Tr Nd)) (j : Nat) : (flats (ts.drop j)).length ≤ (flats ts).length := by
  have h : flats ts = flats (ts.take j) ++ flats (ts.drop j) := by rw [← flats_append, List.take_append_drop]
  rw [h, List.length_append]; omega
theorem cmpTs_at {ts us : List (Tr Nd)} {j : Nat} (h1 : j < ts.length) (h2 : j < us.length) : cmpTs (ts.drop j) (us.drop j) = orI (cmpT ts[j] us[j]) (cmpTs (ts.drop (j + 1)) (us.drop (j + 1))) := by
  rw [← List.getElem_cons_drop h1, ← List.getElem_cons_drop h2, cmpTs_cons]
theorem cmpTs_end {ts us : List (Tr Nd)} {j : Nat} (h : j = ts.length ∨ j = us.length) (h1 : j ≤ ts.length) (h2 : j ≤ us.length) : cmpTs (ts.drop j) (us.drop j) = Lib.compareInt ((ts.length - j : Nat) : Int) ((us.length - j : Nat) : Int) := by
  have e1 : (ts.drop j).length = ts.length - j := List.length_drop
  have e2 : (us.drop j).length = us.length - j := List.length_drop
  rw [← e1, ← e2]
  generalize hx : ts.drop j = x
  generalize hy : us.drop j = y
  rw [hx] at e1
  rw [hy] at e2
  cases x with
  | nil =>
    cases y with
    | nil => rw [cmpTs_nil]; exact ((cmpI_eq _ _).2 rfl).symm
    | cons b y => rw [cmpTs_less]; exact ((cmpI_lt _ _).2 (by simp)).symm
  | cons a x =>
    cases y with
    | nil => rw [cmpTs_more]; exact ((cmpI_gt _ _).2 (by simp)).symm
    | cons b y => simp at e1 e2; omega
/-- What a list of parts is gone past by. -/
theorem skip_parts {ts : List (Tr Nd)} (h : okTs many ts) (ra : List Nd) (j : Nat) : skip many (flats (ts.drop j) ++ ra) (ts.length - j) = some ra := by
  have h1 : okTs many (ts.drop j) := okTs_all.2 fun t ht => okTs_all.1 h t (List.mem_of_mem_drop ht)
  have := skip_flats (ts.drop j) ra 0 h1
  rw [List.length_drop, Nat.add_zero, skip_zero] at this
  exact this

/-- The first that is not nought. -/
def orL : List Int → Int
  | [] => 0
  | a :: l => orI a (orL l)
theorem orL_drop {l : List Int} {j : Nat} (h : j < l.length) : orL (l.drop j) = orI l[j] (orL (l.drop (j + 1))) := by
  rw [← List.getElem_cons_drop h, orL]
set_option maxHeartbeats 4000000000000 in
theorem orInt_any (v : Value) (l : List Int) (w : World) (hv : Ins w v l) (hl : l.length ≤ 1000) :
    Calls Tryz.prog 112 #[v] w fun e w' => e = .returned (.int .i64 (orL l)) ∧ Below w.heap.size w w' := by
  have hB : Below w.heap.size w w := Below.refl _ _
  have HX : Hid (∀ j x, l[j]? = some x → ∃ g o c, v = .slice (some ⟨g, o, none⟩) l.length c ∧ w.cell? ⟨g, o + j, none⟩ = some (.int .i64 x)) := Lib.hid fun j x hx => by
    obtain ⟨g, o, c, hv, -, -, -, h⟩ := hv.opened (by have := (List.getElem?_eq_some_iff.1 hx).1; omega)
    exact ⟨g, o, c, hv, (h j x hx).int⟩
  obtain ⟨A, c, rfl, -, -, -, -⟩ := hv
  have HO : Hid (orL l = orL (l.drop 0)) := Lib.hid (by simp)
  generalize hn : l.length = n at *
  generalize orL l = R at *
  have HN := Lib.hid hn
  clear hn
  go_enter Tryz.func112, Tryz.ntmps112
  go_wp2_with fail
  go_loopw [8] (fun iv wr => ∃ j : Nat, j ≤ n ∧ iv = .int .i64 j ∧ Hid (R = orL (l.drop j)) ∧ wr = w) (fun iv _ => n - (intOf iv).toNat)
  case atStart => exact ⟨0, Nat.zero_le _, rfl, HO, rfl⟩
  case round =>
    obtain ⟨j, hj, rfl, HR, rfl⟩ := hrel
    by_cases hlt : j < n
    · have hj' : j < l.length := by rw [HN.out]; exact hlt
      obtain ⟨g, o, c', hv, hc⟩ := HX.out j l[j] (List.getElem?_eq_getElem hj')
      injection hv with e1 e2 e3
      subst e1 e3
      clear e2
      have hd := orL_drop hj'
      generalize l[j] = x at *
      by_cases hx : x = 0
      · subst hx
        rw [orI_z] at hd
        have HD : Hid (R = orL (l.drop (j + 1))) := Lib.hid (by rw [HR.out, hd])
        clear hd
        go_wp2_with fail
        go_roundw
        case rel => exact ⟨j + 1, by omega, by go_num, HD, trivial⟩
        case measure => simp [intOf]; omega
      · rw [orI_ne hx] at hd
        have HD : Hid (R = x) := Lib.hid (by rw [HR.out, hd])
        have hx' : ((x != 0) : Bool) = true := by simpa using hx
        clear hd
        go_wp2_with fail
        go_ret
        exact ⟨ret_i64 HD.out.symm, hB⟩
    · obtain rfl : j = n := by omega
      have HD : Hid (R = 0) := Lib.hid (by rw [HR.out, List.drop_eq_nil_of_le (by rw [HN.out]; exact Nat.le_refl _)]; rfl)
      go_wp2_with fail
      go_ret
      exact ⟨ret_i64 HD.out.symm, hB⟩

theorem orInt_lit (l : List Int) (E : TypeId) (cs : Array Value) (n N : Nat) (w : World) (hc : cs.toList = l.flatMap inc) (hn : w.heap.size = n) (hN : l.length = N) (hl : N ≤ 1000) :
    Calls Tryz.prog 112 #[.slice (some ⟨n, 0, none⟩) N N] (w.alloc (.cells cs E)) fun e w' => e = .returned (.int .i64 (orL l)) ∧ Below w.heap.size w w' := by
  subst hn hN
  refine (orInt_any _ l _ (Row.lit inc_len w E cs l (by unfold maxLen; omega) hc) hl).mono ?_
  rintro e w' ⟨rfl, hb⟩
  exact ⟨rfl, ((Below.refl w.heap.size w).alloc (Nat.le_refl _) _).trans (hb.mono (by simp))⟩

/-- What leave leaves of rows of values. -/
theorem leave_any {ts us : List (Tr Nd)} (hts : okTs many ts) (hus : okTs many us) (rb : Nat) (b : Prop) (ra rc : List Nd) (k : Nat) (w : World) (m n : Nat) (hm : ts.length = m) (hn : us.length = n)
    (h : Prx rb b (flats ts ++ ra) (flats us ++ rc) k w) (hkb : 0 < k → b) (hla : (flats ts ++ ra).length ≤ 2000000000000) (hlb : (flats us ++ rc).length ≤ 2000000000000) :
    Calls Tryz.prog 74 #[.pointer (some ⟨rb, 0, none⟩), .int .i64 m, .int .i64 n] w fun e w' => e = .returned (.tuple #[]) ∧ Prx rb (0 < k ∨ (b ∧ m = 0 ∧ n = 0)) ra rc k w' ∧ Kb w.heap.size rb w w' := by
  subst hm hn
  rcases Nat.eq_zero_or_pos k with h0 | h0
  · subst h0
    obtain ⟨la, lb, h1, h2⟩ := h
    refine (leave_none rb la lb _ _ w h1).mono ?_
    rintro e w' ⟨rfl, h3, h4⟩
    refine ⟨rfl, ⟨la, lb, h3, ?_⟩, h4⟩
    rintro (h5 | ⟨h5, h6, h7⟩)
    · exact absurd h5 (Nat.lt_irrefl _)
    · obtain ⟨e1, e2⟩ := h2 h5
      rw [List.eq_nil_of_length_eq_zero h6] at e1
      rw [List.eq_nil_of_length_eq_zero h7] at e2
      exact ⟨by simpa using e1, by simpa using e2⟩
  · refine (leave_past rb _ _ ts.length us.length k ra rc w (h.get (hkb h0)) h0 ?_ ?_ (by omega) (by omega)).mono ?_
    · have := skip_parts hts ra 0
      simpa using this
    · have := skip_parts hus rc 0
      simpa using this
    · rintro e w' ⟨rfl, h3, h4⟩
      exact ⟨rfl, h3.x, h4⟩

set_option maxRecDepth 100000 in
set_option maxHeartbeats 4000000 in
theorem lists_of {ts us : List (Tr Nd)} (H : ∀ t ∈ ts, ∀ u ∈ us, ValueQ t u) (hts : okTs many ts) (hus : okTs many us) (rb : Nat) (ra rc : List Nd) (k : Nat) (w : World)
    (h : Prs rb (flats ts ++ ra) (flats us ++ rc) k w) (hla : (flats ts ++ ra).length ≤ 2000000000000) (hlb : (flats us ++ rc).length ≤ 2000000000000) (hk : k + (flats ts).length ≤ 2000000000000) :
    Calls Tryz.prog 77 #[.pointer (some ⟨rb, 0, none⟩), .int .i64 ts.length, .int .i64 us.length] w fun e w' => e = .returned (.int .i64 (cmpTs ts us)) ∧ Prx rb (0 < k ∨ cmpTs ts us = 0) ra rc k w' ∧ Kb w.heap.size rb w w' := by
  have hlt := h.lt
  have HP := Lib.hid h
  have HH := Lib.hid H
  have hl1 := flats_len ts
  have hl2 := flats_len us
  rw [List.length_append] at hla hlb
  clear h H
  generalize hm : ts.length = m at *
  generalize hn : us.length = n at *
  have HM := Lib.hid hm
  have HN := Lib.hid hn
  clear hm hn
  go_enter Tryz.func77, Tryz.ntmps77
  go_wp2_with fail
  go_loopw [1, 2, 7] (fun mv nv pv wr => ∃ (j : Nat) (p : Int), j ≤ m ∧ j ≤ n ∧ mv = .int .i64 ((m - j : Nat) : Int) ∧ nv = .int .i64 ((n - j : Nat) : Int) ∧ pv = .int .i64 p ∧ Hid (Prx rb (0 < k ∨ p = 0) (flats (ts.drop j) ++ ra) (flats (us.drop j) ++ rc) k wr) ∧ Hid (cmpTs ts us = orI p (cmpTs (ts.drop j) (us.drop j))) ∧ Hid (Kb w.heap.size rb w wr)) (fun mv _ _ _ => (intOf mv).toNat)
  case atStart => exact ⟨0, 0, Nat.zero_le _, Nat.zero_le _, rfl, rfl, rfl, Lib.hid (by simpa using HP.out.x), Lib.hid (by simp), Lib.hid (Kb.refl _ _ _)⟩
  case round =>
    obtain ⟨j, p, hjm, hjn, rfl, rfl, rfl, HX, HC, HK⟩ := hrel
    by_cases hp : p = 0
    · subst hp
      by_cases hj : j < m ∧ j < n
      · obtain ⟨hj1, hj2⟩ := hj
        have HV : Hid (Calls Tryz.prog 58 #[.pointer (some ⟨rb, 0, none⟩)] wr fun e w' => e = .returned (.int .i64 (cmpT (ts[j]'(HM.out ▸ hj1)) (us[j]'(HN.out ▸ hj2)))) ∧ Prx rb (0 < k ∨ cmpT (ts[j]'(HM.out ▸ hj1)) (us[j]'(HN.out ▸ hj2)) = 0) (flats (ts.drop (j + 1)) ++ ra) (flats (us.drop (j + 1)) ++ rc) k w' ∧ Kb wr.heap.size rb wr w') := by
          have h1 := HX.out.get (.inr rfl)
          have g1 := flats_drop_le ts j
          have g2 := flats_drop_le us j
          have d1 := flats_drop_cons (ts := ts) (j := j) (HM.out ▸ hj1)
          have d2 := flats_drop_cons (ts := us) (j := j) (HN.out ▸ hj2)
          rw [d1, d2, List.append_assoc, List.append_assoc] at h1
          rw [d1, List.length_append] at g1
          rw [d2, List.length_append] at g2
          exact Lib.hid (HH.out _ (List.getElem_mem _) _ (List.getElem_mem _) rb _ _ k wr h1 (by simp only [List.length_append]; omega) (by simp only [List.length_append]; omega) (by omega))
        have HC2 : Hid (cmpTs ts us = orI (cmpT (ts[j]'(HM.out ▸ hj1)) (us[j]'(HN.out ▸ hj2))) (cmpTs (ts.drop (j + 1)) (us.drop (j + 1)))) := Lib.hid (by rw [HC.out, orI_z, cmpTs_at])
        generalize cmpT (ts[j]'(HM.out ▸ hj1)) (us[j]'(HN.out ▸ hj2)) = q at HV HC2
        go_wp2_with fail
        go_at_call 58
        refine HV.out.mono ?_
        rintro e w1 ⟨rfl, hx1, hk1⟩
        have HX1 := Lib.hid hx1
        have HK1 := Lib.hid (HK.out.trans (hk1.mono HK.out.size))
        clear hx1 hk1
        go_wp2_with fail
        refine ⟨⟨j + 1, q, by omega, by omega, by congr 1; omega, by congr 1; omega, rfl, HX1, HC2, HK1⟩, ?_⟩
        simp [intOf]; omega
      · have hend : cmpTs ts us = Lib.compareInt ((m - j : Nat) : Int) ((n - j : Nat) : Int) := by
          rw [HC.out, orI_z, cmpTs_end (by rw [HM.out, HN.out]; omega) (by rw [HM.out]; exact hjm) (by rw [HN.out]; exact hjn), HM.out, HN.out]
        have HE : Hid (orL [0, Lib.compareInt ((m - j : Nat) : Int) ((n - j : Nat) : Int)] = cmpTs ts us) := Lib.hid (by rw [hend]; simp [orL])
        have HZ : Hid (cmpTs ts us = 0 → (0 < k ∨ (0 : Int) = 0) ∧ m - j = 0 ∧ n - j = 0) := Lib.hid (by rw [hend, cmpI_eq]; omega)
        have HL := Lib.hid (leave_any (ts := ts.drop j) (us := us.drop j) (okTs_all.2 fun t ht => okTs_all.1 hts t (List.mem_of_mem_drop ht)) (okTs_all.2 fun t ht => okTs_all.1 hus t (List.mem_of_mem_drop ht)) rb _ ra rc k wr (m - j) (n - j) (by rw [List.length_drop, HM.out]) (by rw [List.length_drop, HN.out]) HX.out (fun h => .inl h)
          (by have := flats_drop_le ts j; rw [List.length_append]; omega) (by have := flats_drop_le us j; rw [List.length_append]; omega))
        have hMN : m - j = 0 ∨ n - j = 0 := by omega
        clear hend hj
        generalize m - j = M at *
        generalize n - j = N at *
        go_wp2_with fail
        all_goals go_at_call 74
        all_goals refine HL.out.mono ?_
        all_goals rintro e w1 ⟨rfl, hx1, hk1⟩
        all_goals have HX1 := Lib.hid hx1
        all_goals have HK1 := Lib.hid (HK.out.trans (hk1.mono HK.out.size))
        all_goals clear hx1 hk1
        all_goals go_wp2_with fail
        all_goals go_at_call 73
        all_goals refine (Tryz.cmp_Compare_int _ _ _).mono ?_
        all_goals rintro e w2 ⟨rfl, rfl⟩
        all_goals go_wp2_with fail
        all_goals go_at_call 112
        all_goals refine (orInt_lit [0, Lib.compareInt (M : Int) (N : Int)] _ _ _ _ _ rfl rfl rfl (by simp)).mono ?_
        all_goals rintro e w3 ⟨rfl, hb3⟩
        all_goals go_wp2_with fail
        all_goals go_ret
        all_goals
          obtain ⟨la, lb, hp1, hp2⟩ := HX1.out
          exact ⟨ret_i64 HE.out, ⟨la, lb, hp1.below hb3, fun h => hp2 (h.imp id HZ.out)⟩, HK1.out.trans (Kb.of (hb3.mono HK1.out.size))⟩
    · have HE : Hid (orL [p, Lib.compareInt ((m - j : Nat) : Int) ((n - j : Nat) : Int)] = cmpTs ts us) := Lib.hid (by rw [HC.out, orL, orI_ne hp, orI_ne hp])
      have HZ : Hid (¬ cmpTs ts us = 0) := Lib.hid (by rw [HC.out, orI_ne hp]; exact hp)
      have HL := Lib.hid (leave_any (ts := ts.drop j) (us := us.drop j) (okTs_all.2 fun t ht => okTs_all.1 hts t (List.mem_of_mem_drop ht)) (okTs_all.2 fun t ht => okTs_all.1 hus t (List.mem_of_mem_drop ht)) rb _ ra rc k wr (m - j) (n - j) (by rw [List.length_drop, HM.out]) (by rw [List.length_drop, HN.out]) HX.out (fun h => .inl h)
          (by have := flats_drop_le ts j; rw [List.length_append]; omega) (by have := flats_drop_le us j; rw [List.length_append]; omega))
      have hp' : ((p == 0) : Bool) = false := by simpa using hp
      generalize m - j = M at *
      generalize n - j = N at *
      go_wp2_with fail
      all_goals go_at_call 74
      all_goals refine HL.out.mono ?_
      all_goals rintro e w1 ⟨rfl, hx1, hk1⟩
      all_goals have HX1 := Lib.hid hx1
      all_goals have HK1 := Lib.hid (HK.out.trans (hk1.mono HK.out.size))
      all_goals clear hx1 hk1
      all_goals go_wp2_with fail
      all_goals go_at_call 73
      all_goals refine (Tryz.cmp_Compare_int _ _ _).mono ?_
      all_goals rintro e w2 ⟨rfl, rfl⟩
      all_goals go_wp2_with fail
      all_goals go_at_call 112
      all_goals refine (orInt_lit [p, Lib.compareInt (M : Int) (N : Int)] _ _ _ _ _ rfl rfl rfl (by simp)).mono ?_
      all_goals rintro e w3 ⟨rfl, hb3⟩
      all_goals go_wp2_with fail
      all_goals go_ret
      all_goals
        obtain ⟨la, lb, hp1, hp2⟩ := HX1.out
        exact ⟨ret_i64 HE.out, ⟨la, lb, hp1.below hb3, fun h => hp2 (.inl (h.resolve_right HZ.out))⟩, HK1.out.trans (Kb.of (hb3.mono HK1.out.size))⟩
end Go.Proofs.YtbhgmfddjnkglaaGreatDoor
