/-
  Joined: RefW9.
-/
import Derived.Test.YtafbojiojeemoaaGreatDoorPathTextsJ9

/-
  What the document's own answers List and named are.
-/
namespace Go.Proofs.YtafbojiojeemoaaGreatDoor
open Go.RowKit Np Rw Vp

theorem own_head (w : World) (E : Nat) (hE : E = 35) (k n : Nat) : OwnN w.heap.size (w.alloc (.cells #[.int .i64 (k : Int), .int .i64 (n : Int), .string ⟨#[]⟩, .string ⟨#[]⟩, .bool false, .int .i64 0] E)) (.slice (some ⟨w.heap.size, 0, none⟩) 1 1) [hdN k n] := by
  subst hE
  exact Own.lit (base := w.heap.size) ndc_len w _ [hdN k n] (Nat.le_refl _) (by unfold maxLen; simp) rfl

set_option maxRecDepth 100000 in
set_option maxHeartbeats 2000000 in
theorem refList_any (v : Value) (L : List (List Nd)) (w : World) (hv : Vls w v L) (hb1 : L.length ≤ 65536) (hb2 : (L.map List.length).sum ≤ 131072) :
    Calls Tryz.prog 19 #[v] w (OwnsN w (hdN 5 L.length :: L.flatten)) := by
  obtain ⟨us, hul, hu, hur⟩ := hv
  obtain ⟨A, c, rfl, -, -, -, H⟩ := hu
  have HUL := Lib.hid hul
  have HU := Lib.hid hur
  have HH := Lib.hid H
  have HB2 := Lib.hid hb2
  clear hur H hb2
  rw [← hul] at hb1
  clear hul
  generalize hn : us.length = n at *
  have HN := Lib.hid hn; clear hn
  have HO0 : Hid (OwnN w.heap.size (w.alloc (.cells #[.int .i64 5, .int .i64 (n : Int), .string ⟨#[]⟩, .string ⟨#[]⟩, .bool false, .int .i64 0] 35)) (.slice (some ⟨w.heap.size, 0, none⟩) 1 1) (hdN 5 L.length :: (L.take 0).flatten)) := Lib.hid (by rw [← HUL.out]; exact own_head w _ rfl 5 n)
  go_enter Tryz.func19, Tryz.ntmps19
  go_wp2_with fail
  go_loopw [3, 4] (fun vv i wr => ∃ k : Nat, k ≤ n ∧ i = .int .i64 k ∧ OwnN w.heap.size wr vv (hdN 5 L.length :: (L.take k).flatten) ∧ Below w.heap.size w wr) (fun _ i _ => n - (intOf i).toNat)
  case atStart => exact ⟨0, Nat.zero_le _, rfl, HO0.out, (Below.refl _ _).alloc (Nat.le_refl _) _⟩
  case round =>
    obtain ⟨j, hj, rfl, hown, hbw⟩ := hrel
    have HO := Lib.hid hown
    have HBW := Lib.hid hbw
    by_cases hlt2 : j < n
    · obtain ⟨g, o, rfl, hg, hx⟩ := HH.out (by omega)
      obtain ⟨x, hxk⟩ : ∃ a, us[j]? = some a := ⟨_, List.getElem?_eq_getElem (by rw [HN.out]; exact hlt2)⟩
      obtain ⟨a, ha⟩ : ∃ a, L[j]? = some a := ⟨_, List.getElem?_eq_getElem (by rw [← HUL.out]; exact hlt2)⟩
      have a0 := (hbw.cell (p := ⟨g, o + j, none⟩) hg).trans (hx j x hxk).one
      have HRA : Hid (Nds wr x a) := Lib.hid ((HU.out j x a hxk ha).below hbw)
      have HS : Hid (hdN 5 L.length :: (L.take (j + 1)).flatten = (hdN 5 L.length :: (L.take j).flatten) ++ a) := Lib.hid (by rw [List.take_add_one, ha]; simp)
      have HLN : Hid ((hdN 5 L.length :: (L.take j).flatten).length + a.length ≤ 131073) := Lib.hid (by
        have h1 := sum_take ha
        have h2 := sum_take_le L (j + 1)
        have h3 := HB2.out
        rw [List.length_cons, List.length_flatten]; omega)
      generalize hdN 5 L.length :: (L.take j).flatten = l1 at HO HS HLN
      clear ha hxk hx hown hbw
      go_wp2_with (at_builtin; refine wpList_append_row (base := w.heap.size) elNode rfl _ _ rfl rfl HO.out rfl HRA.out ?_ ?_ ?_ ?_)
      · have := HLN.out; unfold maxLen; omega
      · have := HLN.out; omega
      · exact HBW.out.size
      · intro A' c' w2 hown2 hg2 hwh
        clear hwh
        have HO2 : Hid (OwnN w.heap.size w2 (.slice A' (l1.length + a.length) c') (l1 ++ a)) := Lib.hid (by simpa using hown2)
        have HG2 := Lib.hid hg2
        clear hown2 hg2 a0
        generalize l1.length + a.length = q2 at HO2 ⊢
        go_wp2_with fail
        go_roundw
        case rel => exact ⟨j + 1, by omega, by go_num, by rw [HS.out]; exact HO2.out, HBW.out.trans (HO.out.kept HG2.out HBW.out.size)⟩
        case measure => simp [intOf]; omega
    · have HE : Hid (L.take j = L) := Lib.hid (List.take_of_length_le (by rw [← HUL.out]; omega))
      clear hown hbw
      go_wp2_with fail
      go_ret
      exact ⟨_, rfl, by have := HO.out; rwa [HE.out] at this, HBW.out⟩

set_option maxRecDepth 100000 in
set_option maxHeartbeats 4000000 in
theorem refNamed_any (v u : Value) (names : List (List UInt8)) (L : List (List Nd)) (w : World) (hv : Sts w v names) (hu : Vls w u L) (hl : names.length = L.length) (hb1 : L.length ≤ 65536) (hb2 : (L.map List.length).sum ≤ 131072) (hne : ∀ l ∈ L, l ≠ []) :
    Calls Tryz.prog 39 #[v, u] w (OwnsN w (hdN 6 L.length :: laid (names.zip L))) := by
  obtain ⟨us, hul, hu, hur⟩ := hu
  obtain ⟨A, c, rfl, -, -, -, H⟩ := hu
  obtain ⟨A0, c0, rfl, -, -, -, H0⟩ := hv
  have HUL := Lib.hid hul
  have HU := Lib.hid hur
  have HH := Lib.hid H
  have HH0 := Lib.hid H0
  have HB2 := Lib.hid hb2
  have HNE := Lib.hid hne
  have HLL := Lib.hid hl
  clear hur H hb2 hne H0
  rw [hl, ← hul]
  rw [← hul] at hb1
  clear hul hl
  generalize hn : us.length = n at *
  have HN := Lib.hid hn; clear hn
  have HO0 : Hid (OwnN w.heap.size (w.alloc (.cells #[.int .i64 6, .int .i64 (n : Int), .string ⟨#[]⟩, .string ⟨#[]⟩, .bool false, .int .i64 0] 35)) (.slice (some ⟨w.heap.size, 0, none⟩) 1 1) (hdN 6 n :: laid ((names.zip L).take 0))) := Lib.hid (own_head w _ rfl 6 n)
  go_enter Tryz.func39, Tryz.ntmps39
  go_wp2_with fail
  go_loopw [5, 6] (fun vv i wr => ∃ k : Nat, k ≤ n ∧ i = .int .i64 k ∧ OwnN w.heap.size wr vv (hdN 6 n :: laid ((names.zip L).take k)) ∧ Below w.heap.size w wr) (fun _ i _ => n - (intOf i).toNat)
  case atStart => exact ⟨0, Nat.zero_le _, rfl, HO0.out, (Below.refl _ _).alloc (Nat.le_refl _) _⟩
  case round =>
    obtain ⟨j, hj, rfl, hown, hbw⟩ := hrel
    have HO := Lib.hid hown
    have HBW := Lib.hid hbw
    by_cases hlt2 : j < n
    · obtain ⟨g, o, rfl, hg, hx⟩ := HH.out (by omega)
      obtain ⟨g0, o0, rfl, hg0, hx0⟩ := HH0.out (by rw [HLL.out, ← HUL.out]; omega)
      obtain ⟨x, hxk⟩ : ∃ a, us[j]? = some a := ⟨_, List.getElem?_eq_getElem (by rw [HN.out]; exact hlt2)⟩
      obtain ⟨nm, hnm⟩ : ∃ a, names[j]? = some a := ⟨_, List.getElem?_eq_getElem (by rw [HLL.out, ← HUL.out]; exact hlt2)⟩
      obtain ⟨a, ha⟩ : ∃ a, L[j]? = some a := ⟨_, List.getElem?_eq_getElem (by rw [← HUL.out]; exact hlt2)⟩
      have a0 := (hbw.cell (p := ⟨g, o + j, none⟩) hg).trans (hx j x hxk).one
      have HNC : Hid (w.cell? ⟨g0, o0 + j, none⟩ = some (.string ⟨nm.toArray⟩)) := Lib.hid (hx0 j nm hnm).st
      have HG0 := Lib.hid hg0
      obtain ⟨y, ys, hya⟩ : ∃ y ys, a = y :: ys := by
        cases a with
        | nil => exact absurd rfl (HNE.out [] (List.mem_of_getElem? ha))
        | cons y ys => exact ⟨y, ys, rfl⟩
      have HRA : Hid (Nds wr x a) := Lib.hid ((HU.out j x a hxk ha).below hbw)
      have HS : Hid (hdN 6 n :: laid ((names.zip L).take (j + 1)) = (hdN 6 n :: laid ((names.zip L).take j)) ++ setNm nm a) := Lib.hid (by
        have hz : (names.zip L)[j]? = some (nm, a) := by rw [List.getElem?_zip_eq_some]; exact ⟨hnm, ha⟩
        rw [List.take_add_one, hz]; simp [laid_snoc])
      have HLN : Hid ((hdN 6 n :: laid ((names.zip L).take j)).length + a.length ≤ 131073) := Lib.hid (by
        have h1 := sum_take ha
        have h2 := sum_take_le L (j + 1)
        have h3 := HB2.out
        have h4 : (((names.zip L).take j).map fun p : Pr => p.2.length).sum = ((L.take j).map List.length).sum := by
          have : ((names.zip L).take j).map (fun p : Pr => p.2.length) = (L.take j).map List.length := by
            rw [show (fun p : Pr => p.2.length) = List.length ∘ Prod.snd from rfl, ← List.map_map, List.map_take, List.map_snd_zip (by rw [HLL.out]; exact Nat.le_refl _)]
          rw [this]
        rw [List.length_cons, laid_len]; omega)
      generalize hdN 6 n :: laid ((names.zip L).take j) = l1 at HO HS HLN
      have HYA := Lib.hid hya
      have hapos : 0 < a.length := by rw [hya]; simp
      clear ha hxk hx hown hbw hnm hx0 hya
      obtain ⟨Ao, co, rfl, -⟩ := HO.out.form
      generalize hal : a.length = al at *
      have HAL := Lib.hid hal
      clear hal
      go_wp2_with (at_builtin; refine wpList_append_row (base := w.heap.size) elNode rfl _ _ rfl rfl HO.out rfl HRA.out ?_ ?_ ?_ ?_)
      · have := HLN.out; have := HAL.out; unfold maxLen; omega
      · have := HLN.out; have := HAL.out; omega
      · exact HBW.out.size
      · intro A' c' w2 hown2 hg2 hwh
        clear hwh
        rw [HAL.out]
        have HLA : Hid ((l1 ++ a).length = l1.length + al) := Lib.hid (by rw [List.length_append, HAL.out])
        have HO2 : Hid (OwnN w.heap.size w2 (.slice A' (l1 ++ a).length c') (l1 ++ a)) := Lib.hid (by simpa using hown2)
        have HB2' : Hid (Below w.heap.size w w2) := Lib.hid (HBW.out.trans (HO.out.kept hg2 HBW.out.size))
        clear hown2 hg2 a0
        obtain ⟨g', rfl, hc3, HG⟩ : ∃ g', A' = some ⟨g', 0, none⟩ ∧ l1.length + al ≤ c' ∧ Hid (w.heap.size ≤ g' ∧ g' < w2.heap.size) := by
          have h := HO2.out
          obtain ⟨g', cap, hv, h1, h2⟩ := h.opened (by rw [HLA.out]; omega)
          injection hv with e1 _ e3
          have := h.cap.2.1
          exact ⟨g', e1, by rw [← HLA.out]; exact this, Lib.hid ⟨h1, h2⟩⟩
        have hk0 : (l1 ++ a)[l1.length]? = some y := by rw [HYA.out]; simp
        have x0 := Own.cell ndc_len (j := 0) HO2.out hk0 rfl
        have x1 := Own.cell ndc_len (j := 1) HO2.out hk0 rfl
        have x2 := Own.cell ndc_len (j := 2) HO2.out hk0 rfl
        have x3 := Own.cell ndc_len (j := 3) HO2.out hk0 rfl
        have x4 := Own.cell ndc_len (j := 4) HO2.out hk0 rfl
        have x5 := Own.cell ndc_len (j := 5) HO2.out hk0 rfl
        simp only [Nat.add_zero] at x0
        have HTH : Hid (∀ ob : Obj, (w2.alloc ob).there g' (l1.length * 6) 6) := Lib.hid (fun ob => Own.there ndc_len (HO2.out.alloc ob) hk0)
        have HPU : Hid (∀ ob : Obj, OwnN w.heap.size ((w2.alloc ob).setCells g' (l1.length * 6) (ndc (nmN nm y))) (.slice (some ⟨g', 0, none⟩) (l1.length + al) c') (l1 ++ setNm nm a)) := Lib.hid (fun ob => by
          have h2 := Own.puts (y := nmN nm y) ndc_len (HO2.out.alloc ob) hk0
          rw [HLA.out] at h2
          have e : (l1 ++ a).set l1.length (nmN nm y) = l1 ++ setNm nm a := by rw [HYA.out, List.set_append_right _ _ (Nat.le_refl _)]; simp [setNm, nmN]
          rwa [e] at h2)
        have n0 := (HB2'.out.cell (p := ⟨g0, o0 + j, none⟩) HG0.out).trans HNC.out
        rw [HLA.out] at HO2
        clear hk0
        generalize hq : l1.length = q at *
        have HQ := Lib.hid hq
        clear hq
        have hqs : q ≤ 131073 := by have := HLN.out; omega
        have hqi : (q : Int) < q + al := by omega
        have hqn : q < q + al := by omega
        have hg02 : g0 < w2.heap.size := Nat.lt_of_lt_of_le HG0.out HB2'.out.size
        have hqi2 : (0 : Int) < al := by omega
        go_upto_region 9 with fail
        have HTH1 := Lib.hid (HTH.out (.cells #[.int .i64 y.kind, .int .i64 y.many, .string ⟨nm.toArray⟩, .string ⟨y.s.toArray⟩, .bool y.neg, .int .i64 y.e] 35))
        have HPU1 := Lib.hid (HPU.out (.cells #[.int .i64 y.kind, .int .i64 y.many, .string ⟨nm.toArray⟩, .string ⟨y.s.toArray⟩, .bool y.neg, .int .i64 y.e] 35))
        have HBA : Hid (Below w.heap.size w (w2.alloc (.cells #[.int .i64 y.kind, .int .i64 y.many, .string ⟨nm.toArray⟩, .string ⟨y.s.toArray⟩, .bool y.neg, .int .i64 y.e] 35))) := Lib.hid (HB2'.out.alloc HB2'.out.size _)
        have cB : (w2.alloc (.cells #[.int .i64 y.kind, .int .i64 y.many, .string ⟨nm.toArray⟩, .string ⟨y.s.toArray⟩, .bool y.neg, .int .i64 y.e] 35)).heap.size = w2.heap.size + 1 := by simp
        clear x0 x1 x2 x3 x4 x5 n0 cB
        go_wp2_with ((with_reducible refine wpList_store_node rfl _ _ rfl g' (q * 6) (nmN nm y) ?sx ?sy HTH1.out ?sz))
        case sx => simp [Act.eval]
        case sy => simp [Act.eval, nmN]
        all_goals
          go_roundw
          case rel => exact ⟨j + 1, by omega, by go_num, by rw [HS.out]; exact HPU1.out, Below.setCells HG.out.1 _ _ HBA.out⟩
          case measure => simp [intOf]; omega
    · have HE : Hid ((names.zip L).take j = names.zip L) := Lib.hid (List.take_of_length_le (by rw [List.length_zip, HLL.out, ← HUL.out]; omega))
      clear hown hbw
      go_wp2_with fail
      go_ret
      exact ⟨_, rfl, by have := HO.out; rwa [HE.out] at this, HBW.out⟩
end Go.Proofs.YtafbojiojeemoaaGreatDoor
