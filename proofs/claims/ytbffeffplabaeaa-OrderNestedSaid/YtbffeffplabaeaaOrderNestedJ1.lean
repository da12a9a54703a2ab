/-
  Joined: BackP, ONestP, RefW9, LenP, SelP, RefW10, OrderNested, OrderNestedSaid.
-/
import Derived.Test.YtbffeffplabaeaaOrderTotalJ16
import Derived.Test.YtbffeffplabaeaaOrderTotalJ9
import Derived.Test.YtbffeffplabaeaaOrderTotalJ12
import Derived.Test.YtbffeffplabaeaaOrderTotalJ1
import Derived.Test.YtbffeffplabaeaaOrderTotalJ4
import Derived.Test.YtbffeffplabaeaaOrderTotalJ22
import Derived.Deep.RegionHeld3

/-
  Plain words: a list's parts are what it was made of; an object, made of its names and parts, is it; parts are right, and less deep. No program stands here.
-/
namespace Go.Proofs.Ytbffeffplabaeaa
namespace Vp
open Go.RowKit Np Rw

theorem setNm_val {t : Tr Nd} (h : Val t) : setNm [] (flat t) = flat t := by rw [← flat_nmd, ← h.nm, nmd_self]
theorem rows_trees : ∀ L : List (List Nd), (∀ l ∈ L, rightL l = true) → ∃ ts : List (Tr Nd), (∀ t ∈ ts, Val t) ∧ L = ts.map flat
  | [], _ => ⟨[], by simp, rfl⟩
  | l :: L, h => by
    obtain ⟨ts, h1, h2⟩ := rows_trees L (fun x hx => h x (by simp [hx]))
    obtain ⟨t, ht, he⟩ := val_of_rightL (h l (by simp))
    exact ⟨t :: ts, by intro x hx; rcases List.mem_cons.1 hx with rfl | hx <;> first | exact ht | exact h1 x hx, by rw [List.map_cons, ← h2, he]⟩
theorem laid_plain : ∀ ts : List (Tr Nd), (∀ t ∈ ts, Val t) → laid ((ts.map flat).map fun l => (([], l) : Pr)) = flats ts
  | [], _ => rfl
  | t :: ts, h => by
    rw [List.map_cons, List.map_cons, laid_cons, laid_plain ts (fun x hx => h x (by simp [hx])), flats_cons]
    rw [setNm_val (h t (by simp))]
theorem list_tree {ts : List (Tr Nd)} (h : ∀ t ∈ ts, Val t) : hdN 5 (ts.map flat).length :: laid ((ts.map flat).map fun l => ([], l)) = flat (arrT ts) := by
  rw [laid_plain ts h, flat_arrT, List.length_map]
theorem nmd_all {ts : List (Tr Nd)} (h : ∀ t ∈ ts, t.nd.name = []) : ts.map (fun k => flat (nmd [] k)) = ts.map flat := by
  apply List.map_congr_left
  intro t ht
  conv => rhs; rw [← nmd_self t, h t ht]
theorem part_val {t k : Tr Nd} (h : Val t) (hk : k ∈ t.ks) : Val (nmd [] k) := Val.clr (h.parts k hk).1 (h.parts k hk).2
theorem depth_nmd (nm : List UInt8) (t : Tr Nd) : depth (nmd nm t) = depth t := by rw [depth_eq, depth_eq t]; rfl
theorem depths_le : ∀ {ts : List (Tr Nd)} {k : Tr Nd}, k ∈ ts → depth k ≤ depths ts
  | t :: ts, k, h => by
    rw [depths_cons]
    rcases List.mem_cons.1 h with rfl | h
    · omega
    · have := depths_le h; omega
theorem Val.cont {t : Tr Nd} (h : Val t) (h0 : t.ks ≠ []) : cont t.nd.kind = true := by
  rcases Classical.em (t.nd.kind = 5) with h5 | h5
  · rw [h5]; rfl
  · rcases Classical.em (t.nd.kind = 6) with h6 | h6
    · rw [h6]; rfl
    · exact absurd (h.leaf h5 h6) h0
theorem part_depth {t k : Tr Nd} (h : Val t) (hk : k ∈ t.ks) : depth (nmd [] k) < depth t := by
  rw [depth_nmd, depth_eq t, if_pos (h.cont (by intro e; rw [e] at hk; cases hk))]
  have := depths_le hk
  omega
theorem laid_named : ∀ ks : List (Tr Nd), laid ((ks.map fun k => k.nd.name).zip (ks.map fun k => flat (nmd [] k))) = flats ks
  | [] => rfl
  | k :: ks => by
    rw [List.map_cons, List.map_cons, List.zip_cons_cons, laid_cons, laid_named ks, flats_cons]
    show setNm k.nd.name (flat (nmd [] k)) ++ _ = _
    rw [← flat_nmd, nmd_nmd, nmd_self]
theorem obj_again {t : Tr Nd} (h : Val t) (hk : t.nd.kind = 6) : objB (t.ks.map fun k => k.nd.name) (t.ks.map fun k => flat (nmd [] k)) = true ∧ objV (t.ks.map fun k => k.nd.name) (t.ks.map fun k => flat (nmd [] k)) = flat t := by
  obtain ⟨h1, h2⟩ := h.named hk
  have hr : (t.ks.map fun k => k.nd.name).Pairwise (· < ·) := List.pairwise_map.2 h1
  have hb : objB (t.ks.map fun k => k.nd.name) (t.ks.map fun k => flat (nmd [] k)) = true := by
    refine objB_iff.2 ⟨by simp, ?_, fun s hs => ?_⟩
    · exact hr.imp (fun {a b} hab (e : a = b) => by subst e; exact List.lt_irrefl a hab)
    · obtain ⟨k, hk', rfl⟩ := List.mem_map.1 hs
      exact h2 k hk'
  refine ⟨hb, ?_⟩
  have hz : rises ((t.ks.map fun k => k.nd.name).zip (t.ks.map fun k => flat (nmd [] k))) := by
    have := List.pairwise_map (f := Prod.fst) (l := (t.ks.map fun k => k.nd.name).zip (t.ks.map fun k => flat (nmd [] k))) (R := (· < ·))
    rw [zip_keys (by simp)] at this
    exact this.1 hr
  rw [objV, if_pos hb, srt_of (List.Perm.refl _) hz, laid_named]
  conv => rhs; rw [h.obj hk, flat_objT]
  rw [List.length_map]
theorem arr_again {t : Tr Nd} (h : Val t) (hk : t.nd.kind = 5) : hdN 5 (t.ks.map fun k => flat (nmd [] k)).length :: laid ((t.ks.map fun k => flat (nmd [] k)).map fun l => ([], l)) = flat t := by
  have hn := h.unnamed hk
  have hv : ∀ k ∈ t.ks, Val k := fun k hk' => ⟨(h.parts k hk').1, (h.parts k hk').2, hn k hk'⟩
  rw [nmd_all hn, list_tree hv, ← h.arr hk]
theorem depth_leaf {t : Tr Nd} (h5 : t.nd.kind ≠ 5) (h6 : t.nd.kind ≠ 6) : depth t = 0 := by
  rw [depth_eq, if_neg]
  simp [cont, h5, h6]
theorem mem_flats : ∀ {ts : List (Tr Nd)} {k : Tr Nd} {n : Nd}, k ∈ ts → n ∈ flat k → n ∈ flats ts
  | t :: ts, k, n, h, hn => by
    rw [flats_cons, List.mem_append]
    rcases List.mem_cons.1 h with rfl | h
    · exact .inl hn
    · exact .inr (mem_flats h hn)
theorem len_flats : ∀ {ts : List (Tr Nd)} {k : Tr Nd}, k ∈ ts → (flat k).length ≤ (flats ts).length
  | t :: ts, k, h => by
    rw [flats_cons, List.length_append]
    rcases List.mem_cons.1 h with rfl | h
    · omega
    · have := len_flats h; omega
theorem sum_flats : ∀ ts : List (Tr Nd), ((ts.map flat).map List.length).sum = (flats ts).length
  | [] => rfl
  | t :: ts => by rw [List.map_cons, List.map_cons, List.sum_cons, sum_flats ts, flats_cons, List.length_append]
end Vp
open Go.RowKit Np Rw in
/-- The names of an object's parts. -/
def namesT (t : Tr Nd) : List (List UInt8) := if t.nd.kind = 6 then t.ks.map (fun k => k.nd.name) else []
end Go.Proofs.Ytbffeffplabaeaa

/-
  Plain words: lists of one and two, objects of one field, compared. No program stands here.
-/
namespace Go.Proofs.Ytbffeffplabaeaa
open Go.RowKit Np Rw Vp Ov

theorem cmp_list_one (t u : Tr Nd) : cmpT (arrT [t]) (arrT [u]) = cmpT t u := by
  rw [arrT, arrT, cmpT_mk]
  simp [hdN, Lib.compareInt, cmpTs_cons]
theorem cmp_list_more (t u : Tr Nd) : cmpT (arrT [t]) (arrT [t, u]) = -1 := by
  rw [arrT, arrT, cmpT_mk]
  simp [hdN, Lib.compareInt, cmpTs_cons, cmpT_refl]
theorem cmp_list_obj (t : Tr Nd) (us : List (Tr Nd)) : cmpT (arrT [t]) (objT us) = -1 := by
  rw [arrT, objT, cmpT_mk]
  simp [hdN, Lib.compareInt, orI]
theorem cmpNm_one (a b : List UInt8) : cmpNm [a] [b] = cmpB a b := by rw [cmpNm_cons, cmpNm_nil, orI_r]
theorem cmp_obj_one (a b : List UInt8) (t u : Tr Nd) : cmpT (objT [nmd a t]) (objT [nmd b u]) = orI (cmpB a b) (cmpT t u) := by
  rw [objT, objT, cmpT_mk]
  have h1 : nms [nmd a t] = [a] := by simp [nms, nmd_name]
  have h2 : nms [nmd b u] = [b] := by simp [nms, nmd_name]
  rw [h1, h2, cmpNm_one, cmpTs_cons, cmpT_nmd, cmpTs_nil, orI_r]
  simp [hdN, Lib.compareInt]
theorem cmp_obj_same (a : List UInt8) (t u : Tr Nd) : cmpT (objT [nmd a t]) (objT [nmd a u]) = cmpT t u := by
  rw [cmp_obj_one, (cmpB_eq a a).2 rfl, orI_z]
theorem cmp_obj_less {a b : List UInt8} (h : a ≠ b) (t u : Tr Nd) : cmpT (objT [nmd a t]) (objT [nmd b u]) < 0 ↔ a < b := by
  have h1 : cmpB a b ≠ 0 := fun e => h ((cmpB_eq a b).1 e)
  rw [cmp_obj_one, orI_ne h1, ← cmpB_lt]
  rcases cmpB_cases a b with h2 | h2 | h2 <;> omega
theorem one_obj_val {a : List UInt8} (ha : vld a = true) {t : Tr Nd} (ht : Val t) : Val (objT [nmd a t]) := by
  refine val_objT (by intro k hk; simp at hk; subst hk; exact ⟨okT_nmd ht.ok, by rw [rightT_nmd]; exact ht.rt⟩) ⟨by simp [Rise], by intro k hk; simp at hk; subst hk; rw [nmd_name]; exact ha⟩
theorem srt_one (p : Pr) : srt [p] = [p] := srt_of (List.Perm.refl _) (by simp [rises])
theorem objB_one {a : List UInt8} (ha : vld a = true) (l : List Nd) : objB [a] [l] = true := by simp [objB, okNames, ha]
theorem objV_one {a : List UInt8} (ha : vld a = true) {t : Tr Nd} : objV [a] [flat t] = flat (objT [nmd a t]) := by
  rw [objV, objB_one ha, if_pos rfl, flat_objT]
  show hdN 6 1 :: laid (srt [(a, flat t)]) = hdN 6 1 :: flats [nmd a t]
  rw [srt_one, laid_cons, laid_nil, List.append_nil, flats_cons]
  simp [flat_nmd]
theorem objE_one {a : List UInt8} (ha : vld a = true) (l : List Nd) : objE [a] [l] = 0 := by rw [objE, objB_one ha]; rfl
end Go.Proofs.Ytbffeffplabaeaa

/-
  What the document's own answers List and named are.
-/
namespace Go.Proofs.Ytbffeffplabaeaa
open Go.RowKit Np Rw Vp

theorem own_head (w : World) (E : Nat) (hE : E = 38) (k n : Nat) : OwnN w.heap.size (w.alloc (.cells #[.int .i64 (k : Int), .int .i64 (n : Int), .string ⟨#[]⟩, .string ⟨#[]⟩, .bool false, .int .i64 0] E)) (.slice (some ⟨w.heap.size, 0, none⟩) 1 1) [hdN k n] := by
  subst hE
  exact Own.lit (base := w.heap.size) ndc_len w _ [hdN k n] (Nat.le_refl _) (by unfold maxLen; simp) rfl

set_option maxRecDepth 100000 in
set_option maxHeartbeats 2000000 in
theorem refList_any (v : Value) (L : List (List Nd)) (w : World) (hv : Vls w v L) (hb1 : L.length ≤ 65536) (hb2 : (L.map List.length).sum ≤ 131072) :
    Calls Try.prog 25 #[v] w (OwnsN w (hdN 5 L.length :: L.flatten)) := by
  obtain ⟨us, hul, hu, hur⟩ := hv
  obtain ⟨A, c, rfl, -, -, -, H⟩ := hu
  have HUL := Lib.hid hul
  have HU := Lib.hid hur
  have HH := Lib.hid H
  have HB2 := Lib.hid hb2
  clear hur H hb2
  rw [← hul] at hb1
  clear hul
  generalize hn : us.length = n at *
  have HN := Lib.hid hn; clear hn
  have HO0 : Hid (OwnN w.heap.size (w.alloc (.cells #[.int .i64 5, .int .i64 (n : Int), .string ⟨#[]⟩, .string ⟨#[]⟩, .bool false, .int .i64 0] 38)) (.slice (some ⟨w.heap.size, 0, none⟩) 1 1) (hdN 5 L.length :: (L.take 0).flatten)) := Lib.hid (by rw [← HUL.out]; exact own_head w _ rfl 5 n)
  go_enter Try.func25, Try.ntmps25
  go_wp2_with fail
  go_loopw [3, 4] (fun vv i wr => ∃ k : Nat, k ≤ n ∧ i = .int .i64 k ∧ OwnN w.heap.size wr vv (hdN 5 L.length :: (L.take k).flatten) ∧ Below w.heap.size w wr) (fun _ i _ => n - (intOf i).toNat)
  case atStart => exact ⟨0, Nat.zero_le _, rfl, HO0.out, (Below.refl _ _).alloc (Nat.le_refl _) _⟩
  case round =>
    obtain ⟨j, hj, rfl, hown, hbw⟩ := hrel
    have HO := Lib.hid hown
    have HBW := Lib.hid hbw
    by_cases hlt2 : j < n
    · obtain ⟨g, o, rfl, hg, hx⟩ := HH.out (by omega)
      obtain ⟨x, hxk⟩ : ∃ a, us[j]? = some a := ⟨_, List.getElem?_eq_getElem (by rw [HN.out]; exact hlt2)⟩
      obtain ⟨a, ha⟩ : ∃ a, L[j]? = some a := ⟨_, List.getElem?_eq_getElem (by rw [← HUL.out]; exact hlt2)⟩
      have a0 := (hbw.cell (p := ⟨g, o + j, none⟩) hg).trans (hx j x hxk).one
      have HRA : Hid (Nds wr x a) := Lib.hid ((HU.out j x a hxk ha).below hbw)
      have HS : Hid (hdN 5 L.length :: (L.take (j + 1)).flatten = (hdN 5 L.length :: (L.take j).flatten) ++ a) := Lib.hid (by rw [List.take_add_one, ha]; simp)
      have HLN : Hid ((hdN 5 L.length :: (L.take j).flatten).length + a.length ≤ 131073) := Lib.hid (by
        have h1 := sum_take ha
        have h2 := sum_take_le L (j + 1)
        have h3 := HB2.out
        rw [List.length_cons, List.length_flatten]; omega)
      generalize hdN 5 L.length :: (L.take j).flatten = l1 at HO HS HLN
      clear ha hxk hx hown hbw
      go_wp2_with (at_builtin; refine wpList_append_row (base := w.heap.size) elNode rfl _ _ rfl rfl HO.out rfl HRA.out ?_ ?_ ?_ ?_)
      · have := HLN.out; unfold maxLen; omega
      · have := HLN.out; omega
      · exact HBW.out.size
      · intro A' c' w2 hown2 hg2 hwh
        clear hwh
        have HO2 : Hid (OwnN w.heap.size w2 (.slice A' (l1.length + a.length) c') (l1 ++ a)) := Lib.hid (by simpa using hown2)
        have HG2 := Lib.hid hg2
        clear hown2 hg2 a0
        generalize l1.length + a.length = q2 at HO2 ⊢
        go_wp2_with fail
        go_roundw
        case rel => exact ⟨j + 1, by omega, by go_num, by rw [HS.out]; exact HO2.out, HBW.out.trans (HO.out.kept HG2.out HBW.out.size)⟩
        case measure => simp [intOf]; omega
    · have HE : Hid (L.take j = L) := Lib.hid (List.take_of_length_le (by rw [← HUL.out]; omega))
      clear hown hbw
      go_wp2_with fail
      go_ret
      exact ⟨_, rfl, by have := HO.out; rwa [HE.out] at this, HBW.out⟩

set_option maxRecDepth 100000 in
set_option maxHeartbeats 4000000 in
theorem refNamed_any (v u : Value) (names : List (List UInt8)) (L : List (List Nd)) (w : World) (hv : Sts w v names) (hu : Vls w u L) (hl : names.length = L.length) (hb1 : L.length ≤ 65536) (hb2 : (L.map List.length).sum ≤ 131072) (hne : ∀ l ∈ L, l ≠ []) :
    Calls Try.prog 39 #[v, u] w (OwnsN w (hdN 6 L.length :: laid (names.zip L))) := by
  obtain ⟨us, hul, hu, hur⟩ := hu
  obtain ⟨A, c, rfl, -, -, -, H⟩ := hu
  obtain ⟨A0, c0, rfl, -, -, -, H0⟩ := hv
  have HUL := Lib.hid hul
  have HU := Lib.hid hur
  have HH := Lib.hid H
  have HH0 := Lib.hid H0
  have HB2 := Lib.hid hb2
  have HNE := Lib.hid hne
  have HLL := Lib.hid hl
  clear hur H hb2 hne H0
  rw [hl, ← hul]
  rw [← hul] at hb1
  clear hul hl
  generalize hn : us.length = n at *
  have HN := Lib.hid hn; clear hn
  have HO0 : Hid (OwnN w.heap.size (w.alloc (.cells #[.int .i64 6, .int .i64 (n : Int), .string ⟨#[]⟩, .string ⟨#[]⟩, .bool false, .int .i64 0] 38)) (.slice (some ⟨w.heap.size, 0, none⟩) 1 1) (hdN 6 n :: laid ((names.zip L).take 0))) := Lib.hid (own_head w _ rfl 6 n)
  go_enter Try.func39, Try.ntmps39
  go_wp2_with fail
  go_loopw [5, 6] (fun vv i wr => ∃ k : Nat, k ≤ n ∧ i = .int .i64 k ∧ OwnN w.heap.size wr vv (hdN 6 n :: laid ((names.zip L).take k)) ∧ Below w.heap.size w wr) (fun _ i _ => n - (intOf i).toNat)
  case atStart => exact ⟨0, Nat.zero_le _, rfl, HO0.out, (Below.refl _ _).alloc (Nat.le_refl _) _⟩
  case round =>
    obtain ⟨j, hj, rfl, hown, hbw⟩ := hrel
    have HO := Lib.hid hown
    have HBW := Lib.hid hbw
    by_cases hlt2 : j < n
    · obtain ⟨g, o, rfl, hg, hx⟩ := HH.out (by omega)
      obtain ⟨g0, o0, rfl, hg0, hx0⟩ := HH0.out (by rw [HLL.out, ← HUL.out]; omega)
      obtain ⟨x, hxk⟩ : ∃ a, us[j]? = some a := ⟨_, List.getElem?_eq_getElem (by rw [HN.out]; exact hlt2)⟩
      obtain ⟨nm, hnm⟩ : ∃ a, names[j]? = some a := ⟨_, List.getElem?_eq_getElem (by rw [HLL.out, ← HUL.out]; exact hlt2)⟩
      obtain ⟨a, ha⟩ : ∃ a, L[j]? = some a := ⟨_, List.getElem?_eq_getElem (by rw [← HUL.out]; exact hlt2)⟩
      have a0 := (hbw.cell (p := ⟨g, o + j, none⟩) hg).trans (hx j x hxk).one
      have HNC : Hid (w.cell? ⟨g0, o0 + j, none⟩ = some (.string ⟨nm.toArray⟩)) := Lib.hid (hx0 j nm hnm).st
      have HG0 := Lib.hid hg0
      obtain ⟨y, ys, hya⟩ : ∃ y ys, a = y :: ys := by
        cases a with
        | nil => exact absurd rfl (HNE.out [] (List.mem_of_getElem? ha))
        | cons y ys => exact ⟨y, ys, rfl⟩
      have HRA : Hid (Nds wr x a) := Lib.hid ((HU.out j x a hxk ha).below hbw)
      have HS : Hid (hdN 6 n :: laid ((names.zip L).take (j + 1)) = (hdN 6 n :: laid ((names.zip L).take j)) ++ setNm nm a) := Lib.hid (by
        have hz : (names.zip L)[j]? = some (nm, a) := by rw [List.getElem?_zip_eq_some]; exact ⟨hnm, ha⟩
        rw [List.take_add_one, hz]; simp [laid_snoc])
      have HLN : Hid ((hdN 6 n :: laid ((names.zip L).take j)).length + a.length ≤ 131073) := Lib.hid (by
        have h1 := sum_take ha
        have h2 := sum_take_le L (j + 1)
        have h3 := HB2.out
        have h4 : (((names.zip L).take j).map fun p : Pr => p.2.length).sum = ((L.take j).map List.length).sum := by
          have : ((names.zip L).take j).map (fun p : Pr => p.2.length) = (L.take j).map List.length := by
            rw [show (fun p : Pr => p.2.length) = List.length ∘ Prod.snd from rfl, ← List.map_map, List.map_take, List.map_snd_zip (by rw [HLL.out]; exact Nat.le_refl _)]
          rw [this]
        rw [List.length_cons, laid_len]; omega)
      generalize hdN 6 n :: laid ((names.zip L).take j) = l1 at HO HS HLN
      have HYA := Lib.hid hya
      have hapos : 0 < a.length := by rw [hya]; simp
      clear ha hxk hx hown hbw hnm hx0 hya
      obtain ⟨Ao, co, rfl, -⟩ := HO.out.form
      generalize hal : a.length = al at *
      have HAL := Lib.hid hal
      clear hal
      go_wp2_with (at_builtin; refine wpList_append_row (base := w.heap.size) elNode rfl _ _ rfl rfl HO.out rfl HRA.out ?_ ?_ ?_ ?_)
      · have := HLN.out; have := HAL.out; unfold maxLen; omega
      · have := HLN.out; have := HAL.out; omega
      · exact HBW.out.size
      · intro A' c' w2 hown2 hg2 hwh
        clear hwh
        rw [HAL.out]
        have HLA : Hid ((l1 ++ a).length = l1.length + al) := Lib.hid (by rw [List.length_append, HAL.out])
        have HO2 : Hid (OwnN w.heap.size w2 (.slice A' (l1 ++ a).length c') (l1 ++ a)) := Lib.hid (by simpa using hown2)
        have HB2' : Hid (Below w.heap.size w w2) := Lib.hid (HBW.out.trans (HO.out.kept hg2 HBW.out.size))
        clear hown2 hg2 a0
        obtain ⟨g', rfl, hc3, HG⟩ : ∃ g', A' = some ⟨g', 0, none⟩ ∧ l1.length + al ≤ c' ∧ Hid (w.heap.size ≤ g' ∧ g' < w2.heap.size) := by
          have h := HO2.out
          obtain ⟨g', cap, hv, h1, h2⟩ := h.opened (by rw [HLA.out]; omega)
          injection hv with e1 _ e3
          have := h.cap.2.1
          exact ⟨g', e1, by rw [← HLA.out]; exact this, Lib.hid ⟨h1, h2⟩⟩
        have hk0 : (l1 ++ a)[l1.length]? = some y := by rw [HYA.out]; simp
        have x0 := Own.cell ndc_len (j := 0) HO2.out hk0 rfl
        have x1 := Own.cell ndc_len (j := 1) HO2.out hk0 rfl
        have x2 := Own.cell ndc_len (j := 2) HO2.out hk0 rfl
        have x3 := Own.cell ndc_len (j := 3) HO2.out hk0 rfl
        have x4 := Own.cell ndc_len (j := 4) HO2.out hk0 rfl
        have x5 := Own.cell ndc_len (j := 5) HO2.out hk0 rfl
        simp only [Nat.add_zero] at x0
        have HTH : Hid (∀ ob : Obj, (w2.alloc ob).there g' (l1.length * 6) 6) := Lib.hid (fun ob => Own.there ndc_len (HO2.out.alloc ob) hk0)
        have HPU : Hid (∀ ob : Obj, OwnN w.heap.size ((w2.alloc ob).setCells g' (l1.length * 6) (ndc (nmN nm y))) (.slice (some ⟨g', 0, none⟩) (l1.length + al) c') (l1 ++ setNm nm a)) := Lib.hid (fun ob => by
          have h2 := Own.puts (y := nmN nm y) ndc_len (HO2.out.alloc ob) hk0
          rw [HLA.out] at h2
          have e : (l1 ++ a).set l1.length (nmN nm y) = l1 ++ setNm nm a := by rw [HYA.out, List.set_append_right _ _ (Nat.le_refl _)]; simp [setNm, nmN]
          rwa [e] at h2)
        have n0 := (HB2'.out.cell (p := ⟨g0, o0 + j, none⟩) HG0.out).trans HNC.out
        rw [HLA.out] at HO2
        clear hk0
        generalize hq : l1.length = q at *
        have HQ := Lib.hid hq
        clear hq
        have hqs : q ≤ 131073 := by have := HLN.out; omega
        have hqi : (q : Int) < q + al := by omega
        have hqn : q < q + al := by omega
        have hg02 : g0 < w2.heap.size := Nat.lt_of_lt_of_le HG0.out HB2'.out.size
        have hqi2 : (0 : Int) < al := by omega
        go_upto_region 9 with fail
        have HTH1 := Lib.hid (HTH.out (.cells #[.int .i64 y.kind, .int .i64 y.many, .string ⟨nm.toArray⟩, .string ⟨y.s.toArray⟩, .bool y.neg, .int .i64 y.e] 38))
        have HPU1 := Lib.hid (HPU.out (.cells #[.int .i64 y.kind, .int .i64 y.many, .string ⟨nm.toArray⟩, .string ⟨y.s.toArray⟩, .bool y.neg, .int .i64 y.e] 38))
        have HBA : Hid (Below w.heap.size w (w2.alloc (.cells #[.int .i64 y.kind, .int .i64 y.many, .string ⟨nm.toArray⟩, .string ⟨y.s.toArray⟩, .bool y.neg, .int .i64 y.e] 38))) := Lib.hid (HB2'.out.alloc HB2'.out.size _)
        have cB : (w2.alloc (.cells #[.int .i64 y.kind, .int .i64 y.many, .string ⟨nm.toArray⟩, .string ⟨y.s.toArray⟩, .bool y.neg, .int .i64 y.e] 38)).heap.size = w2.heap.size + 1 := by simp
        clear x0 x1 x2 x3 x4 x5 n0 cB
        go_wp2_with ((with_reducible refine wpList_store_node rfl _ _ rfl g' (q * 6) (nmN nm y) ?sx ?sy HTH1.out ?sz))
        case sx => simp [Act.eval]
        case sy => simp [Act.eval, nmN]
        all_goals
          go_roundw
          case rel => exact ⟨j + 1, by omega, by go_num, by rw [HS.out]; exact HPU1.out, Below.setCells HG.out.1 _ _ HBA.out⟩
          case measure => simp [intOf]; omega
    · have HE : Hid ((names.zip L).take j = names.zip L) := Lib.hid (List.take_of_length_le (by rw [List.length_zip, HLL.out, ← HUL.out]; omega))
      clear hown hbw
      go_wp2_with fail
      go_ret
      exact ⟨_, rfl, by have := HO.out; rwa [HE.out] at this, HBW.out⟩
end Go.Proofs.Ytbffeffplabaeaa

/-
  How long a slice is. Of no function.
-/
namespace Go.Proofs.Ytbffeffplabaeaa
open Go.RowKit
/-- How long a slice is. -/
def lenOf : Value → Nat
  | .slice _ n _ => n
  | _ => 0
end Go.Proofs.Ytbffeffplabaeaa

/-
  Plain words: the places of names, the least one first, one by one. No program stands here.
-/
namespace Go.Proofs.Ytbffeffplabaeaa
open Go.RowKit Np Rw Vp

/-- So far these have been chosen. -/
structure Sel (names : List (List UInt8)) (p : List Nat) : Prop where
  nodup : p.Nodup
  lt : ∀ i ∈ p, i < names.length
  strict : (p.map (atN names)).Pairwise (· < ·)
  vl : ∀ i ∈ p, vld (atN names i) = true
  low : ∀ i ∈ p, ∀ j, j < names.length → j ∉ p → ¬ atN names j < atN names i
/-- The least one of those that are left, among the first ones. -/
def Least (names : List (List UInt8)) (p : List Nat) (k b : Nat) : Prop := b < k ∧ b ∉ p ∧ ∀ j, j < k → j ∉ p → ¬ atN names j < atN names b
theorem Sel.nil (names : List (List UInt8)) : Sel names [] := ⟨List.nodup_nil, by simp, by simp, by simp, by simp⟩
theorem Least.keep {names : List (List UInt8)} {p : List Nat} {k b : Nat} (h : Least names p k b) (hk : k ∈ p ∨ ¬ atN names k < atN names b) : Least names p (k + 1) b := by
  refine ⟨by have := h.1; omega, h.2.1, fun j hj hjp => ?_⟩
  by_cases e : j = k
  · subst e
    rcases hk with hk | hk
    · exact absurd hk hjp
    · exact hk
  · exact h.2.2 j (by omega) hjp
theorem Least.less {names : List (List UInt8)} {p : List Nat} {k b : Nat} (h : Least names p k b) (hk : k ∉ p) (hl : atN names k < atN names b) : Least names p (k + 1) k := by
  refine ⟨by omega, hk, fun j hj hjp hlt => ?_⟩
  by_cases e : j = k
  · subst e; exact List.lt_irrefl _ hlt
  · exact h.2.2 j (by omega) hjp (List.lt_trans hlt hl)
theorem Least.first {names : List (List UInt8)} {p : List Nat} {k : Nat} (h : ∀ j, j < k → j ∈ p) (hk : k ∉ p) : Least names p (k + 1) k := by
  refine ⟨by omega, hk, fun j hj hjp hlt => ?_⟩
  by_cases e : j = k
  · subst e; exact List.lt_irrefl _ hlt
  · exact hjp (h j (by omega))
theorem pig : ∀ (n : Nat) (p : List Nat), p.Nodup → (∀ i ∈ p, i < n) → p.length ≤ n ∧ (p.length = n → ∀ j, j < n → j ∈ p)
  | 0, p, _, h => by
    have : p = [] := by
      cases p with
      | nil => rfl
      | cons a p => exact absurd (h a (by simp)) (by omega)
    subst this
    exact ⟨Nat.le_refl _, fun _ j hj => absurd hj (by omega)⟩
  | n + 1, p, hn, h => by
    by_cases hm : n ∈ p
    · have h1 := pig n (p.erase n) (hn.erase n) (fun i hi => by
        have h2 := (List.Nodup.mem_erase_iff hn).1 hi
        have := h i h2.2
        have := h2.1
        omega)
      have hl := List.length_erase_of_mem hm
      have hp : 0 < p.length := List.length_pos_of_mem hm
      refine ⟨by omega, fun he j hj => ?_⟩
      by_cases e : j = n
      · subst e; exact hm
      · exact List.mem_of_mem_erase (h1.2 (by omega) j (by omega))
    · have h1 := pig n p hn (fun i hi => by
        have := h i hi
        have : i ≠ n := fun e => hm (e ▸ hi)
        omega)
      exact ⟨by omega, fun he => absurd he (by omega)⟩
theorem Sel.len {names : List (List UInt8)} {p : List Nat} (h : Sel names p) : p.length ≤ names.length := (pig _ p h.nodup h.lt).1
theorem Sel.all {names : List (List UInt8)} {p : List Nat} (h : Sel names p) (hl : p.length = names.length) : p.Perm (List.range names.length) := by
  refine (List.perm_ext_iff_of_nodup h.nodup List.nodup_range).2 fun a => ⟨fun ha => by simpa using h.lt a ha, fun ha => (pig _ p h.nodup h.lt).2 hl a (by simpa using ha)⟩
theorem Sel.some {names : List (List UInt8)} {p : List Nat} (h : Sel names p) (hl : p.length < names.length) : ¬ ∀ j, j < names.length → j ∈ p := by
  intro hall
  have h1 : (List.range names.length).length ≤ p.length := by
    have hp : (List.range names.length).Perm (p.filter (fun i => decide (i < names.length))) := (List.perm_ext_iff_of_nodup List.nodup_range (h.nodup.filter _)).2 fun a => by
      simp only [List.mem_range, List.mem_filter, decide_eq_true_eq]
      exact ⟨fun ha => ⟨hall a ha, ha⟩, fun ha => ha.2⟩
    rw [hp.length_eq]
    exact List.length_filter_le _ _
  simp at h1
  omega
theorem Sel.places {names : List (List UInt8)} {p : List Nat} (h : Sel names p) (hl : p.length = names.length) : Places names p := by
  refine ⟨h.all hl, ?_⟩
  have := List.pairwise_map.1 h.strict
  exact this.imp fun {a b} hab hba => List.lt_irrefl _ (List.lt_trans hab hba)
theorem Sel.done {names : List (List UInt8)} {L : List (List Nd)} {p : List Nat} (h : Sel names p) (hl : p.length = names.length) (hL : names.length = L.length) :
    objB names L = true ∧ objV names L = hdN 6 L.length :: laid ((p.map (atN names)).zip (p.map (atL L))) := by
  have hp := h.places hl
  have hnd : names.Nodup := by
    have : (p.map (atN names)).Nodup := h.strict.imp fun {a b} hab (e : a = b) => by subst e; exact List.lt_irrefl a hab
    exact hp.names.nodup_iff.1 this
  have hb : objB names L = true := objB_iff.2 ⟨hL, hnd, fun s hs => by
    obtain ⟨i, hi, rfl⟩ := List.mem_map.1 (hp.names.mem_iff.2 hs)
    exact h.vl i hi⟩
  refine ⟨hb, ?_⟩
  rw [objV, if_pos hb, hp.pairs hL h.strict, List.zip_map']
theorem Sel.wrong {names : List (List UInt8)} {L : List (List Nd)} {b : Nat} (hb : b < names.length) (hv : vld (atN names b) = false) : objB names L = false := by
  cases h : objB names L
  · rfl
  · have := (objB_iff.1 h).2.2 (atN names b) (by rw [atN, List.getD_eq_getElem?_getD, List.getElem?_eq_getElem hb]; exact List.getElem_mem hb)
    rw [this] at hv; cases hv
theorem Sel.twice {names : List (List UInt8)} {L : List (List Nd)} {a b : Nat} (ha : a < names.length) (hb : b < names.length) (hne : a ≠ b) (he : atN names a = atN names b) : objB names L = false := by
  cases h : objB names L
  · rfl
  · have hn := (objB_iff.1 h).2.1
    have e1 : atN names a = names[a] := by rw [atN, List.getD_eq_getElem?_getD, List.getElem?_eq_getElem ha]; rfl
    have e2 : atN names b = names[b] := by rw [atN, List.getD_eq_getElem?_getD, List.getElem?_eq_getElem hb]; rfl
    rw [e1, e2] at he
    rcases Nat.lt_or_gt_of_ne hne with hlt | hlt
    · exact absurd he (List.pairwise_iff_getElem.1 hn a b ha hb hlt)
    · exact absurd he.symm (List.pairwise_iff_getElem.1 hn b a hb ha hlt)
theorem Sel.next {names : List (List UInt8)} {p : List Nat} {b : Nat} (h : Sel names p) (hb : Least names p names.length b) (hv : vld (atN names b) = true) (hne : ∀ q a, p = q ++ [a] → atN names a ≠ atN names b) : Sel names (p ++ [b]) := by
  obtain ⟨hb1, hb2, hb3⟩ := hb
  have hlast : ∀ i ∈ p, atN names i < atN names b := by
    rcases List.eq_nil_or_concat p with hp | ⟨q, a, hp⟩
    · subst hp; intro i hi; cases hi
    · rw [List.concat_eq_append] at hp
      have ha : atN names a < atN names b := lt_of_ne (h.low a (by rw [hp]; simp) b hb1 hb2) (hne q a hp)
      intro i hi
      rw [hp] at hi
      rcases List.mem_append.1 hi with hi | hi
      · have hs := h.strict
        rw [hp, List.map_append, List.pairwise_append] at hs
        exact List.lt_trans (hs.2.2 (atN names i) (List.mem_map_of_mem hi) (atN names a) (by simp)) ha
      · simp at hi; subst hi; exact ha
  refine ⟨?_, ?_, ?_, ?_, ?_⟩
  · rw [List.nodup_append]
    exact ⟨h.nodup, by simp, fun x hx y hy => by simp at hy; subst hy; exact fun e => hb2 (e ▸ hx)⟩
  · intro i hi
    rcases List.mem_append.1 hi with hi | hi
    · exact h.lt i hi
    · simp at hi; subst hi; exact hb1
  · rw [List.map_append, List.pairwise_append]
    refine ⟨h.strict, by simp, fun x hx y hy => ?_⟩
    obtain ⟨i, hi, rfl⟩ := List.mem_map.1 hx
    simp at hy; subst hy
    exact hlast i hi
  · intro i hi
    rcases List.mem_append.1 hi with hi | hi
    · exact h.vl i hi
    · simp at hi; subst hi; exact hv
  · intro i hi j hj hjp
    have hjp' : j ∉ p := fun hh => hjp (by simp [hh])
    rcases List.mem_append.1 hi with hi | hi
    · exact h.low i hi j hj hjp'
    · simp at hi; subst hi; exact hb3 j hj hjp'
end Go.Proofs.Ytbffeffplabaeaa

/-
  What the document's own answer Object is.
-/
namespace Go.Proofs.Ytbffeffplabaeaa
open Go.RowKit Np Rw Vp

def boc (b : Bool) : List Value := [.bool b]
theorem boc_len (b : Bool) : (boc b).length = 1 := rfl
theorem bool_info : (Try.prog.info? 4).map (fun i => (i.zero, i.size, i.bytes)) = some (some (.bool false), 1, 1) := by kernel_rfl
theorem make_bools (n : Nat) (hn : n ≤ 1000000) (w : World) : (Instr.makeSlice 40 (.int .i64 (n : Int)) (.int .i64 (n : Int))).run Try.prog w = .ok (.slice (some ⟨w.heap.size, 0, none⟩) n n) (w.alloc (.cells (madeCells #[.bool false] n) 4)) := by
  obtain ⟨i, hi, hz0, hz1, hz2⟩ := info_parts bool_info
  have := run_make (P := Try.prog) w 40 4 i _ Try.underlying40 hi hz0 .i64 .i64 n n (by omega) (by omega) (by rw [hz2]; omega) (by omega)
  rw [hz1, Int.toNat_natCast, Nat.mul_one] at this
  exact this
/-- Which places have been chosen. -/
def marks (n : Nat) (p : List Nat) : List Bool := (List.range n).map fun i => decide (i ∈ p)
theorem marks_len (n : Nat) (p : List Nat) : (marks n p).length = n := by simp [marks]
theorem marks_nil (n : Nat) : marks n [] = List.replicate n false := by apply List.ext_getElem <;> simp [marks]
theorem marks_at {n k : Nat} (p : List Nat) (h : k < n) : (marks n p)[k]? = some (decide (k ∈ p)) := by simp [marks, h]
theorem marks_set (n b : Nat) (p : List Nat) : (marks n p).set b true = marks n (p ++ [b]) := by
  apply List.ext_getElem
  · simp [marks]
  · intro i h1 h2
    simp only [marks, List.getElem_set, List.getElem_map, List.getElem_range, List.mem_append, List.mem_singleton]
    by_cases e : b = i
    · subst e; simp
    · rw [if_neg e]
      rw [decide_eq_decide]
      exact ⟨fun h => .inl h, fun h => h.elim id (fun h => absurd h.symm e)⟩

set_option maxRecDepth 100000 in
set_option maxHeartbeats 8000000 in
theorem refObject_any (v u : Value) (names : List (List UInt8)) (L : List (List Nd)) (w : World) (hv : Sts w v names) (hu : Vls w u L) (hn : names.length ≤ 1000) (hb2 : (L.map List.length).sum ≤ 131072) (hsh : ∀ s ∈ names, s.length ≤ maxLen) (hne : ∀ l ∈ L, l ≠ []) :
    Calls Try.prog 24 #[v, u] w (GivesO w names L) := by
  have HSH := Lib.hid hsh
  have HNE := Lib.hid hne
  have HB2 := Lib.hid hb2
  clear hsh hne hb2
  obtain ⟨zs, hels, hrow⟩ := vls_els hu
  obtain ⟨A, c, rfl, hc, hcm, -, H⟩ := hv
  obtain ⟨A2, c2, rfl, hc2, hcm2, -, H2⟩ := hrow
  have hzl := hels.1
  by_cases hl : names.length = L.length
  · have HE := Lib.hid hels
    rw [hzl, ← hl] at H2 hc2 ⊢
    have HH := Lib.hid H
    have HH2 := Lib.hid H2
    have HL := Lib.hid hl
    have HZL := Lib.hid hzl
    clear hu hels H H2 hl hzl
    have hmk := fun (W : World) => make_bools names.length (by omega) W
    generalize hnn : names.length = n at *
    have HN := Lib.hid hnn; clear hnn
    have HMK := Lib.hid hmk; clear hmk
    go_enter Try.func24, Try.ntmps24
    have hmk := HMK.out ((w.alloc (.cells #[] 9)).alloc (.cells #[] 23))
    simp only [World.size_alloc] at hmk
    have HS0 : Hid (Own stc 1 9 w.heap.size ((w.alloc (.cells #[] 9)).alloc (.cells #[] 23)) (.slice (some ⟨w.heap.size, 0, none⟩) 0 0) []) := Lib.hid ((Own.lit (base := w.heap.size) (E := 9) stc_len w #[] [] (Nat.le_refl _) (by simp) rfl).alloc _)
    have HZ0 : Hid (Own slc 1 23 w.heap.size ((w.alloc (.cells #[] 9)).alloc (.cells #[] 23)) (.slice (some ⟨w.heap.size + 1, 0, none⟩) 0 0) []) := Lib.hid (by
      have := Own.lit (base := w.heap.size) (E := 23) slc_len (w.alloc (.cells #[] 9)) #[] [] (by simp) (by simp) rfl
      simpa using this)
    have HM0 : Hid (Own boc 1 4 w.heap.size (((w.alloc (.cells #[] 9)).alloc (.cells #[] 23)).alloc (.cells (madeCells #[.bool false] n) 4)) (.slice (some ⟨w.heap.size + 1 + 1, 0, none⟩) n n) (marks n [])) := Lib.hid (by
      rw [marks_nil]
      have := Own.made1 (E := 4) (base := w.heap.size) boc_len ((w.alloc (.cells #[] 9)).alloc (.cells #[] 23)) false (.bool false) rfl n (by unfold maxLen; omega) (by simp; omega)
      simpa using this)
    go_wp2_with fail
    generalize madeCells #[Value.bool false] n = cs at HM0 ⊢
    go_loopw [6, 7] (fun sv zv wr => ∃ (p : List Nat), Sel names p ∧ (∃ As cs, sv = .slice As p.length cs) ∧ Own stc 1 9 w.heap.size wr sv (p.map (atN names)) ∧ Own slc 1 23 w.heap.size wr zv (p.map fun j => zs.getD j (none, 0, 0)) ∧ Own boc 1 4 w.heap.size wr (.slice (some ⟨w.heap.size + 1 + 1, 0, none⟩) n n) (marks n p) ∧ Below w.heap.size w wr) (fun sv _ _ => n - lenOf sv)
    case atStart => exact ⟨[], Sel.nil _, ⟨_, _, rfl⟩, HS0.out.alloc _, HZ0.out.alloc _, HM0.out, (((Below.refl _ _).alloc (Nat.le_refl _) _).alloc (by simp) _).alloc (by simp; omega) _⟩
    case round =>
      obtain ⟨p, hsel, ⟨As, cs', rfl⟩, hs, hz, hm, hb⟩ := hrel
      have HSEL := Lib.hid hsel
      have HS := Lib.hid hs
      have HZ := Lib.hid hz
      have HM := Lib.hid hm
      have HB := Lib.hid hb
      have hpl : p.length ≤ n := by have := hsel.len; rwa [HN.out] at this
      clear hsel hs hz hm hb
      by_cases hlt : p.length < n
      · obtain ⟨wo, rfl⟩ : ∃ wo : World, wo = wr := ⟨_, rfl⟩
        obtain ⟨g, o, rfl, hg, hx⟩ := HH.out (by omega)
        have HX := Lib.hid hx
        clear hx
        go_wp2_with fail
        go_loopw [9, 10] (fun bv iv wr => ∃ k : Nat, k ≤ n ∧ iv = .int .i64 k ∧ (∃ q, wr = wo.drewN q) ∧ ((bv = .int .i64 (-1) ∧ ∀ j, j < k → j ∈ p) ∨ ∃ b : Nat, bv = .int .i64 b ∧ Least names p k b)) (fun _ iv _ => n - (intOf iv).toNat)
        case atStart => exact ⟨0, Nat.zero_le _, rfl, ⟨0, rfl⟩, .inl ⟨rfl, fun j h => absurd h (by omega)⟩⟩
        case round =>
          obtain ⟨k, hk, rfl, hq, hbest⟩ := hrel
          have HQ := Lib.hid hq
          clear hq
          by_cases hkn : k < n
          · have hkx : names[k]? = some (atN names k) := by rw [atN, List.getD_eq_getElem?_getD, List.getElem?_eq_getElem (by rw [HN.out]; exact hkn)]; rfl
            have m0 : wr.cell? ⟨w.heap.size + 1 + 1, k, none⟩ = some (.bool (decide (k ∈ p))) := by
              have hm' : Own boc 1 4 w.heap.size wo (.slice (some ⟨w.heap.size + 1 + 1, 0, none⟩) (marks n p).length n) (marks n p) := by rw [marks_len]; exact HM.out
              have := cell_quiet (Own.cell boc_len (j := 0) hm' (marks_at p hkn) rfl) HQ.out
              simpa using this
            have n0 : wr.cell? ⟨g, o + k, none⟩ = some (.string ⟨(atN names k).toArray⟩) := cell_quiet ((HB.out.cell (p := ⟨g, o + k, none⟩) hg).trans (HX.out k _ hkx).st) HQ.out
            have hkI : (k : Int) < n := by omega
            clear hkx
            generalize hans : atN names k = nk at n0
            have HNK := Lib.hid hans
            clear hans
            rcases hbest with ⟨rfl, hall⟩ | ⟨b, rfl, hle⟩
            · have HALLP := Lib.hid hall
              clear hall
              by_cases hkp : k ∈ p
              · rw [decide_eq_true hkp] at m0
                have HKP := Lib.hid hkp
                clear hkp
                go_wp2_with fail
                go_quiet (fail)
                go_wp2_with fail
                go_roundw
                case rel => exact ⟨k + 1, by omega, by go_num, quiet_more HQ.out _, .inl ⟨rfl, fun j hj => if e : j = k then e ▸ HKP.out else HALLP.out j (by omega)⟩⟩
                case measure => simp [intOf]; omega
              · rw [decide_eq_false hkp] at m0
                have HKP := Lib.hid hkp
                clear hkp
                go_wp2_with fail
                go_quiet (fail)
                go_wp2_with fail
                go_roundw
                case rel => exact ⟨k + 1, by omega, by go_num, quiet_more HQ.out _, .inr ⟨k, rfl, Least.first HALLP.out HKP.out⟩⟩
                case measure => simp [intOf]; omega
            · have HLE := Lib.hid hle
              have hbk : b < k := hle.1
              clear hle
              have hb0 : decide ((b : Int) < 0) = false := by simp
              by_cases hkp : k ∈ p
              · rw [decide_eq_true hkp] at m0
                have HKP := Lib.hid hkp
                clear hkp
                go_wp2_with fail
                go_quiet (fail)
                go_wp2_with fail
                go_roundw
                case rel => exact ⟨k + 1, by omega, by go_num, quiet_more HQ.out _, .inr ⟨b, rfl, HLE.out.keep (.inl HKP.out)⟩⟩
                case measure => simp [intOf]; omega
              · rw [decide_eq_false hkp] at m0
                have HKP := Lib.hid hkp
                clear hkp
                have hbx : names[b]? = some (atN names b) := by rw [atN, List.getD_eq_getElem?_getD, List.getElem?_eq_getElem (by rw [HN.out]; omega)]; rfl
                have n1 : wr.cell? ⟨g, o + b, none⟩ = some (.string ⟨(atN names b).toArray⟩) := cell_quiet ((HB.out.cell (p := ⟨g, o + b, none⟩) hg).trans (HX.out b _ hbx).st) HQ.out
                have hbI : (b : Int) < n := by omega
                have hbn : b < n := by omega
                clear hbx
                generalize hanb : atN names b = nb at n1
                have HNB := Lib.hid hanb
                clear hanb
                by_cases hlx : nk < nb
                · have hbl : Op.bytesLess nk nb = true := by rw [bytesLess_eq]; simp [hlx]
                  have HLX := Lib.hid hlx
                  clear hlx
                  go_wp2_with fail
                  go_quiet (fail)
                  go_wp2_with fail
                  go_roundw
                  case rel => exact ⟨k + 1, by omega, by go_num, quiet_more HQ.out _, .inr ⟨k, rfl, HLE.out.less HKP.out (by rw [HNK.out, HNB.out]; exact HLX.out)⟩⟩
                  case measure => simp [intOf]; omega
                · have hbl : Op.bytesLess nk nb = false := by rw [bytesLess_eq]; simp [hlx]
                  have HLX := Lib.hid hlx
                  clear hlx
                  go_wp2_with fail
                  go_quiet (fail)
                  go_wp2_with fail
                  go_roundw
                  case rel => exact ⟨k + 1, by omega, by go_num, quiet_more HQ.out _, .inr ⟨b, rfl, HLE.out.keep (.inr (by rw [HNK.out, HNB.out]; exact HLX.out))⟩⟩
                  case measure => simp [intOf]; omega
          · have hke : k = n := by omega
            subst hke
            rcases hbest with ⟨-, hall⟩ | ⟨b, rfl, hle⟩
            · exact absurd (fun j hj => hall j (by rw [← HN.out]; exact hj)) (HSEL.out.some (by rw [HN.out]; exact hlt))
            · obtain ⟨wi, rfl⟩ : ∃ wi : World, wi = wr := ⟨_, rfl⟩
              have HLE := Lib.hid hle
              have hbn : b < k := hle.1
              clear hle
              have hbI : (b : Int) < k := by omega
              have hbI0 : ¬ (b : Int) < 0 := by omega
              have hbx : names[b]? = some (atN names b) := by rw [atN, List.getD_eq_getElem?_getD, List.getElem?_eq_getElem (by rw [HN.out]; exact hbn)]; rfl
              have HSN : Hid ((ByteArray.mk (atN names b).toArray).size ≤ maxLen) := Lib.hid (HSH.out _ (List.mem_of_getElem? hbx))
              have HNW : Hid (w.cell? ⟨g, o + b, none⟩ = some (.string ⟨(atN names b).toArray⟩)) := Lib.hid (HX.out b _ hbx).st
              obtain ⟨g2, o2, rfl, hg2, hx2⟩ := HH2.out (by omega)
              obtain ⟨zb, hzb⟩ : ∃ a, zs[b]? = some a := ⟨_, List.getElem?_eq_getElem (by rw [HZL.out, ← HL.out]; exact hbn)⟩
              have HZW : Hid (w.cell? ⟨g2, o2 + b, none⟩ = some (.slice zb.1 zb.2.1 zb.2.2)) := Lib.hid (hx2 b zb hzb).one
              have HZB : Hid (zs.getD b (none, 0, 0) = zb) := Lib.hid (by rw [List.getD_eq_getElem?_getD, hzb]; rfl)
              have HBI : Hid (Below w.heap.size w wi) := Lib.hid (HB.out.trans ((below_quiet HQ.out).mono HB.out.size))
              have HSI := Lib.hid (HS.out.below (below_quiet HQ.out))
              have HZI := Lib.hid (HZ.out.below (below_quiet HQ.out))
              have HMI := Lib.hid (HM.out.below (below_quiet HQ.out))
              have n1 := (HBI.out.cell (p := ⟨g, o + b, none⟩) hg).trans HNW.out
              have HMI' : Hid (Own boc 1 4 w.heap.size wi (.slice (some ⟨w.heap.size + 1 + 1, 0, none⟩) (marks k p).length k) (marks k p)) := Lib.hid (by rw [marks_len]; exact HMI.out)
              have m1 : wi.cell? ⟨w.heap.size + 1 + 1, b, none⟩ = some (.bool (decide (b ∈ p))) := by
                have := Own.cell boc_len (j := 0) HMI'.out (marks_at p hbn) rfl
                simpa using this
              have f1 : wi.frozen? ⟨w.heap.size + 1 + 1, b, none⟩ = false := HMI'.out.free b
              have HALLW : Hid (∀ m W', (wi.drewN m).setCell ⟨w.heap.size + 1 + 1, b, none⟩ (.bool true) = W' → Own stc 1 9 w.heap.size W' (.slice As p.length cs') (p.map (atN names)) ∧ Own slc 1 23 w.heap.size W' u7 (p.map fun j => zs.getD j (none, 0, 0)) ∧ Own boc 1 4 w.heap.size W' (.slice (some ⟨w.heap.size + 1 + 1, 0, none⟩) k k) (marks k (p ++ [b])) ∧ Below w.heap.size w W') := Lib.hid (fun m W' hW' => by
                subst hW'
                have hgr : (wi.drewN m).grownBy ((wi.drewN m).setCell ⟨w.heap.size + 1 + 1, b, none⟩ (.bool true)) (Value.slice (some ⟨w.heap.size + 1 + 1, 0, none⟩) k k).ownBlock := grown_set (World.grownBy.refl _ _) (.inl rfl) _
                have hmm : Own boc 1 4 w.heap.size (wi.drewN m) (.slice (some ⟨w.heap.size + 1 + 1, 0, none⟩) k k) (marks k p) := HMI.out.drewN m
                refine ⟨Own.aside (HSI.out.drewN m) hmm (by decide) hgr, Own.aside (HZI.out.drewN m) hmm (by decide) hgr, ?_, (drewN_below HBI.out m).setCell (by show w.heap.size ≤ w.heap.size + 1 + 1; omega) _⟩
                have h := Own.put boc_len (j := 0) (y := true) (u := .bool true) (HMI'.out.drewN m) (marks_at p hbn) (by decide) rfl
                rw [marks_set, marks_len] at h
                simpa using h)
              have HTW : Hid (∀ a, a ∈ p → atN names a = atN names b → objB names L = false) := Lib.hid (fun a ha he => Sel.twice (HSEL.out.lt a ha) (by rw [HN.out]; exact hbn) (fun (e : a = b) => HLE.out.2.1 (by rw [← e]; exact ha)) he)
              have HWR : Hid (vld (atN names b) = false → objB names L = false) := Lib.hid (fun h => Sel.wrong (by rw [HN.out]; exact hbn) h)
              have HNX : Hid (vld (atN names b) = true → (∀ q a, p = q ++ [a] → atN names a ≠ atN names b) → Sel names (p ++ [b])) := Lib.hid (fun h1 h2 => HSEL.out.next (by rw [HN.out]; exact HLE.out) h1 h2)
              clear hbx hzb hx2
              generalize hans : atN names b = nb at n1 HSN HNW HTW HWR HNX
              have HNB := Lib.hid hans
              clear hans
              cases hvl : vld nb with
              | false =>
                have HC : Hid (∀ m, Calls Try.prog 23 #[.string ⟨nb.toArray⟩] (wi.drewN m) fun e w' => e = .returned (.bool false) ∧ w' = wi.drewN m) := Lib.hid fun m => (refUtf_any ⟨nb.toArray⟩ _ HSN.out).mono fun _ _ ⟨h1, h2⟩ => ⟨by rw [h1, ← hvl], h2.symm⟩
                have HBAD := Lib.hid (HWR.out hvl)
                clear hvl
                go_wp2_with fail
                go_quiet ((go_at_call 23; exact Calls.quiet_of_same (HC.out _)))
                go_wp2_with fail
                go_ret2
                exact GivesO.bad HBAD.out rfl (drewN_below HBI.out _)
              | true =>
                have HC : Hid (∀ m, Calls Try.prog 23 #[.string ⟨nb.toArray⟩] (wi.drewN m) fun e w' => e = .returned (.bool true) ∧ w' = wi.drewN m) := Lib.hid fun m => (refUtf_any ⟨nb.toArray⟩ _ HSN.out).mono fun _ _ ⟨h1, h2⟩ => ⟨by rw [h1, ← hvl], h2.symm⟩
                have HV := Lib.hid hvl
                clear hvl
                rcases List.eq_nil_or_concat p with hp | ⟨q, a, hp⟩
                · have HNEXT := Lib.hid (HNX.out HV.out (fun q a e => by rw [hp] at e; exact absurd e (by simp)))
                  have hp0 : p.length = 0 := by rw [hp]; rfl
                  have g0 : decide ((0 : Int) < p.length) = false := by simp; omega
                  have g1 : decide (0 < p.length) = false := by simp; omega
                  clear hp hp0
                  go_wp2_with fail
                  go_quiet ((go_at_call 23; exact Calls.quiet_of_same (HC.out _)))
                  go_upto_region 16 with fail
                  generalize hW : World.setCell (World.drewN wi _) _ _ = W3
                  obtain ⟨hs3, hz3, hm3, hb3⟩ := HALLW.out _ _ hW
                  have n3 := (hb3.cell (p := ⟨g, o + b, none⟩) hg).trans HNW.out
                  have HS3 := Lib.hid hs3
                  have HZ3 := Lib.hid hz3
                  have HM3 := Lib.hid hm3
                  have HB3 := Lib.hid hb3
                  clear hs3 hz3 hm3 hb3 hW m1 f1 n1
                  go_wp2_with (at_builtin; refine wpList_append_row (base := w.heap.size) elText rfl _ _ rfl rfl (HS3.out.alloc _) rfl (row_one stc_len W3 _ rfl 9 #[.string ⟨nb.toArray⟩] nb rfl) ?_ ?_ ?_ ?_)
                  · unfold maxLen; simp; omega
                  · simp; omega
                  · have := HB3.out.size; simp; omega
                  · intro A4 c4 w4 hown4 hg4 hwh
                    clear hwh
                    have HS4 : Hid (Own stc 1 9 w.heap.size w4 (.slice A4 (p.length + 1) c4) ((p ++ [b]).map (atN names))) := Lib.hid (by rw [List.map_append]; show Own _ _ _ _ _ _ (p.map (atN names) ++ [atN names b]); rw [HNB.out]; simpa using hown4)
                    have HZ4 := Lib.hid (Own.aside (HZ3.out.alloc _) (HS3.out.alloc _) (by decide) hg4)
                    have HM4 := Lib.hid (Own.aside (HM3.out.alloc _) (HS3.out.alloc _) (by decide) hg4)
                    have HB4 : Hid (Below w.heap.size w w4) := Lib.hid ((HB3.out.alloc HB3.out.size _).trans ((HS3.out.alloc _).kept hg4 (by have := HB3.out.size; simp; omega)))
                    clear hown4 hg4 n3
                    have z4 := (HB4.out.cell (p := ⟨g2, o2 + b, none⟩) hg2).trans HZW.out
                    try simp only [List.length_map]
                    go_wp2_with (at_builtin; refine wpList_append_row (base := w.heap.size) elVal rfl _ _ rfl rfl (HZ4.out.alloc _) rfl (row_one slc_len w4 _ rfl 23 #[.slice zb.1 zb.2.1 zb.2.2] zb rfl) ?_ ?_ ?_ ?_)
                    · unfold maxLen; simp; omega
                    · simp; omega
                    · have := HB4.out.size; simp; omega
                    · intro A5 c5 w5 hown5 hg5 hwh
                      clear hwh
                      have HZ5 : Hid (Own slc 1 23 w.heap.size w5 (.slice A5 (p.length + 1) c5) ((p ++ [b]).map fun j => zs.getD j (none, 0, 0))) := Lib.hid (by rw [List.map_append]; show Own _ _ _ _ _ _ ((p.map fun j => zs.getD j (none, 0, 0)) ++ [zs.getD b (none, 0, 0)]); rw [HZB.out]; simpa using hown5)
                      have HS5 := Lib.hid (Own.aside (HS4.out.alloc _) (HZ4.out.alloc _) (by decide) hg5)
                      have HM5 := Lib.hid (Own.aside (HM4.out.alloc _) (HZ4.out.alloc _) (by decide) hg5)
                      have HB5 : Hid (Below w.heap.size w w5) := Lib.hid ((HB4.out.alloc HB4.out.size _).trans ((HZ4.out.alloc _).kept hg5 (by have := HB4.out.size; simp; omega)))
                      clear hown5 hg5 z4
                      try simp only [List.length_map]
                      go_wp2_with fail
                      go_roundw
                      case rel => exact ⟨p ++ [b], HNEXT.out, ⟨A4, c4, by simp⟩, HS5.out, HZ5.out, HM5.out, HB5.out⟩
                      case measure => simp [lenOf]; omega
                · rw [List.concat_eq_append] at hp
                  have hpq : p.length = q.length + 1 := by rw [hp]; simp
                  have hin : a ∈ p := by rw [hp]; simp
                  obtain ⟨gs, cap, hform, -, -⟩ := HSI.out.opened (by rw [List.length_map]; omega)
                  injection hform with e1 e2 e3
                  clear e2
                  subst e1
                  subst e3
                  have s1 : wi.cell? ⟨gs, q.length, none⟩ = some (.string ⟨(atN names a).toArray⟩) := by
                    have h' : Own stc 1 9 w.heap.size wi (.slice (some ⟨gs, 0, none⟩) (p.map (atN names)).length cs') (p.map (atN names)) := by rw [List.length_map]; exact HSI.out
                    have := Own.cell stc_len (k := q.length) (x := atN names a) (j := 0) h' (by rw [hp]; simp) rfl
                    simpa using this
                  have g0 : decide ((0 : Int) < p.length) = true := by simp; omega
                  have g1 : decide (0 < p.length) = true := by simp; omega
                  have hw1 : IntKind.i64.wrap ((p.length : Int) - 1) = (q.length : Int) := (IntWalk.i64_in _ (by omega)).trans (by omega)
                  have hqi : (q.length : Int) < p.length := by omega
                  have hqn : q.length < p.length := by omega
                  have HPQ := Lib.hid hp
                  clear hp hpq
                  generalize hans : atN names a = na at s1
                  have HNA := Lib.hid hans
                  clear hans
                  have HIN := Lib.hid hin
                  clear hin
                  generalize q.length = ql at *
                  by_cases he : na = nb
                  · have HBAD := Lib.hid (HTW.out a HIN.out (HNA.out.trans he))
                    subst he
                    go_wp2_with fail
                    go_quiet ((go_at_call 23; exact Calls.quiet_of_same (HC.out _)))
                    go_wp2_with fail
                    go_ret2
                    exact GivesO.bad HBAD.out rfl (drewN_below HBI.out _)
                  · have hne : (na == nb) = false := by simp [he]
                    have HNEXT := Lib.hid (HNX.out HV.out (fun q' a' e => by
                      have e2 := HPQ.out.symm.trans e
                      have e3 := (List.append_inj' e2 rfl).2
                      injection e3 with e4 _
                      rw [← e4, HNA.out]; exact he))
                    clear he
                    go_wp2_with fail
                    go_quiet ((go_at_call 23; exact Calls.quiet_of_same (HC.out _)))
                    go_upto_region 16 with fail
                    generalize hW : World.setCell (World.drewN wi _) _ _ = W3
                    obtain ⟨hs3, hz3, hm3, hb3⟩ := HALLW.out _ _ hW
                    have n3 := (hb3.cell (p := ⟨g, o + b, none⟩) hg).trans HNW.out
                    have HS3 := Lib.hid hs3
                    have HZ3 := Lib.hid hz3
                    have HM3 := Lib.hid hm3
                    have HB3 := Lib.hid hb3
                    clear hs3 hz3 hm3 hb3 hW m1 f1 n1
                    go_wp2_with (at_builtin; refine wpList_append_row (base := w.heap.size) elText rfl _ _ rfl rfl (HS3.out.alloc _) rfl (row_one stc_len W3 _ rfl 9 #[.string ⟨nb.toArray⟩] nb rfl) ?_ ?_ ?_ ?_)
                    · unfold maxLen; simp; omega
                    · simp; omega
                    · have := HB3.out.size; simp; omega
                    · intro A4 c4 w4 hown4 hg4 hwh
                      clear hwh
                      have HS4 : Hid (Own stc 1 9 w.heap.size w4 (.slice A4 (p.length + 1) c4) ((p ++ [b]).map (atN names))) := Lib.hid (by rw [List.map_append]; show Own _ _ _ _ _ _ (p.map (atN names) ++ [atN names b]); rw [HNB.out]; simpa using hown4)
                      have HZ4 := Lib.hid (Own.aside (HZ3.out.alloc _) (HS3.out.alloc _) (by decide) hg4)
                      have HM4 := Lib.hid (Own.aside (HM3.out.alloc _) (HS3.out.alloc _) (by decide) hg4)
                      have HB4 : Hid (Below w.heap.size w w4) := Lib.hid ((HB3.out.alloc HB3.out.size _).trans ((HS3.out.alloc _).kept hg4 (by have := HB3.out.size; simp; omega)))
                      clear hown4 hg4 n3
                      have z4 := (HB4.out.cell (p := ⟨g2, o2 + b, none⟩) hg2).trans HZW.out
                      try simp only [List.length_map]
                      go_wp2_with (at_builtin; refine wpList_append_row (base := w.heap.size) elVal rfl _ _ rfl rfl (HZ4.out.alloc _) rfl (row_one slc_len w4 _ rfl 23 #[.slice zb.1 zb.2.1 zb.2.2] zb rfl) ?_ ?_ ?_ ?_)
                      · unfold maxLen; simp; omega
                      · simp; omega
                      · have := HB4.out.size; simp; omega
                      · intro A5 c5 w5 hown5 hg5 hwh
                        clear hwh
                        have HZ5 : Hid (Own slc 1 23 w.heap.size w5 (.slice A5 (p.length + 1) c5) ((p ++ [b]).map fun j => zs.getD j (none, 0, 0))) := Lib.hid (by rw [List.map_append]; show Own _ _ _ _ _ _ ((p.map fun j => zs.getD j (none, 0, 0)) ++ [zs.getD b (none, 0, 0)]); rw [HZB.out]; simpa using hown5)
                        have HS5 := Lib.hid (Own.aside (HS4.out.alloc _) (HZ4.out.alloc _) (by decide) hg5)
                        have HM5 := Lib.hid (Own.aside (HM4.out.alloc _) (HZ4.out.alloc _) (by decide) hg5)
                        have HB5 : Hid (Below w.heap.size w w5) := Lib.hid ((HB4.out.alloc HB4.out.size _).trans ((HZ4.out.alloc _).kept hg5 (by have := HB4.out.size; simp; omega)))
                        clear hown5 hg5 z4
                        try simp only [List.length_map]
                        go_wp2_with fail
                        go_roundw
                        case rel => exact ⟨p ++ [b], HNEXT.out, ⟨A4, c4, by simp⟩, HS5.out, HZ5.out, HM5.out, HB5.out⟩
                        case measure => simp [lenOf]; omega
      · have hpe : p.length = n := by omega
        obtain ⟨wo, rfl⟩ : ∃ wo : World, wo = wr := ⟨_, rfl⟩
        have HD := Lib.hid (HSEL.out.done (L := L) (by rw [HN.out]; exact hpe) (by rw [HN.out]; exact HL.out))
        have hpl2 := HSEL.out.places (by rw [HN.out]; exact hpe)
        have hnl : names.length = L.length := by rw [HN.out]; exact HL.out
        have HS1 : Hid (Sts wo (.slice As p.length cs') (p.map (atN names))) := Lib.hid (HS.out.row stc_len)
        have HZ1 := Lib.hid (HZ.out.row slc_len)
        have HV1 : Hid (Vls wo u7 (p.map (atL L))) := Lib.hid (Els.vls ⟨by simp, fun k z l hz hl => by
          rw [List.getElem?_map] at hz hl
          cases hi : p[k]? with
          | none => rw [hi] at hz; cases hz
          | some i =>
            rw [hi] at hz hl
            injection hz with hz
            injection hl with hl
            have hin := HSEL.out.lt i (List.mem_of_getElem? hi)
            have hx := HE.out.2 i z l (by rw [← hz]; show zs[i]? = some (zs.getD i (none, 0, 0)); rw [List.getD_eq_getElem?_getD, List.getElem?_eq_getElem (by rw [HE.out.1, ← hnl]; exact hin)]; rfl) (by rw [← hl]; show L[i]? = some (L.getD i []); rw [List.getD_eq_getElem?_getD, List.getElem?_eq_getElem (by rw [← hnl]; exact hin)]; rfl)
            exact hx.below HB.out⟩ HZ1.out)
        have hq1 : (p.map (atN names)).length = (p.map (atL L)).length := by simp
        have hq2 : (p.map (atL L)).length ≤ 65536 := by rw [List.length_map]; omega
        have hq3 : ((p.map (atL L)).map List.length).sum ≤ 131072 := by
          rw [List.map_map]
          have := hpl2.sum (L := L) hnl
          have h2 := HB2.out
          exact Nat.le_trans (Nat.le_of_eq this) h2
        have hq4 : ∀ l ∈ p.map (atL L), l ≠ [] := fun l hl => by
          obtain ⟨i, hi, rfl⟩ := List.mem_map.1 hl
          have hin := HSEL.out.lt i hi
          refine HNE.out _ ?_
          rw [atL, List.getD_eq_getElem?_getD, List.getElem?_eq_getElem (by rw [← hnl]; exact hin)]
          exact List.getElem_mem _
        have HQ := Lib.hid (refNamed_any _ _ _ _ _ HS1.out HV1.out hq1 hq2 hq3 hq4)
        have HLN : Hid ((p.map (atL L)).length = L.length) := Lib.hid (by rw [List.length_map, hpe]; exact HL.out)
        clear hq1 hq2 hq3 hq4 hpl2 hnl hpe hpl
        go_wp2_with (go_at_call 39; refine HQ.out.mono ?_; rintro e w2 ⟨v2, rfl, ho2, hB2⟩)
        have HO2 := Lib.hid ho2
        have HB2' := Lib.hid hB2
        clear ho2 hB2
        go_ret2
        refine ⟨_, by rw [objE, HD.out.1]; rfl, ?_, HB.out.trans (HB2'.out.mono HB.out.size)⟩
        rw [HD.out.2, ← HLN.out]
        exact HO2.out.mono HB.out.size
  · have hne : ((names.length : Int) != zs.length) = true := by simp; omega
    have HO : Hid (objB names L = false) := Lib.hid (by simp [objB, hl])
    clear hl hzl H H2 hu hels
    generalize names.length = n at *
    generalize zs.length = m at *
    go_enter Try.func24, Try.ntmps24
    go_wp2_with fail
    go_ret2
    exact GivesO.bad HO.out rfl (Below.refl _ _)
end Go.Proofs.Ytbffeffplabaeaa

/-
  The walk of the statement OrderNested: it returns true.
-/
namespace Go.Proofs.Ytbffeffplabaeaa
open Go.RowKit Np Rw Vp Ov

set_option maxRecDepth 100000 in
set_option maxHeartbeats 4000000 in
theorem orderNested_short0 (v0 v1 : Value) (l0 l1 : List Nd) (a b : List UInt8) (w : World) (h0 : Nds w v0 l0) (h1 : Nds w v1 l1) (ha : (ByteArray.mk a.toArray).size ≤ maxLen) (hb : (ByteArray.mk b.toArray).size ≤ maxLen) (e0 : few 60 l0 = false) :
    Calls Try.prog 8 #[v0, v1, .agg #[.string ⟨a.toArray⟩, .string ⟨b.toArray⟩]] w fun e w' => e = .returned (.bool true) ∧ Below w.heap.size w w' := by
  have HF0 := Lib.hid (fun (W : World) (hb : Below w.heap.size w W) => refFew_any v0 l0 60 W (h0.below hb) (by decide))
  have HF1 := Lib.hid (fun (W : World) (hb : Below w.heap.size w W) => refFew_any v1 l1 60 W (h1.below hb) (by decide))
  have HU0 := Lib.hid (fun (W : World) => refUtf_any ⟨a.toArray⟩ W ha)
  have HU1 := Lib.hid (fun (W : World) => refUtf_any ⟨b.toArray⟩ W hb)
  obtain ⟨A0, c0, rfl, -⟩ := h0
  obtain ⟨A1, c1, rfl, -⟩ := h1
  have HE0 := Lib.hid e0
  clear e0
  generalize l0.length = n0 at *
  generalize l1.length = n1 at *
  go_enter Try.func8, Try.ntmps8
  go_wp2_with fail
  have k0 : (w.alloc (.cells #[.string ⟨a.toArray⟩, .string ⟨b.toArray⟩] 42)).cell? ⟨w.heap.size, 0, none⟩ = some (.string ⟨a.toArray⟩) := by simp [World.cell?_alloc_new]
  have k1 : (w.alloc (.cells #[.string ⟨a.toArray⟩, .string ⟨b.toArray⟩] 42)).cell? ⟨w.heap.size, 1, none⟩ = some (.string ⟨b.toArray⟩) := by simp [World.cell?_alloc_new]
  have hWW : Below w.heap.size w (w.alloc (.cells #[.string ⟨a.toArray⟩, .string ⟨b.toArray⟩] 42)) := (Below.refl _ _).alloc (Nat.le_refl _) _
  have hlt : w.heap.size < (w.alloc (.cells #[.string ⟨a.toArray⟩, .string ⟨b.toArray⟩] 42)).heap.size := by simp
  generalize w.alloc (.cells #[.string ⟨a.toArray⟩, .string ⟨b.toArray⟩] 42) = W0 at *
  have HKP : Hid (∀ W, Below W0.heap.size W0 W → W.cell? ⟨w.heap.size, 0, none⟩ = some (.string ⟨a.toArray⟩) ∧ W.cell? ⟨w.heap.size, 1, none⟩ = some (.string ⟨b.toArray⟩) ∧ Below W0.heap.size W0 W) := Lib.hid fun W hb => ⟨(hb.cell (p := ⟨w.heap.size, 0, none⟩) hlt).trans k0, (hb.cell (p := ⟨w.heap.size, 1, none⟩) hlt).trans k1, hb⟩
  have HWW := Lib.hid hWW
  have HB0 := Lib.hid (Below.refl W0.heap.size W0)
  have HF0 : Hid (∀ W, Below W0.heap.size W0 W → _) := Lib.hid fun W hb => HF0.out W (HWW.out.trans (hb.mono HWW.out.size))
  have HF1 : Hid (∀ W, Below W0.heap.size W0 W → _) := Lib.hid fun W hb => HF1.out W (HWW.out.trans (hb.mono HWW.out.size))
  have HLT := Lib.hid hlt
  clear k0 k1 hWW hlt
  refine (HF0.out _ HB0.out).mono ?_
  rintro e w1 ⟨rfl, hb1⟩
  rw [HE0.out]
  have HB1 := Lib.hid (Below.after HB0.out hb1)
  clear hb1
  go_wp2_with fail
  refine (oalive_any _).mono ?_
  rintro e w9 ⟨rfl, hb9⟩
  have HB9 := Lib.hid (Below.after HB1.out hb9)
  go_wp2_with fail
  go_ret
  exact ⟨rfl, HWW.out.trans (HB9.out.mono HWW.out.size)⟩

set_option maxRecDepth 100000 in
set_option maxHeartbeats 4000000 in
theorem orderNested_short1 (v0 v1 : Value) (l0 l1 : List Nd) (a b : List UInt8) (w : World) (h0 : Nds w v0 l0) (h1 : Nds w v1 l1) (ha : (ByteArray.mk a.toArray).size ≤ maxLen) (hb : (ByteArray.mk b.toArray).size ≤ maxLen) (e0 : few 60 l0 = true) (e1 : few 60 l1 = false) :
    Calls Try.prog 8 #[v0, v1, .agg #[.string ⟨a.toArray⟩, .string ⟨b.toArray⟩]] w fun e w' => e = .returned (.bool true) ∧ Below w.heap.size w w' := by
  have HF0 := Lib.hid (fun (W : World) (hb : Below w.heap.size w W) => refFew_any v0 l0 60 W (h0.below hb) (by decide))
  have HF1 := Lib.hid (fun (W : World) (hb : Below w.heap.size w W) => refFew_any v1 l1 60 W (h1.below hb) (by decide))
  have HU0 := Lib.hid (fun (W : World) => refUtf_any ⟨a.toArray⟩ W ha)
  have HU1 := Lib.hid (fun (W : World) => refUtf_any ⟨b.toArray⟩ W hb)
  obtain ⟨A0, c0, rfl, -⟩ := h0
  obtain ⟨A1, c1, rfl, -⟩ := h1
  have HE0 := Lib.hid e0
  clear e0
  have HE1 := Lib.hid e1
  clear e1
  generalize l0.length = n0 at *
  generalize l1.length = n1 at *
  go_enter Try.func8, Try.ntmps8
  go_wp2_with fail
  have k0 : (w.alloc (.cells #[.string ⟨a.toArray⟩, .string ⟨b.toArray⟩] 42)).cell? ⟨w.heap.size, 0, none⟩ = some (.string ⟨a.toArray⟩) := by simp [World.cell?_alloc_new]
  have k1 : (w.alloc (.cells #[.string ⟨a.toArray⟩, .string ⟨b.toArray⟩] 42)).cell? ⟨w.heap.size, 1, none⟩ = some (.string ⟨b.toArray⟩) := by simp [World.cell?_alloc_new]
  have hWW : Below w.heap.size w (w.alloc (.cells #[.string ⟨a.toArray⟩, .string ⟨b.toArray⟩] 42)) := (Below.refl _ _).alloc (Nat.le_refl _) _
  have hlt : w.heap.size < (w.alloc (.cells #[.string ⟨a.toArray⟩, .string ⟨b.toArray⟩] 42)).heap.size := by simp
  generalize w.alloc (.cells #[.string ⟨a.toArray⟩, .string ⟨b.toArray⟩] 42) = W0 at *
  have HKP : Hid (∀ W, Below W0.heap.size W0 W → W.cell? ⟨w.heap.size, 0, none⟩ = some (.string ⟨a.toArray⟩) ∧ W.cell? ⟨w.heap.size, 1, none⟩ = some (.string ⟨b.toArray⟩) ∧ Below W0.heap.size W0 W) := Lib.hid fun W hb => ⟨(hb.cell (p := ⟨w.heap.size, 0, none⟩) hlt).trans k0, (hb.cell (p := ⟨w.heap.size, 1, none⟩) hlt).trans k1, hb⟩
  have HWW := Lib.hid hWW
  have HB0 := Lib.hid (Below.refl W0.heap.size W0)
  have HF0 : Hid (∀ W, Below W0.heap.size W0 W → _) := Lib.hid fun W hb => HF0.out W (HWW.out.trans (hb.mono HWW.out.size))
  have HF1 : Hid (∀ W, Below W0.heap.size W0 W → _) := Lib.hid fun W hb => HF1.out W (HWW.out.trans (hb.mono HWW.out.size))
  have HLT := Lib.hid hlt
  clear k0 k1 hWW hlt
  refine (HF0.out _ HB0.out).mono ?_
  rintro e w1 ⟨rfl, hb1⟩
  rw [HE0.out]
  have HB1 := Lib.hid (Below.after HB0.out hb1)
  clear hb1
  go_wp2_with fail
  refine (HF1.out _ HB1.out).mono ?_
  rintro e w2 ⟨rfl, hb2⟩
  rw [HE1.out]
  have HB2 := Lib.hid (Below.after HB1.out hb2)
  clear hb2
  obtain ⟨k0, k1, -⟩ := HKP.out _ HB2.out
  go_wp2_with fail
  refine (oalive_any _).mono ?_
  rintro e w9 ⟨rfl, hb9⟩
  have HB9 := Lib.hid (Below.after HB2.out hb9)
  go_wp2_with fail
  go_ret
  exact ⟨rfl, HWW.out.trans (HB9.out.mono HWW.out.size)⟩

set_option maxRecDepth 100000 in
set_option maxHeartbeats 4000000 in
theorem orderNested_short2 (v0 v1 : Value) (l0 l1 : List Nd) (a b : List UInt8) (w : World) (h0 : Nds w v0 l0) (h1 : Nds w v1 l1) (ha : (ByteArray.mk a.toArray).size ≤ maxLen) (hb : (ByteArray.mk b.toArray).size ≤ maxLen) (e0 : few 60 l0 = true) (e1 : few 60 l1 = true) (e2 : Lib.validD (ByteArray.mk a.toArray).data.toList = false) :
    Calls Try.prog 8 #[v0, v1, .agg #[.string ⟨a.toArray⟩, .string ⟨b.toArray⟩]] w fun e w' => e = .returned (.bool true) ∧ Below w.heap.size w w' := by
  have HF0 := Lib.hid (fun (W : World) (hb : Below w.heap.size w W) => refFew_any v0 l0 60 W (h0.below hb) (by decide))
  have HF1 := Lib.hid (fun (W : World) (hb : Below w.heap.size w W) => refFew_any v1 l1 60 W (h1.below hb) (by decide))
  have HU0 := Lib.hid (fun (W : World) => refUtf_any ⟨a.toArray⟩ W ha)
  have HU1 := Lib.hid (fun (W : World) => refUtf_any ⟨b.toArray⟩ W hb)
  obtain ⟨A0, c0, rfl, -⟩ := h0
  obtain ⟨A1, c1, rfl, -⟩ := h1
  have HE0 := Lib.hid e0
  clear e0
  have HE1 := Lib.hid e1
  clear e1
  have HE2 := Lib.hid e2
  clear e2
  generalize l0.length = n0 at *
  generalize l1.length = n1 at *
  go_enter Try.func8, Try.ntmps8
  go_wp2_with fail
  have k0 : (w.alloc (.cells #[.string ⟨a.toArray⟩, .string ⟨b.toArray⟩] 42)).cell? ⟨w.heap.size, 0, none⟩ = some (.string ⟨a.toArray⟩) := by simp [World.cell?_alloc_new]
  have k1 : (w.alloc (.cells #[.string ⟨a.toArray⟩, .string ⟨b.toArray⟩] 42)).cell? ⟨w.heap.size, 1, none⟩ = some (.string ⟨b.toArray⟩) := by simp [World.cell?_alloc_new]
  have hWW : Below w.heap.size w (w.alloc (.cells #[.string ⟨a.toArray⟩, .string ⟨b.toArray⟩] 42)) := (Below.refl _ _).alloc (Nat.le_refl _) _
  have hlt : w.heap.size < (w.alloc (.cells #[.string ⟨a.toArray⟩, .string ⟨b.toArray⟩] 42)).heap.size := by simp
  generalize w.alloc (.cells #[.string ⟨a.toArray⟩, .string ⟨b.toArray⟩] 42) = W0 at *
  have HKP : Hid (∀ W, Below W0.heap.size W0 W → W.cell? ⟨w.heap.size, 0, none⟩ = some (.string ⟨a.toArray⟩) ∧ W.cell? ⟨w.heap.size, 1, none⟩ = some (.string ⟨b.toArray⟩) ∧ Below W0.heap.size W0 W) := Lib.hid fun W hb => ⟨(hb.cell (p := ⟨w.heap.size, 0, none⟩) hlt).trans k0, (hb.cell (p := ⟨w.heap.size, 1, none⟩) hlt).trans k1, hb⟩
  have HWW := Lib.hid hWW
  have HB0 := Lib.hid (Below.refl W0.heap.size W0)
  have HF0 : Hid (∀ W, Below W0.heap.size W0 W → _) := Lib.hid fun W hb => HF0.out W (HWW.out.trans (hb.mono HWW.out.size))
  have HF1 : Hid (∀ W, Below W0.heap.size W0 W → _) := Lib.hid fun W hb => HF1.out W (HWW.out.trans (hb.mono HWW.out.size))
  have HLT := Lib.hid hlt
  clear k0 k1 hWW hlt
  refine (HF0.out _ HB0.out).mono ?_
  rintro e w1 ⟨rfl, hb1⟩
  rw [HE0.out]
  have HB1 := Lib.hid (Below.after HB0.out hb1)
  clear hb1
  go_wp2_with fail
  refine (HF1.out _ HB1.out).mono ?_
  rintro e w2 ⟨rfl, hb2⟩
  rw [HE1.out]
  have HB2 := Lib.hid (Below.after HB1.out hb2)
  clear hb2
  obtain ⟨k0, k1, -⟩ := HKP.out _ HB2.out
  go_wp2_with fail
  have hE2 := HU0.out w2
  rw [HE2.out] at hE2
  refine hE2.mono ?_
  rintro e w22 ⟨rfl, rfl⟩
  clear hE2
  go_wp2_with fail
  refine (oalive_any _).mono ?_
  rintro e w9 ⟨rfl, hb9⟩
  have HB9 := Lib.hid (Below.after HB2.out hb9)
  go_wp2_with fail
  go_ret
  exact ⟨rfl, HWW.out.trans (HB9.out.mono HWW.out.size)⟩

set_option maxRecDepth 100000 in
set_option maxHeartbeats 4000000 in
theorem orderNested_short3 (v0 v1 : Value) (l0 l1 : List Nd) (a b : List UInt8) (w : World) (h0 : Nds w v0 l0) (h1 : Nds w v1 l1) (ha : (ByteArray.mk a.toArray).size ≤ maxLen) (hb : (ByteArray.mk b.toArray).size ≤ maxLen) (e0 : few 60 l0 = true) (e1 : few 60 l1 = true) (e2 : Lib.validD (ByteArray.mk a.toArray).data.toList = true) (e3 : Lib.validD (ByteArray.mk b.toArray).data.toList = false) :
    Calls Try.prog 8 #[v0, v1, .agg #[.string ⟨a.toArray⟩, .string ⟨b.toArray⟩]] w fun e w' => e = .returned (.bool true) ∧ Below w.heap.size w w' := by
  have HF0 := Lib.hid (fun (W : World) (hb : Below w.heap.size w W) => refFew_any v0 l0 60 W (h0.below hb) (by decide))
  have HF1 := Lib.hid (fun (W : World) (hb : Below w.heap.size w W) => refFew_any v1 l1 60 W (h1.below hb) (by decide))
  have HU0 := Lib.hid (fun (W : World) => refUtf_any ⟨a.toArray⟩ W ha)
  have HU1 := Lib.hid (fun (W : World) => refUtf_any ⟨b.toArray⟩ W hb)
  obtain ⟨A0, c0, rfl, -⟩ := h0
  obtain ⟨A1, c1, rfl, -⟩ := h1
  have HE0 := Lib.hid e0
  clear e0
  have HE1 := Lib.hid e1
  clear e1
  have HE2 := Lib.hid e2
  clear e2
  have HE3 := Lib.hid e3
  clear e3
  generalize l0.length = n0 at *
  generalize l1.length = n1 at *
  go_enter Try.func8, Try.ntmps8
  go_wp2_with fail
  have k0 : (w.alloc (.cells #[.string ⟨a.toArray⟩, .string ⟨b.toArray⟩] 42)).cell? ⟨w.heap.size, 0, none⟩ = some (.string ⟨a.toArray⟩) := by simp [World.cell?_alloc_new]
  have k1 : (w.alloc (.cells #[.string ⟨a.toArray⟩, .string ⟨b.toArray⟩] 42)).cell? ⟨w.heap.size, 1, none⟩ = some (.string ⟨b.toArray⟩) := by simp [World.cell?_alloc_new]
  have hWW : Below w.heap.size w (w.alloc (.cells #[.string ⟨a.toArray⟩, .string ⟨b.toArray⟩] 42)) := (Below.refl _ _).alloc (Nat.le_refl _) _
  have hlt : w.heap.size < (w.alloc (.cells #[.string ⟨a.toArray⟩, .string ⟨b.toArray⟩] 42)).heap.size := by simp
  generalize w.alloc (.cells #[.string ⟨a.toArray⟩, .string ⟨b.toArray⟩] 42) = W0 at *
  have HKP : Hid (∀ W, Below W0.heap.size W0 W → W.cell? ⟨w.heap.size, 0, none⟩ = some (.string ⟨a.toArray⟩) ∧ W.cell? ⟨w.heap.size, 1, none⟩ = some (.string ⟨b.toArray⟩) ∧ Below W0.heap.size W0 W) := Lib.hid fun W hb => ⟨(hb.cell (p := ⟨w.heap.size, 0, none⟩) hlt).trans k0, (hb.cell (p := ⟨w.heap.size, 1, none⟩) hlt).trans k1, hb⟩
  have HWW := Lib.hid hWW
  have HB0 := Lib.hid (Below.refl W0.heap.size W0)
  have HF0 : Hid (∀ W, Below W0.heap.size W0 W → _) := Lib.hid fun W hb => HF0.out W (HWW.out.trans (hb.mono HWW.out.size))
  have HF1 : Hid (∀ W, Below W0.heap.size W0 W → _) := Lib.hid fun W hb => HF1.out W (HWW.out.trans (hb.mono HWW.out.size))
  have HLT := Lib.hid hlt
  clear k0 k1 hWW hlt
  refine (HF0.out _ HB0.out).mono ?_
  rintro e w1 ⟨rfl, hb1⟩
  rw [HE0.out]
  have HB1 := Lib.hid (Below.after HB0.out hb1)
  clear hb1
  go_wp2_with fail
  refine (HF1.out _ HB1.out).mono ?_
  rintro e w2 ⟨rfl, hb2⟩
  rw [HE1.out]
  have HB2 := Lib.hid (Below.after HB1.out hb2)
  clear hb2
  obtain ⟨k0, k1, -⟩ := HKP.out _ HB2.out
  go_wp2_with fail
  have hE2 := HU0.out w2
  rw [HE2.out] at hE2
  refine hE2.mono ?_
  rintro e w22 ⟨rfl, rfl⟩
  clear hE2
  go_wp2_with fail
  have hE3 := HU1.out w2
  rw [HE3.out] at hE3
  refine hE3.mono ?_
  rintro e w23 ⟨rfl, rfl⟩
  clear hE3
  go_wp2_with fail
  refine (oalive_any _).mono ?_
  rintro e w9 ⟨rfl, hb9⟩
  have HB9 := Lib.hid (Below.after HB2.out hb9)
  go_wp2_with fail
  go_ret
  exact ⟨rfl, HWW.out.trans (HB9.out.mono HWW.out.size)⟩

/-- A list's one part, laid. -/
theorem vls_one (W : World) (A : Option Addr) (n c : Nat) (l : List Nd) (h : Nds W (.slice A n c) l) : Vls (W.alloc (.cells #[.slice A n c] 23)) (.slice (some ⟨W.heap.size, 0, none⟩) 1 1) [l] := by
  have := rowz_lit W W.heap.size rfl 23 [.slice A n c] [l] rfl (by unfold maxLen; simp) (fun k x l' hx hk => by
    match k, hx, hk with
    | 0, hx, hk => simp at hx hk; subst hx hk; exact h
    | k + 1, hx, hk => simp at hx)
  simpa using this
theorem refObj_one {t : Tr Nd} (hl : (flat t).length ≤ 60) {a : List UInt8} (hv : vld a = true) (hm : a.length ≤ maxLen) (W : World) (nv : Value) (hn : Sts W nv [a]) (A : Option Addr) (n c : Nat) (h : Nds W (.slice A n c) (flat t)) :
    Calls Try.prog 24 #[nv, .slice (some ⟨W.heap.size, 0, none⟩) 1 1] (W.alloc (.cells #[.slice A n c] 23)) fun e w' => ∃ (B : Option Addr) (m d : Nat), e = .returned (.tuple #[.slice B m d, .int .i64 0]) ∧ Nds w' (.slice B m d) (flat (objT [nmd a t])) ∧ Below W.heap.size W w' := by
  have hB : Below W.heap.size W (W.alloc (.cells #[.slice A n c] 23)) := (Below.refl _ _).alloc (Nat.le_refl _) _
  refine (refObject_any nv _ [a] [flat t] _ (hn.below hB) (vls_one W A n c _ h) (by simp) (by simp; omega) (by intro s hs; simp at hs; subst hs; exact hm) (by intro l hl2; simp at hl2; subst hl2; intro e; have := flat_pos t; rw [e] at this; simp at this)).mono ?_
  intro e w' hg
  obtain ⟨B, d, he, hN, hb⟩ := hg.is rfl
  rw [objE_one hv] at he
  rw [objV_one hv] at he hN
  exact ⟨B, _, d, he, hN, hB.trans (hb.mono (by simp))⟩
theorem refList_one {t : Tr Nd} (hl : (flat t).length ≤ 60) (W : World) (A : Option Addr) (n c : Nat) (h : Nds W (.slice A n c) (flat t)) :
    Calls Try.prog 25 #[.slice (some ⟨W.heap.size, 0, none⟩) 1 1] (W.alloc (.cells #[.slice A n c] 23)) fun e w' => ∃ (B : Option Addr) (m d : Nat), e = .returned (.slice B m d) ∧ Nds w' (.slice B m d) (flat (arrT [t])) ∧ Below W.heap.size W w' := by
  have hB : Below W.heap.size W (W.alloc (.cells #[.slice A n c] 23)) := (Below.refl _ _).alloc (Nat.le_refl _) _
  refine (refList_any _ [flat t] _ (vls_one W A n c _ h) (by simp) (by simp; omega)).mono ?_
  intro e w' hg
  obtain ⟨B, d, he, hN, hb⟩ := hg.is rfl
  have hf : hdN 5 [flat t].length :: [flat t].flatten = flat (arrT [t]) := by rw [flat_arrT]; simp
  rw [hf] at he hN
  exact ⟨B, _, d, he, hN, hB.trans (hb.mono (by simp))⟩
theorem refList_two {t u : Tr Nd} (hl : (flat t).length ≤ 60) (hl2 : (flat u).length ≤ 60) (W : World) (A : Option Addr) (n c : Nat) (B : Option Addr) (m d : Nat) (h : Nds W (.slice A n c) (flat t)) (h2 : Nds W (.slice B m d) (flat u)) :
    Calls Try.prog 25 #[.slice (some ⟨W.heap.size, 0, none⟩) 2 2] (W.alloc (.cells #[.slice A n c, .slice B m d] 23)) fun e w' => ∃ (C : Option Addr) (k x : Nat), e = .returned (.slice C k x) ∧ Nds w' (.slice C k x) (flat (arrT [t, u])) ∧ Below W.heap.size W w' := by
  have hB : Below W.heap.size W (W.alloc (.cells #[.slice A n c, .slice B m d] 23)) := (Below.refl _ _).alloc (Nat.le_refl _) _
  refine (refList_any _ [flat t, flat u] _ (vls_two W _ rfl 23 _ _ _ _ h h2) (by simp) (by simp; omega)).mono ?_
  intro e w' hg
  obtain ⟨C, x, he, hN, hb⟩ := hg.is rfl
  have hf : hdN 5 [flat t, flat u].length :: [flat t, flat u].flatten = flat (arrT [t, u]) := by rw [flat_arrT]; simp [flats_cons]
  rw [hf] at he hN
  exact ⟨C, _, x, he, hN, hB.trans (hb.mono (by simp))⟩
/-- A short value. -/
def Sh60 (t : Tr Nd) : Prop := (flat t).length ≤ 60
theorem Sh60.len {t : Tr Nd} (h : Sh60 t) : (flat t).length ≤ 40000 := Nat.le_trans h (by decide)
theorem one_list_len {t : Tr Nd} (hl : (flat t).length ≤ 60) : (flat (arrT [t])).length ≤ 40000 := by rw [flat_arrT]; simp; omega
theorem two_list_len {t u : Tr Nd} (hl : (flat t).length ≤ 60) (hl2 : (flat u).length ≤ 60) : (flat (arrT [t, u])).length ≤ 40000 := by rw [flat_arrT]; simp [flats_cons]; omega
theorem one_obj_len {t : Tr Nd} (a : List UInt8) (hl : (flat t).length ≤ 60) : (flat (objT [nmd a t])).length ≤ 40000 := by rw [flat_objT]; simp [flat_nmd_len]; omega

set_option maxRecDepth 100000 in
set_option maxHeartbeats 8000000 in
theorem orderNested_few (v0 v1 : Value) (t u : Tr Nd) (a b : List UInt8) (w : World) (h0 : Nds w v0 (flat t)) (h1 : Nds w v1 (flat u)) (ht : Val t) (hu : Val u) (ha : (ByteArray.mk a.toArray).size ≤ maxLen) (hb : (ByteArray.mk b.toArray).size ≤ maxLen) (e0 : few 60 (flat t) = true) (e1 : few 60 (flat u) = true) (e2 : Lib.validD (ByteArray.mk a.toArray).data.toList = true) (e3 : Lib.validD (ByteArray.mk b.toArray).data.toList = true) :
    Calls Try.prog 8 #[v0, v1, .agg #[.string ⟨a.toArray⟩, .string ⟨b.toArray⟩]] w fun e w' => e = .returned (.bool true) ∧ Below w.heap.size w w' := by
  have HF0 := Lib.hid (fun (W : World) (hb : Below w.heap.size w W) => refFew_any v0 (flat t) 60 W (h0.below hb) (by decide))
  have HF1 := Lib.hid (fun (W : World) (hb : Below w.heap.size w W) => refFew_any v1 (flat u) 60 W (h1.below hb) (by decide))
  have HU0 := Lib.hid (fun (W : World) => refUtf_any ⟨a.toArray⟩ W ha)
  have HU1 := Lib.hid (fun (W : World) => refUtf_any ⟨b.toArray⟩ W hb)
  have HV0 := Lib.hid h0
  have HV1 := Lib.hid h1
  have HT := Lib.hid ht
  have HU := Lib.hid hu
  have HVA : Hid (vld a = true) := Lib.hid e2
  have HVB : Hid (vld b = true) := Lib.hid e3
  have HML : Hid (a.length ≤ maxLen ∧ b.length ≤ maxLen) := Lib.hid ⟨ha, hb⟩
  have HT6 : Hid (Sh60 t) := Lib.hid (ofew_all e0).1
  have HU6 : Hid (Sh60 u) := Lib.hid (ofew_all e1).1
  obtain ⟨A0, c0, rfl, -⟩ := h0
  obtain ⟨A1, c1, rfl, -⟩ := h1
  have HE0 := Lib.hid e0
  have HE1 := Lib.hid e1
  have HE2 := Lib.hid e2
  have HE3 := Lib.hid e3
  clear e0 e1 e2 e3 ht hu ha hb
  generalize (flat t).length = n0 at *
  generalize (flat u).length = n1 at *
  go_enter Try.func8, Try.ntmps8
  go_wp2_with fail
  have k0 : (w.alloc (.cells #[.string ⟨a.toArray⟩, .string ⟨b.toArray⟩] 42)).cell? ⟨w.heap.size, 0, none⟩ = some (.string ⟨a.toArray⟩) := by simp [World.cell?_alloc_new]
  have k1 : (w.alloc (.cells #[.string ⟨a.toArray⟩, .string ⟨b.toArray⟩] 42)).cell? ⟨w.heap.size, 1, none⟩ = some (.string ⟨b.toArray⟩) := by simp [World.cell?_alloc_new]
  have hWW : Below w.heap.size w (w.alloc (.cells #[.string ⟨a.toArray⟩, .string ⟨b.toArray⟩] 42)) := (Below.refl _ _).alloc (Nat.le_refl _) _
  have hlt : w.heap.size < (w.alloc (.cells #[.string ⟨a.toArray⟩, .string ⟨b.toArray⟩] 42)).heap.size := by simp
  generalize w.alloc (.cells #[.string ⟨a.toArray⟩, .string ⟨b.toArray⟩] 42) = W0 at *
  have HKP : Hid (∀ W, Below W0.heap.size W0 W → W.cell? ⟨w.heap.size, 0, none⟩ = some (.string ⟨a.toArray⟩) ∧ W.cell? ⟨w.heap.size, 1, none⟩ = some (.string ⟨b.toArray⟩) ∧ Below W0.heap.size W0 W) := Lib.hid fun W hb => ⟨(hb.cell (p := ⟨w.heap.size, 0, none⟩) hlt).trans k0, (hb.cell (p := ⟨w.heap.size, 1, none⟩) hlt).trans k1, hb⟩
  have HWW := Lib.hid hWW
  have HB0 := Lib.hid (Below.refl W0.heap.size W0)
  have HF0 : Hid (∀ W, Below W0.heap.size W0 W → _) := Lib.hid fun W hb => HF0.out W (HWW.out.trans (hb.mono HWW.out.size))
  have HF1 : Hid (∀ W, Below W0.heap.size W0 W → _) := Lib.hid fun W hb => HF1.out W (HWW.out.trans (hb.mono HWW.out.size))
  have HLT := Lib.hid hlt
  clear k0 k1 hWW hlt
  have HV0 : Hid (∀ W, Below W0.heap.size W0 W → _) := Lib.hid fun W hb => HV0.out.below (HWW.out.trans (hb.mono HWW.out.size))
  have HV1 : Hid (∀ W, Below W0.heap.size W0 W → _) := Lib.hid fun W hb => HV1.out.below (HWW.out.trans (hb.mono HWW.out.size))
  have HSA : Hid (∀ W, Below W0.heap.size W0 W → Sts W (.slice (some ⟨w.heap.size, 0, none⟩) 1 2) [a]) := Lib.hid fun W hb => Row.mk (l := [a]) (by simp) (by unfold maxLen; simp) (Nat.lt_of_lt_of_le HLT.out hb.size) (fun k x hk j y hy => by
    match k, hk with
    | 0, hk => simp at hk; subst hk; match j, hy with
      | 0, hy => simp [stc] at hy; subst hy; exact (HKP.out W hb).1
      | j + 1, hy => simp [stc] at hy
    | k + 1, hk => simp at hk)
  have HSB : Hid (∀ W, Below W0.heap.size W0 W → Sts W (.slice (some ⟨w.heap.size, 1, none⟩) 1 1) [b]) := Lib.hid fun W hb => Row.mk (l := [b]) (by simp) (by unfold maxLen; simp) (Nat.lt_of_lt_of_le HLT.out hb.size) (fun k x hk j y hy => by
    match k, hk with
    | 0, hk => simp at hk; subst hk; match j, hy with
      | 0, hy => simp [stc] at hy; subst hy; exact (HKP.out W hb).2.1
      | j + 1, hy => simp [stc] at hy
    | k + 1, hk => simp at hk)
  refine (HF0.out _ HB0.out).mono ?_
  rintro e w1 ⟨rfl, hb1⟩
  rw [HE0.out]
  have HB1 := Lib.hid (Below.after HB0.out hb1)
  clear hb1
  go_wp2_with fail
  refine (HF1.out _ HB1.out).mono ?_
  rintro e w2 ⟨rfl, hb2⟩
  rw [HE1.out]
  have HB2 := Lib.hid (Below.after HB1.out hb2)
  clear hb2
  obtain ⟨k0, k1, -⟩ := HKP.out _ HB2.out
  go_wp2_with fail
  have hE2 := HU0.out w2
  rw [HE2.out] at hE2
  refine hE2.mono ?_
  rintro e w22 ⟨rfl, rfl⟩
  clear hE2
  go_wp2_with fail
  have hE3 := HU1.out w2
  rw [HE3.out] at hE3
  refine hE3.mono ?_
  rintro e w23 ⟨rfl, rfl⟩
  clear hE3
  go_wp2_with fail
  refine (ordCmp_any _ _ t u _ (HV0.out _ HB2.out) (HV1.out _ HB2.out) HT.out HU.out HT6.out.len HU6.out.len).mono ?_
  rintro e w3 ⟨rfl, hb3⟩
  have HB3 := Lib.hid (Below.after HB2.out hb3)
  clear hb3
  go_wp2_with fail
  refine (refObj_one HT6.out HVA.out HML.out.1 w3 _ (HSA.out _ HB3.out) _ _ _ (HV0.out _ HB3.out)).mono ?_
  rintro e w4 ⟨Ap, np, cp, rfl, hp, hb4⟩
  have HB4 := Lib.hid (Below.after HB3.out hb4)
  have Hp4 := Lib.hid hp
  clear hp hb4
  go_wp2_with fail
  refine (refObj_one HU6.out HVA.out HML.out.1 w4 _ (HSA.out _ HB4.out) _ _ _ (HV1.out _ HB4.out)).mono ?_
  rintro e w5 ⟨Aq, nq, cq, rfl, hq, hb5⟩
  have HB5 := Lib.hid (Below.after HB4.out hb5)
  have Hp5 := Lib.hid (Hp4.out.below hb5)
  have Hq5 := Lib.hid hq
  clear hq hb5 Hp4
  go_wp2_with fail
  refine (refObj_one HU6.out HVB.out HML.out.2 w5 _ (HSB.out _ HB5.out) _ _ _ (HV1.out _ HB5.out)).mono ?_
  rintro e w6 ⟨Ar, nr, cr, rfl, hr, hb6⟩
  have HB6 := Lib.hid (Below.after HB5.out hb6)
  have Hp6 := Lib.hid (Hp5.out.below hb6)
  have Hq6 := Lib.hid (Hq5.out.below hb6)
  have Hr6 := Lib.hid hr
  clear hr hb6 Hp5 Hq5
  go_wp2_with fail
  refine (refList_one HT6.out w6 _ _ _ (HV0.out _ HB6.out)).mono ?_
  rintro e w7 ⟨Ao, no, co, rfl, ho, hb7⟩
  have HB7 := Lib.hid (Below.after HB6.out hb7)
  have Hp7 := Lib.hid (Hp6.out.below hb7)
  have Hq7 := Lib.hid (Hq6.out.below hb7)
  have Hr7 := Lib.hid (Hr6.out.below hb7)
  have Ho7 := Lib.hid ho
  clear ho hb7 Hp6 Hq6 Hr6
  go_wp2_with fail
  refine (refList_one HU6.out w7 _ _ _ (HV1.out _ HB7.out)).mono ?_
  rintro e w8 ⟨Ad, nd, cd, rfl, hd, hb8⟩
  have HB8 := Lib.hid (Below.after HB7.out hb8)
  have Hp8 := Lib.hid (Hp7.out.below hb8)
  have Hq8 := Lib.hid (Hq7.out.below hb8)
  have Hr8 := Lib.hid (Hr7.out.below hb8)
  have Ho8 := Lib.hid (Ho7.out.below hb8)
  have Hd8 := Lib.hid hd
  clear hd hb8 Hp7 Hq7 Hr7 Ho7
  go_wp2_with fail
  refine (refList_two HT6.out HU6.out w8 _ _ _ _ _ _ (HV0.out _ HB8.out) (HV1.out _ HB8.out)).mono ?_
  rintro e w9 ⟨Am, nm, cm, rfl, hm, hb9⟩
  have HB9 := Lib.hid (Below.after HB8.out hb9)
  have Hp9 := Lib.hid (Hp8.out.below hb9)
  have Hq9 := Lib.hid (Hq8.out.below hb9)
  have Hr9 := Lib.hid (Hr8.out.below hb9)
  have Ho9 := Lib.hid (Ho8.out.below hb9)
  have Hd9 := Lib.hid (Hd8.out.below hb9)
  have Hm9 := Lib.hid hm
  clear hm hb9 Hp8 Hq8 Hr8 Ho8 Hd8
  have HWW9 : Hid (Below w.heap.size w w9) := Lib.hid (HWW.out.trans (HB9.out.mono HWW.out.size))
  have HKP9 : Hid (∀ W, Below w9.heap.size w9 W → W.cell? ⟨w.heap.size, 0, none⟩ = some (.string ⟨a.toArray⟩) ∧ W.cell? ⟨w.heap.size, 1, none⟩ = some (.string ⟨b.toArray⟩) ∧ Below w9.heap.size w9 W) := Lib.hid fun W hb => ⟨(HKP.out W (Below.after HB9.out hb)).1, (HKP.out W (Below.after HB9.out hb)).2.1, hb⟩
  have HVa := Lib.hid (val_arrT (ts := [t]) (by intro x hx; simp at hx; subst hx; exact HT.out))
  have HVb := Lib.hid (val_arrT (ts := [u]) (by intro x hx; simp at hx; subst hx; exact HU.out))
  have HVc := Lib.hid (val_arrT (ts := [t, u]) (by intro x hx; simp at hx; rcases hx with rfl | rfl <;> first | exact HT.out | exact HU.out))
  have HVp := Lib.hid (one_obj_val HVA.out HT.out)
  have HVq := Lib.hid (one_obj_val HVA.out HU.out)
  have HVr := Lib.hid (one_obj_val HVB.out HU.out)
  have HCod := Lib.hid (fun (W : World) (hb : Below w9.heap.size w9 W) => ordCmp_any _ _ _ _ W (Ho9.out.below hb) (Hd9.out.below hb) HVa.out HVb.out (one_list_len HT6.out) (one_list_len HU6.out))
  have HCpq := Lib.hid (fun (W : World) (hb : Below w9.heap.size w9 W) => ordCmp_any _ _ _ _ W (Hp9.out.below hb) (Hq9.out.below hb) HVp.out HVq.out (one_obj_len a HT6.out) (one_obj_len a HU6.out))
  have HCom := Lib.hid (fun (W : World) (hb : Below w9.heap.size w9 W) => ordCmp_any _ _ _ _ W (Ho9.out.below hb) (Hm9.out.below hb) HVa.out HVc.out (one_list_len HT6.out) (two_list_len HT6.out HU6.out))
  have HCpr := Lib.hid (fun (W : World) (hb : Below w9.heap.size w9 W) => ordCmp_any _ _ _ _ W (Hp9.out.below hb) (Hr9.out.below hb) HVp.out HVr.out (one_obj_len a HT6.out) (one_obj_len b HU6.out))
  have HCop := Lib.hid (fun (W : World) (hb : Below w9.heap.size w9 W) => ordCmp_any _ _ _ _ W (Ho9.out.below hb) (Hp9.out.below hb) HVa.out HVp.out (one_list_len HT6.out) (one_obj_len a HT6.out))
  rw [cmp_list_one] at HCod
  rw [cmp_obj_same] at HCpq
  rw [cmp_list_more] at HCom
  rw [cmp_list_obj] at HCop
  have HLS : Hid (a ≠ b → (cmpT (objT [nmd a t]) (objT [nmd b u]) < 0 ↔ a < b)) := Lib.hid fun h => cmp_obj_less h t u
  generalize cmpT (objT [nmd a t]) (objT [nmd b u]) = q9 at *
  generalize cmpT t u = q0 at *
  have HB9' := Lib.hid (Below.refl w9.heap.size w9)
  clear Ho9 Hd9 Hp9 Hq9 Hm9 Hr9 HVa HVb HVc HVp HVq HVr
  go_wp2_with fail
  refine (HCod.out _ HB9'.out).mono ?_
  rintro e w10 ⟨rfl, hb10⟩
  have HB10 := Lib.hid (Below.after HB9'.out hb10)
  clear hb10
  go_wp2_with fail
  refine (HCpq.out _ HB10.out).mono ?_
  rintro e w11 ⟨rfl, hb11⟩
  have HB11 := Lib.hid (Below.after HB10.out hb11)
  clear hb11
  go_wp2_with fail
  refine (HCom.out _ HB11.out).mono ?_
  rintro e w12 ⟨rfl, hb12⟩
  have HB12 := Lib.hid (Below.after HB11.out hb12)
  clear hb12
  go_upto_region 11 with fail
  obtain ⟨k0, k1, -⟩ := HKP9.out _ HB12.out
  by_cases hab : a = b
  · have hab2 : (a == b) = true := by simpa using hab
    clear hab
    refine wp_region_held_drew (S := (fun w' => w'.cell? ⟨w.heap.size, 0, none⟩ = some (.string ⟨a.toArray⟩) ∧ w'.cell? ⟨w.heap.size, 1, none⟩ = some (.string ⟨b.toArray⟩) ∧ Below w9.heap.size w9 w')) (by kernel_rfl) (HKP9.out _ HB12.out.drew) (fun hH => ?_)
    refine wpAnyH_ready (rs := [0]) (by kernel_rfl) (by simp) ?_
    refine AllReadyH.cons rfl (fun K0 hK0 => ?_) AllReadyH.nil
    go_simp
    go_at_call 11
    refine (oalive_any _).mono ?_
    rintro e w20 ⟨rfl, hb20⟩
    have HB20 := Lib.hid (Below.after HB12.out.drew hb20)
    go_wp2_with fail
    refine hK0.out _ _ (HKP9.out _ HB20.out) (fun hHeld0 => ?_)
    clear hK0 K0
    try simp only [Act.put, List.getElem_toArray, List.getElem_cons_succ, List.getElem_cons_zero, List.setIfInBounds_toArray, List.set_cons_zero, List.set_cons_succ]
    refine wpAnyH_take (i := 1) (v := .bool true) rfl (by kernel_rfl) (by kernel_rfl) (by kernel_rfl) (fun _ _ _ h => h) (Or.inl ⟨by kernel_rfl, ?_⟩) (by assumption) ?_
    · intro w' hSw; (try dsimp only at hSw); go_simp
    try simp only [Act.put, List.getElem_toArray, List.getElem_cons_succ, List.getElem_cons_zero, List.setIfInBounds_toArray, List.set_cons_zero, List.set_cons_succ]
    refine wpAnyH_take (i := 2) (v := .pointer (some ⟨w.heap.size, 0, none⟩)) rfl (by kernel_rfl) (by kernel_rfl) (by kernel_rfl) (fun _ _ _ h => h) (Or.inl ⟨by kernel_rfl, ?_⟩) (by assumption) ?_
    · intro w' hSw; (try dsimp only at hSw); go_simp
    try simp only [Act.put, List.getElem_toArray, List.getElem_cons_succ, List.getElem_cons_zero, List.setIfInBounds_toArray, List.set_cons_zero, List.set_cons_succ]
    refine wpAnyH_take (i := 3) (v := .string ⟨a.toArray⟩) rfl (by kernel_rfl) (by kernel_rfl) (by kernel_rfl) (fun _ _ _ h => h) (Or.inl ⟨by kernel_rfl, ?_⟩) (by assumption) ?_
    · intro w' hSw; (try dsimp only at hSw); go_simp
    try simp only [Act.put, List.getElem_toArray, List.getElem_cons_succ, List.getElem_cons_zero, List.setIfInBounds_toArray, List.set_cons_zero, List.set_cons_succ]
    refine wpAnyH_take (i := 4) (v := .pointer (some ⟨w.heap.size, 1, none⟩)) rfl (by kernel_rfl) (by kernel_rfl) (by kernel_rfl) (fun _ _ _ h => h) (Or.inl ⟨by kernel_rfl, ?_⟩) (by assumption) ?_
    · intro w' hSw; (try dsimp only at hSw); go_simp
    try simp only [Act.put, List.getElem_toArray, List.getElem_cons_succ, List.getElem_cons_zero, List.setIfInBounds_toArray, List.set_cons_zero, List.set_cons_succ]
    refine wpAnyH_take (i := 5) (v := .string ⟨b.toArray⟩) rfl (by kernel_rfl) (by kernel_rfl) (by kernel_rfl) (fun _ _ _ h => h) (Or.inl ⟨by kernel_rfl, ?_⟩) (by assumption) ?_
    · intro w' hSw; (try dsimp only at hSw); go_simp
    try simp only [Act.put, List.getElem_toArray, List.getElem_cons_succ, List.getElem_cons_zero, List.setIfInBounds_toArray, List.set_cons_zero, List.set_cons_succ]
    refine wpAnyH_take (i := 6) (v := .bool true) rfl (by kernel_rfl) (by kernel_rfl) (by kernel_rfl) (fun _ _ _ h => h) (Or.inl ⟨by kernel_rfl, ?_⟩) (by assumption) ?_
    · intro w' hSw; (try dsimp only at hSw); go_simp
    try simp only [Act.put, List.getElem_toArray, List.getElem_cons_succ, List.getElem_cons_zero, List.setIfInBounds_toArray, List.set_cons_zero, List.set_cons_succ]
    refine wpAnyH_take (i := 7) (v := .bool true) rfl (by kernel_rfl) (by kernel_rfl) (by kernel_rfl) (fun _ _ _ h => h) (Or.inl ⟨by kernel_rfl, ?_⟩) (by assumption) ?_
    · intro w' hSw; (try dsimp only at hSw); go_simp
    try simp only [Act.put, List.getElem_toArray, List.getElem_cons_succ, List.getElem_cons_zero, List.setIfInBounds_toArray, List.set_cons_zero, List.set_cons_succ]
    refine wpAnyH_take (i := 8) (v := undef) rfl (by kernel_rfl) (by kernel_rfl) (by kernel_rfl) (fun _ _ _ h => h) (Or.inr ⟨by kernel_rfl, rfl⟩) (by assumption) ?_
    try simp only [Act.put, List.getElem_toArray, List.getElem_cons_succ, List.getElem_cons_zero, List.setIfInBounds_toArray, List.set_cons_zero, List.set_cons_succ]
    refine wpAnyH_take (i := 9) (v := undef) rfl (by kernel_rfl) (by kernel_rfl) (by kernel_rfl) (fun _ _ _ h => h) (Or.inr ⟨by kernel_rfl, rfl⟩) (by assumption) ?_
    try simp only [Act.put, List.getElem_toArray, List.getElem_cons_succ, List.getElem_cons_zero, List.setIfInBounds_toArray, List.set_cons_zero, List.set_cons_succ]
    refine wpAnyH_take (i := 10) (v := undef) rfl (by kernel_rfl) (by kernel_rfl) (by kernel_rfl) (fun _ _ _ h => h) (Or.inr ⟨by kernel_rfl, rfl⟩) (by assumption) ?_
    try simp only [Act.put, List.getElem_toArray, List.getElem_cons_succ, List.getElem_cons_zero, List.setIfInBounds_toArray, List.set_cons_zero, List.set_cons_succ]
    refine wpAnyH_take (i := 11) (v := undef) rfl (by kernel_rfl) (by kernel_rfl) (by kernel_rfl) (fun _ _ _ h => h) (Or.inr ⟨by kernel_rfl, rfl⟩) (by assumption) ?_
    try simp only [Act.put, List.getElem_toArray, List.getElem_cons_succ, List.getElem_cons_zero, List.setIfInBounds_toArray, List.set_cons_zero, List.set_cons_succ]
    refine wpAnyH_take (i := 12) (v := undef) rfl (by kernel_rfl) (by kernel_rfl) (by kernel_rfl) (fun _ _ _ h => h) (Or.inr ⟨by kernel_rfl, rfl⟩) (by assumption) ?_
    try simp only [Act.put, List.getElem_toArray, List.getElem_cons_succ, List.getElem_cons_zero, List.setIfInBounds_toArray, List.set_cons_zero, List.set_cons_succ]
    refine wpAnyH_take (i := 13) (v := undef) rfl (by kernel_rfl) (by kernel_rfl) (by kernel_rfl) (fun _ _ _ h => h) (Or.inr ⟨by kernel_rfl, rfl⟩) (by assumption) ?_
    try simp only [Act.put, List.getElem_toArray, List.getElem_cons_succ, List.getElem_cons_zero, List.setIfInBounds_toArray, List.set_cons_zero, List.set_cons_succ]
    refine wpAnyH_take (i := 14) (v := undef) rfl (by kernel_rfl) (by kernel_rfl) (by kernel_rfl) (fun _ _ _ h => h) (Or.inr ⟨by kernel_rfl, rfl⟩) (by assumption) ?_
    try simp only [Act.put, List.getElem_toArray, List.getElem_cons_succ, List.getElem_cons_zero, List.setIfInBounds_toArray, List.set_cons_zero, List.set_cons_succ]
    refine wpAnyH_take (i := 15) (v := undef) rfl (by kernel_rfl) (by kernel_rfl) (by kernel_rfl) (fun _ _ _ h => h) (Or.inr ⟨by kernel_rfl, rfl⟩) (by assumption) ?_
    try simp only [Act.put, List.getElem_toArray, List.getElem_cons_succ, List.getElem_cons_zero, List.setIfInBounds_toArray, List.set_cons_zero, List.set_cons_succ]
    refine wpAnyH_take (i := 16) (v := undef) rfl (by kernel_rfl) (by kernel_rfl) (by kernel_rfl) (fun _ _ _ h => h) (Or.inr ⟨by kernel_rfl, rfl⟩) (by assumption) ?_
    try simp only [Act.put, List.getElem_toArray, List.getElem_cons_succ, List.getElem_cons_zero, List.setIfInBounds_toArray, List.set_cons_zero, List.set_cons_succ]
    refine wpAnyH_take (i := 17) (v := undef) rfl (by kernel_rfl) (by kernel_rfl) (by kernel_rfl) (fun _ _ _ h => h) (Or.inr ⟨by kernel_rfl, rfl⟩) (by assumption) ?_
    try simp only [Act.put, List.getElem_toArray, List.getElem_cons_succ, List.getElem_cons_zero, List.setIfInBounds_toArray, List.set_cons_zero, List.set_cons_succ]
    refine wpAnyH_take (i := 18) (v := .bool true) rfl (by kernel_rfl) (by kernel_rfl) (by kernel_rfl) (fun _ _ _ h => h) (Or.inl ⟨by kernel_rfl, ?_⟩) (by assumption) ?_
    · intro w' hSw; (try dsimp only at hSw); go_simp
    try simp only [Act.put, List.getElem_toArray, List.getElem_cons_succ, List.getElem_cons_zero, List.setIfInBounds_toArray, List.set_cons_zero, List.set_cons_succ]
    refine wpAnyH_take (i := 19) (v := .bool true) rfl (by kernel_rfl) (by kernel_rfl) (by kernel_rfl) (fun _ _ _ h => h) (Or.inl ⟨by kernel_rfl, ?_⟩) (by assumption) ?_
    · intro w' hSw; (try dsimp only at hSw); go_simp
    try simp only [Act.put, List.getElem_toArray, List.getElem_cons_succ, List.getElem_cons_zero, List.setIfInBounds_toArray, List.set_cons_zero, List.set_cons_succ]
    refine wpAnyH_take (i := 20) (v := .bool true) rfl (by kernel_rfl) (by kernel_rfl) (by kernel_rfl) (fun _ _ _ h => h) (Or.inl ⟨by kernel_rfl, ?_⟩) (by assumption) ?_
    · intro w' hSw; (try dsimp only at hSw); go_simp
    try simp only [Act.put, List.getElem_toArray, List.getElem_cons_succ, List.getElem_cons_zero, List.setIfInBounds_toArray, List.set_cons_zero, List.set_cons_succ]
    refine wpAnyH_take (i := 21) (v := .slice Ao no co) rfl (by kernel_rfl) (by kernel_rfl) (by kernel_rfl) (fun _ _ _ h => h) (Or.inl ⟨by kernel_rfl, ?_⟩) (by assumption) ?_
    · intro w' hSw; (try dsimp only at hSw); go_simp
    try simp only [Act.put, List.getElem_toArray, List.getElem_cons_succ, List.getElem_cons_zero, List.setIfInBounds_toArray, List.set_cons_zero, List.set_cons_succ]
    refine wpAnyH_take (i := 22) (v := .slice Ap np cp) rfl (by kernel_rfl) (by kernel_rfl) (by kernel_rfl) (fun _ _ _ h => h) (Or.inl ⟨by kernel_rfl, ?_⟩) (by assumption) ?_
    · intro w' hSw; (try dsimp only at hSw); go_simp
    try simp only [Act.put, List.getElem_toArray, List.getElem_cons_succ, List.getElem_cons_zero, List.setIfInBounds_toArray, List.set_cons_zero, List.set_cons_succ]
    refine wpAnyH_ready (rs := [23]) (by kernel_rfl) (by simp) ?_
    refine AllReadyH.cons rfl (fun K23 hK23 => ?_) AllReadyH.nil
    go_simp
    go_at_call 12
    refine (HCop.out _ HB20.out).mono ?_
    rintro e wHB22 ⟨rfl, hbHB22⟩
    have HB22 := Lib.hid (Below.after HB20.out hbHB22)
    go_wp2_with fail
    refine hK23.out _ _ (HKP9.out _ HB22.out) (fun hHeld23 => ?_)
    clear hK23 K23
    try simp only [Act.put, List.getElem_toArray, List.getElem_cons_succ, List.getElem_cons_zero, List.setIfInBounds_toArray, List.set_cons_zero, List.set_cons_succ]
    refine wpAnyH_take (i := 24) (v := .bool true) rfl (by kernel_rfl) (by kernel_rfl) (by kernel_rfl) (fun _ _ _ h => h) (Or.inl ⟨by kernel_rfl, ?_⟩) (by assumption) ?_
    · intro w' hSw; (try dsimp only at hSw); go_simp
    try simp only [Act.put, List.getElem_toArray, List.getElem_cons_succ, List.getElem_cons_zero, List.setIfInBounds_toArray, List.set_cons_zero, List.set_cons_succ]
    refine wpAnyH_take (i := 25) (v := .bool true) rfl (by kernel_rfl) (by kernel_rfl) (by kernel_rfl) (fun _ _ _ h => h) (Or.inl ⟨by kernel_rfl, ?_⟩) (by assumption) ?_
    · intro w' hSw; (try dsimp only at hSw); go_simp
    try simp only [Act.put, List.getElem_toArray, List.getElem_cons_succ, List.getElem_cons_zero, List.setIfInBounds_toArray, List.set_cons_zero, List.set_cons_succ]
    refine wpAnyH_take (i := 26) (v := .bool true) rfl (by kernel_rfl) (by kernel_rfl) (by kernel_rfl) (fun _ _ _ h => h) (Or.inl ⟨by kernel_rfl, ?_⟩) (by assumption) ?_
    · intro w' hSw; (try dsimp only at hSw); go_simp
    try simp only [Act.put, List.getElem_toArray, List.getElem_cons_succ, List.getElem_cons_zero, List.setIfInBounds_toArray, List.set_cons_zero, List.set_cons_succ]
    refine wpAnyH_done (by kernel_rfl) ?_ _
    go_wp2_with fail
    go_ret
    exact ⟨rfl, HWW9.out.trans (HB22.out.mono HWW9.out.size)⟩
  · have hab2 : (a == b) = false := by simpa using hab
    have hq9 : (decide (q9 < 0) == Op.bytesLess a b) = true := by
      have := HLS.out hab
      rw [bytesLess_eq]
      simpa using this
    clear hab
    refine wp_region_held_drew (S := (fun w' => w'.cell? ⟨w.heap.size, 0, none⟩ = some (.string ⟨a.toArray⟩) ∧ w'.cell? ⟨w.heap.size, 1, none⟩ = some (.string ⟨b.toArray⟩) ∧ Below w9.heap.size w9 w')) (by kernel_rfl) (HKP9.out _ HB12.out.drew) (fun hH => ?_)
    refine wpAnyH_ready (rs := [0]) (by kernel_rfl) (by simp) ?_
    refine AllReadyH.cons rfl (fun K0 hK0 => ?_) AllReadyH.nil
    go_simp
    go_at_call 11
    refine (oalive_any _).mono ?_
    rintro e w20 ⟨rfl, hb20⟩
    have HB20 := Lib.hid (Below.after HB12.out.drew hb20)
    go_wp2_with fail
    refine hK0.out _ _ (HKP9.out _ HB20.out) (fun hHeld0 => ?_)
    clear hK0 K0
    try simp only [Act.put, List.getElem_toArray, List.getElem_cons_succ, List.getElem_cons_zero, List.setIfInBounds_toArray, List.set_cons_zero, List.set_cons_succ]
    refine wpAnyH_take (i := 1) (v := .bool true) rfl (by kernel_rfl) (by kernel_rfl) (by kernel_rfl) (fun _ _ _ h => h) (Or.inl ⟨by kernel_rfl, ?_⟩) (by assumption) ?_
    · intro w' hSw; (try dsimp only at hSw); go_simp
    try simp only [Act.put, List.getElem_toArray, List.getElem_cons_succ, List.getElem_cons_zero, List.setIfInBounds_toArray, List.set_cons_zero, List.set_cons_succ]
    refine wpAnyH_take (i := 2) (v := .pointer (some ⟨w.heap.size, 0, none⟩)) rfl (by kernel_rfl) (by kernel_rfl) (by kernel_rfl) (fun _ _ _ h => h) (Or.inl ⟨by kernel_rfl, ?_⟩) (by assumption) ?_
    · intro w' hSw; (try dsimp only at hSw); go_simp
    try simp only [Act.put, List.getElem_toArray, List.getElem_cons_succ, List.getElem_cons_zero, List.setIfInBounds_toArray, List.set_cons_zero, List.set_cons_succ]
    refine wpAnyH_take (i := 3) (v := .string ⟨a.toArray⟩) rfl (by kernel_rfl) (by kernel_rfl) (by kernel_rfl) (fun _ _ _ h => h) (Or.inl ⟨by kernel_rfl, ?_⟩) (by assumption) ?_
    · intro w' hSw; (try dsimp only at hSw); go_simp
    try simp only [Act.put, List.getElem_toArray, List.getElem_cons_succ, List.getElem_cons_zero, List.setIfInBounds_toArray, List.set_cons_zero, List.set_cons_succ]
    refine wpAnyH_take (i := 4) (v := .pointer (some ⟨w.heap.size, 1, none⟩)) rfl (by kernel_rfl) (by kernel_rfl) (by kernel_rfl) (fun _ _ _ h => h) (Or.inl ⟨by kernel_rfl, ?_⟩) (by assumption) ?_
    · intro w' hSw; (try dsimp only at hSw); go_simp
    try simp only [Act.put, List.getElem_toArray, List.getElem_cons_succ, List.getElem_cons_zero, List.setIfInBounds_toArray, List.set_cons_zero, List.set_cons_succ]
    refine wpAnyH_take (i := 5) (v := .string ⟨b.toArray⟩) rfl (by kernel_rfl) (by kernel_rfl) (by kernel_rfl) (fun _ _ _ h => h) (Or.inl ⟨by kernel_rfl, ?_⟩) (by assumption) ?_
    · intro w' hSw; (try dsimp only at hSw); go_simp
    try simp only [Act.put, List.getElem_toArray, List.getElem_cons_succ, List.getElem_cons_zero, List.setIfInBounds_toArray, List.set_cons_zero, List.set_cons_succ]
    refine wpAnyH_take (i := 6) (v := .bool false) rfl (by kernel_rfl) (by kernel_rfl) (by kernel_rfl) (fun _ _ _ h => h) (Or.inl ⟨by kernel_rfl, ?_⟩) (by assumption) ?_
    · intro w' hSw; (try dsimp only at hSw); go_simp
    try simp only [Act.put, List.getElem_toArray, List.getElem_cons_succ, List.getElem_cons_zero, List.setIfInBounds_toArray, List.set_cons_zero, List.set_cons_succ]
    refine wpAnyH_take (i := 7) (v := .bool false) rfl (by kernel_rfl) (by kernel_rfl) (by kernel_rfl) (fun _ _ _ h => h) (Or.inl ⟨by kernel_rfl, ?_⟩) (by assumption) ?_
    · intro w' hSw; (try dsimp only at hSw); go_simp
    try simp only [Act.put, List.getElem_toArray, List.getElem_cons_succ, List.getElem_cons_zero, List.setIfInBounds_toArray, List.set_cons_zero, List.set_cons_succ]
    refine wpAnyH_take (i := 8) (v := .slice Ap np cp) rfl (by kernel_rfl) (by kernel_rfl) (by kernel_rfl) (fun _ _ _ h => h) (Or.inl ⟨by kernel_rfl, ?_⟩) (by assumption) ?_
    · intro w' hSw; (try dsimp only at hSw); go_simp
    try simp only [Act.put, List.getElem_toArray, List.getElem_cons_succ, List.getElem_cons_zero, List.setIfInBounds_toArray, List.set_cons_zero, List.set_cons_succ]
    refine wpAnyH_take (i := 9) (v := .slice Ar nr cr) rfl (by kernel_rfl) (by kernel_rfl) (by kernel_rfl) (fun _ _ _ h => h) (Or.inl ⟨by kernel_rfl, ?_⟩) (by assumption) ?_
    · intro w' hSw; (try dsimp only at hSw); go_simp
    try simp only [Act.put, List.getElem_toArray, List.getElem_cons_succ, List.getElem_cons_zero, List.setIfInBounds_toArray, List.set_cons_zero, List.set_cons_succ]
    refine wpAnyH_take (i := 12) (v := .pointer (some ⟨w.heap.size, 0, none⟩)) rfl (by kernel_rfl) (by kernel_rfl) (by kernel_rfl) (fun _ _ _ h => h) (Or.inl ⟨by kernel_rfl, ?_⟩) (by assumption) ?_
    · intro w' hSw; (try dsimp only at hSw); go_simp
    try simp only [Act.put, List.getElem_toArray, List.getElem_cons_succ, List.getElem_cons_zero, List.setIfInBounds_toArray, List.set_cons_zero, List.set_cons_succ]
    refine wpAnyH_take (i := 13) (v := .string ⟨a.toArray⟩) rfl (by kernel_rfl) (by kernel_rfl) (by kernel_rfl) (fun _ _ _ h => h) (Or.inl ⟨by kernel_rfl, ?_⟩) (by assumption) ?_
    · intro w' hSw; (try dsimp only at hSw); go_simp
    try simp only [Act.put, List.getElem_toArray, List.getElem_cons_succ, List.getElem_cons_zero, List.setIfInBounds_toArray, List.set_cons_zero, List.set_cons_succ]
    refine wpAnyH_take (i := 14) (v := .pointer (some ⟨w.heap.size, 1, none⟩)) rfl (by kernel_rfl) (by kernel_rfl) (by kernel_rfl) (fun _ _ _ h => h) (Or.inl ⟨by kernel_rfl, ?_⟩) (by assumption) ?_
    · intro w' hSw; (try dsimp only at hSw); go_simp
    try simp only [Act.put, List.getElem_toArray, List.getElem_cons_succ, List.getElem_cons_zero, List.setIfInBounds_toArray, List.set_cons_zero, List.set_cons_succ]
    refine wpAnyH_take (i := 15) (v := .string ⟨b.toArray⟩) rfl (by kernel_rfl) (by kernel_rfl) (by kernel_rfl) (fun _ _ _ h => h) (Or.inl ⟨by kernel_rfl, ?_⟩) (by assumption) ?_
    · intro w' hSw; (try dsimp only at hSw); go_simp
    try simp only [Act.put, List.getElem_toArray, List.getElem_cons_succ, List.getElem_cons_zero, List.setIfInBounds_toArray, List.set_cons_zero, List.set_cons_succ]
    refine wpAnyH_take (i := 16) (v := .bool (Op.bytesLess a b)) rfl (by kernel_rfl) (by kernel_rfl) (by kernel_rfl) (fun _ _ _ h => h) (Or.inl ⟨by kernel_rfl, ?_⟩) (by assumption) ?_
    · intro w' hSw; (try dsimp only at hSw); go_simp
    try simp only [Act.put, List.getElem_toArray, List.getElem_cons_succ, List.getElem_cons_zero, List.setIfInBounds_toArray, List.set_cons_zero, List.set_cons_succ]
    refine wpAnyH_ready (rs := [10]) (by kernel_rfl) (by simp) ?_
    refine AllReadyH.cons rfl (fun K10 hK10 => ?_) AllReadyH.nil
    go_simp
    go_at_call 12
    refine (HCpr.out _ HB20.out).mono ?_
    rintro e wHB21 ⟨rfl, hbHB21⟩
    have HB21 := Lib.hid (Below.after HB20.out hbHB21)
    go_wp2_with fail
    refine hK10.out _ _ (HKP9.out _ HB21.out) (fun hHeld10 => ?_)
    clear hK10 K10
    try simp only [Act.put, List.getElem_toArray, List.getElem_cons_succ, List.getElem_cons_zero, List.setIfInBounds_toArray, List.set_cons_zero, List.set_cons_succ]
    refine wpAnyH_take (i := 11) (v := .bool (decide (q9 < 0))) rfl (by kernel_rfl) (by kernel_rfl) (by kernel_rfl) (fun _ _ _ h => h) (Or.inl ⟨by kernel_rfl, ?_⟩) (by assumption) ?_
    · intro w' hSw; (try dsimp only at hSw); go_simp
    try simp only [Act.put, List.getElem_toArray, List.getElem_cons_succ, List.getElem_cons_zero, List.setIfInBounds_toArray, List.set_cons_zero, List.set_cons_succ]
    refine wpAnyH_take (i := 17) (v := .bool true) rfl (by kernel_rfl) (by kernel_rfl) (by kernel_rfl) (fun _ _ _ h => h) (Or.inl ⟨by kernel_rfl, ?_⟩) (by assumption) ?_
    · intro w' hSw; (try dsimp only at hSw); go_simp
    try simp only [Act.put, List.getElem_toArray, List.getElem_cons_succ, List.getElem_cons_zero, List.setIfInBounds_toArray, List.set_cons_zero, List.set_cons_succ]
    refine wpAnyH_take (i := 18) (v := .bool true) rfl (by kernel_rfl) (by kernel_rfl) (by kernel_rfl) (fun _ _ _ h => h) (Or.inl ⟨by kernel_rfl, ?_⟩) (by assumption) ?_
    · intro w' hSw; (try dsimp only at hSw); go_simp
    try simp only [Act.put, List.getElem_toArray, List.getElem_cons_succ, List.getElem_cons_zero, List.setIfInBounds_toArray, List.set_cons_zero, List.set_cons_succ]
    refine wpAnyH_take (i := 19) (v := .bool true) rfl (by kernel_rfl) (by kernel_rfl) (by kernel_rfl) (fun _ _ _ h => h) (Or.inl ⟨by kernel_rfl, ?_⟩) (by assumption) ?_
    · intro w' hSw; (try dsimp only at hSw); go_simp
    try simp only [Act.put, List.getElem_toArray, List.getElem_cons_succ, List.getElem_cons_zero, List.setIfInBounds_toArray, List.set_cons_zero, List.set_cons_succ]
    refine wpAnyH_take (i := 20) (v := .bool true) rfl (by kernel_rfl) (by kernel_rfl) (by kernel_rfl) (fun _ _ _ h => h) (Or.inl ⟨by kernel_rfl, ?_⟩) (by assumption) ?_
    · intro w' hSw; (try dsimp only at hSw); go_simp
    try simp only [Act.put, List.getElem_toArray, List.getElem_cons_succ, List.getElem_cons_zero, List.setIfInBounds_toArray, List.set_cons_zero, List.set_cons_succ]
    refine wpAnyH_take (i := 21) (v := .slice Ao no co) rfl (by kernel_rfl) (by kernel_rfl) (by kernel_rfl) (fun _ _ _ h => h) (Or.inl ⟨by kernel_rfl, ?_⟩) (by assumption) ?_
    · intro w' hSw; (try dsimp only at hSw); go_simp
    try simp only [Act.put, List.getElem_toArray, List.getElem_cons_succ, List.getElem_cons_zero, List.setIfInBounds_toArray, List.set_cons_zero, List.set_cons_succ]
    refine wpAnyH_take (i := 22) (v := .slice Ap np cp) rfl (by kernel_rfl) (by kernel_rfl) (by kernel_rfl) (fun _ _ _ h => h) (Or.inl ⟨by kernel_rfl, ?_⟩) (by assumption) ?_
    · intro w' hSw; (try dsimp only at hSw); go_simp
    try simp only [Act.put, List.getElem_toArray, List.getElem_cons_succ, List.getElem_cons_zero, List.setIfInBounds_toArray, List.set_cons_zero, List.set_cons_succ]
    refine wpAnyH_ready (rs := [23]) (by kernel_rfl) (by simp) ?_
    refine AllReadyH.cons rfl (fun K23 hK23 => ?_) AllReadyH.nil
    go_simp
    go_at_call 12
    refine (HCop.out _ HB21.out).mono ?_
    rintro e wHB22 ⟨rfl, hbHB22⟩
    have HB22 := Lib.hid (Below.after HB21.out hbHB22)
    go_wp2_with fail
    refine hK23.out _ _ (HKP9.out _ HB22.out) (fun hHeld23 => ?_)
    clear hK23 K23
    try simp only [Act.put, List.getElem_toArray, List.getElem_cons_succ, List.getElem_cons_zero, List.setIfInBounds_toArray, List.set_cons_zero, List.set_cons_succ]
    refine wpAnyH_take (i := 24) (v := .bool true) rfl (by kernel_rfl) (by kernel_rfl) (by kernel_rfl) (fun _ _ _ h => h) (Or.inl ⟨by kernel_rfl, ?_⟩) (by assumption) ?_
    · intro w' hSw; (try dsimp only at hSw); go_simp
    try simp only [Act.put, List.getElem_toArray, List.getElem_cons_succ, List.getElem_cons_zero, List.setIfInBounds_toArray, List.set_cons_zero, List.set_cons_succ]
    refine wpAnyH_take (i := 25) (v := .bool true) rfl (by kernel_rfl) (by kernel_rfl) (by kernel_rfl) (fun _ _ _ h => h) (Or.inl ⟨by kernel_rfl, ?_⟩) (by assumption) ?_
    · intro w' hSw; (try dsimp only at hSw); go_simp
    try simp only [Act.put, List.getElem_toArray, List.getElem_cons_succ, List.getElem_cons_zero, List.setIfInBounds_toArray, List.set_cons_zero, List.set_cons_succ]
    refine wpAnyH_take (i := 26) (v := .bool true) rfl (by kernel_rfl) (by kernel_rfl) (by kernel_rfl) (fun _ _ _ h => h) (Or.inl ⟨by kernel_rfl, ?_⟩) (by assumption) ?_
    · intro w' hSw; (try dsimp only at hSw); go_simp
    try simp only [Act.put, List.getElem_toArray, List.getElem_cons_succ, List.getElem_cons_zero, List.setIfInBounds_toArray, List.set_cons_zero, List.set_cons_succ]
    refine wpAnyH_done (by kernel_rfl) ?_ _
    go_wp2_with fail
    go_ret
    exact ⟨rfl, HWW9.out.trans (HB22.out.mono HWW9.out.size)⟩

theorem orderNested_any (v0 v1 : Value) (l0 l1 : List Nd) (s u : ByteArray) (w : World) (h0 : Nds w v0 l0) (h1 : Nds w v1 l1) (hs : s.size ≤ maxLen) (hu : u.size ≤ maxLen) :
    Calls Try.prog 8 #[v0, v1, .agg #[.string s, .string u]] w fun e w' => e = .returned (.bool true) ∧ Below w.heap.size w w' := by
  obtain ⟨a, rfl⟩ : ∃ a : List UInt8, s = ⟨a.toArray⟩ := ⟨s.data.toList, ba_eq s⟩
  obtain ⟨b, rfl⟩ : ∃ b : List UInt8, u = ⟨b.toArray⟩ := ⟨u.data.toList, ba_eq u⟩
  cases e0 : few 60 l0 with
  | false => exact orderNested_short0 v0 v1 l0 l1 a b w h0 h1 hs hu e0
  | true =>
    cases e1 : few 60 l1 with
    | false => exact orderNested_short1 v0 v1 l0 l1 a b w h0 h1 hs hu e0 e1
    | true =>
      cases e2 : Lib.validD (ByteArray.mk a.toArray).data.toList with
      | false => exact orderNested_short2 v0 v1 l0 l1 a b w h0 h1 hs hu e0 e1 e2
      | true =>
        cases e3 : Lib.validD (ByteArray.mk b.toArray).data.toList with
        | false => exact orderNested_short3 v0 v1 l0 l1 a b w h0 h1 hs hu e0 e1 e2 e3
        | true =>
          obtain ⟨t, ht, rfl, -⟩ := few_tree e0
          obtain ⟨u, hu', rfl, -⟩ := few_tree e1
          exact orderNested_few v0 v1 t u a b w h0 h1 ht hu' hs hu e0 e1 e2 e3
end Go.Proofs.Ytbffeffplabaeaa

/-
  The statement OrderNested holds: called with any two rows of nodes and any two texts, whatever lies in memory, it returns true, and each argument reads as it read before. Conditions: none.
-/
namespace Go.Proofs.Ytbffeffplabaeaa
open Go.ChangeShapes Go.WideShapes Go.ChangeAt Go.RowKit Go.ChangeMaps

set_option maxRecDepth 100000 in
theorem orderNested_lifted (os : Go.Os) (started : os.Started) (H : Type) (enc : TypeId × Value → H) :
    ReturnsInHanded {} Try.checked os 8 .any (Rows.orderNestedSpec.pre6 enc Try.prog Try.f8 Rows.orderNestedRow.domain false)
      (Rows.orderNestedSpec.post enc Try.prog Try.f8 false true false false) := by
  refine returnsInHanded_of_change_sized (C := Try.checked) ownKn started (by kernel_rfl) Try.func8
    (ChangeSpec.witness6 (enc := enc) (C := Try.checked) false ⟨#[], #[.slice none 0 0, .slice none 0 0, .agg #[.string ⟨#[]⟩, .string ⟨#[]⟩]], []⟩ 8 (by kernel_rfl) (by kernel_rfl) (by kernel_rfl) (by kernel_rfl)) ?_
  intro W base args ds gs before hval0 hW _ hwt0 _
  have hval : ∀ (j : Nat) t v, Try.f8.params[j]? = some t → args[j]? = some v → Value.okWide Try.prog W .any base t v := hval0
  have hW' := hW
  obtain ⟨p, q, hA0, hV, rfl, _, _⟩ := hW
  have hA : DataW.TrodAll enc Try.prog W 0 (fun _ => true) true Try.f8.params.toList args.toList ds p := hA0
  have hwt : (DataW.weightsEach Try.prog (Try.f8.params.toList ++ Rows.orderNestedSpec.plain.varTypes Try.prog) (ds ++ gs)).all (· ≤ reachBytes) = true := hwt0
  rw [Try.params8] at hA hval
  obtain ⟨v0, v1, v2, d0, d1, d2, p0, p1, p2, rfl, rfl, rfl, h0, h1, h2⟩ := trodAll_three hA
  obtain ⟨rfl, rfl⟩ := trodVars_none hV
  obtain ⟨l0, hl0⟩ := open_val (hval 0 _ v0 rfl rfl) h0
  obtain ⟨l1, hl1⟩ := open_val (hval 1 _ v1 rfl rfl) h1
  obtain ⟨s2, u2, rfl, hs2, hu2⟩ := open_pair (hval 2 _ v2 rfl rfl) h2
  refine (orderNested_any v0 v1 l0 l1 s2 u2 W hl0 hl1 hs2 hu2).mono fun e W' ⟨he, hb⟩ => ?_
  subst he
  exact ⟨_, rfl, law_post (tb := 4) laidOut hW' rfl Try.underlying4 (by kernel_rfl) rfl (by
    rw [Try.params8]
    intro t ht
    have hall : ([23, 23, 42].all fun t => Try.prog.readableRec t && decide (t < Try.prog.types.size)) = true := by kernel_rfl
    obtain ⟨h1, h2⟩ := Bool.and_eq_true_iff.1 (List.all_eq_true.1 hall t ht)
    exact ⟨h1, of_decide_eq_true h2⟩) hb⟩

theorem orderNested_holds : Rows.OrderNestedSaid :=
  OpenClaim.holds_of_wide 8 Try.f8 rfl rfl rfl rfl rfl rfl rfl ⟨rfl, rfl, rfl, rfl, rfl⟩ rfl rfl rfl rfl rfl (by kernel_rfl) Try.func8 (by kernel_rfl)
    (of_decide_eq_true (by kernel_rfl)) (by unfold Func.isWrapper; first | (rw [if_pos (by decide +kernel)]; kernel_rfl) | (rw [if_neg (by decide +kernel)]; exact ⟨rfl, rfl⟩))
    (fun os started H enc _ => orderNested_lifted os started H enc)
#print axioms orderNested_holds
end Go.Proofs.Ytbffeffplabaeaa
