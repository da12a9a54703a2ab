/-
  Joined: Grow, Ev6, FwM, TmS, Pa2.
-/
import Derived.Shelf.Spec.SlicesGrow
import Derived.Test.YtdgcdemihalefaaGreatDoorProg
import Derived.Test.YtdgcdemihalefaaGreatDoorEvalDelsJ2
import Derived.Test.YtdgcdemihalefaaGreatDoorEvalDelsJ1
import Derived.Deep.AppendLies
import Derived.Deep.RegionHeld3
import Derived.WalkMore
import Derived.Deep.LoopGhost

/-
  Contracts of library functions, at this translation.
-/
namespace Go.Proofs
open Go.Shelf
def Tryz.growT_ren : Go.Shelf.Ren := ⟨fun | 4 => 185 | n => n, fun | 22 => 155 | 25 => 122 | 3 => 3 | 4 => 4 | 9 => 9 | 20 => 20 | 0 => 0 | n => n, fun | n => n⟩
theorem Tryz.growT : Go.Proofs.Lays8.n4 Tryz.prog Tryz.growT_ren := {
  mixed := by kernel_rfl
  f4 := ⟨Tryz.f185.name, by decide, Tryz.func185.trans (congrArg some (by kernel_rfl))⟩
  t0 := Tryz.underlying0
  a0 := Tryz.isAgg0
  z0 := Tryz.sizeOf0
  v0 := Tryz.zeroValue0
  t3 := Tryz.underlying3
  a3 := Tryz.isAgg3
  z3 := Tryz.sizeOf3
  v3 := Tryz.zeroValue3
  t4 := Tryz.underlying4
  a4 := Tryz.isAgg4
  z4 := Tryz.sizeOf4
  v4 := Tryz.zeroValue4
  t9 := Tryz.underlying9
  a9 := Tryz.isAgg9
  z9 := Tryz.sizeOf9
  v9 := Tryz.zeroValue9
  t20 := Tryz.underlying20
  a20 := Tryz.isAgg20
  z20 := Tryz.sizeOf20
  v20 := Tryz.zeroValue20
  t22 := Tryz.underlying155
  a22 := Tryz.isAgg155
  z22 := Tryz.sizeOf155
  v22 := Tryz.zeroValue155 }
end Go.Proofs

/-
  What the library's Grow (of nothing) and Concat answer for slices of trees.
-/
namespace Go.Proofs.YtdgcdemihalefaaGreatDoor
open Go.RowKit Go.Shelf Np Rw Vp Pw Ev

theorem tree_info : (Tryz.prog.info? 122).map (fun i => (i.zero, i.size, i.bytes)) = some (some (.pointer none), 1, 8) := by kernel_rfl
/-- Pointers. -/
def ptc (p : Option Addr) : List Value := [.pointer p]
theorem ptc_len (p : Option Addr) : (ptc p).length = 1 := rfl
theorem elTree : Elem Tryz.prog 155 122 ptc 1 8 := by
  obtain ⟨i, hi, hz0, hz1, hz2⟩ := info_parts tree_info
  refine ⟨Tryz.underlying155, ⟨i, _, hi, hz0, hz1, hz2, rfl⟩, by decide, ptc_len, fun n u hu => ?_⟩
  simp only [ptc, List.mem_cons, List.not_mem_nil, or_false] at hu
  subst hu; rfl
theorem tgrow_any (n : Nat) (hn : n ≤ 1000000) (w : World) : Calls Tryz.prog 185 #[.slice none 0 0, .int .i64 (n : Int)] w fun e w' => ∃ v', e = .returned v' ∧ Own ptc 1 122 w.heap.size w' v' [] ∧ Below w.heap.size w w' := by
  rcases Nat.eq_zero_or_pos n with h0 | h0
  · subst h0
    have h := Any8.slices_Grow_room Tryz.growT none 0 0 0 w (by omega) (by omega) (by omega) (by omega)
    change Calls Tryz.prog 185 _ _ _ at h
    refine h.mono fun e w' ⟨h1, h2⟩ => ?_
    subst h1 h2
    exact ⟨_, rfl, Own.nil _, Below.refl _ _⟩
  · obtain ⟨i, hi, hz0, hz1, hz2⟩ := info_parts tree_info
    have h := Any8.slices_Grow_grow Tryz.growT i _ hi hz0 (by rw [hz1]; decide) none 0 0 n [] w (by omega) (by omega) (by rw [hz2]; omega) (by omega) (by simp) (fun _ => rfl) (fun a ha => by cases ha)
    change Calls Tryz.prog 185 _ _ _ at h
    refine h.mono fun e w' ⟨h1, h2⟩ => ?_
    subst h1 h2
    have hge := grownCap_ge w (0 + n) 0 122
    refine ⟨_, rfl, ⟨by simp, .inr ⟨w.heap.size, grownCap w (0 + n) 0 122, _, rfl, Nat.le_refl _, heap_alloc_new w.drew _, Nat.zero_le _, grownCap_le_maxLen w _ _ _ (by unfold maxLen; omega), ?_, by simp⟩⟩, (Below.refl _ _).drew.alloc (by simp) _⟩
    simp only [Array.size_append, size_zeroCells]
    have hz6 : (Value.pointer none).cells.size = 1 := rfl
    rw [hz6]
    change 0 + (0 + n - 0) * 1 + (grownCap w (0 + n) 0 122 - (0 + n)) * 1 = grownCap w (0 + n) 0 122 * 1
    omega
theorem sum_takeH {α : Type} {L : List (List α)} {k : Nat} {x : List α} (hx : L[k]? = some x) : ((L.take (k + 1)).map List.length).sum = ((L.take k).map List.length).sum + x.length := by
  rw [List.take_add_one, hx]; simp
theorem sum_takeH_le {α : Type} (L : List (List α)) (k : Nat) : ((L.take k).map List.length).sum ≤ (L.map List.length).sum := by
  conv => rhs; rw [← List.take_append_drop k L, List.map_append, List.sum_append]
  omega
set_option maxRecDepth 100000 in
set_option maxHeartbeats 2000000 in
theorem tconcat_any (v : Value) (L : List (List (Option Addr))) (w : World) (hv : Rowz ptc 1 w v L) (hb1 : L.length ≤ 65536) (hb2 : (L.map List.length).sum ≤ 131072) :
    Calls Tryz.prog 129 #[v] w (fun e w' => ∃ v', e = .returned v' ∧ Own ptc 1 122 w.heap.size w' v' L.flatten ∧ Below w.heap.size w w') := by
  obtain ⟨us, hul, hu, hur⟩ := hv
  obtain ⟨A, c, rfl, -, -, -, H⟩ := hu
  have HUL := Lib.hid hul
  have HU := Lib.hid hur
  have HH := Lib.hid H
  clear hur H
  rw [← hul] at hb1
  clear hul
  generalize hn : us.length = n at *
  have HN := Lib.hid hn; clear hn
  have HB2 := Lib.hid hb2
  clear hb2
  go_enter Tryz.func129, Tryz.ntmps129
  go_wp2
  go_loopw [3, 11] (fun nn i wr => ∃ k q : Nat, k ≤ n ∧ i = .int .i64 k ∧ nn = .int .i64 (q : Nat) ∧ q = ((L.take k).map List.length).sum ∧ q ≤ 131072 ∧ wr = w) (fun _ i _ => n - (intOf i).toNat)
  case atStart => exact ⟨0, 0, Nat.zero_le _, rfl, rfl, rfl, by omega, rfl⟩
  case round =>
    obtain ⟨k, q, hk, rfl, rfl, hq, hqb, rfl⟩ := hrel
    have HQ := Lib.hid hq
    clear hq
    by_cases hlt : k < n
    · obtain ⟨g, o, rfl, hg, hx⟩ := HH.out (by omega)
      obtain ⟨x, hxk⟩ : ∃ a, us[k]? = some a := ⟨_, List.getElem?_eq_getElem (by rw [HN.out]; exact hlt)⟩
      obtain ⟨a, ha⟩ : ∃ a, L[k]? = some a := ⟨_, List.getElem?_eq_getElem (by rw [← HUL.out]; exact hlt)⟩
      have a0 := (hx k x hxk).one
      have hra : Row ptc 1 wr x a := HU.out k x a hxk ha
      have HQ2 : Hid (q + a.length = ((L.take (k + 1)).map List.length).sum) := Lib.hid (by rw [sum_takeH ha, HQ.out])
      have hqa : q + a.length ≤ 131072 := by have := sum_takeH_le L (k + 1); have := HB2.out; rw [HQ2.out]; omega
      clear ha hxk hx
      obtain ⟨B, c', rfl, -⟩ := hra
      go_wp2_with fail
      go_roundw
      case rel => exact ⟨k + 1, q + a.length, by omega, by go_num, by go_num, HQ2.out, by omega, by simp⟩
      case measure => simp [intOf]; omega
    · obtain ⟨wo, rfl⟩ : ∃ wo : World, wo = wr := ⟨_, rfl⟩
      go_wp2_with (go_at_call 185; refine (tgrow_any q (by omega) _).mono ?_; rintro e w1 ⟨v1, rfl, ho1, hB1⟩)
      have HO1 := Lib.hid ho1
      have HB1 := Lib.hid hB1
      clear ho1 hB1
      go_loopw [6, 27] (fun vv i wr => ∃ k : Nat, k ≤ n ∧ i = .int .i64 k ∧ Own ptc 1 122 wo.heap.size wr vv (L.take k).flatten ∧ Below wo.heap.size wo wr) (fun _ i _ => n - (intOf i).toNat)
      case atStart => exact ⟨0, Nat.zero_le _, rfl, HO1.out, HB1.out⟩
      case round =>
        obtain ⟨j, hj, rfl, hown, hbw⟩ := hrel
        have HO := Lib.hid hown
        have HBW := Lib.hid hbw
        by_cases hlt2 : j < n
        · obtain ⟨g, o, rfl, hg, hx⟩ := HH.out (by omega)
          obtain ⟨x, hxk⟩ : ∃ a, us[j]? = some a := ⟨_, List.getElem?_eq_getElem (by rw [HN.out]; exact hlt2)⟩
          obtain ⟨a, ha⟩ : ∃ a, L[j]? = some a := ⟨_, List.getElem?_eq_getElem (by rw [← HUL.out]; exact hlt2)⟩
          have a0 := (hbw.cell (p := ⟨g, o + j, none⟩) hg).trans (hx j x hxk).one
          have HRA : Hid (Row ptc 1 wr x a) := Lib.hid ((HU.out j x a hxk ha).below hbw)
          have HS : Hid ((L.take (j + 1)).flatten = (L.take j).flatten ++ a) := Lib.hid (by rw [List.take_add_one, ha]; simp)
          have HLN : Hid ((L.take j).flatten.length + a.length ≤ 131072) := Lib.hid (by
            have h1 := sum_takeH ha
            have h2 := sum_takeH_le L (j + 1)
            have h3 := HB2.out
            rw [List.length_flatten]; omega)
          clear ha hxk hx hown hbw
          go_wp2_with (at_builtin; refine wpList_append_row (base := wo.heap.size) elTree rfl _ _ rfl rfl HO.out rfl HRA.out ?_ ?_ ?_ ?_)
          · have := HLN.out; unfold maxLen; omega
          · have := HLN.out; omega
          · exact HBW.out.size
          · intro A' c' w2 hown2 hg2 _
            have HO2 := Lib.hid hown2
            have HG2 := Lib.hid hg2
            clear hown2 hg2 a0
            generalize ((L.take j).flatten ++ a).length = q2 at HO2 ⊢
            go_wp2_with fail
            go_roundw
            case rel => exact ⟨j + 1, by omega, by go_num, by rw [HS.out]; exact HO2.out, HBW.out.trans (HO.out.kept HG2.out HBW.out.size)⟩
            case measure => simp [intOf]; omega
        · have HE : Hid (L.take j = L) := Lib.hid (List.take_of_length_le (by rw [← HUL.out]; omega))
          clear hown hbw
          go_wp2_with fail
          go_ret
          exact ⟨_, rfl, by have := HO.out; rwa [HE.out] at this, HBW.out⟩



/-- Pointers as a row, and as values. -/
theorem RowS.ptrs {S : Nat → Prop} {w : World} {v : Value} {ps : List (Option Addr)} (h : RowS S w v (ps.map Value.pointer)) : Row ptc 1 w v ps := by
  obtain ⟨A, c, hv, h1, h2, h3, H⟩ := h
  rw [List.length_map] at hv h1 H
  refine ⟨A, c, hv, h1, h2, h3, fun h0 => ?_⟩
  obtain ⟨g, o, hA, -, hg, hx⟩ := H h0
  refine ⟨g, o, hA, hg, fun k x hk j u hu => ?_⟩
  have hj : j = 0 := by
    have := (List.getElem?_eq_some_iff.1 hu).1
    simp [ptc] at this; omega
  subst hj
  simp [ptc] at hu; subst hu
  have := hx k (.pointer x) (by rw [List.getElem?_map, hk]; rfl)
  rwa [Nat.mul_one, Nat.add_zero]
theorem own_rowS {S : Nat → Prop} {E base : Nat} {w : World} {v : Value} {ps : List (Option Addr)} (h : Own ptc 1 E base w v ps) (hS : ∀ g, v.ownBlock = some g → S g) : RowS S w v (ps.map Value.pointer) := by
  have hr := h.row ptc_len
  obtain ⟨A, c, hv, h1, h2, h3, H⟩ := hr
  refine ⟨A, c, by rw [List.length_map]; exact hv, by rw [List.length_map]; exact h1, h2, h3, fun h0 => ?_⟩
  rw [List.length_map] at h0
  obtain ⟨g, o, hA, hg, hx⟩ := H h0
  refine ⟨g, o, hA, hS g (by rw [hv, hA]; rfl), hg, fun k x hk => ?_⟩
  rw [List.getElem?_map, Option.map_eq_some_iff] at hk
  obtain ⟨p, hp, rfl⟩ := hk
  have := hx k p hp 0 (.pointer p) rfl
  rwa [Nat.mul_one, Nat.add_zero] at this
theorem TrsS_ptrs {S : Nat → Prop} {w : World} : ∀ {ks : List (Tr Nd)} {vs : List Value}, TrsS S w ks vs → ∃ ps : List (Option Addr), vs = ps.map Value.pointer
  | [], [], _ => ⟨[], rfl⟩
  | k :: ks, v :: vs, h => by
    obtain ⟨h1, h2⟩ := TrsS_cons.1 h
    obtain ⟨ps, rfl⟩ := TrsS_ptrs h2
    obtain ⟨g, _, _, _, _, rfl, -⟩ := h1.opened
    exact ⟨some ⟨g, 0, none⟩ :: ps, rfl⟩
  | [], _ :: _, h => by rw [TrsS] at h; exact h.elim
  | _ :: _, [], h => by rw [TrsS] at h; exact h.elim
/-- A piece of a row of pointers. -/
theorem RowS.pc {S : Nat → Prop} {w : World} {g o c n : Nat} {vs : List Value} (h : RowS S w (.slice (some ⟨g, o, none⟩) n c) vs) (k m d : Nat) (hk : k + m ≤ vs.length) (hd : m ≤ d) (hdc : d ≤ c) : RowS S w (.slice (some ⟨g, o + k, none⟩) m d) ((vs.drop k).take m) := by
  obtain ⟨A, c', hv, hc, hm, -, H⟩ := h
  injection hv with e1 _ e3
  subst e1 e3
  have hl : ((vs.drop k).take m).length = m := by simp; omega
  refine ⟨_, d, by rw [hl], by rw [hl]; exact hd, by omega, fun h => (by cases h), fun h0 => ?_⟩
  rw [hl] at h0
  obtain ⟨g', o', hA, hS, hg, hx⟩ := H (by omega)
  injection hA with hA
  injection hA with e1 e2
  subst e1 e2
  refine ⟨g, o + k, rfl, hS, hg, fun i x hi => ?_⟩
  rw [List.getElem?_take] at hi
  split at hi
  · rw [List.getElem?_drop] at hi
    have := hx _ x hi
    rwa [← Nat.add_assoc] at this
  · cases hi
end Go.Proofs.YtdgcdemihalefaaGreatDoor

/-
  Words for memory: rows of terms.
-/
namespace Go.Proofs.YtdgcdemihalefaaGreatDoor
open Go.RowKit Np Rw Vp Pw Fw

/-- A term's value; its eleven cells. -/
abbrev tma (t : Tm) : Value := .agg #[.int .i64 t.op, .int .i64 t.many, .string ⟨t.name.toArray⟩, .string ⟨t.s.toArray⟩, .int .i64 t.n, .int .i64 t.c.kind, .int .i64 t.c.many, .string ⟨t.c.name.toArray⟩, .string ⟨t.c.s.toArray⟩, .bool t.c.neg, .int .i64 t.c.e]
def tmc (t : Tm) : List Value := [.int .i64 t.op, .int .i64 t.many, .string ⟨t.name.toArray⟩, .string ⟨t.s.toArray⟩, .int .i64 t.n, .int .i64 t.c.kind, .int .i64 t.c.many, .string ⟨t.c.name.toArray⟩, .string ⟨t.c.s.toArray⟩, .bool t.c.neg, .int .i64 t.c.e]
abbrev Tms (w : World) (v : Value) (l : List Tm) : Prop := Row tmc 11 w v l
structure Tm11 (w : World) (g o : Nat) (t : Tm) : Prop where
  c0 : w.cell? ⟨g, o, none⟩ = some (.int .i64 t.op)
  c1 : w.cell? ⟨g, o + 1, none⟩ = some (.int .i64 t.many)
  c2 : w.cell? ⟨g, o + 2, none⟩ = some (.string ⟨t.name.toArray⟩)
  c3 : w.cell? ⟨g, o + 3, none⟩ = some (.string ⟨t.s.toArray⟩)
  c4 : w.cell? ⟨g, o + 4, none⟩ = some (.int .i64 t.n)
  c5 : w.cell? ⟨g, o + 5, none⟩ = some (.int .i64 t.c.kind)
  c6 : w.cell? ⟨g, o + 6, none⟩ = some (.int .i64 t.c.many)
  c7 : w.cell? ⟨g, o + 7, none⟩ = some (.string ⟨t.c.name.toArray⟩)
  c8 : w.cell? ⟨g, o + 8, none⟩ = some (.string ⟨t.c.s.toArray⟩)
  c9 : w.cell? ⟨g, o + 9, none⟩ = some (.bool t.c.neg)
  c10 : w.cell? ⟨g, o + 10, none⟩ = some (.int .i64 t.c.e)
theorem Tm11.below {w w' : World} {g o : Nat} {t : Tm} (h : Tm11 w g o t) (hg : g < w.heap.size) (hb : Below w.heap.size w w') : Tm11 w' g o t :=
  ⟨(hb.cell hg).trans h.c0, (hb.cell hg).trans h.c1, (hb.cell hg).trans h.c2, (hb.cell hg).trans h.c3, (hb.cell hg).trans h.c4, (hb.cell hg).trans h.c5, (hb.cell hg).trans h.c6, (hb.cell hg).trans h.c7, (hb.cell hg).trans h.c8, (hb.cell hg).trans h.c9, (hb.cell hg).trans h.c10⟩
theorem Tm11.low {B : Nat} {w w' : World} {g o : Nat} {t : Tm} (h : Tm11 w g o t) (hg : g < B) (hb : Below B w w') : Tm11 w' g o t :=
  ⟨(hb.cell (p := ⟨g, o, none⟩) hg).trans h.c0, (hb.cell (p := ⟨g, o + 1, none⟩) hg).trans h.c1, (hb.cell (p := ⟨g, o + 2, none⟩) hg).trans h.c2, (hb.cell (p := ⟨g, o + 3, none⟩) hg).trans h.c3, (hb.cell (p := ⟨g, o + 4, none⟩) hg).trans h.c4, (hb.cell (p := ⟨g, o + 5, none⟩) hg).trans h.c5, (hb.cell (p := ⟨g, o + 6, none⟩) hg).trans h.c6, (hb.cell (p := ⟨g, o + 7, none⟩) hg).trans h.c7, (hb.cell (p := ⟨g, o + 8, none⟩) hg).trans h.c8, (hb.cell (p := ⟨g, o + 9, none⟩) hg).trans h.c9, (hb.cell (p := ⟨g, o + 10, none⟩) hg).trans h.c10⟩
theorem Tm11.quiet {w w' : World} {g o : Nat} {t : Tm} (h : Tm11 w g o t) (hq : ∃ m, w' = w.drewN m) : Tm11 w' g o t := by
  obtain ⟨m, rfl⟩ := hq
  exact ⟨h.c0, h.c1, h.c2, h.c3, h.c4, h.c5, h.c6, h.c7, h.c8, h.c9, h.c10⟩

end Go.Proofs.YtdgcdemihalefaaGreatDoor

/-
  Terms in memory, further: a whole term written; an append in a region whose order is open.
-/
namespace Go.Proofs.YtdgcdemihalefaaGreatDoor
open Go.RowKit Np Rw Vp Pw Fw

section
variable {α : Type} {P : Program} {enc : α → List Value} {T E sz bys base : Nat} {w : World}
theorem Own.empty {W : World} {g : Nat} (h : W.heap[g]? = some (.cells #[] E)) (hb : base ≤ g) : Own enc sz E base W (.slice (some ⟨g, 0, none⟩) 0 0) ([] : List α) :=
  ⟨by simp, .inr ⟨g, 0, #[], rfl, hb, h, Nat.le_refl _, Nat.zero_le _, by simp, by simp⟩⟩
end
abbrev tmO' (t : Tm) : Obj := .cells #[.int .i64 t.op, .int .i64 t.many, .string ⟨t.name.toArray⟩, .string ⟨t.s.toArray⟩, .int .i64 t.n, .int .i64 t.c.kind, .int .i64 t.c.many, .string ⟨t.c.name.toArray⟩, .string ⟨t.c.s.toArray⟩, .bool t.c.neg, .int .i64 t.c.e] 47
theorem Tms.one {W : World} {g : Nat} {t : Tm} (h : W.heap[g]? = some (tmO' t)) : Tms W (.slice (some ⟨g, 0, none⟩) 1 1) [t] := by
  have hlt : g < W.heap.size := (Array.getElem?_eq_some_iff.1 h).1
  refine Row.mk (l := [t]) (c := 1) (Nat.le_refl _) (by decide) hlt (fun k x hk j u hu => ?_)
  have hk0 : k = 0 := by
    have := (List.getElem?_eq_some_iff.1 hk).1
    simp at this; omega
  subst hk0
  simp at hk; subst hk
  rw [Lib.cell_of_heap h]
  simpa [tmc] using hu
end Go.Proofs.YtdgcdemihalefaaGreatDoor

/-
  What path's place answers: where a path leads in a row.
-/
namespace Go.Proofs.YtdgcdemihalefaaGreatDoor
open Go.RowKit Np Rw Vp Pw

/-- A step in a block. -/
def StAt (B : Nat) (s : St) (w : World) : Prop := w.heap[B]? = some (.cells #[.bool s.part, .string ⟨s.name.toArray⟩, .int .i64 s.n] 71 (0, 0))
theorem StAt.lt {B : Nat} {s : St} {w : World} (h : StAt B s w) : B < w.heap.size := (Array.getElem?_eq_some_iff.1 h).1
theorem StAt.sp {B : Nat} {s : St} {w : World} (h : StAt B s w) : Sp3 w B 0 s := ⟨by rw [Lib.cell_of_heap h]; rfl, by rw [Lib.cell_of_heap h]; rfl, by rw [Lib.cell_of_heap h]; rfl⟩
theorem StAt.below {B C : Nat} {s : St} {w w' : World} (h : StAt B s w) (hb : Below C w w') (hB : B < C) : StAt B s w' := (hb.block B hB).trans h

end Go.Proofs.YtdgcdemihalefaaGreatDoor
