/-
  Joined: SelP, RefW10, EvH.
-/
import Derived.Test.YtldioobbfkaebaaGreatDoorEvalHoldsJ14
import Derived.Test.YtldioobbfkaebaaGreatDoorEvalHoldsJ2
import Derived.Test.YtldioobbfkaebaaGreatDoorEvalHoldsJ12
import Derived.Test.YtldioobbfkaebaaGreatDoorEvalHoldsJ25
set_option maxHeartbeats 8000000
set_option maxRecDepth 100000
namespace Go.Proofs.YtldioobbfkaebaaGreatDoor
section
open Go.RowKit Np Rw Vp
structure Sel (names : List (List UInt8)) (p : List Nat) : Prop where
 nodup : p.Nodup
 lt : ∀ i ∈ p, i < names.length
 strict : (p.map (atN names)).Pairwise (· < ·)
 vl : ∀ i ∈ p, vld (atN names i) = true
 low : ∀ i ∈ p, ∀ j, j < names.length → j ∉ p → ¬ atN names j < atN names i
def Least (names : List (List UInt8)) (p : List Nat) (k b : Nat) : Prop := b < k ∧ b ∉ p ∧ ∀ j, j < k → j ∉ p → ¬ atN names j < atN names b
theorem Sel.nil (names : List (List UInt8)) : Sel names [] := ⟨List.nodup_nil, by simp, by simp, by simp, by simp⟩
theorem Least.keep {names : List (List UInt8)} {p : List Nat} {k b : Nat} (h : Least names p k b) (hk : k ∈ p ∨ ¬ atN names k < atN names b) : Least names p (k + 1) b := by
 refine ⟨by have := h.1; omega, h.2.1, fun j hj hjp => ?_⟩
 by_cases e : j = k
 ·subst e
  rcases hk with hk | hk
  ·exact absurd hk hjp
  ·exact hk
 ·exact h.2.2 j (by omega) hjp
theorem Least.less {names : List (List UInt8)} {p : List Nat} {k b : Nat} (h : Least names p k b) (hk : k ∉ p) (hl : atN names k < atN names b) : Least names p (k + 1) k := by
 refine ⟨by omega, hk, fun j hj hjp hlt => ?_⟩
 by_cases e : j = k
 ·subst e; exact List.lt_irrefl _ hlt
 ·exact h.2.2 j (by omega) hjp (List.lt_trans hlt hl)
theorem Least.first {names : List (List UInt8)} {p : List Nat} {k : Nat} (h : ∀ j, j < k → j ∈ p) (hk : k ∉ p) : Least names p (k + 1) k := by
 refine ⟨by omega, hk, fun j hj hjp hlt => ?_⟩
 by_cases e : j = k
 ·subst e; exact List.lt_irrefl _ hlt
 ·exact hjp (h j (by omega))
theorem pig : ∀ (n : Nat) (p : List Nat), p.Nodup → (∀ i ∈ p, i < n) → p.length ≤ n ∧ (p.length = n → ∀ j, j < n → j ∈ p)
 | 0, p, _, h => by
  have : p = [] := by
   cases p with
   | nil => rfl
   | cons a p => exact absurd (h a (by simp)) (by omega)
  subst this
  exact ⟨Nat.le_refl _, fun _ j hj => absurd hj (by omega)⟩
 | n + 1, p, hn, h => by
  by_cases hm : n ∈ p
  ·have h1 := pig n (p.erase n) (hn.erase n) (fun i hi => by
    have h2 := (List.Nodup.mem_erase_iff hn).1 hi
    have := h i h2.2
    have := h2.1
    omega)
   have hl := List.length_erase_of_mem hm
   have hp : 0 < p.length := List.length_pos_of_mem hm
   refine ⟨by omega, fun he j hj => ?_⟩
   by_cases e : j = n
   ·subst e; exact hm
   ·exact List.mem_of_mem_erase (h1.2 (by omega) j (by omega))
  ·have h1 := pig n p hn (fun i hi => by
    have := h i hi
    have : i ≠ n := fun e => hm (e ▸ hi)
    omega)
   exact ⟨by omega, fun he => absurd he (by omega)⟩
theorem Sel.len {names : List (List UInt8)} {p : List Nat} (h : Sel names p) : p.length ≤ names.length := (pig _ p h.nodup h.lt).1
theorem Sel.all {names : List (List UInt8)} {p : List Nat} (h : Sel names p) (hl : p.length = names.length) : p.Perm (List.range names.length) := by
 refine (List.perm_ext_iff_of_nodup h.nodup List.nodup_range).2 fun a => ⟨fun ha => by simpa using h.lt a ha, fun ha => (pig _ p h.nodup h.lt).2 hl a (by simpa using ha)⟩
theorem Sel.some {names : List (List UInt8)} {p : List Nat} (h : Sel names p) (hl : p.length < names.length) : ¬ ∀ j, j < names.length → j ∈ p := by
 intro hall
 have h1 : (List.range names.length).length ≤ p.length := by
  have hp : (List.range names.length).Perm (p.filter (fun i => decide (i < names.length))) := (List.perm_ext_iff_of_nodup List.nodup_range (h.nodup.filter _)).2 fun a => by
   simp only [List.mem_range, List.mem_filter, decide_eq_true_eq]
   exact ⟨fun ha => ⟨hall a ha, ha⟩, fun ha => ha.2⟩
  rw [hp.length_eq]
  exact List.length_filter_le _ _
 simp at h1
 omega
theorem Sel.places {names : List (List UInt8)} {p : List Nat} (h : Sel names p) (hl : p.length = names.length) : Places names p := by
 refine ⟨h.all hl, ?_⟩
 have := List.pairwise_map.1 h.strict
 exact this.imp fun {a b} hab hba => List.lt_irrefl _ (List.lt_trans hab hba)
theorem Sel.done {names : List (List UInt8)} {L : List (List Nd)} {p : List Nat} (h : Sel names p) (hl : p.length = names.length) (hL : names.length = L.length) :
  objB names L = true ∧ objV names L = hdN 6 L.length :: laid ((p.map (atN names)).zip (p.map (atL L))) := by
 have hp := h.places hl
 have hnd : names.Nodup := by
  have : (p.map (atN names)).Nodup := h.strict.imp fun {a b} hab (e : a = b) => by subst e; exact List.lt_irrefl a hab
  exact hp.names.nodup_iff.1 this
 have hb : objB names L = true := objB_iff.2 ⟨hL, hnd, fun s hs => by
  obtain ⟨i, hi, rfl⟩ := List.mem_map.1 (hp.names.mem_iff.2 hs)
  exact h.vl i hi⟩
 refine ⟨hb, ?_⟩
 rw [objV, if_pos hb, hp.pairs hL h.strict, List.zip_map']
theorem Sel.wrong {names : List (List UInt8)} {L : List (List Nd)} {b : Nat} (hb : b < names.length) (hv : vld (atN names b) = false) : objB names L = false := by
 cases h : objB names L
 ·rfl
 ·have := (objB_iff.1 h).2.2 (atN names b) (by rw [atN, List.getD_eq_getElem?_getD, List.getElem?_eq_getElem hb]; exact List.getElem_mem hb)
  rw [this] at hv; cases hv
theorem Sel.twice {names : List (List UInt8)} {L : List (List Nd)} {a b : Nat} (ha : a < names.length) (hb : b < names.length) (hne : a ≠ b) (he : atN names a = atN names b) : objB names L = false := by
 cases h : objB names L
 ·rfl
 ·have hn := (objB_iff.1 h).2.1
  have e1 : atN names a = names[a] := by rw [atN, List.getD_eq_getElem?_getD, List.getElem?_eq_getElem ha]; rfl
  have e2 : atN names b = names[b] := by rw [atN, List.getD_eq_getElem?_getD, List.getElem?_eq_getElem hb]; rfl
  rw [e1, e2] at he
  rcases Nat.lt_or_gt_of_ne hne with hlt | hlt
  ·exact absurd he (List.pairwise_iff_getElem.1 hn a b ha hb hlt)
  ·exact absurd he.symm (List.pairwise_iff_getElem.1 hn b a hb ha hlt)
theorem Sel.next {names : List (List UInt8)} {p : List Nat} {b : Nat} (h : Sel names p) (hb : Least names p names.length b) (hv : vld (atN names b) = true) (hne : ∀ q a, p = q ++ [a] → atN names a ≠ atN names b) : Sel names (p ++ [b]) := by
 obtain ⟨hb1, hb2, hb3⟩ := hb
 have hlast : ∀ i ∈ p, atN names i < atN names b := by
  rcases List.eq_nil_or_concat p with hp | ⟨q, a, hp⟩
  ·subst hp; intro i hi; cases hi
  ·rw [List.concat_eq_append] at hp
   have ha : atN names a < atN names b := lt_of_ne (h.low a (by rw [hp]; simp) b hb1 hb2) (hne q a hp)
   intro i hi
   rw [hp] at hi
   rcases List.mem_append.1 hi with hi | hi
   ·have hs := h.strict
    rw [hp, List.map_append, List.pairwise_append] at hs
    exact List.lt_trans (hs.2.2 (atN names i) (List.mem_map_of_mem hi) (atN names a) (by simp)) ha
   ·simp at hi; subst hi; exact ha
 refine ⟨?_, ?_, ?_, ?_, ?_⟩
 ·rw [List.nodup_append]
  exact ⟨h.nodup, by simp, fun x hx y hy => by simp at hy; subst hy; exact fun e => hb2 (e ▸ hx)⟩
 ·intro i hi
  rcases List.mem_append.1 hi with hi | hi
  ·exact h.lt i hi
  ·simp at hi; subst hi; exact hb1
 ·rw [List.map_append, List.pairwise_append]
  refine ⟨h.strict, by simp, fun x hx y hy => ?_⟩
  obtain ⟨i, hi, rfl⟩ := List.mem_map.1 hx
  simp at hy; subst hy
  exact hlast i hi
 ·intro i hi
  rcases List.mem_append.1 hi with hi | hi
  ·exact h.vl i hi
  ·simp at hi; subst hi; exact hv
 ·intro i hi j hj hjp
  have hjp' : j ∉ p := fun hh => hjp (by simp [hh])
  rcases List.mem_append.1 hi with hi | hi
  ·exact h.low i hi j hj hjp'
  ·simp at hi; subst hi; exact hb3 j hj hjp'
end
section
open Go.RowKit Np Rw Vp
def boc (b : Bool) : List Value := [.bool b]
theorem boc_len (b : Bool) : (boc b).length = 1 := rfl
theorem bool_info : (Tryz.prog.info? 4).map (fun i => (i.zero, i.size, i.bytes)) = some (some (.bool false), 1, 1) := by kernel_rfl
theorem make_bools (n : Nat) (hn : n ≤ 1000000) (w : World) : (Instr.makeSlice 86 (.int .i64 (n : Int)) (.int .i64 (n : Int))).run Tryz.prog w = .ok (.slice (some ⟨w.heap.size, 0, none⟩) n n) (w.alloc (.cells (madeCells #[.bool false] n) 4)) := by
 obtain ⟨i, hi, hz0, hz1, hz2⟩ := info_parts bool_info
 have := run_make (P := Tryz.prog) w 86 4 i _ Tryz.underlying86 hi hz0 .i64 .i64 n n (by omega) (by omega) (by rw [hz2]; omega) (by omega)
 rw [hz1, Int.toNat_natCast, Nat.mul_one] at this
 exact this
def marks (n : Nat) (p : List Nat) : List Bool := (List.range n).map fun i => decide (i ∈ p)
theorem marks_len (n : Nat) (p : List Nat) : (marks n p).length = n := by simp [marks]
theorem marks_nil (n : Nat) : marks n [] = List.replicate n false := by apply List.ext_getElem <;> simp [marks]
theorem marks_at {n k : Nat} (p : List Nat) (h : k < n) : (marks n p)[k]? = some (decide (k ∈ p)) := by simp [marks, h]
theorem marks_set (n b : Nat) (p : List Nat) : (marks n p).set b true = marks n (p ++ [b]) := by
 apply List.ext_getElem
 ·simp [marks]
 ·intro i h1 h2
  simp only [marks, List.getElem_set, List.getElem_map, List.getElem_range, List.mem_append, List.mem_singleton]
  by_cases e : b = i
  ·subst e; simp
  ·rw [if_neg e]
   rw [decide_eq_decide]
   exact ⟨fun h => .inl h, fun h => h.elim id (fun h => absurd h.symm e)⟩
theorem refObject_any (v u : Value) (names : List (List UInt8)) (L : List (List Nd)) (w : World) (hv : Sts w v names) (hu : Vls w u L) (hn : names.length ≤ 1000) (hb2 : (L.map List.length).sum ≤ 131072) (hsh : ∀ s ∈ names, s.length ≤ maxLen) (hne : ∀ l ∈ L, l ≠ []) :
  Calls Tryz.prog 22 #[v, u] w (GivesO w names L) := by
 have HSH := Lib.hid hsh
 have HNE := Lib.hid hne
 have HB2 := Lib.hid hb2
 clear hsh hne hb2
 obtain ⟨zs, hels, hrow⟩ := vls_els hu
 obtain ⟨A, c, rfl, hc, hcm, -, H⟩ := hv
 obtain ⟨A2, c2, rfl, hc2, hcm2, -, H2⟩ := hrow
 have hzl := hels.1
 by_cases hl : names.length = L.length
 ·have HE := Lib.hid hels
  rw [hzl, ← hl] at H2 hc2 ⊢
  have HH := Lib.hid H
  have HH2 := Lib.hid H2
  have HL := Lib.hid hl
  have HZL := Lib.hid hzl
  clear hu hels H H2 hl hzl
  have hmk := fun (W : World) => make_bools names.length (by omega) W
  generalize hnn : names.length = n at *
  have HN := Lib.hid hnn; clear hnn
  have HMK := Lib.hid hmk; clear hmk
  go_enter Tryz.func22, Tryz.ntmps22
  have hmk := HMK.out ((w.alloc (.cells #[] 9)).alloc (.cells #[] 27))
  simp only [World.size_alloc] at hmk
  have HS0 : Hid (Own stc 1 9 w.heap.size ((w.alloc (.cells #[] 9)).alloc (.cells #[] 27)) (.slice (some ⟨w.heap.size, 0, none⟩) 0 0) []) := Lib.hid ((Own.lit (base := w.heap.size) (E := 9) stc_len w #[] [] (Nat.le_refl _) (by simp) rfl).alloc _)
  have HZ0 : Hid (Own slc 1 27 w.heap.size ((w.alloc (.cells #[] 9)).alloc (.cells #[] 27)) (.slice (some ⟨w.heap.size + 1, 0, none⟩) 0 0) []) := Lib.hid (by
   have := Own.lit (base := w.heap.size) (E := 27) slc_len (w.alloc (.cells #[] 9)) #[] [] (by simp) (by simp) rfl
   simpa using this)
  have HM0 : Hid (Own boc 1 4 w.heap.size (((w.alloc (.cells #[] 9)).alloc (.cells #[] 27)).alloc (.cells (madeCells #[.bool false] n) 4)) (.slice (some ⟨w.heap.size + 1 + 1, 0, none⟩) n n) (marks n [])) := Lib.hid (by
   rw [marks_nil]
   have := Own.made1 (E := 4) (base := w.heap.size) boc_len ((w.alloc (.cells #[] 9)).alloc (.cells #[] 27)) false (.bool false) rfl n (by unfold maxLen; omega) (by simp; omega)
   simpa using this)
  go_wp2_with fail
  generalize madeCells #[Value.bool false] n = cs at HM0 ⊢
  go_loopw [6, 7] (fun sv zv wr => ∃ (p : List Nat), Sel names p ∧ (∃ As cs, sv = .slice As p.length cs) ∧ Own stc 1 9 w.heap.size wr sv (p.map (atN names)) ∧ Own slc 1 27 w.heap.size wr zv (p.map fun j => zs.getD j (none, 0, 0)) ∧ Own boc 1 4 w.heap.size wr (.slice (some ⟨w.heap.size + 1 + 1, 0, none⟩) n n) (marks n p) ∧ Below w.heap.size w wr) (fun sv _ _ => n - lenOf sv)
  case atStart => exact ⟨[], Sel.nil _, ⟨_, _, rfl⟩, HS0.out.alloc _, HZ0.out.alloc _, HM0.out, (((Below.refl _ _).alloc (Nat.le_refl _) _).alloc (by simp) _).alloc (by simp; omega) _⟩
  case round =>
   obtain ⟨p, hsel, ⟨As, cs', rfl⟩, hs, hz, hm, hb⟩ := hrel
   have HSEL := Lib.hid hsel
   have HS := Lib.hid hs
   have HZ := Lib.hid hz
   have HM := Lib.hid hm
   have HB := Lib.hid hb
   have hpl : p.length ≤ n := by have := hsel.len; rwa [HN.out] at this
   clear hsel hs hz hm hb
   by_cases hlt : p.length < n
   ·obtain ⟨wo, rfl⟩ : ∃ wo : World, wo = wr := ⟨_, rfl⟩
    obtain ⟨g, o, rfl, hg, hx⟩ := HH.out (by omega)
    have HX := Lib.hid hx
    clear hx
    go_wp2_with fail
    go_loopw [9, 10] (fun bv iv wr => ∃ k : Nat, k ≤ n ∧ iv = .int .i64 k ∧ (∃ q, wr = wo.drewN q) ∧ ((bv = .int .i64 (-1) ∧ ∀ j, j < k → j ∈ p) ∨ ∃ b : Nat, bv = .int .i64 b ∧ Least names p k b)) (fun _ iv _ => n - (intOf iv).toNat)
    case atStart => exact ⟨0, Nat.zero_le _, rfl, ⟨0, rfl⟩, .inl ⟨rfl, fun j h => absurd h (by omega)⟩⟩
    case round =>
     obtain ⟨k, hk, rfl, hq, hbest⟩ := hrel
     have HQ := Lib.hid hq
     clear hq
     by_cases hkn : k < n
     ·have hkx : names[k]? = some (atN names k) := by rw [atN, List.getD_eq_getElem?_getD, List.getElem?_eq_getElem (by rw [HN.out]; exact hkn)]; rfl
      have m0 : wr.cell? ⟨w.heap.size + 1 + 1, k, none⟩ = some (.bool (decide (k ∈ p))) := by
       have hm' : Own boc 1 4 w.heap.size wo (.slice (some ⟨w.heap.size + 1 + 1, 0, none⟩) (marks n p).length n) (marks n p) := by rw [marks_len]; exact HM.out
       have := cell_quiet (Own.cell boc_len (j := 0) hm' (marks_at p hkn) rfl) HQ.out
       simpa using this
      have n0 : wr.cell? ⟨g, o + k, none⟩ = some (.string ⟨(atN names k).toArray⟩) := cell_quiet ((HB.out.cell (p := ⟨g, o + k, none⟩) hg).trans (HX.out k _ hkx).st) HQ.out
      have hkI : (k : Int) < n := by omega
      clear hkx
      generalize hans : atN names k = nk at n0
      have HNK := Lib.hid hans
      clear hans
      rcases hbest with ⟨rfl, hall⟩ | ⟨b, rfl, hle⟩
      ·have HALLP := Lib.hid hall
       clear hall
       by_cases hkp : k ∈ p
       ·rw [decide_eq_true hkp] at m0
        have HKP := Lib.hid hkp
        clear hkp
        go_wp2_with fail
        go_quiet (fail)
        go_wp2_with fail
        go_roundw
        case rel => exact ⟨k + 1, by omega, by go_num, quiet_more HQ.out _, .inl ⟨rfl, fun j hj => if e : j = k then e ▸ HKP.out else HALLP.out j (by omega)⟩⟩
        case measure => simp [intOf]; omega
       ·rw [decide_eq_false hkp] at m0
        have HKP := Lib.hid hkp
        clear hkp
        go_wp2_with fail
        go_quiet (fail)
        go_wp2_with fail
        go_roundw
        case rel => exact ⟨k + 1, by omega, by go_num, quiet_more HQ.out _, .inr ⟨k, rfl, Least.first HALLP.out HKP.out⟩⟩
        case measure => simp [intOf]; omega
      ·have HLE := Lib.hid hle
       have hbk : b < k := hle.1
       clear hle
       have hb0 : decide ((b : Int) < 0) = false := by simp
       by_cases hkp : k ∈ p
       ·rw [decide_eq_true hkp] at m0
        have HKP := Lib.hid hkp
        clear hkp
        go_wp2_with fail
        go_quiet (fail)
        go_wp2_with fail
        go_roundw
        case rel => exact ⟨k + 1, by omega, by go_num, quiet_more HQ.out _, .inr ⟨b, rfl, HLE.out.keep (.inl HKP.out)⟩⟩
        case measure => simp [intOf]; omega
       ·rw [decide_eq_false hkp] at m0
        have HKP := Lib.hid hkp
        clear hkp
        have hbx : names[b]? = some (atN names b) := by rw [atN, List.getD_eq_getElem?_getD, List.getElem?_eq_getElem (by rw [HN.out]; omega)]; rfl
        have n1 : wr.cell? ⟨g, o + b, none⟩ = some (.string ⟨(atN names b).toArray⟩) := cell_quiet ((HB.out.cell (p := ⟨g, o + b, none⟩) hg).trans (HX.out b _ hbx).st) HQ.out
        have hbI : (b : Int) < n := by omega
        have hbn : b < n := by omega
        clear hbx
        generalize hanb : atN names b = nb at n1
        have HNB := Lib.hid hanb
        clear hanb
        by_cases hlx : nk < nb
        ·have hbl : Op.bytesLess nk nb = true := by rw [bytesLess_eq]; simp [hlx]
         have HLX := Lib.hid hlx
         clear hlx
         go_wp2_with fail
         go_quiet (fail)
         go_wp2_with fail
         go_roundw
         case rel => exact ⟨k + 1, by omega, by go_num, quiet_more HQ.out _, .inr ⟨k, rfl, HLE.out.less HKP.out (by rw [HNK.out, HNB.out]; exact HLX.out)⟩⟩
         case measure => simp [intOf]; omega
        ·have hbl : Op.bytesLess nk nb = false := by rw [bytesLess_eq]; simp [hlx]
         have HLX := Lib.hid hlx
         clear hlx
         go_wp2_with fail
         go_quiet (fail)
         go_wp2_with fail
         go_roundw
         case rel => exact ⟨k + 1, by omega, by go_num, quiet_more HQ.out _, .inr ⟨b, rfl, HLE.out.keep (.inr (by rw [HNK.out, HNB.out]; exact HLX.out))⟩⟩
         case measure => simp [intOf]; omega
     ·have hke : k = n := by omega
      subst hke
      rcases hbest with ⟨-, hall⟩ | ⟨b, rfl, hle⟩
      ·exact absurd (fun j hj => hall j (by rw [← HN.out]; exact hj)) (HSEL.out.some (by rw [HN.out]; exact hlt))
      ·obtain ⟨wi, rfl⟩ : ∃ wi : World, wi = wr := ⟨_, rfl⟩
       have HLE := Lib.hid hle
       have hbn : b < k := hle.1
       clear hle
       have hbI : (b : Int) < k := by omega
       have hbI0 : ¬ (b : Int) < 0 := by omega
       have hbx : names[b]? = some (atN names b) := by rw [atN, List.getD_eq_getElem?_getD, List.getElem?_eq_getElem (by rw [HN.out]; exact hbn)]; rfl
       have HSN : Hid ((ByteArray.mk (atN names b).toArray).size ≤ maxLen) := Lib.hid (HSH.out _ (List.mem_of_getElem? hbx))
       have HNW : Hid (w.cell? ⟨g, o + b, none⟩ = some (.string ⟨(atN names b).toArray⟩)) := Lib.hid (HX.out b _ hbx).st
       obtain ⟨g2, o2, rfl, hg2, hx2⟩ := HH2.out (by omega)
       obtain ⟨zb, hzb⟩ : ∃ a, zs[b]? = some a := ⟨_, List.getElem?_eq_getElem (by rw [HZL.out, ← HL.out]; exact hbn)⟩
       have HZW : Hid (w.cell? ⟨g2, o2 + b, none⟩ = some (.slice zb.1 zb.2.1 zb.2.2)) := Lib.hid (hx2 b zb hzb).one
       have HZB : Hid (zs.getD b (none, 0, 0) = zb) := Lib.hid (by rw [List.getD_eq_getElem?_getD, hzb]; rfl)
       have HBI : Hid (Below w.heap.size w wi) := Lib.hid (HB.out.trans ((below_quiet HQ.out).mono HB.out.size))
       have HSI := Lib.hid (HS.out.below (below_quiet HQ.out))
       have HZI := Lib.hid (HZ.out.below (below_quiet HQ.out))
       have HMI := Lib.hid (HM.out.below (below_quiet HQ.out))
       have n1 := (HBI.out.cell (p := ⟨g, o + b, none⟩) hg).trans HNW.out
       have HMI' : Hid (Own boc 1 4 w.heap.size wi (.slice (some ⟨w.heap.size + 1 + 1, 0, none⟩) (marks k p).length k) (marks k p)) := Lib.hid (by rw [marks_len]; exact HMI.out)
       have m1 : wi.cell? ⟨w.heap.size + 1 + 1, b, none⟩ = some (.bool (decide (b ∈ p))) := by
        have := Own.cell boc_len (j := 0) HMI'.out (marks_at p hbn) rfl
        simpa using this
       have f1 : wi.frozen? ⟨w.heap.size + 1 + 1, b, none⟩ = false := HMI'.out.free b
       have HALLW : Hid (∀ m W', (wi.drewN m).setCell ⟨w.heap.size + 1 + 1, b, none⟩ (.bool true) = W' → Own stc 1 9 w.heap.size W' (.slice As p.length cs') (p.map (atN names)) ∧ Own slc 1 27 w.heap.size W' u7 (p.map fun j => zs.getD j (none, 0, 0)) ∧ Own boc 1 4 w.heap.size W' (.slice (some ⟨w.heap.size + 1 + 1, 0, none⟩) k k) (marks k (p ++ [b])) ∧ Below w.heap.size w W') := Lib.hid (fun m W' hW' => by
        subst hW'
        have hgr : (wi.drewN m).grownBy ((wi.drewN m).setCell ⟨w.heap.size + 1 + 1, b, none⟩ (.bool true)) (Value.slice (some ⟨w.heap.size + 1 + 1, 0, none⟩) k k).ownBlock := grown_set (World.grownBy.refl _ _) (.inl rfl) _
        have hmm : Own boc 1 4 w.heap.size (wi.drewN m) (.slice (some ⟨w.heap.size + 1 + 1, 0, none⟩) k k) (marks k p) := HMI.out.drewN m
        refine ⟨Own.aside (HSI.out.drewN m) hmm (by decide) hgr, Own.aside (HZI.out.drewN m) hmm (by decide) hgr, ?_, (drewN_below HBI.out m).setCell (by show w.heap.size ≤ w.heap.size + 1 + 1; omega) _⟩
        have h := Own.put boc_len (j := 0) (y := true) (u := .bool true) (HMI'.out.drewN m) (marks_at p hbn) (by decide) rfl
        rw [marks_set, marks_len] at h
        simpa using h)
       have HTW : Hid (∀ a, a ∈ p → atN names a = atN names b → objB names L = false) := Lib.hid (fun a ha he => Sel.twice (HSEL.out.lt a ha) (by rw [HN.out]; exact hbn) (fun (e : a = b) => HLE.out.2.1 (by rw [← e]; exact ha)) he)
       have HWR : Hid (vld (atN names b) = false → objB names L = false) := Lib.hid (fun h => Sel.wrong (by rw [HN.out]; exact hbn) h)
       have HNX : Hid (vld (atN names b) = true → (∀ q a, p = q ++ [a] → atN names a ≠ atN names b) → Sel names (p ++ [b])) := Lib.hid (fun h1 h2 => HSEL.out.next (by rw [HN.out]; exact HLE.out) h1 h2)
       clear hbx hzb hx2
       generalize hans : atN names b = nb at n1 HSN HNW HTW HWR HNX
       have HNB := Lib.hid hans
       clear hans
       cases hvl : vld nb with
       | false =>
        have HC : Hid (∀ m, Calls Tryz.prog 18 #[.string ⟨nb.toArray⟩] (wi.drewN m) fun e w' => e = .returned (.bool false) ∧ w' = wi.drewN m) := Lib.hid fun m => (refUtf_any ⟨nb.toArray⟩ _ HSN.out).mono fun _ _ ⟨h1, h2⟩ => ⟨by rw [h1, ← hvl], h2.symm⟩
        have HBAD := Lib.hid (HWR.out hvl)
        clear hvl
        go_wp2_with fail
        go_quiet ((go_at_call 18; exact Calls.quiet_of_same (HC.out _)))
        go_wp2_with fail
        go_ret2
        exact GivesO.bad HBAD.out rfl (drewN_below HBI.out _)
       | true =>
        have HC : Hid (∀ m, Calls Tryz.prog 18 #[.string ⟨nb.toArray⟩] (wi.drewN m) fun e w' => e = .returned (.bool true) ∧ w' = wi.drewN m) := Lib.hid fun m => (refUtf_any ⟨nb.toArray⟩ _ HSN.out).mono fun _ _ ⟨h1, h2⟩ => ⟨by rw [h1, ← hvl], h2.symm⟩
        have HV := Lib.hid hvl
        clear hvl
        rcases List.eq_nil_or_concat p with hp | ⟨q, a, hp⟩
        ·have HNEXT := Lib.hid (HNX.out HV.out (fun q a e => by rw [hp] at e; exact absurd e (by simp)))
         have hp0 : p.length = 0 := by rw [hp]; rfl
         have g0 : decide ((0 : Int) < p.length) = false := by simp; omega
         have g1 : decide (0 < p.length) = false := by simp; omega
         clear hp hp0
         go_wp2_with fail
         go_quiet ((go_at_call 18; exact Calls.quiet_of_same (HC.out _)))
         go_upto_region 16 with fail
         generalize hW : World.setCell (World.drewN wi _) _ _ = W3
         obtain ⟨hs3, hz3, hm3, hb3⟩ := HALLW.out _ _ hW
         have n3 := (hb3.cell (p := ⟨g, o + b, none⟩) hg).trans HNW.out
         have HS3 := Lib.hid hs3
         have HZ3 := Lib.hid hz3
         have HM3 := Lib.hid hm3
         have HB3 := Lib.hid hb3
         clear hs3 hz3 hm3 hb3 hW m1 f1 n1
         go_wp2_with (at_builtin; refine wpList_append_row (base := w.heap.size) elText rfl _ _ rfl rfl (HS3.out.alloc _) rfl (row_one stc_len W3 _ rfl 9 #[.string ⟨nb.toArray⟩] nb rfl) ?_ ?_ ?_ ?_)
         ·unfold maxLen; simp; omega
         ·simp; omega
         ·have := HB3.out.size; simp; omega
         ·intro A4 c4 w4 hown4 hg4 hwh
          clear hwh
          have HS4 : Hid (Own stc 1 9 w.heap.size w4 (.slice A4 (p.length + 1) c4) ((p ++ [b]).map (atN names))) := Lib.hid (by rw [List.map_append]; show Own _ _ _ _ _ _ (p.map (atN names) ++ [atN names b]); rw [HNB.out]; simpa using hown4)
          have HZ4 := Lib.hid (Own.aside (HZ3.out.alloc _) (HS3.out.alloc _) (by decide) hg4)
          have HM4 := Lib.hid (Own.aside (HM3.out.alloc _) (HS3.out.alloc _) (by decide) hg4)
          have HB4 : Hid (Below w.heap.size w w4) := Lib.hid ((HB3.out.alloc HB3.out.size _).trans ((HS3.out.alloc _).kept hg4 (by have := HB3.out.size; simp; omega)))
          clear hown4 hg4 n3
          have z4 := (HB4.out.cell (p := ⟨g2, o2 + b, none⟩) hg2).trans HZW.out
          try simp only [List.length_map]
          go_wp2_with (at_builtin; refine wpList_append_row (base := w.heap.size) elVal rfl _ _ rfl rfl (HZ4.out.alloc _) rfl (row_one slc_len w4 _ rfl 27 #[.slice zb.1 zb.2.1 zb.2.2] zb rfl) ?_ ?_ ?_ ?_)
          ·unfold maxLen; simp; omega
          ·simp; omega
          ·have := HB4.out.size; simp; omega
          ·intro A5 c5 w5 hown5 hg5 hwh
           clear hwh
           have HZ5 : Hid (Own slc 1 27 w.heap.size w5 (.slice A5 (p.length + 1) c5) ((p ++ [b]).map fun j => zs.getD j (none, 0, 0))) := Lib.hid (by rw [List.map_append]; show Own _ _ _ _ _ _ ((p.map fun j => zs.getD j (none, 0, 0)) ++ [zs.getD b (none, 0, 0)]); rw [HZB.out]; simpa using hown5)
           have HS5 := Lib.hid (Own.aside (HS4.out.alloc _) (HZ4.out.alloc _) (by decide) hg5)
           have HM5 := Lib.hid (Own.aside (HM4.out.alloc _) (HZ4.out.alloc _) (by decide) hg5)
           have HB5 : Hid (Below w.heap.size w w5) := Lib.hid ((HB4.out.alloc HB4.out.size _).trans ((HZ4.out.alloc _).kept hg5 (by have := HB4.out.size; simp; omega)))
           clear hown5 hg5 z4
           try simp only [List.length_map]
           go_wp2_with fail
           go_roundw
           case rel => exact ⟨p ++ [b], HNEXT.out, ⟨A4, c4, by simp⟩, HS5.out, HZ5.out, HM5.out, HB5.out⟩
           case measure => simp [lenOf]; omega
        ·rw [List.concat_eq_append] at hp
         have hpq : p.length = q.length + 1 := by rw [hp]; simp
         have hin : a ∈ p := by rw [hp]; simp
         obtain ⟨gs, cap, hform, -, -⟩ := HSI.out.opened (by rw [List.length_map]; omega)
         injection hform with e1 e2 e3
         clear e2
         subst e1
         subst e3
         have s1 : wi.cell? ⟨gs, q.length, none⟩ = some (.string ⟨(atN names a).toArray⟩) := by
          have h' : Own stc 1 9 w.heap.size wi (.slice (some ⟨gs, 0, none⟩) (p.map (atN names)).length cs') (p.map (atN names)) := by rw [List.length_map]; exact HSI.out
          have := Own.cell stc_len (k := q.length) (x := atN names a) (j := 0) h' (by rw [hp]; simp) rfl
          simpa using this
         have g0 : decide ((0 : Int) < p.length) = true := by simp; omega
         have g1 : decide (0 < p.length) = true := by simp; omega
         have hw1 : IntKind.i64.wrap ((p.length : Int) - 1) = (q.length : Int) := (IntWalk.i64_in _ (by omega)).trans (by omega)
         have hqi : (q.length : Int) < p.length := by omega
         have hqn : q.length < p.length := by omega
         have HPQ := Lib.hid hp
         clear hp hpq
         generalize hans : atN names a = na at s1
         have HNA := Lib.hid hans
         clear hans
         have HIN := Lib.hid hin
         clear hin
         generalize q.length = ql at *
         by_cases he : na = nb
         ·have HBAD := Lib.hid (HTW.out a HIN.out (HNA.out.trans he))
          subst he
          go_wp2_with fail
          go_quiet ((go_at_call 18; exact Calls.quiet_of_same (HC.out _)))
          go_wp2_with fail
          go_ret2
          exact GivesO.bad HBAD.out rfl (drewN_below HBI.out _)
         ·have hne : (na == nb) = false := by simp [he]
          have HNEXT := Lib.hid (HNX.out HV.out (fun q' a' e => by
           have e2 := HPQ.out.symm.trans e
           have e3 := (List.append_inj' e2 rfl).2
           injection e3 with e4 _
           rw [← e4, HNA.out]; exact he))
          clear he
          go_wp2_with fail
          go_quiet ((go_at_call 18; exact Calls.quiet_of_same (HC.out _)))
          go_upto_region 16 with fail
          generalize hW : World.setCell (World.drewN wi _) _ _ = W3
          obtain ⟨hs3, hz3, hm3, hb3⟩ := HALLW.out _ _ hW
          have n3 := (hb3.cell (p := ⟨g, o + b, none⟩) hg).trans HNW.out
          have HS3 := Lib.hid hs3
          have HZ3 := Lib.hid hz3
          have HM3 := Lib.hid hm3
          have HB3 := Lib.hid hb3
          clear hs3 hz3 hm3 hb3 hW m1 f1 n1
          go_wp2_with (at_builtin; refine wpList_append_row (base := w.heap.size) elText rfl _ _ rfl rfl (HS3.out.alloc _) rfl (row_one stc_len W3 _ rfl 9 #[.string ⟨nb.toArray⟩] nb rfl) ?_ ?_ ?_ ?_)
          ·unfold maxLen; simp; omega
          ·simp; omega
          ·have := HB3.out.size; simp; omega
          ·intro A4 c4 w4 hown4 hg4 hwh
           clear hwh
           have HS4 : Hid (Own stc 1 9 w.heap.size w4 (.slice A4 (p.length + 1) c4) ((p ++ [b]).map (atN names))) := Lib.hid (by rw [List.map_append]; show Own _ _ _ _ _ _ (p.map (atN names) ++ [atN names b]); rw [HNB.out]; simpa using hown4)
           have HZ4 := Lib.hid (Own.aside (HZ3.out.alloc _) (HS3.out.alloc _) (by decide) hg4)
           have HM4 := Lib.hid (Own.aside (HM3.out.alloc _) (HS3.out.alloc _) (by decide) hg4)
           have HB4 : Hid (Below w.heap.size w w4) := Lib.hid ((HB3.out.alloc HB3.out.size _).trans ((HS3.out.alloc _).kept hg4 (by have := HB3.out.size; simp; omega)))
           clear hown4 hg4 n3
           have z4 := (HB4.out.cell (p := ⟨g2, o2 + b, none⟩) hg2).trans HZW.out
           try simp only [List.length_map]
           go_wp2_with (at_builtin; refine wpList_append_row (base := w.heap.size) elVal rfl _ _ rfl rfl (HZ4.out.alloc _) rfl (row_one slc_len w4 _ rfl 27 #[.slice zb.1 zb.2.1 zb.2.2] zb rfl) ?_ ?_ ?_ ?_)
           ·unfold maxLen; simp; omega
           ·simp; omega
           ·have := HB4.out.size; simp; omega
           ·intro A5 c5 w5 hown5 hg5 hwh
            clear hwh
            have HZ5 : Hid (Own slc 1 27 w.heap.size w5 (.slice A5 (p.length + 1) c5) ((p ++ [b]).map fun j => zs.getD j (none, 0, 0))) := Lib.hid (by rw [List.map_append]; show Own _ _ _ _ _ _ ((p.map fun j => zs.getD j (none, 0, 0)) ++ [zs.getD b (none, 0, 0)]); rw [HZB.out]; simpa using hown5)
            have HS5 := Lib.hid (Own.aside (HS4.out.alloc _) (HZ4.out.alloc _) (by decide) hg5)
            have HM5 := Lib.hid (Own.aside (HM4.out.alloc _) (HZ4.out.alloc _) (by decide) hg5)
            have HB5 : Hid (Below w.heap.size w w5) := Lib.hid ((HB4.out.alloc HB4.out.size _).trans ((HZ4.out.alloc _).kept hg5 (by have := HB4.out.size; simp; omega)))
            clear hown5 hg5 z4
            try simp only [List.length_map]
            go_wp2_with fail
            go_roundw
            case rel => exact ⟨p ++ [b], HNEXT.out, ⟨A4, c4, by simp⟩, HS5.out, HZ5.out, HM5.out, HB5.out⟩
            case measure => simp [lenOf]; omega
   ·have hpe : p.length = n := by omega
    obtain ⟨wo, rfl⟩ : ∃ wo : World, wo = wr := ⟨_, rfl⟩
    have HD := Lib.hid (HSEL.out.done (L := L) (by rw [HN.out]; exact hpe) (by rw [HN.out]; exact HL.out))
    have hpl2 := HSEL.out.places (by rw [HN.out]; exact hpe)
    have hnl : names.length = L.length := by rw [HN.out]; exact HL.out
    have HS1 : Hid (Sts wo (.slice As p.length cs') (p.map (atN names))) := Lib.hid (HS.out.row stc_len)
    have HZ1 := Lib.hid (HZ.out.row slc_len)
    have HV1 : Hid (Vls wo u7 (p.map (atL L))) := Lib.hid (Els.vls ⟨by simp, fun k z l hz hl => by
     rw [List.getElem?_map] at hz hl
     cases hi : p[k]? with
     | none => rw [hi] at hz; cases hz
     | some i =>
      rw [hi] at hz hl
      injection hz with hz
      injection hl with hl
      have hin := HSEL.out.lt i (List.mem_of_getElem? hi)
      have hx := HE.out.2 i z l (by rw [← hz]; show zs[i]? = some (zs.getD i (none, 0, 0)); rw [List.getD_eq_getElem?_getD, List.getElem?_eq_getElem (by rw [HE.out.1, ← hnl]; exact hin)]; rfl) (by rw [← hl]; show L[i]? = some (L.getD i []); rw [List.getD_eq_getElem?_getD, List.getElem?_eq_getElem (by rw [← hnl]; exact hin)]; rfl)
      exact hx.below HB.out⟩ HZ1.out)
    have hq1 : (p.map (atN names)).length = (p.map (atL L)).length := by simp
    have hq2 : (p.map (atL L)).length ≤ 65536 := by rw [List.length_map]; omega
    have hq3 : ((p.map (atL L)).map List.length).sum ≤ 131072 := by
     rw [List.map_map]
     have := hpl2.sum (L := L) hnl
     have h2 := HB2.out
     exact Nat.le_trans (Nat.le_of_eq this) h2
    have hq4 : ∀ l ∈ p.map (atL L), l ≠ [] := fun l hl => by
     obtain ⟨i, hi, rfl⟩ := List.mem_map.1 hl
     have hin := HSEL.out.lt i hi
     refine HNE.out _ ?_
     rw [atL, List.getD_eq_getElem?_getD, List.getElem?_eq_getElem (by rw [← hnl]; exact hin)]
     exact List.getElem_mem _
    have HQ := Lib.hid (refNamed_any _ _ _ _ _ HS1.out HV1.out hq1 hq2 hq3 hq4)
    have HLN : Hid ((p.map (atL L)).length = L.length) := Lib.hid (by rw [List.length_map, hpe]; exact HL.out)
    clear hq1 hq2 hq3 hq4 hpl2 hnl hpe hpl
    go_wp2_with (go_at_call 46; refine HQ.out.mono ?_; rintro e w2 ⟨v2, rfl, ho2, hB2⟩)
    have HO2 := Lib.hid ho2
    have HB2' := Lib.hid hB2
    clear ho2 hB2
    go_ret2
    refine ⟨_, by rw [objE, HD.out.1]; rfl, ?_, HB.out.trans (HB2'.out.mono HB.out.size)⟩
    rw [HD.out.2, ← HLN.out]
    exact HO2.out.mono HB.out.size
 ·have hne : ((names.length : Int) != zs.length) = true := by simp; omega
  have HO : Hid (objB names L = false) := Lib.hid (by simp [objB, hl])
  clear hl hzl H H2 hu hels
  generalize names.length = n at *
  generalize zs.length = m at *
  go_enter Tryz.func22, Tryz.ntmps22
  go_wp2_with fail
  go_ret2
  exact GivesO.bad HO.out rfl (Below.refl _ _)
end
section
open Go.RowKit Go.Shelf Np Rw Vp Pw Fw Ev Ov
def oN : Nd := ⟨3, 0, [], [49], false, 0⟩
def oT : Tr Nd := .mk oN []
def vTo : Tr Nd := .mk ⟨6, 1, [], [], false, 0⟩ [.mk ⟨3, 0, [97], [49], false, 0⟩ []]
def eTo : Tr Nd := .mk ⟨6, 0, [], [], false, 0⟩ []
def stA : List St := [⟨false, [97], 0⟩]
theorem oT_val : Val oT := ⟨okT_mk.2 ⟨rfl, by simp⟩, by decide, rfl⟩
theorem vTo_val : Val vTo := ⟨okT_mk.2 ⟨rfl, by simp [okTs_cons, okT_mk, many]⟩, by decide +kernel, rfl⟩
theorem along_vTo : alongE stA vTo = some oT := by rfl
theorem along_oT : alongE stA oT = none := by rfl
theorem cut_vTo : cutE stA vTo = some eTo := by rfl
theorem obj_vTo : objV [[97]] [[oN]] = flat vTo ∧ objE [[97]] [[oN]] = 0 := by constructor <;> decide +kernel
theorem read_dotA : readP [46, 97] = (stA, 0, 0) := by decide +kernel
theorem holds_oT : cndR 5 oN (.ok oT) = (true, 0) := by
 show (soP 5 (cmpT (flatT oT) (.mk oN [])), (0 : Int)) = _
 rw [show cmpT (flatT oT) (.mk oN []) = 0 from cmpT_refl oT]
 rfl
theorem flatT_val {t : Tr Nd} (h : Val t) : Val (flatT t) := by
 obtain ⟨h1, h2, h3⟩ := h
 obtain ⟨n, ks⟩ := t
 rw [rightT_mk, Bool.and_eq_true] at h2
 refine ⟨okT_mk.2 ⟨rfl, by simp⟩, ?_, h3⟩
 show rightT (.mk { n with many := 0 } []) = true
 rw [rightT_mk, Bool.and_eq_true]
 refine ⟨?_, by simp⟩
 by_cases h56 : n.kind = 5 ∨ n.kind = 6
 ·exact plainN_many_any (m := 0) h2.1 h56
 ·have h0 := (plainN_many h2.1).2 (fun e => h56 (.inl e)) (fun e => h56 (.inr e))
  rw [node_many h0]; exact h2.1
theorem vls_ofx (W : World) (n : Nat) (hn : W.heap.size = n) (E : TypeId) (x : Value) (l : List Nd) (h : Nds W x l) : Vls (W.alloc (.cells #[x] E)) (.slice (some ⟨n, 0, none⟩) 1 1) [l] := by
 subst hn
 refine ⟨[x], rfl, Row.lit (enc := fun x => [x]) (sz := 1) (fun _ => rfl) W E #[x] [x] (by show 1 ≤ maxLen; decide) rfl, fun k y m hy hm => ?_⟩
 match k, hy, hm with
 | 0, hy, hm => simp at hy hm; subst hy hm; exact h.below ((Below.refl _ _).alloc (Nat.le_refl _) _)
 | k + 1, hy, hm => simp at hy
def tmA : Tm := ⟨1, 0, [], [97], 0, zeroC⟩
def tmB : Tm := ⟨16, 0, [], [46, 97], 5, oN⟩
theorem OutV.up {W W' w' : World} {r : Rz} {e : Ending} (hb : Below W.heap.size W W') (h : OutV W' r e w') : OutV W r e w' := by
 cases r with
 | bad k => exact ⟨h.1, Below.after hb h.2⟩
 | ok t => obtain ⟨v', h1, h2, h3⟩ := h; exact ⟨v', h1, h2, Below.after hb h3⟩
theorem tmA_alloc (W : World) : Tm11 (W.alloc (.cells #[.int .i64 1, .int .i64 0, .string ⟨#[]⟩, .string ⟨#[97]⟩, .int .i64 0, .int .i64 0, .int .i64 0, .string ⟨#[]⟩, .string ⟨#[]⟩, .bool false, .int .i64 0] 32)) W.heap.size 0 tmA := by
 have h := heap_alloc_new W (.cells #[.int .i64 1, .int .i64 0, .string ⟨#[]⟩, .string ⟨#[97]⟩, .int .i64 0, .int .i64 0, .int .i64 0, .string ⟨#[]⟩, .string ⟨#[]⟩, .bool false, .int .i64 0] 32)
 constructor <;> (rw [Lib.cell_of_heap h]; rfl)
theorem tmB_alloc (W : World) : Tm11 (W.alloc (.cells #[.int .i64 16, .int .i64 0, .string ⟨#[]⟩, .string ⟨#[46, 97]⟩, .int .i64 5, .int .i64 3, .int .i64 0, .string ⟨#[]⟩, .string ⟨#[49]⟩, .bool false, .int .i64 0] 32)) W.heap.size 0 tmB := by
 have h := heap_alloc_new W (.cells #[.int .i64 16, .int .i64 0, .string ⟨#[]⟩, .string ⟨#[46, 97]⟩, .int .i64 5, .int .i64 3, .int .i64 0, .string ⟨#[]⟩, .string ⟨#[49]⟩, .bool false, .int .i64 0] 32)
 constructor <;> (rw [Lib.cell_of_heap h]; rfl)
theorem evA1 (W : World) (v : Value) (u : Tr Nd) (hv : Nds W v (flat u)) (hu : Val u) (hl : (flat u).length ≤ 60000) (B : Nat) (hB : B = W.heap.size) :
  Calls Tryz.prog 23 #[.slice (some ⟨B, 0, none⟩) 1 1, v] (W.alloc (.cells #[.int .i64 1, .int .i64 0, .string ⟨#[]⟩, .string ⟨#[97]⟩, .int .i64 0, .int .i64 0, .int .i64 0, .string ⟨#[]⟩, .string ⟨#[]⟩, .bool false, .int .i64 0] 32)) (OutV W (ofO (alongE stA u))) := by
 subst hB
 have hb := (Below.refl W.heap.size W).alloc (Nat.le_refl _) (.cells #[.int .i64 1, .int .i64 0, .string ⟨#[]⟩, .string ⟨#[97]⟩, .int .i64 0, .int .i64 0, .int .i64 0, .string ⟨#[]⟩, .string ⟨#[]⟩, .bool false, .int .i64 0] 32)
 exact (evEval_field _ v tmA u _ ⟨W.heap.size, 0, by simp, rfl, tmA_alloc W⟩ rfl (by decide) (hv.below hb) hu hl).mono fun e w' h => OutV.up hb h
theorem evA2 (W : World) (B : Nat) (hB : B = W.heap.size) :
  Calls Tryz.prog 23 #[.slice (some ⟨B, 0, none⟩) 1 1, .slice (some ⟨B + 1, 0, none⟩) 1 1] ((W.alloc (.cells #[.int .i64 1, .int .i64 0, .string ⟨#[]⟩, .string ⟨#[97]⟩, .int .i64 0, .int .i64 0, .int .i64 0, .string ⟨#[]⟩, .string ⟨#[]⟩, .bool false, .int .i64 0] 32)).alloc (.cells #[.int .i64 0, .int .i64 0, .string ⟨#[]⟩, .string ⟨#[]⟩, .bool false, .int .i64 0] 30)) (OutV W (.ok nullT)) := by
 subst hB
 have hb1 := (Below.refl W.heap.size W).alloc (Nat.le_refl _) (.cells #[.int .i64 1, .int .i64 0, .string ⟨#[]⟩, .string ⟨#[97]⟩, .int .i64 0, .int .i64 0, .int .i64 0, .string ⟨#[]⟩, .string ⟨#[]⟩, .bool false, .int .i64 0] 32)
 have hb2 := (Below.refl _ (W.alloc (.cells #[.int .i64 1, .int .i64 0, .string ⟨#[]⟩, .string ⟨#[97]⟩, .int .i64 0, .int .i64 0, .int .i64 0, .string ⟨#[]⟩, .string ⟨#[]⟩, .bool false, .int .i64 0] 32))).alloc (Nat.le_refl _) (.cells #[.int .i64 0, .int .i64 0, .string ⟨#[]⟩, .string ⟨#[]⟩, .bool false, .int .i64 0] 30)
 have hn : Nds ((W.alloc (.cells #[.int .i64 1, .int .i64 0, .string ⟨#[]⟩, .string ⟨#[97]⟩, .int .i64 0, .int .i64 0, .int .i64 0, .string ⟨#[]⟩, .string ⟨#[]⟩, .bool false, .int .i64 0] 32)).alloc (.cells #[.int .i64 0, .int .i64 0, .string ⟨#[]⟩, .string ⟨#[]⟩, .bool false, .int .i64 0] 30)) (.slice (some ⟨W.heap.size + 1, 0, none⟩) 1 1) (flat nullT) := row_one ndc_len (W.alloc (.cells #[.int .i64 1, .int .i64 0, .string ⟨#[]⟩, .string ⟨#[97]⟩, .int .i64 0, .int .i64 0, .int .i64 0, .string ⟨#[]⟩, .string ⟨#[]⟩, .bool false, .int .i64 0] 32)) _ (by simp) _ _ zeroN rfl
 have h := evEval_field _ _ tmA nullT _ ⟨W.heap.size, 0, by simp; omega, rfl, (tmA_alloc W).below (by simp) hb2⟩ rfl (by decide) hn nullT_val (by rw [nullT_len]; omega)
 rw [show alongE [⟨false, tmA.s, 0⟩] nullT = some nullT from along_nullT _] at h
 exact h.mono fun e w' h => OutV.up (Below.after hb1 hb2) h
theorem evB1 (W : World) (v : Value) (hv : Nds W v (flat vTo)) (B : Nat) (hB : B = W.heap.size) (hT : Pv W) :
  Calls Tryz.prog 9 #[.slice (some ⟨B, 0, none⟩) 1 1, v] (W.alloc (.cells #[.int .i64 16, .int .i64 0, .string ⟨#[]⟩, .string ⟨#[46, 97]⟩, .int .i64 5, .int .i64 3, .int .i64 0, .string ⟨#[]⟩, .string ⟨#[49]⟩, .bool false, .int .i64 0] 32)) fun e w' => e = .returned (.tuple #[.bool true, .int .i64 0]) ∧ Below W.heap.size W w' := by
 subst hB
 have hb := (Below.refl W.heap.size W).alloc (Nat.le_refl _) (.cells #[.int .i64 16, .int .i64 0, .string ⟨#[]⟩, .string ⟨#[46, 97]⟩, .int .i64 5, .int .i64 3, .int .i64 0, .string ⟨#[]⟩, .string ⟨#[49]⟩, .bool false, .int .i64 0] 32)
 have h := evHolds_cmp _ v tmB stA 0 vTo _ ⟨W.heap.size, 0, by simp, rfl, tmB_alloc W⟩ rfl read_dotA (by intro x hx; simp [stA] at hx; subst hx; decide) (by decide) oT_val (hv.below hb) vTo_val (by decide) (hT.below hb) (fun t ht _ u hu => by
  cases hc : alongE stA t with
  | none => rw [hc] at hu; cases hu
  | some y =>
   rw [hc] at hu; injection hu with hu; subst hu
   exact flatT_val (along_val _ ht hc))
 rw [along_vTo, show cndR tmB.n tmB.c (ofO (some oT)) = (true, 0) from holds_oT] at h
 exact h.mono fun e w' ⟨h1, h2⟩ => ⟨h1, Below.after hb h2⟩
theorem evD1 (W : World) (v : Value) (hv : Nds W v (flat vTo)) (B : Nat) (hB : B = W.heap.size) :
  Calls Tryz.prog 13 #[.slice (some ⟨B, 0, none⟩) 1 1, v] (W.alloc (.cells #[.bool false, .string ⟨#[97]⟩, .int .i64 0] 49)) (OutV W (.ok eTo)) := by
 subst hB
 have hb := (Below.refl W.heap.size W).alloc (Nat.le_refl _) (.cells #[.bool false, .string ⟨#[97]⟩, .int .i64 0] 49)
 have hp : Sps (W.alloc (.cells #[.bool false, .string ⟨#[97]⟩, .int .i64 0] 49)) (.slice (some ⟨W.heap.size, 0, none⟩) 1 1) stA := Row.lit spc_len W 49 _ stA (by show 1 ≤ maxLen; decide) rfl
 have h := evDelete_any _ v stA vTo _ hp (by intro x hx; simp [stA] at hx; subst hx; decide) (hv.below hb) vTo_val (by decide)
 rw [cut_vTo] at h
 exact h.mono fun e w' h => OutV.up hb h
theorem evAlive_any (w : World) (hT : Pv w) : Calls Tryz.prog 8 #[] w fun e w' => e = .returned (.bool true) ∧ Below w.heap.size w w' := by
 have HT := Lib.hid hT
 clear hT
 obtain ⟨W0, hW0⟩ : ∃ W0, W0 = ((w.alloc (.cells #[.int .i64 3, .int .i64 0, .string ⟨#[]⟩, .string ⟨#[49]⟩, .bool false, .int .i64 0] 30)).alloc (.cells #[.string ⟨#[97]⟩] 9)).alloc (.cells #[.slice (some ⟨w.heap.size, 0, none⟩) 1 1] 27) := ⟨_, rfl⟩
 have hBA : Below (w.alloc (.cells #[.int .i64 3, .int .i64 0, .string ⟨#[]⟩, .string ⟨#[49]⟩, .bool false, .int .i64 0] 30)).heap.size (w.alloc (.cells #[.int .i64 3, .int .i64 0, .string ⟨#[]⟩, .string ⟨#[49]⟩, .bool false, .int .i64 0] 30)) ((w.alloc (.cells #[.int .i64 3, .int .i64 0, .string ⟨#[]⟩, .string ⟨#[49]⟩, .bool false, .int .i64 0] 30)).alloc (.cells #[.string ⟨#[97]⟩] 9)) := (Below.refl _ _).alloc (Nat.le_refl _) _
 have hBB : Below ((w.alloc (.cells #[.int .i64 3, .int .i64 0, .string ⟨#[]⟩, .string ⟨#[49]⟩, .bool false, .int .i64 0] 30)).alloc (.cells #[.string ⟨#[97]⟩] 9)).heap.size ((w.alloc (.cells #[.int .i64 3, .int .i64 0, .string ⟨#[]⟩, .string ⟨#[49]⟩, .bool false, .int .i64 0] 30)).alloc (.cells #[.string ⟨#[97]⟩] 9)) W0 := by rw [hW0]; exact (Below.refl _ _).alloc (Nat.le_refl _) _
 have hone : Nds (w.alloc (.cells #[.int .i64 3, .int .i64 0, .string ⟨#[]⟩, .string ⟨#[49]⟩, .bool false, .int .i64 0] 30)) (.slice (some ⟨w.heap.size, 0, none⟩) 1 1) [oN] := row_one ndc_len w _ rfl _ _ oN rfl
 have hnam : Sts ((w.alloc (.cells #[.int .i64 3, .int .i64 0, .string ⟨#[]⟩, .string ⟨#[49]⟩, .bool false, .int .i64 0] 30)).alloc (.cells #[.string ⟨#[97]⟩] 9)) (.slice (some ⟨w.heap.size + 1, 0, none⟩) 1 1) [[97]] := row_one stc_len (w.alloc (.cells #[.int .i64 3, .int .i64 0, .string ⟨#[]⟩, .string ⟨#[49]⟩, .bool false, .int .i64 0] 30)) _ (by simp) _ _ [97] rfl
 have HONE := Lib.hid ((hone.below hBA).below hBB)
 have HNAM := Lib.hid (hnam.below hBB)
 have HVAL : Hid (Vls W0 (.slice (some ⟨w.heap.size + 1 + 1, 0, none⟩) 1 1) [[oN]]) := Lib.hid (by rw [hW0]; exact vls_ofx ((w.alloc (.cells #[.int .i64 3, .int .i64 0, .string ⟨#[]⟩, .string ⟨#[49]⟩, .bool false, .int .i64 0] 30)).alloc (.cells #[.string ⟨#[97]⟩] 9)) _ (by simp) 27 _ [oN] (hone.below hBA))
 have HB0 : Hid (Below w.heap.size w W0) := Lib.hid (by rw [hW0]; exact (((Below.refl _ w).alloc (Nat.le_refl _) _).alloc (by simp) _).alloc (by simp; omega) _)
 clear hone hnam hBA hBB
 go_enter Tryz.func8, Tryz.ntmps8
 go_wp2_with fail
 rw [← hW0]
 clear hW0
 have hO := refObject_any _ _ [[97]] [[oN]] W0 HNAM.out HVAL.out (by decide) (by decide) (by intro s hs; simp at hs; subst hs; decide) (by intro l hl; simp at hl; subst hl; simp)
 refine hO.mono ?_
 rintro e w1 h1
 obtain ⟨A1, c1, rfl, hv1, hb1⟩ := h1.is (n := 2) (by decide +kernel)
 rw [obj_vTo.2, obj_vTo.1] at *
 have HV1 := Lib.hid hv1
 have HONE1 := Lib.hid (HONE.out.below hb1)
 have HB1 := Lib.hid (Below.after HB0.out hb1)
 clear hO h1 hv1 hb1 HONE HNAM HVAL HB0
 go_wp2_with fail
 refine (evA1 w1 _ vTo HV1.out vTo_val (by decide) _ rfl).mono ?_
 rw [along_vTo]
 rintro e w2 ⟨v2, rfl, hx2, hb2⟩
 obtain ⟨A2, c2, rfl, -⟩ := id hx2
 rw [show (flat oT).length = 1 from rfl]
 have HX2 := Lib.hid hx2
 have HV2 := Lib.hid (HV1.out.below hb2)
 have HONE2 := Lib.hid (HONE1.out.below hb2)
 have HB2 := Lib.hid (Below.after HB1.out hb2)
 clear hx2 hb2 HV1 HONE1
 go_wp2_with fail
 refine (evA2 w2 _ rfl).mono ?_
 rintro e w3 ⟨v3, rfl, hx3, hb3⟩
 obtain ⟨A3, c3, rfl, -⟩ := id hx3
 rw [nullT_len]
 have HX3 := Lib.hid (HX2.out.below hb3)
 have HV3 := Lib.hid (HV2.out.below hb3)
 have HONE3 := Lib.hid (HONE2.out.below hb3)
 have HB3 := Lib.hid (Below.after HB2.out hb3)
 clear hx3 hb3 HV2 HONE2 HX2
 go_wp2_with fail
 refine (evA1 w3 _ oT (by exact HONE3.out) oT_val (by decide) _ rfl).mono ?_
 rw [along_oT]
 rintro e w4 ⟨rfl, hb4⟩
 have HX4 := Lib.hid (HX3.out.below hb4)
 have HV4 := Lib.hid (HV3.out.below hb4)
 have HONE4 := Lib.hid (HONE3.out.below hb4)
 have HB4 := Lib.hid (Below.after HB3.out hb4)
 clear hb4 HV3 HONE3 HX3
 have hN4 : Nd6 w4 w.heap.size 0 oN := by
  obtain ⟨g, o, c, hv, -, -, -, hx⟩ := HONE4.out.opened (by simp)
  injection hv with e1 _ _
  injection e1 with e1
  injection e1 with e1 e2
  subst e1 e2
  have := (hx 0 oN rfl).nd
  simpa using this
 obtain ⟨z0, z1, z2, z3, z4, z5⟩ := hN4
 simp only [Nat.zero_add, oN] at z0 z1 z2 z3 z4 z5
 go_wp2_with fail
 clear z0 z1 z2 z3 z4 z5
 refine (evB1 w4 _ HV4.out _ rfl (HT.out.below HB4.out)).mono ?_
 rintro e w5 ⟨rfl, hb5⟩
 have HX5 := Lib.hid (HX4.out.below hb5)
 have HV5 := Lib.hid (HV4.out.below hb5)
 have HONE5 := Lib.hid (HONE4.out.below hb5)
 have HB5 := Lib.hid (Below.after HB4.out hb5)
 clear hb5 HV4 HONE4 HX4
 go_wp2_with fail
 refine (evD1 w5 _ HV5.out _ rfl).mono ?_
 rintro e w6 ⟨v6, rfl, hx6, hb6⟩
 obtain ⟨A6, c6, rfl, -⟩ := id hx6
 rw [show (flat eTo).length = 1 from rfl]
 have HX6 := Lib.hid (HX5.out.below hb6)
 have HONE6 := Lib.hid (HONE5.out.below hb6)
 have HB6 := Lib.hid (Below.after HB5.out hb6)
 clear hx6 hb6 HV5 HONE5 HX5
 go_wp2_with fail
 have hSm := refSame_any _ _ _ _ w6 HX6.out HONE6.out
 rw [show decide (flat oT = [oN]) = true from rfl] at hSm
 refine hSm.mono ?_
 rintro e w7 ⟨rfl, hb7⟩
 have HB7 := Lib.hid (Below.after HB6.out hb7)
 clear hSm hb7 HONE6 HX6
 go_wp2_with fail
 go_ret
 exact ⟨rfl, HB7.out⟩
end
end Go.Proofs.YtldioobbfkaebaaGreatDoor
