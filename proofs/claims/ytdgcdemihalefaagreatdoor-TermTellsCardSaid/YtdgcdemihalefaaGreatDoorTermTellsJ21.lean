/-
  Joined: NumPlain6, NumPlain7, NumPlain8, NumPlain9, NumPlain10, NumPlain11, TxR, TxS, TxT, PrS, TxW, TxX, FrG, TtP, TtA, TtB, TtC, NumPlain12, NumBy, NumW16, NumW17, TpWa, TpWb.
-/
import Derived.Test.YtdgcdemihalefaaGreatDoorNumPlain5
import Derived.Lib.Strings
import Derived.Test.YtdgcdemihalefaaGreatDoorTermTellsJ3
import Derived.Test.YtdgcdemihalefaaGreatDoorTermTellsJ1
import Derived.Test.YtdgcdemihalefaaGreatDoorTermTellsJ2
import Derived.Test.YtdgcdemihalefaaGreatDoorTermTellsJ20
import Derived.Test.YtdgcdemihalefaaGreatDoorTermTellsJ10
import Derived.Test.YtdgcdemihalefaaGreatDoorTermTellsJ4
import Derived.Test.YtdgcdemihalefaaGreatDoorTermTellsJ6
import Derived.Test.YtdgcdemihalefaaGreatDoorTermTellsJ11
import Derived.Laws.BytesArg
import Derived.Deep.RegionWith
import Derived.Deep.DeepCutAuto
import Derived.Deep.QuietTactic
import Derived.BigQuiet
import Derived.Test.YtdgcdemihalefaaGreatDoorQRef2
namespace Go.Proofs.YtdgcdemihalefaaGreatDoor
namespace Np
open Go.RowKit
end Np
end Go.Proofs.YtdgcdemihalefaaGreatDoor
namespace Go.Proofs.YtdgcdemihalefaaGreatDoor
namespace Np
open Go.RowKit
end Np
end Go.Proofs.YtdgcdemihalefaaGreatDoor
namespace Go.Proofs.YtdgcdemihalefaaGreatDoor
namespace Np
open Go.RowKit
end Np
end Go.Proofs.YtdgcdemihalefaaGreatDoor
namespace Go.Proofs.YtdgcdemihalefaaGreatDoor
namespace Np
open Go.RowKit
def noughts (n : Nat) : List UInt8 := List.replicate n 48
end Np
end Go.Proofs.YtdgcdemihalefaaGreatDoor
namespace Go.Proofs.YtdgcdemihalefaaGreatDoor
namespace Np
open Go.RowKit
end Np
end Go.Proofs.YtdgcdemihalefaaGreatDoor
namespace Go.Proofs.YtdgcdemihalefaaGreatDoor
namespace Np
open Go.RowKit
theorem repeat_noughts : ∀ n, Lib.repeatL [48] n = noughts n
  | 0 => rfl
  | n + 1 => by
    show [48] ++ Lib.repeatL [48] n = _
    rw [repeat_noughts n]; simp [noughts, List.replicate_succ]
theorem dig_nat (d : Nat) (h : d < 10) : (UInt8.ofNat (48 + d)).toNat = 48 + d := by
  rw [UInt8.toNat_ofNat']; omega
theorem dec_worth (u : Nat) : worth (Lib.decDigits u) = u ∧ figs (Lib.decDigits u) = true ∧ Lib.decDigits u ≠ [] := by
  induction u using Nat.strongRecOn with
  | _ u ih =>
    rw [Lib.decDigits]
    split
    · rename_i h
      refine ⟨?_, ?_, by simp⟩
      · simp [worth]; omega
      · simp [figs, fig]; omega
    · rename_i h
      obtain ⟨i1, i2, i3⟩ := ih (u / 10) (by omega)
      have := dig_nat (u % 10) (by omega)
      refine ⟨?_, ?_, by simp⟩
      · rw [worth_snoc, i1, this]; omega
      · rw [figs_snoc, i2]; simp [fig]; omega
theorem dec_len (u : Nat) (h : u ≤ 1000) : (Lib.decDigits u).length ≤ 4 := by
  rw [Lib.decDigits]
  split
  · simp
  · rw [Lib.decDigits]
    split
    · simp
    · rw [Lib.decDigits]
      split
      · simp
      · rw [Lib.decDigits]
        split
        · simp
        · omega
end Np
end Go.Proofs.YtdgcdemihalefaaGreatDoor
namespace Go.Proofs.YtdgcdemihalefaaGreatDoor
namespace Tp
open Go.RowKit Np Rw Vp Up Qp
def Stop (Q : List UInt8) : Prop := ∀ c, Q.head? = some c → numB.contains c = false
theorem Stop.nil : Stop [] := fun c h => by cases h
theorem Stop.cons {c : UInt8} {Q : List UInt8} (h : numB.contains c = false) : Stop (c :: Q) := fun x hx => by injection hx with hx; subst hx; exact h
end Tp
end Go.Proofs.YtdgcdemihalefaaGreatDoor
namespace Go.Proofs.YtdgcdemihalefaaGreatDoor
namespace Tp
open Go.RowKit Np Rw Vp Up Qp
def Blk (B : List UInt8) : Prop := ∀ c ∈ B, blk c.toNat = true
theorem Blk.nil : Blk [] := fun c h => by cases h
section
variable {α β : Type} {rd : Nat → Rs α} {put : β → α → β} {S : List UInt8}
end
end Tp
end Go.Proofs.YtdgcdemihalefaaGreatDoor
namespace Go.Proofs.YtdgcdemihalefaaGreatDoor
namespace Tp
open Go.RowKit Np Rw Vp Up Qp
def lit (ln : Bool) (d : Nat) (t : Tr Nd) : List Nd × List UInt8 := (flat (nmd [] t), prT ln (d + 1) t)
theorem kids_okP {n : Nd} {ks : List (Tr Nd)} (h1 : okT many (.mk n ks)) (h2 : rightT (.mk n ks) = true) : ∀ u ∈ ks, okT many u ∧ rightT u = true := by
  have := val_kids (t := nmd [] (.mk n ks)) (Val.clr h1 h2)
  rwa [nmd_ks] at this
theorem kid_lessP {n : Nd} {ks : List (Tr Nd)} {u : Tr Nd} (hu : u ∈ ks) : (flat u).length < (flat (.mk n ks)).length := by
  obtain ⟨a, c, rfl⟩ := List.append_of_mem hu
  rw [flat_mk, flats_append, flats_cons]
  simp; omega
end Tp
end Go.Proofs.YtdgcdemihalefaaGreatDoor
namespace Go.Proofs.YtdgcdemihalefaaGreatDoor
open Go.RowKit Np
theorem print_short (f : List UInt8) (g : Bool) (e : Int) (h1 : -9223372036854775808 ≤ e) (h2 : e ≤ 9223372036854775807) : (printN f g e).length ≤ f.length + 60 := by
  have hS : (printS f e).length ≤ f.length + 50 := by
    unfold printS
    split
    · simp
    split
    · rw [List.length_append, Lib.repeatL_length]; simp; omega
    split
    · have h := padF_le f (-e).toNat
      have h2 := padF_len f (-e).toNat
      unfold pointF
      simp only [List.length_append, List.length_take, List.length_cons, List.length_drop]
      omega
    · have := Lib.itoa_length_le e h1 h2
      simp only [List.length_append, List.length_cons]
      omega
  unfold printN
  split
  · simp only [List.length_cons]; omega
  · omega
end Go.Proofs.YtdgcdemihalefaaGreatDoor
namespace Go.Proofs.YtdgcdemihalefaaGreatDoor
namespace Tp
open Go.RowKit Np Rw Vp Up Qp
def wN (n : Nd) : Nat := (wrs n.name).length + (if n.kind = 4 then (wrs n.s).length else 0)
def wS (l : List Nd) : Nat := (l.map wN).sum
theorem wS_cons (n : Nd) (l : List Nd) : wS (n :: l) = wN n + wS l := by simp [wS]
theorem wS_append (a b : List Nd) : wS (a ++ b) = wS a + wS b := by simp [wS]
theorem wordT_len (k : Int) : (wordT k).length ≤ 5 := by unfold wordT; split <;> (try split) <;> decide
theorem prN_len (ln : Bool) (nm : List UInt8) : (prN ln nm).length ≤ (wrs nm).length + 4 := by
  unfold prN
  rw [List.length_append, quo_len, List.length_cons]
  split <;> simp
theorem scT_len {n : Nd} (hp : plainN n = true) (h5 : n.kind ≠ 5) (h6 : n.kind ≠ 6) : (scT n).length + (wrs n.name).length ≤ wN n + 160 := by
  unfold scT wN
  split
  · have := wordT_len n.kind; omega
  · rename_i h0
    split
    · rename_i h3
      have hr : right { n with name := [] } = true := by unfold plainN at hp; rw [if_neg h0, if_pos h3] at hp; exact hp
      obtain ⟨b1, b2, b3⟩ := right_bounds hr
      have := print_short n.s n.neg n.e (by simp only at b2; omega) (by simp only at b3; omega)
      simp only at b1
      omega
    · rename_i h3
      have h4 : n.kind = 4 := by
        unfold plainN at hp
        rw [if_neg h0, if_neg h3] at hp
        split at hp
        · assumption
        · split at hp
          · omega
          · cases hp
      rw [if_pos h4, quo_len]; omega
def szK (ln : Bool) (d E : Nat) (ks : List (Tr Nd)) : Nat := (ks.map fun u => (prT ln d u).length + (wrs u.nd.name).length + (E + 5)).sum
theorem prK_len (ln : Bool) (ob : Bool) (d E : Nat) (hd0 : (prL ln d).length ≤ E) (hd : (prL ln (d + 1)).length ≤ E) : ∀ ks : List (Tr Nd), (prK ln d ob ks).length ≤ szK ln (d + 1) E ks + E
  | [] => by rw [prK_nil]; simp only [szK, List.map_nil, List.sum_nil]; omega
  | u :: ks => by
    have h1 := prK_len ln ob d E hd0 hd ks
    have h3 : (if ob = true then prN ln u.nd.name else []).length ≤ (wrs u.nd.name).length + 4 := by
      split
      · exact prN_len ln _
      · simp
    rw [prK_cons, List.length_cons, List.length_append, List.length_append, List.length_append]
    simp only [szK, List.map_cons, List.sum_cons] at h1 ⊢
    omega
theorem prB_len (ln : Bool) (ob : Bool) (d E : Nat) (hd0 : (prL ln d).length ≤ E) (hd : (prL ln (d + 1)).length ≤ E) (ks : List (Tr Nd)) : (prB ln d ob ks).length ≤ szK ln (d + 1) E ks + E := by
  cases ks with
  | nil => rw [prB_nil]; simp
  | cons u ks =>
    have h1 := prK_len ln ob d E hd0 hd ks
    have h3 : (if ob = true then prN ln u.nd.name else []).length ≤ (wrs u.nd.name).length + 4 := by
      split
      · exact prN_len ln _
      · simp
    rw [prB_cons, List.length_append, List.length_append, List.length_append]
    simp only [szK, List.map_cons, List.sum_cons] at h1 ⊢
    omega
theorem szK_le (ln : Bool) (d E : Nat) (c : Nat) : ∀ ks : List (Tr Nd), (∀ u ∈ ks, (prT ln d u).length + (wrs u.nd.name).length + (E + 5) ≤ wS (flat u) + c * (flat u).length) → szK ln d E ks ≤ wS (flats ks) + c * (flats ks).length
  | [], _ => by simp [szK]
  | u :: ks, h => by
    have h1 := szK_le ln d E c ks fun x hx => h x (List.mem_cons_of_mem _ hx)
    have h2 := h u (by simp)
    rw [flats_cons, wS_append, List.length_append, Nat.mul_add]
    simp only [szK, List.map_cons, List.sum_cons] at h1 ⊢
    omega
theorem prT_len (ln : Bool) (D E : Nat) (hE : ∀ d, d ≤ D → (prL ln d).length ≤ E) : ∀ (N : Nat) (t : Tr Nd) (d : Nat), (flat t).length ≤ N → okT many t → rightT t = true → d + depth t ≤ D →
    (prT ln d t).length + (wrs t.nd.name).length + (E + 5) ≤ wS (flat t) + (2 * E + 165) * (flat t).length
  | 0, t, _, hN, _, _, _ => by have := flat_pos t; omega
  | N + 1, .mk n ks, d, hN, h1, h2, hd => by
    have hk := kids_okP h1 h2
    have hpl : plainN n = true := by rw [rightT_mk, Bool.and_eq_true] at h2; exact h2.1
    rw [prT_mk, flat_mk, wS_cons, List.length_cons, Nat.mul_succ]
    show _ + (wrs n.name).length + _ ≤ _
    have hw : (wrs n.name).length ≤ wN n := by unfold wN; omega
    have key : n.kind = 5 ∨ n.kind = 6 → d + 1 ≤ D ∧ szK ln (d + 1) E ks ≤ wS (flats ks) + (2 * E + 165) * (flats ks).length := by
      intro h56
      rw [depth_mk, if_pos (by simpa [cont] using h56)] at hd
      refine ⟨by omega, szK_le ln (d + 1) E _ ks fun u hu => ?_⟩
      have h3 := depths_le hu
      exact prT_len ln D E hE N u (d + 1) (by have := kid_lessP (n := n) hu; omega) (hk u hu).1 (hk u hu).2 (by omega)
    split
    · rename_i h5
      obtain ⟨k1, k2⟩ := key (.inl h5)
      have := prB_len ln false d E (hE d (by omega)) (hE (d + 1) k1) ks
      simp only [List.length_cons, List.length_append, List.length_nil]
      omega
    · split
      · rename_i h6
        obtain ⟨k1, k2⟩ := key (.inr h6)
        have := prB_len ln true d E (hE d (by omega)) (hE (d + 1) k1) ks
        simp only [List.length_cons, List.length_append, List.length_nil]
        omega
      · have := scT_len hpl (by assumption) (by assumption)
        omega
theorem compact_len {t : Tr Nd} (h1 : okT many t) (h2 : rightT t = true) : (prT false 0 t).length ≤ wS (flat t) + 165 * (flat t).length := by
  have := prT_len false (depth t) 0 (fun d _ => by simp [prL]) _ t 0 (Nat.le_refl _) h1 h2 (by omega)
  omega
end Tp
end Go.Proofs.YtdgcdemihalefaaGreatDoor
namespace Go.Proofs.YtdgcdemihalefaaGreatDoor
open Go.RowKit Np Rw Vp Up Qp Tp
theorem run_plain : ∀ (l : List Nd) (st : List Hd), Vp.run st l = true → ∀ x ∈ l, plainN x = true
  | [], _, _, x, hx => by cases hx
  | n :: l, [], h, x, hx => by simp [Vp.run] at h
  | n :: l, h :: st, hr, x, hx => by
    rw [run_cons, Bool.and_eq_true, Bool.and_eq_true] at hr
    rcases List.mem_cons.1 hx with rfl | hx
    · exact hr.1.2
    · exact run_plain l _ hr.2 x hx
theorem val_plain {t : Tr Nd} (h : Val t) : ∀ x ∈ flat t, plainN x = true := run_plain _ _ (rightL_val h)
theorem fit_plain {n : Nd} (hp : plainN n = true) (h1 : n.name.length ≤ 1000000) (h2 : n.s.length ≤ 1000000) : FitN n := by
  unfold plainN at hp
  split at hp
  · rename_i h
    simp at hp
    exact ⟨by omega, by omega, h2, h1, by omega, by omega⟩
  · split at hp
    · rename_i h
      obtain ⟨b1, b2, b3⟩ := right_bounds hp
      simp only at b2 b3
      exact ⟨by omega, by omega, h2, h1, by omega, by omega⟩
    · split at hp
      · simp at hp
        exact ⟨by omega, by omega, h2, h1, by omega, by omega⟩
      · split at hp
        · simp at hp
          exact ⟨by omega, by omega, h2, h1, by omega, by omega⟩
        · cases hp
theorem fitT_of {t : Tr Nd} (hv : Val t) (hs : ∀ x ∈ flat t, x.name.length ≤ 1000000 ∧ x.s.length ≤ 1000000) (hl : (flat t).length ≤ 1000) : FitT t :=
  ⟨hv.ok, hv.rt, fun x hx => fit_plain (val_plain hv x hx) (hs x hx).1 (hs x hx).2, hl⟩
theorem wS_small : ∀ {l : List Nd}, (∀ x ∈ l, x.name.length ≤ 200 ∧ x.s.length ≤ 200) → wS l ≤ 2400 * l.length
  | [], _ => by simp [wS]
  | x :: l, h => by
    have h1 := wS_small fun y hy => h y (List.mem_cons_of_mem _ hy)
    have h2 := h x (by simp)
    have h3 := (wrs_len x.name).2
    have h4 := (wrs_len x.s).2
    rw [wS_cons, List.length_cons, wN]
    split <;> omega
end Go.Proofs.YtdgcdemihalefaaGreatDoor
namespace Go.Proofs.YtdgcdemihalefaaGreatDoor
open Go.RowKit Np Rw Vp Up Qp Tp Pw Fw
theorem fitTm_short {t : Tm} (h : shortT t = true) (hh : HeldT t) : FitTm t := by
  simp [shortT] at h
  exact ⟨by omega, by omega, ⟨hh.cn, hh.cs, hh.cm⟩, hh.m⟩
theorem leaf_of {c : Nd} (h : rightL [c] = true) : Val (.mk c []) := by
  obtain ⟨t, ht, he⟩ := val_of_rightL h
  obtain ⟨n, ks⟩ := t
  rw [flat_mk] at he
  injection he with e1 e2
  have hks : ks = [] := by
    cases ks with
    | nil => rfl
    | cons u us => rw [flats_cons] at e2; have := flat_ne u; simp_all
  subst e1 hks
  exact ht
theorem fitK_of {c : Nd} (h : flatN c = true) (hs : c.s.length ≤ 100) : FitK c := by
  unfold flatN at h
  rw [Bool.and_eq_true] at h
  have hv := leaf_of h.1
  have hn : c.name = [] := hv.nm
  have hx : ∀ x ∈ flat (.mk c []), x.name.length ≤ 200 ∧ x.s.length ≤ 200 := by
    intro x hx
    rw [flat_mk, flats_nil, List.mem_singleton] at hx
    subst hx
    rw [hn]; exact ⟨by simp, by omega⟩
  have hl : (flat (.mk c [])).length = 1 := by rw [flat_mk, flats_nil]; rfl
  refine ⟨fitT_of hv (fun x hx' => ⟨by have := (hx x hx').1; omega, by have := (hx x hx').2; omega⟩) (by omega), ?_⟩
  have h1 := compact_len hv.ok hv.rt
  have h2 := wS_small hx
  unfold constT
  omega
theorem plainT_n16 {t : Tm} (h : plainT t = true) (h16 : t.op = 16) : 0 ≤ t.n ∧ t.n ≤ 5 := by
  unfold plainT at h
  simp only [Bool.and_eq_true] at h
  have := h.1.2
  unfold nOk at this
  rw [if_neg (by omega), if_pos h16] at this
  simpa using this
theorem plainT_c16 {t : Tm} (h : plainT t = true) (h16 : t.op = 16) : flatN t.c = true := by
  unfold plainT at h
  simp only [Bool.and_eq_true] at h
  have := h.2
  unfold cOk at this
  rwa [if_pos h16] at this
theorem plainT_op {t : Tm} (h : plainT t = true) : 0 ≤ t.op ∧ t.op ≤ 19 := by
  unfold plainT at h
  simp only [Bool.and_eq_true] at h
  simpa using h.1.1.1.1
theorem fitP_short {t : Tm} (hp : plainT t = true) (h : shortT t = true) (hh : HeldT t) : FitP t := by
  simp [shortT] at h
  exact ⟨(plainT_op hp).1, (plainT_op hp).2, by omega, by omega, hh.n0, hh.n1, fun h16 => ⟨fitK_of (plainT_c16 hp h16) (by omega), (plainT_n16 hp h16).1, (plainT_n16 hp h16).2⟩⟩
theorem plain_all {t : Tr Tm} (hr : rightTF t = true) : ∀ x ∈ flat t, plainT x = true := by
  intro x hx
  rw [rightTF_subs] at hr
  rw [← subs_nd] at hx
  obtain ⟨s, hs, rfl⟩ := List.mem_map.1 hx
  have := List.all_eq_true.1 hr s hs
  unfold termOk at this
  rw [Bool.and_eq_true] at this
  exact this.1
theorem constT_len {c : Nd} (h : flatN c = true) (hs : c.s.length ≤ 100) : (constT c).length ≤ 2600 := by
  unfold flatN at h
  rw [Bool.and_eq_true] at h
  have hv := leaf_of h.1
  have hn : c.name = [] := hv.nm
  have hx : ∀ x ∈ flat (.mk c []), x.name.length ≤ 200 ∧ x.s.length ≤ 200 := by
    intro x hx
    rw [flat_mk, flats_nil, List.mem_singleton] at hx
    subst hx
    rw [hn]; exact ⟨by simp, by omega⟩
  have hl : (flat (.mk c [])).length = 1 := by rw [flat_mk, flats_nil]; rfl
  have h1 := compact_len hv.ok hv.rt
  have h2 := wS_small hx
  unfold constT
  omega
theorem ahead_len {t : Tm} (hp : plainT t = true) (hs : shortT t = true) (hh : HeldT t) : (aheadT t).length ≤ 2800 := by
  simp [shortT] at hs
  have hi := Lib.itoa_length_le t.n hh.n0 hh.n1
  have hf := fieldT_len t.s
  have hg : (signT t.n).length ≤ 2 := by
    unfold signT
    repeat' split
    all_goals simp
  by_cases h16 : t.op = 16
  · have hc := constT_len (plainT_c16 hp h16) (by omega)
    unfold aheadT
    simp [h16]
    omega
  · have hop := plainT_op hp
    have hc : t.op = 0 ∨ t.op = 1 ∨ t.op = 2 ∨ t.op = 3 ∨ t.op = 4 ∨ t.op = 5 ∨ t.op = 6 ∨ t.op = 7 ∨ t.op = 8 ∨ t.op = 9 ∨ t.op = 10 ∨ t.op = 11 ∨ t.op = 12 ∨ t.op = 13 ∨ t.op = 14 ∨ t.op = 15 ∨ t.op = 17 ∨ t.op = 18 ∨ t.op = 19 := by omega
    rcases hc with h | h | h | h | h | h | h | h | h | h | h | h | h | h | h | h | h | h | h <;> simp [aheadT, h] <;> omega
theorem between_len (op : Int) : (betweenT op).length ≤ 5 := by
  unfold betweenT
  repeat' split
  all_goals simp
theorem behind_len (op : Int) : (behindT op).length ≤ 9 := by
  unfold behindT
  repeat' split
  all_goals simp
theorem preT_len (op : Int) (f : Bool) (name : List UInt8) (h : name.length ≤ 100) : (preT op f name).length ≤ 612 := by
  have h1 := between_len op
  have h2 := fieldT_len name
  unfold preT nameT
  simp only [List.length_append]
  split <;> split <;> simp <;> omega
mutual
theorem txF_len : ∀ t : Tr Tm, (∀ x ∈ flat t, (aheadT x).length ≤ 2800 ∧ x.name.length ≤ 100) → (txF t).length + 1000 ≤ 4000 * (flat t).length
  | .mk n ks, h => by
    rw [flat_mk] at h
    have h1 := (h n (by simp)).1
    have h2 := behind_len n.op
    have h3 := txK_len n.op true ks (fun x hx => h x (List.mem_cons_of_mem _ hx))
    rw [txF_mk, flat_mk]
    simp only [List.length_append, List.length_cons]
    omega
theorem txK_len (op : Int) (f : Bool) : ∀ ks : List (Tr Tm), (∀ x ∈ flats ks, (aheadT x).length ≤ 2800 ∧ x.name.length ≤ 100) → (txK op f ks).length ≤ 4000 * (flats ks).length
  | [], _ => by simp
  | k :: ks, h => by
    rw [flats_cons] at h
    have h1 := txF_len k (fun x hx => h x (List.mem_append.2 (.inl hx)))
    have h2 := txK_len op false ks (fun x hx => h x (List.mem_append.2 (.inr hx)))
    have h3 := preT_len op f k.nd.name (h k.nd (List.mem_append.2 (.inl (by rw [flat_eq]; simp)))).2
    rw [txK_cons, flats_cons]
    simp only [List.length_append]
    split <;> (try simp only [List.length_append, List.length_cons, List.length_nil]) <;> omega
end
theorem fitX_short {t : Tr Tm} (ho : okT tmany t) (hr : rightTF t = true) (hs : (flat t).all shortT = true) (hh : HeldF (flat t)) (hl : (flat t).length ≤ 20000) : FitX t := by
  have hp := plain_all hr
  have hsx := List.all_eq_true.1 hs
  refine ⟨ho, hp t.nd (by rw [flat_eq]; simp), fun x hx => fitP_short (hp x hx) (hsx x hx) (hh x hx), ?_⟩
  have := txF_len t (fun x hx => ⟨ahead_len (hp x hx) (hsx x hx) (hh x hx), by have := hsx x hx; simp [shortT] at this; omega⟩)
  omega
end Go.Proofs.YtdgcdemihalefaaGreatDoor
namespace Go.Proofs.YtdgcdemihalefaaGreatDoor
open Go.RowKit Np Rw Vp Up Qp Tp Pw Fw
def inT (t : Tr Tm) : List UInt8 := if t.nd.op = 4 ∨ t.nd.op = 17 ∨ t.nd.op = 18 then 40 :: (txF t ++ [41]) else txF t
theorem inT_clr (t : Tr Tm) : inT (clrF t) = inT t := by unfold inT; rw [txF_clr]; rfl
theorem inT_brk {op : Int} {k : Tr Tm} (hop : op = 8 ∨ op = 9 ∨ op = 17 ∨ op = 18) (hc : isC k.nd.op = ofC op) : (if brk op k.nd.op then 40 :: (txF k ++ [41]) else txF k) = inT k := by
  have h : brk op k.nd.op = decide (k.nd.op = 4 ∨ k.nd.op = 17 ∨ k.nd.op = 18) := by
    unfold isC ofC at hc
    unfold brk
    rcases hop with rfl | rfl | rfl | rfl <;> simp at hc ⊢ <;> omega
  unfold inT
  rw [h]
  simp only [decide_eq_true_eq]
theorem inT_bare {k : Tr Tm} (h : k.nd.op ≠ 4 ∧ k.nd.op ≠ 17 ∧ k.nd.op ≠ 18) : inT k = txF k := by
  unfold inT
  rw [if_neg (by omega)]
theorem txK_app (op : Int) (b : List (Tr Tm)) : ∀ (a : List (Tr Tm)) (first : Bool), txK op first (a ++ b) = txK op first a ++ txK op (first && a.isEmpty) b
  | [], first => by simp
  | k :: a, first => by rw [List.cons_append, txK_cons, txK_app op b a false, txK_cons]; simp
theorem txK_one (op : Int) (first : Bool) (u : Tr Tm) : txK op first [u] = preT op first u.nd.name ++ (if brk op u.nd.op then 40 :: (txF u ++ [41]) else txF u) := by
  rw [txK_cons, txK_nil, List.append_nil]
theorem txK_step {op : Int} {pre post : List (Tr Tm)} {u : Tr Tm} : txK op true (pre ++ u :: post) = txK op true (pre ++ [u]) ++ txK op false post := by
  rw [List.append_cons, txK_app op post (pre ++ [u]) true]
  cases pre <;> simp
theorem mem_flatsT : ∀ {ts : List (Tr Tm)} {k : Tr Tm} {x : Tm}, k ∈ ts → x ∈ flat k → x ∈ flats ts
  | a :: ts, k, x, h, hx => by
    rw [flats_cons]
    rcases List.mem_cons.1 h with e | h
    · subst e; exact List.mem_append.2 (.inl hx)
    · exact List.mem_append.2 (.inr (mem_flatsT h hx))
theorem len_flatsT : ∀ {ts : List (Tr Tm)} {k : Tr Tm}, k ∈ ts → (flat k).length ≤ (flats ts).length
  | a :: ts, k, h => by
    rw [flats_cons, List.length_append]
    rcases List.mem_cons.1 h with e | h
    · subst e; omega
    · have := len_flatsT h; omega
theorem kid_lt {t u : Tr Tm} (hu : u ∈ t.ks) : (flat u).length < (flat t).length := by
  have := len_flatsT hu
  rw [flat_eq t]
  simp; omega
theorem kid_mem {t u : Tr Tm} (hu : u ∈ t.ks) {x : Tm} (hx : x ∈ flat (clrF u)) : ∃ y ∈ flat t, x = y ∨ x = noNm y := by
  rw [flat_clrF] at hx
  have hsub : ∀ y, y ∈ flat u → y ∈ flat t := fun y hy => by rw [flat_eq t]; exact List.mem_cons_of_mem _ (mem_flatsT hu hy)
  rcases List.mem_cons.1 hx with rfl | hx
  · exact ⟨u.nd, hsub _ (by rw [flat_eq]; simp), .inr rfl⟩
  · exact ⟨x, hsub _ (by rw [flat_eq]; simp [hx]), .inl rfl⟩
structure SxT (t : Tr Tm) : Prop where
  ok : okT tmany t
  rt : rightTF t = true
  sh : ∀ x ∈ flat t, shortT x = true ∧ HeldT x
  len : (flat t).length ≤ 30
theorem SxT.fit {t : Tr Tm} (h : SxT t) : FitX t := fitX_short h.ok h.rt (List.all_eq_true.2 fun x hx => (h.sh x hx).1) (fun x hx => (h.sh x hx).2) (by have := h.len; omega)
theorem SxT.kid {t u : Tr Tm} (h : SxT t) (hu : u ∈ t.ks) : SxT (clrF u) := by
  obtain ⟨h1, h2, -, -, -⟩ := flt_kids h.ok h.rt u hu
  refine ⟨okT_clr h1, by rw [rightTF_clr]; exact h2, fun x hx => ?_, by have := kid_lt hu; have := h.len; rw [flat_clrF_len]; omega⟩
  obtain ⟨y, hy, rfl | rfl⟩ := kid_mem hu hx
  · exact h.sh _ hy
  · obtain ⟨a2, a1⟩ := h.sh y hy
    refine ⟨?_, ⟨Nat.zero_le _, a1.s, a1.cn, a1.cs, a1.m, a1.cm, a1.n0, a1.n1⟩⟩
    unfold shortT at a2 ⊢
    simp only [Bool.and_eq_true, decide_eq_true_eq] at a2 ⊢
    exact ⟨⟨a2.1.1, Nat.zero_le _⟩, a2.2⟩
theorem SxT.nd {t : Tr Tm} (h : SxT t) : t.nd.s.length ≤ 100 ∧ t.nd.name.length ≤ 100 ∧ t.nd.c.s.length ≤ 100 := by
  have := (h.sh t.nd (by rw [flat_eq]; simp)).1
  unfold shortT at this
  simp only [Bool.and_eq_true, decide_eq_true_eq] at this
  exact ⟨this.1.1, this.1.2, this.2⟩
theorem SxT.kname {t u : Tr Tm} (h : SxT t) (hu : u ∈ t.ks) : u.nd.name.length ≤ 100 := by
  have := (h.sh u.nd (by rw [flat_eq t]; exact List.mem_cons_of_mem _ (mem_flatsT hu (by rw [flat_eq]; simp)))).1
  unfold shortT at this
  simp only [Bool.and_eq_true, decide_eq_true_eq] at this
  exact this.1.2
theorem SxT.plain {t : Tr Tm} (h : SxT t) : plainT t.nd = true := plain_all h.rt t.nd (by rw [flat_eq]; simp)
theorem SxT.ksLen {t : Tr Tm} (h : SxT t) : (txK t.nd.op true t.ks).length ≤ 100000000 := by
  have := h.fit.len
  rw [txF_eq] at this
  simp only [List.length_append] at this
  omega
theorem SxT.inLen {t : Tr Tm} (h : SxT t) : (inT t).length ≤ 100000002 := by
  have := h.fit.len
  unfold inT
  split <;> simp <;> omega
theorem nameT_len (s : List UInt8) : (nameT s).length ≤ 6 * s.length + 3 := by
  have := fieldT_len s
  unfold nameT
  simp
  omega
end Go.Proofs.YtdgcdemihalefaaGreatDoor
namespace Go.Proofs.YtdgcdemihalefaaGreatDoor
open Go.RowKit Np Rw Vp Up Qp Pw Fw
theorem headF_at {l r : List Tm} {k : Nat} {t : Tr Tm} (h : l.drop k = flat t ++ r) : l[k]? = some t.nd := by
  have : (l.drop k)[0]? = some t.nd := by rw [h, flat_eq]; rfl
  rwa [List.getElem?_drop, Nat.add_zero] at this
set_option maxRecDepth 100000 in
set_option maxHeartbeats 4000000 in
theorem refNamesF_any (v : Value) (t : Tr Tm) (w : World) (hv : Tms w v (flat t)) (hl : (flat t).length ≤ 60000) (ht : okT tmany t) :
    Calls Tryz.prog 68 #[v] w fun e w' => ∃ v', e = .returned v' ∧ Sts w' v' (t.ks.map fun k => k.nd.name) ∧ Below w.heap.size w w' := by
  obtain ⟨g, o, c, rfl, hc, hcm, hg, hx⟩ := hv.opened (flat_pos t)
  have hmany : t.nd.many = t.ks.length := (okT_eq.1 ht).1
  have a1 : w.cell? ⟨g, o + 1, none⟩ = some (.int .i64 (t.ks.length : Nat)) := by
    have := (hx 0 t.nd (by rw [flat_eq]; rfl)).tm.c1
    rw [hmany] at this
    simpa using this
  have HA1 := Lib.hid a1
  have HV := Lib.hid hv
  have HXX := Lib.hid hx
  have HKS := Lib.hid (okT_eq.1 ht).2
  have hkl : t.ks.length ≤ 60000 := by
    have h1 := flats_len t.ks
    rw [flat_eq] at hl
    simp at hl
    omega
  have hpos := flat_pos t
  have HDR : Hid (∀ pre post, t.ks = pre ++ post → (flat t).drop (1 + (flats pre).length) = flats post) := Lib.hid (fun pre post h => drop_ks h)
  clear hx hv hmany a1
  generalize hn : (flat t).length = n at *
  have HN := Lib.hid hn
  clear hn
  generalize hq : t.ks.length = q at *
  have HQ := Lib.hid hq
  clear hq
  have HO0 : Hid (Own stc 1 9 w.heap.size (w.alloc (.cells #[] 9)) (.slice (some ⟨w.heap.size, 0, none⟩) 0 0) []) := Lib.hid (by
    have := Own.lit (base := w.heap.size) (E := 9) stc_len w #[] [] (Nat.le_refl _) (by simp) rfl
    simpa using this)
  go_enter Tryz.func68, Tryz.ntmps68
  go_wp2_with fail
  go_loopw [3, 4, 5] (fun ov iv kv wr => ∃ (pre post : List (Tr Tm)), t.ks = pre ++ post ∧ kv = .int .i64 pre.length ∧ iv = .int .i64 (1 + (flats pre).length : Nat) ∧ Own stc 1 9 w.heap.size wr ov (pre.map fun k => k.nd.name) ∧ Below w.heap.size w wr) (fun _ _ kv _ => q - (intOf kv).toNat)
  case atStart => exact ⟨[], t.ks, rfl, rfl, rfl, HO0.out, (Below.refl _ _).alloc (Nat.le_refl _) _⟩
  case round =>
    obtain ⟨pre, post, hpp, rfl, rfl, hown, hb⟩ := hrel
    have a2 := (hb.cell (p := ⟨g, o + 1, none⟩) hg).trans HA1.out
    have HO := Lib.hid hown
    have HB := Lib.hid hb
    have HP := Lib.hid hpp
    have hlen : pre.length + post.length = q := by rw [← HQ.out, hpp]; simp
    clear hown hpp
    cases post with
    | nil =>
      simp only [List.length_nil, Nat.add_zero] at hlen
      have HF : Hid (pre = t.ks) := Lib.hid (by rw [HP.out]; simp)
      have hlt : ¬ (pre.length : Int) < q := by omega
      clear hlen hb
      go_wp2_with fail
      go_ret
      exact ⟨_, rfl, by rw [← HF.out]; exact HO.out.row stc_len, HB.out⟩
    | cons u rest =>
      simp only [List.length_cons] at hlen
      have hdr := HDR.out pre (u :: rest) HP.out
      rw [flats_cons] at hdr
      have hoku : okT tmany u := by have := HKS.out; rw [HP.out, okTs_append, okTs_cons] at this; exact this.2.1
      have hnx := nxtF_at hdr hoku
      have hpl : 1 + (flats pre).length < (flat t).length := by
        have h1 := congrArg List.length hdr
        rw [List.length_drop, List.length_append] at h1
        have := flat_pos u
        omega
      have hup := flat_pos u
      have hlt : (pre.length : Int) < q := by omega
      have hhd := headF_at hdr
      rw [HN.out] at hpl
      generalize hi : 1 + (flats pre).length = i at *
      have b2 := (hb.cell (p := ⟨g, o + i * 11 + 2, none⟩) hg).trans (HXX.out i _ hhd).tm.c2
      generalize hm : (flat u).length = m at *
      have HNX := Lib.hid hnx
      have HIX : Hid (1 + (flats (pre ++ [u])).length = i + m) := Lib.hid (by rw [flats_append, flats_cons]; simp; omega)
      have HPL : Hid (pre.length + 1 ≤ 60001) := Lib.hid (by omega)
      have hii : (i : Int) < n := by omega
      have hiin : i < n := by omega
      generalize hnm : u.nd.name = nm at b2
      have HNM := Lib.hid hnm
      have hprel : (pre.map fun k => k.nd.name).length = pre.length := by simp
      generalize hpn : (pre.map fun k => k.nd.name) = pn at HO hprel
      have HPN := Lib.hid hpn
      have HPNL := Lib.hid hprel
      have HLQ := Lib.hid hlen
      clear hdr hoku hnx hi hm hlen hhd hnm hpn hprel hb
      go_wp2_with (at_builtin; refine wpList_append_row (base := w.heap.size) elText rfl _ _ rfl rfl (HO.out.alloc _) rfl (row_one stc_len wr _ rfl 9 #[.string ⟨nm.toArray⟩] nm rfl) ?_ ?_ ?_ ?_)
      · have := HPL.out; have := HPNL.out; unfold maxLen; simp only [List.length_singleton]; omega
      · have := HPL.out; have := HPNL.out; simp only [List.length_singleton]; omega
      · have := HB.out.size; simp; omega
      · intro A' c' w2 hown2 hg2 hwh
        clear hwh
        have HO2 : Hid (Own stc 1 9 w.heap.size w2 (.slice A' (pn.length + 1) c') (pn ++ [nm])) := Lib.hid hown2
        have HB2 : Hid (Below w.heap.size w w2) := Lib.hid ((HB.out.alloc HB.out.size _).trans ((HO.out.alloc _).kept hg2 (by have := HB.out.size; simp; omega)))
        clear hown2 hg2
        generalize pn.length + 1 = zl at HO2 ⊢
        have hib : i ≤ n := by omega
        clear a2 b2
        go_wp2_with (go_at_call 33; refine (refNextT_any _ (flat t) i _ (HV.out.below HB2.out) (by rw [HN.out]; omega) (by rw [HN.out]; exact hib)).mono ?_; rintro e w' ⟨rfl, rfl⟩; rw [HNX.out])
        go_roundw
        case rel => exact ⟨pre ++ [u], rest, by rw [HP.out]; simp, by simp, by rw [HIX.out]; go_num, by rw [List.map_append, HPN.out]; have := HO2.out; rw [← HNM.out] at this; exact this, HB2.out⟩
        case measure => have := HLQ.out; simp [intOf]; omega
set_option maxRecDepth 100000 in
set_option maxHeartbeats 4000000 in
theorem refNameT_any (nm : List UInt8) (w : World) (hs : nm.length ≤ 100000) :
    Calls Tryz.prog 69 #[.string ⟨nm.toArray⟩] w fun e w' => e = .returned (.string ⟨(nameT nm).toArray⟩) ∧ Below w.heap.size w w' := by
  have hnt := nameT_eq nm
  have HW := Lib.hid (fun W => refWordP_any ⟨nm.toArray⟩ W (by unfold maxLen; rw [mk_size]; omega))
  have HQ := Lib.hid (fun W => refQuote_any ⟨nm.toArray⟩ W (by rw [mk_size]; omega))
  cases hw : isW nm with
  | true =>
    have HF : Hid (nameT nm = nm) := Lib.hid (by rw [hnt, if_pos hw])
    simp only [hw] at HW
    clear hw HQ hnt
    go_enter Tryz.func69, Tryz.ntmps69
    go_wp2_with fail
    refine (HW.out _).mono ?_
    rintro e w1 ⟨rfl, rfl⟩
    go_wp2_with fail
    go_ret
    exact ⟨ret_list HF.out.symm, Below.refl _ _⟩
  | false =>
    have HF : Hid (nameT nm = quo nm) := Lib.hid (by rw [hnt, if_neg (by rw [hw]; simp)])
    simp only [hw] at HW
    simp only at HQ
    clear hw hnt
    generalize quo nm = qn at *
    go_enter Tryz.func69, Tryz.ntmps69
    go_wp2_with fail
    refine (HW.out _).mono ?_
    rintro e w1 ⟨rfl, rfl⟩
    go_wp2_with fail
    refine (HQ.out _).mono ?_
    rintro e w2 ⟨rfl, hb2⟩
    go_wp2_with fail
    go_ret
    exact ⟨ret_list HF.out.symm, hb2⟩
end Go.Proofs.YtdgcdemihalefaaGreatDoor
namespace Go.Proofs.YtdgcdemihalefaaGreatDoor
open Go.RowKit Np Rw Vp Up Qp Tp Pw Fw
def TxQ (n : Nat) : Prop := ∀ (t : Tr Tm), (flat t).length ≤ n → SxT t → ∀ (v : Value) (w : World), Tms w v (flat t) →
  Calls Tryz.prog 14 #[v] w fun e w' => e = .returned (.string ⟨(txF t).toArray⟩) ∧ Below w.heap.size w w'
set_option maxRecDepth 100000 in
set_option maxHeartbeats 4000000 in
theorem refIn_of {n : Nat} (hQ : TxQ n) (t : Tr Tm) (ht : SxT t) (hn : (flat t).length ≤ n) (v : Value) (w : World) (hv : Tms w v (flat t)) :
    Calls Tryz.prog 38 #[v] w fun e w' => e = .returned (.string ⟨(inT t).toArray⟩) ∧ Below w.heap.size w w' := by
  have HQ := Lib.hid (hQ t hn ht v w hv)
  have a0 : Hid (∃ g o c, v = .slice (some ⟨g, o, none⟩) (flat t).length c ∧ w.cell? ⟨g, o, none⟩ = some (.int .i64 t.nd.op)) := Lib.hid (by
    obtain ⟨g, o, c, rfl, hc, hcm, hg, hx⟩ := hv.opened (flat_pos t)
    refine ⟨g, o, c, rfl, ?_⟩
    have := (hx 0 t.nd (by rw [flat_eq]; rfl)).tm.c0
    simpa using this)
  have hlen : (ByteArray.mk (txF t).toArray).size ≤ 100000000 := by rw [mk_size]; exact ht.fit.len
  have hpos := flat_pos t
  have HI1 : Hid (t.nd.op = 4 ∨ t.nd.op = 17 ∨ t.nd.op = 18 → ByteArray.mk #[40] ++ ByteArray.mk (txF t).toArray ++ ByteArray.mk #[41] = ⟨(inT t).toArray⟩) := Lib.hid (fun h => by
    unfold inT; rw [if_pos h]; exact ByteArray.ext (by simp))
  have HI2 : Hid (¬ (t.nd.op = 4 ∨ t.nd.op = 17 ∨ t.nd.op = 18) → ByteArray.mk (txF t).toArray = ⟨(inT t).toArray⟩) := Lib.hid (fun h => by
    unfold inT; rw [if_neg h])
  clear hv hQ ht hn
  obtain ⟨g, o, c, rfl, a0⟩ := a0.out
  generalize (flat t).length = m at *
  generalize ByteArray.mk (txF t).toArray = T at *
  generalize ByteArray.mk (inT t).toArray = R at *
  generalize t.nd.op = op at *
  by_cases h4 : op = 4 ∨ op = 17 ∨ op = 18
  · have HI := Lib.hid (HI1.out h4)
    clear HI1 HI2
    rcases h4 with rfl | rfl | rfl
    all_goals
      go_enter Tryz.func38, Tryz.ntmps38
      go_wp2_with fail
      refine HQ.out.mono ?_
      rintro e w1 ⟨rfl, hb1⟩
      go_wp2_with fail
      go_ret
      exact ⟨ret_str HI.out, hb1⟩
  · have HI := Lib.hid (HI2.out h4)
    have e1 : (op == 4) = false := by simp; omega
    have e2 : (op == 17) = false := by simp; omega
    have e3 : (op == 18) = false := by simp; omega
    clear HI1 HI2 h4
    go_enter Tryz.func38, Tryz.ntmps38
    go_wp2_with fail
    refine HQ.out.mono ?_
    rintro e w1 ⟨rfl, hb1⟩
    go_wp2_with fail
    go_ret
    exact ⟨ret_str HI.out, hb1⟩
set_option maxRecDepth 100000 in
set_option maxHeartbeats 8000000 in
theorem refJoined_of {n : Nat} (hQ : TxQ n) (t : Tr Tm) (ht : SxT t) (hn : (flat t).length ≤ n + 1) (hop : t.nd.op = 8 ∨ t.nd.op = 9 ∨ t.nd.op = 17 ∨ t.nd.op = 18) (v : Value) (w : World) (hv : Tms w v (flat t)) :
    Calls Tryz.prog 39 #[v, .string ⟨(betweenT t.nd.op).toArray⟩] w fun e w' => e = .returned (.string ⟨(txK t.nd.op true t.ks).toArray⟩) ∧ Below w.heap.size w w' := by
  have hl30 := ht.len
  have HPA := Lib.hid (refPartsL_any v t w hv (by omega) ht.ok)
  have HNA := Lib.hid (fun (W : World) (hW : Below w.heap.size w W) => refNamesF_any v t W (hv.below hW) (by omega) ht.ok)
  have HIN : Hid (∀ u ∈ t.ks, ∀ (x : Value) (W : World), Tms W x (flat (clrF u)) → Calls Tryz.prog 38 #[x] W fun e w' => e = .returned (.string ⟨(inT u).toArray⟩) ∧ Below W.heap.size W w') := Lib.hid (fun u hu x W hx => by
    have h := refIn_of hQ (clrF u) (ht.kid hu) (by have := kid_lt hu; rw [flat_clrF_len]; omega) x W hx
    rwa [inT_clr] at h)
  have HSTEP : Hid (∀ pre u post, t.ks = pre ++ u :: post → txK t.nd.op true (pre ++ [u]) = txK t.nd.op true pre ++ ((if pre = [] then [] else betweenT t.nd.op) ++ ((if t.nd.op = 8 then nameT u.nd.name ++ [58, 32] else []) ++ inT u))) := Lib.hid (fun pre u post h => by
    have hc := (flt_kids ht.ok ht.rt u (by rw [h]; simp)).2.2.1
    rw [txK_app, txK_one, inT_brk hop hc]
    unfold preT
    cases pre <;> simp)
  have HLEN : Hid (∀ pre u post, t.ks = pre ++ u :: post → (txK t.nd.op true (pre ++ [u])).length ≤ 100000000) := Lib.hid (fun pre u post h => by
    have h1 := ht.ksLen
    rw [h, txK_step, List.length_append] at h1
    omega)
  have HNML : Hid (∀ u ∈ t.ks, u.nd.name.length ≤ 100) := Lib.hid (fun u hu => ht.kname hu)
  obtain ⟨g, o, c, rfl, hc, hcm, hg, hx⟩ := hv.opened (flat_pos t)
  have a0 : w.cell? ⟨g, o, none⟩ = some (.int .i64 t.nd.op) := by
    have := (hx 0 t.nd (by rw [flat_eq]; rfl)).tm.c0
    simpa using this
  have HA0 := Lib.hid a0
  have hq30 : t.ks.length ≤ 30 := by
    have h1 := flats_len t.ks
    rw [flat_eq] at hl30
    simp at hl30
    omega
  have hpos := flat_pos t
  have hbl : (ByteArray.mk (betweenT t.nd.op).toArray).size ≤ 5 := by rw [mk_size]; exact between_len _
  clear hv hx hQ ht hn a0 hl30
  generalize (flat t).length = M at *
  generalize hBT : ByteArray.mk (betweenT t.nd.op).toArray = BT at *
  have HBT := Lib.hid hBT.symm
  generalize hq : t.ks.length = q at *
  have HQ := Lib.hid hq
  clear hq hBT
  generalize hop' : t.nd.op = op at *
  clear hop'
  go_enter Tryz.func39, Tryz.ntmps39
  go_wp2_with fail
  refine HPA.out.mono ?_
  rintro e w1 ⟨v1, rfl, hfl, hb1⟩
  obtain ⟨us, hul, hu, hur⟩ := hfl
  obtain ⟨A1, c1, rfl, hc1, hcm1, -, hx1⟩ := hu
  rw [List.length_map, HQ.out] at hul
  have HB1 := Lib.hid hb1
  have HUR := Lib.hid hur
  have HX1 := Lib.hid hx1
  have HUL := Lib.hid hul
  rw [hul]
  clear hul hur hx1 hb1
  unfold maxLen at hcm1
  go_wp2_with fail
  refine (HNA.out _ HB1.out).mono ?_
  rintro e w2 ⟨v2, rfl, hs2, hb2⟩
  obtain ⟨A2, c2, rfl, hc2, hcm2, -, hx2⟩ := hs2
  rw [List.length_map, HQ.out] at hc2 ⊢
  have HX2 := Lib.hid hx2
  have HB2 := Lib.hid (Below.after HB1.out hb2)
  have HB12 := Lib.hid hb2
  clear hx2 hb2 HNA HPA
  go_wp2_with fail
  go_loopw [7, 8] (fun sv iv wr => ∃ pre post : List (Tr Tm), t.ks = pre ++ post ∧ iv = .int .i64 (pre.length : Nat) ∧ sv = .string ⟨(txK op true pre).toArray⟩ ∧ Hid (Below w2.heap.size w2 wr)) (fun _ iv _ => q - (intOf iv).toNat)
  case atStart => exact ⟨[], t.ks, rfl, rfl, by rw [txK_nil], Lib.hid (Below.refl _ _)⟩
  case round =>
    obtain ⟨pre, post, hpp, rfl, rfl, HB3⟩ := hrel
    have hlen : pre.length + post.length = q := by rw [← HQ.out, hpp]; simp
    have HPP := Lib.hid hpp
    clear hpp
    cases post with
    | nil =>
      have hpm : pre.length = q := by simpa using hlen
      have HE : Hid (ByteArray.mk (txK op true pre).toArray = ⟨(txK op true t.ks).toArray⟩) := Lib.hid (by rw [HPP.out]; simp)
      generalize ByteArray.mk (txK op true pre).toArray = Y at *
      rw [hpm]
      go_wp2_with fail
      go_ret
      exact ⟨ret_str HE.out, Below.after HB2.out HB3.out⟩
    | cons u rest =>
      simp only [List.length_cons] at hlen
      have hui : u ∈ t.ks := by rw [HPP.out]; simp
      have huk : t.ks[pre.length]? = some u := by rw [HPP.out]; simp
      have hpl : pre.length < q := by omega
      obtain ⟨x, hxk⟩ : ∃ a, us[pre.length]? = some a := ⟨_, List.getElem?_eq_getElem (by rw [HUL.out]; exact hpl)⟩
      have hrow := HUR.out pre.length x (flat (clrF u)) hxk (by rw [List.getElem?_map, huk]; rfl)
      obtain ⟨g8, o8, rfl, hg8, hx8⟩ := HX1.out (by rw [HUL.out]; omega)
      have b0 := (hx8 _ x hxk).one
      obtain ⟨g3, o3, c3, rfl, hc3, hcm3, hg3, -⟩ := hrow.opened (flat_pos _)
      have HB13 : Hid (Below w1.heap.size w1 wr) := Lib.hid (Below.after HB12.out HB3.out)
      have b1 := (HB13.out.cell (p := ⟨g8, o8 + pre.length, none⟩) hg8).trans b0
      have HINU : Hid (∀ W, Below wr.heap.size wr W → Calls Tryz.prog 38 #[.slice (some ⟨g3, o3, none⟩) (flat (clrF u)).length c3] W fun e w' => e = .returned (.string ⟨(inT u).toArray⟩) ∧ Below W.heap.size W w') := Lib.hid (fun W hW => HIN.out u hui _ W (hrow.below (Below.after HB13.out hW)))
      have hnk : (t.ks.map fun k => k.nd.name)[pre.length]? = some u.nd.name := by rw [List.getElem?_map, huk]; rfl
      obtain ⟨g9, o9, rfl, hg9, hx9⟩ := HX2.out (by first | omega | (rw [List.length_map, HQ.out]; omega))
      have n0 := (HB3.out.cell (p := ⟨g9, o9 + pre.length, none⟩) hg9).trans (hx9 _ _ hnk).one
      have a1 := ((Below.after HB2.out HB3.out).cell (p := ⟨g, o, none⟩) hg).trans HA0.out
      have hnml := HNML.out u hui
      have HNT := Lib.hid (fun W => refNameT_any u.nd.name W (by omega))
      have hS := HSTEP.out pre u rest HPP.out
      have hL := HLEN.out pre u rest HPP.out
      rw [hS] at hL
      simp only [List.length_append] at hL
      have s1 : (ByteArray.mk (txK op true pre).toArray).size ≤ 100000000 := by rw [mk_size]; omega
      have s2 : (ByteArray.mk (nameT u.nd.name).toArray).size ≤ 700 := by rw [mk_size]; have := nameT_len u.nd.name; omega
      have s3 : (ByteArray.mk (inT u).toArray).size ≤ 100000000 := by rw [mk_size]; omega
      have hmc : (flat (clrF u)).length ≤ c3 := hc3
      clear hL hui huk hxk hrow b0 hx8 hx9 hnk hnml
      generalize (flat (clrF u)).length = m at *
      by_cases h8 : op = 8
      · subst h8
        by_cases hpre : pre = []
        · have hp0 : ¬ 0 < pre.length := by rw [hpre]; simp
          have hk0 : pre.length = 0 := by rw [hpre]; rfl
          simp only [hk0, Nat.add_zero] at b1 n0
          have HC : Hid (((ByteArray.mk (txK 8 true pre).toArray ++ ByteArray.mk (nameT u.nd.name).toArray) ++ ByteArray.mk #[58, 32]) ++ ByteArray.mk (inT u).toArray = ⟨(txK 8 true (pre ++ [u])).toArray⟩) := Lib.hid (by rw [hS, if_pos hpre, if_pos rfl]; exact ByteArray.ext (by simp))
          generalize ByteArray.mk (txK 8 true pre).toArray = Y1 at *
          generalize ByteArray.mk (nameT u.nd.name).toArray = Y2 at *
          generalize ByteArray.mk (inT u).toArray = Y3 at *
          clear hS
          go_wp2_with fail
          refine (HNT.out _).mono ?_
          rintro e w4 ⟨rfl, hb4⟩
          have HB4 : Hid (Below w2.heap.size w2 w4) := Lib.hid (HB3.out.trans (hb4.mono HB3.out.size))
          have b2 := (hb4.cell (p := ⟨g8, o8, none⟩) (Nat.lt_of_lt_of_le hg8 HB13.out.size)).trans b1
          have HB44 := Lib.hid hb4
          clear hb4
          go_wp2_with fail
          refine (HINU.out _ HB44.out).mono ?_
          rintro e w5 ⟨rfl, hb5⟩
          have HB9 : Hid (Below w2.heap.size w2 w5) := Lib.hid (HB4.out.trans (hb5.mono HB4.out.size))
          clear hb5
          go_wp2_with fail
          go_roundw
          case rel => exact ⟨pre ++ [u], rest, by rw [HPP.out]; simp, by first | (simp; done) | go_num, by rw [← HC.out], HB9⟩
          case measure => simp [intOf]; omega
        · have hp0 : 0 < pre.length := List.length_pos_iff.2 hpre
          have HC : Hid ((((ByteArray.mk (txK 8 true pre).toArray ++ BT) ++ ByteArray.mk (nameT u.nd.name).toArray) ++ ByteArray.mk #[58, 32]) ++ ByteArray.mk (inT u).toArray = ⟨(txK 8 true (pre ++ [u])).toArray⟩) := Lib.hid (by rw [hS, if_neg hpre, if_pos rfl, HBT.out]; exact ByteArray.ext (by simp))
          generalize ByteArray.mk (txK 8 true pre).toArray = Y1 at *
          generalize ByteArray.mk (nameT u.nd.name).toArray = Y2 at *
          generalize ByteArray.mk (inT u).toArray = Y3 at *
          clear hS
          go_wp2_with fail
          refine (HNT.out _).mono ?_
          rintro e w4 ⟨rfl, hb4⟩
          have HB4 : Hid (Below w2.heap.size w2 w4) := Lib.hid (HB3.out.trans (hb4.mono HB3.out.size))
          have b2 := (hb4.cell (p := ⟨g8, o8 + pre.length, none⟩) (Nat.lt_of_lt_of_le hg8 HB13.out.size)).trans b1
          have HB44 := Lib.hid hb4
          clear hb4
          go_wp2_with fail
          refine (HINU.out _ HB44.out).mono ?_
          rintro e w5 ⟨rfl, hb5⟩
          have HB9 : Hid (Below w2.heap.size w2 w5) := Lib.hid (HB4.out.trans (hb5.mono HB4.out.size))
          clear hb5
          go_wp2_with fail
          go_roundw
          case rel => exact ⟨pre ++ [u], rest, by rw [HPP.out]; simp, by first | (simp; done) | go_num, by rw [← HC.out], HB9⟩
          case measure => simp [intOf]; omega
      · by_cases hpre : pre = []
        · have hp0 : ¬ 0 < pre.length := by rw [hpre]; simp
          have hk0 : pre.length = 0 := by rw [hpre]; rfl
          simp only [hk0, Nat.add_zero] at b1 n0
          have HC : Hid (ByteArray.mk (txK op true pre).toArray ++ ByteArray.mk (inT u).toArray = ⟨(txK op true (pre ++ [u])).toArray⟩) := Lib.hid (by rw [hS, if_pos hpre, if_neg h8]; exact ByteArray.ext (by simp))
          generalize ByteArray.mk (txK op true pre).toArray = Y1 at *
          generalize ByteArray.mk (nameT u.nd.name).toArray = Y2 at *
          generalize ByteArray.mk (inT u).toArray = Y3 at *
          clear hS
          have e8 : (op == 8) = false := by simpa using h8
          go_wp2_with fail
          have HB4 := HB3
          refine (HINU.out _ (Below.refl _ _)).mono ?_
          rintro e w5 ⟨rfl, hb5⟩
          have HB9 : Hid (Below w2.heap.size w2 w5) := Lib.hid (HB4.out.trans (hb5.mono HB4.out.size))
          clear hb5
          go_wp2_with fail
          go_roundw
          case rel => exact ⟨pre ++ [u], rest, by rw [HPP.out]; simp, by first | (simp; done) | go_num, by rw [← HC.out], HB9⟩
          case measure => simp [intOf]; omega
        · have hp0 : 0 < pre.length := List.length_pos_iff.2 hpre
          have HC : Hid ((ByteArray.mk (txK op true pre).toArray ++ BT) ++ ByteArray.mk (inT u).toArray = ⟨(txK op true (pre ++ [u])).toArray⟩) := Lib.hid (by rw [hS, if_neg hpre, if_neg h8, HBT.out]; exact ByteArray.ext (by simp))
          generalize ByteArray.mk (txK op true pre).toArray = Y1 at *
          generalize ByteArray.mk (nameT u.nd.name).toArray = Y2 at *
          generalize ByteArray.mk (inT u).toArray = Y3 at *
          clear hS
          have e8 : (op == 8) = false := by simpa using h8
          go_wp2_with fail
          have HB4 := HB3
          refine (HINU.out _ (Below.refl _ _)).mono ?_
          rintro e w5 ⟨rfl, hb5⟩
          have HB9 : Hid (Below w2.heap.size w2 w5) := Lib.hid (HB4.out.trans (hb5.mono HB4.out.size))
          clear hb5
          go_wp2_with fail
          go_roundw
          case rel => exact ⟨pre ++ [u], rest, by rw [HPP.out]; simp, by first | (simp; done) | go_num, by rw [← HC.out], HB9⟩
          case measure => simp [intOf]; omega
end Go.Proofs.YtdgcdemihalefaaGreatDoor
namespace Go.Proofs.YtdgcdemihalefaaGreatDoor
open Go.RowKit Np Rw Vp Up Qp Tp Pw Fw
theorem SxT.many {t : Tr Tm} (ht : SxT t) : t.nd.many = t.ks.length := (okT_eq.1 ht.ok).1
theorem SxT.manyOk {t : Tr Tm} (ht : SxT t) : manyOk t.nd.op t.nd.many = true := by
  have h1 := ht.plain
  unfold plainT at h1
  simp only [Bool.and_eq_true] at h1
  exact h1.1.1.1.2
theorem SxT.sOk {t : Tr Tm} (ht : SxT t) : sOk t.nd.op t.nd.s = true := by
  have h1 := ht.plain
  unfold plainT at h1
  simp only [Bool.and_eq_true] at h1
  exact h1.1.1.2
theorem SxT.nOk {t : Tr Tm} (ht : SxT t) : nOk t.nd.op t.nd.n = true := by
  have h1 := ht.plain
  unfold plainT at h1
  simp only [Bool.and_eq_true] at h1
  exact h1.1.2
theorem ks_one {t : Tr Tm} (ht : SxT t) (h : t.nd.op = 5 ∨ t.nd.op = 6 ∨ t.nd.op = 7 ∨ t.nd.op = 19) : ∃ u, t.ks = [u] := by
  have h2 := ht.manyOk
  have h3 := ht.many
  unfold Fw.manyOk at h2
  rw [if_neg (by omega), if_pos h] at h2
  simp at h2
  have h4 : t.ks.length = 1 := by omega
  match t.ks, h4 with
  | [u], _ => exact ⟨u, rfl⟩
theorem ks_two {t : Tr Tm} (ht : SxT t) (h : t.nd.op = 4) : ∃ k u, t.ks = [k, u] := by
  have h2 := ht.manyOk
  have h3 := ht.many
  unfold Fw.manyOk at h2
  rw [if_pos (by omega)] at h2
  simp at h2
  have h4 : t.ks.length = 2 := by omega
  match t.ks, h4 with
  | [k, u], _ => exact ⟨k, u, rfl⟩
theorem ks_none {t : Tr Tm} (ht : SxT t) (h : t.nd.op = 0 ∨ t.nd.op = 1 ∨ t.nd.op = 2 ∨ t.nd.op = 3 ∨ t.nd.op = 10 ∨ t.nd.op = 11 ∨ t.nd.op = 12 ∨ t.nd.op = 13 ∨ t.nd.op = 14 ∨ t.nd.op = 15 ∨ t.nd.op = 16) : t.ks = [] := by
  have h2 := ht.manyOk
  have h3 := ht.many
  unfold Fw.manyOk at h2
  rw [if_neg (by omega), if_neg (by omega), if_neg (by omega)] at h2
  simp at h2
  exact List.eq_nil_of_length_eq_zero (by omega)
theorem txF_leaf {t : Tr Tm} (h : t.ks = []) : txF t = aheadT t.nd ++ behindT t.nd.op := by rw [txF_eq, h, txK_nil]; rfl
theorem txF_one {t u : Tr Tm} (h : t.ks = [u]) (hop : t.nd.op = 5 ∨ t.nd.op = 6 ∨ t.nd.op = 7 ∨ t.nd.op = 19) : txF t = aheadT t.nd ++ (txF u ++ behindT t.nd.op) := by
  rw [txF_eq, h, txK_one]
  rcases hop with h | h | h | h <;> rw [h] <;> simp [preT, brk]
theorem txF_bar {t k u : Tr Tm} (ht : SxT t) (h4 : t.nd.op = 4) (h : t.ks = [k, u]) : txF t = inT k ++ ([32, 124, 32] ++ txF u) := by
  obtain ⟨k', u', he, hk4⟩ := pipe_form ht.ok ht.rt h4
  have hk : k' = k := by
    have : t.ks = [k', u'] := by rw [he]; rfl
    rw [h] at this
    injection this with e1 _
    exact e1.symm
  subst hk
  have hc := (flt_kids ht.ok ht.rt k' (by rw [h]; simp)).2.2.1
  rw [h4] at hc
  have hc' : isC k'.nd.op = false := hc
  unfold isC at hc'
  simp at hc'
  rw [inT_bare (by omega), txF_eq, h, txK_cons, txK_one]
  unfold aheadT
  rw [h4]
  simp [preT, brk, betweenT, behindT]
theorem txF_cond {t : Tr Tm} (h : t.nd.op = 17 ∨ t.nd.op = 18) : txF t = txK t.nd.op true t.ks := by
  rw [txF_eq]
  unfold aheadT behindT
  rcases h with h | h <;> rw [h] <;> simp
set_option maxRecDepth 100000 in
set_option maxHeartbeats 8000000 in
theorem refCall_path (t : Tr Tm) (ht : SxT t) (hop : t.nd.op = 12 ∨ t.nd.op = 13 ∨ t.nd.op = 15) (v : Value) (w : World) (hv : Tms w v (flat t)) :
    Calls Tryz.prog 41 #[v] w fun e w' => e = .returned (.string ⟨(txF t).toArray⟩) ∧ Below w.heap.size w w' := by
  have hks := ks_none ht (by omega)
  have hm := ht.many
  rw [hks] at hm
  have htx := txF_leaf hks
  have hsl : (ByteArray.mk t.nd.s.toArray).size ≤ 100 := by rw [mk_size]; exact ht.nd.1
  obtain ⟨g, o, c, rfl, hc, hcm, hg, hx⟩ := hv.opened (flat_pos t)
  have htm := (hx 0 t.nd (by rw [flat_eq]; rfl)).tm
  rw [Nat.zero_mul, Nat.add_zero] at htm
  obtain ⟨y0, y1, -, y3, -, -, -, -, -, -, -⟩ := htm
  rw [hm] at y1
  have hpos := flat_pos t
  clear hx hv ht hks hm
  generalize (flat t).length = m at *
  generalize txF t = R at *
  have HTX := Lib.hid htx
  clear htx
  generalize t.nd = d at *
  rcases hop with h | h | h
  all_goals
    rw [h] at y0
    have HF : Hid (ByteArray.mk (if d.op = 12 then [103, 114, 111, 117, 112, 95, 98, 121, 40] else if d.op = 13 then [115, 111, 114, 116, 95, 98, 121, 40] else [100, 101, 108, 40] : List UInt8).toArray ++ ByteArray.mk d.s.toArray ++ ByteArray.mk #[41] = ⟨R.toArray⟩) := Lib.hid (by
      rw [HTX.out]
      unfold aheadT behindT
      rw [h]
      exact ByteArray.ext (by simp))
    rw [h] at HF
    clear HTX h
    generalize ByteArray.mk d.s.toArray = S at *
    go_enter Tryz.func41, Tryz.ntmps41
    go_wp2_with fail
    go_ret
    exact ⟨ret_str (by rw [← HF.out]; rfl), (Below.refl _ _).alloc (Nat.le_refl _) _⟩
set_option maxRecDepth 100000 in
set_option maxHeartbeats 8000000 in
theorem refCall_5 {n : Nat} (hQ : TxQ n) (t : Tr Tm) (ht : SxT t) (hn : (flat t).length ≤ n + 1) (hop : t.nd.op = 5) (v : Value) (w : World) (hv : Tms w v (flat t)) :
    Calls Tryz.prog 41 #[v] w fun e w' => e = .returned (.string ⟨(txF t).toArray⟩) ∧ Below w.heap.size w w' := by
  have hl30 := ht.len
  obtain ⟨u, hks⟩ := ks_one ht (by omega)
  have hm := ht.many
  rw [hks] at hm
  have hui : u ∈ t.ks := by rw [hks]; simp
  have htx := txF_one hks (by omega)
  have hsl : (ByteArray.mk t.nd.s.toArray).size ≤ 100 := by rw [mk_size]; exact ht.nd.1
  have HPA := Lib.hid (fun (W : World) (hW : Below w.heap.size w W) => refPartsL_any v t W (hv.below hW) (by omega) ht.ok)
  rw [hks] at HPA
  have hul : (ByteArray.mk (txF u).toArray).size ≤ 100000000 := by rw [mk_size]; have := (ht.kid hui).fit.len; rwa [txF_clr] at this
  have HTX : Hid (∀ (x : Value) (W : World), Tms W x (flat (clrF u)) → Calls Tryz.prog 14 #[x] W fun e w' => e = .returned (.string ⟨(txF u).toArray⟩) ∧ Below W.heap.size W w') := Lib.hid (fun x W hx => by
    have h := hQ (clrF u) (by have := kid_lt hui; rw [flat_clrF_len]; omega) (ht.kid hui) x W hx
    rwa [txF_clr] at h)
  obtain ⟨g, o, c, rfl, hc, hcm, hg, hx⟩ := hv.opened (flat_pos t)
  have htm := (hx 0 t.nd (by rw [flat_eq]; rfl)).tm
  rw [Nat.zero_mul, Nat.add_zero] at htm
  have HT := Lib.hid htm
  obtain ⟨y0, y1, -, y3, -, -, -, -, -, -, -⟩ := htm
  rw [hm] at y1
  rw [hop] at y0
  have hpos := flat_pos t
  have HF : Hid (ByteArray.mk #[109, 97, 112] ++ ByteArray.mk #[40] ++ ByteArray.mk (txF u).toArray ++ ByteArray.mk #[41] = ⟨(txF t).toArray⟩) := Lib.hid (by
    rw [htx]
    unfold aheadT behindT
    rw [hop]
    exact ByteArray.ext (by simp))
  clear hx hv hks hm htx hui hl30 hn
  generalize (flat t).length = m at *
  generalize ByteArray.mk (txF t).toArray = R at *
  generalize ByteArray.mk (txF u).toArray = X at *
  generalize ByteArray.mk t.nd.s.toArray = S at *
  go_enter Tryz.func41, Tryz.ntmps41
  go_wp2_with fail
  refine (HPA.out _ ((Below.refl _ _).alloc (Nat.le_refl _) _)).mono ?_
  rintro e w2 ⟨v2, rfl, hfl, hb2⟩
  obtain ⟨us, hul2, hu, hur⟩ := hfl
  have hul1 : us.length = 1 := by simpa using hul2
  obtain ⟨g1, o1, c1, rfl, hc1, hcm1, hg1, hx1⟩ := hu.opened (by omega)
  obtain ⟨z0, hz0⟩ : ∃ z, us[0]? = some z := ⟨_, List.getElem?_eq_getElem (by omega)⟩
  have b0 := (hx1 0 z0 hz0).one
  have hrow := hur 0 z0 (flat (clrF u)) hz0 rfl
  rw [Nat.add_zero] at b0
  obtain ⟨g3, o3, c3, rfl, hc3, hcm3, hg3, -⟩ := hrow.opened (flat_pos _)
  have HROW := Lib.hid hrow
  rw [hul1] at hc1 ⊢
  have HLIT : Hid (∀ W, Below w2.heap.size w2 W → W.cell? ⟨w.heap.size, 0, none⟩ = some (.string ⟨#[109, 97, 112]⟩) ∧ W.cell? ⟨g, o, none⟩ = some (.int .i64 5) ∧ Below w.heap.size w W) := Lib.hid (fun W hW => by
    have h0 : Below w.heap.size w w2 := Below.after ((Below.refl _ _).alloc (Nat.le_refl _) _) hb2
    refine ⟨((hW.cell (p := ⟨w.heap.size, 0, none⟩) (Nat.lt_of_lt_of_le (by simp) hb2.size)).trans (hb2.cell (p := ⟨w.heap.size, 0, none⟩) (by simp))).trans (by rw [Lib.cell_of_heap (heap_alloc_new w _)]; rfl), ?_, Below.after h0 hW⟩
    exact ((Below.after h0 hW).cell (p := ⟨g, o, none⟩) hg).trans (by rw [HT.out.c0, hop]))
  clear hul2 hu hur hx1 hz0 hrow hul1 hb2
  go_wp2_with fail
  refine (HTX.out _ _ HROW.out).mono ?_
  rintro e w3 ⟨rfl, hb3⟩
  obtain ⟨l0, l1, hbw⟩ := HLIT.out _ hb3
  go_wp2_with fail
  go_ret
  exact ⟨ret_str HF.out, hbw⟩
set_option maxRecDepth 100000 in
set_option maxHeartbeats 8000000 in
theorem refCall_6 {n : Nat} (hQ : TxQ n) (t : Tr Tm) (ht : SxT t) (hn : (flat t).length ≤ n + 1) (hop : t.nd.op = 6) (v : Value) (w : World) (hv : Tms w v (flat t)) :
    Calls Tryz.prog 41 #[v] w fun e w' => e = .returned (.string ⟨(txF t).toArray⟩) ∧ Below w.heap.size w w' := by
  have hl30 := ht.len
  obtain ⟨u, hks⟩ := ks_one ht (by omega)
  have hm := ht.many
  rw [hks] at hm
  have hui : u ∈ t.ks := by rw [hks]; simp
  have htx := txF_one hks (by omega)
  have hsl : (ByteArray.mk t.nd.s.toArray).size ≤ 100 := by rw [mk_size]; exact ht.nd.1
  have HPA := Lib.hid (fun (W : World) (hW : Below w.heap.size w W) => refPartsL_any v t W (hv.below hW) (by omega) ht.ok)
  rw [hks] at HPA
  have hul : (ByteArray.mk (txF u).toArray).size ≤ 100000000 := by rw [mk_size]; have := (ht.kid hui).fit.len; rwa [txF_clr] at this
  have HTX : Hid (∀ (x : Value) (W : World), Tms W x (flat (clrF u)) → Calls Tryz.prog 14 #[x] W fun e w' => e = .returned (.string ⟨(txF u).toArray⟩) ∧ Below W.heap.size W w') := Lib.hid (fun x W hx => by
    have h := hQ (clrF u) (by have := kid_lt hui; rw [flat_clrF_len]; omega) (ht.kid hui) x W hx
    rwa [txF_clr] at h)
  obtain ⟨g, o, c, rfl, hc, hcm, hg, hx⟩ := hv.opened (flat_pos t)
  have htm := (hx 0 t.nd (by rw [flat_eq]; rfl)).tm
  rw [Nat.zero_mul, Nat.add_zero] at htm
  have HT := Lib.hid htm
  obtain ⟨y0, y1, -, y3, -, -, -, -, -, -, -⟩ := htm
  rw [hm] at y1
  rw [hop] at y0
  have hpos := flat_pos t
  have HF : Hid (ByteArray.mk #[109, 97, 112, 95, 118, 97, 108, 117, 101, 115] ++ ByteArray.mk #[40] ++ ByteArray.mk (txF u).toArray ++ ByteArray.mk #[41] = ⟨(txF t).toArray⟩) := Lib.hid (by
    rw [htx]
    unfold aheadT behindT
    rw [hop]
    exact ByteArray.ext (by simp))
  clear hx hv hks hm htx hui hl30 hn
  generalize (flat t).length = m at *
  generalize ByteArray.mk (txF t).toArray = R at *
  generalize ByteArray.mk (txF u).toArray = X at *
  generalize ByteArray.mk t.nd.s.toArray = S at *
  go_enter Tryz.func41, Tryz.ntmps41
  go_wp2_with fail
  refine (HPA.out _ ((Below.refl _ _).alloc (Nat.le_refl _) _)).mono ?_
  rintro e w2 ⟨v2, rfl, hfl, hb2⟩
  obtain ⟨us, hul2, hu, hur⟩ := hfl
  have hul1 : us.length = 1 := by simpa using hul2
  obtain ⟨g1, o1, c1, rfl, hc1, hcm1, hg1, hx1⟩ := hu.opened (by omega)
  obtain ⟨z0, hz0⟩ : ∃ z, us[0]? = some z := ⟨_, List.getElem?_eq_getElem (by omega)⟩
  have b0 := (hx1 0 z0 hz0).one
  have hrow := hur 0 z0 (flat (clrF u)) hz0 rfl
  rw [Nat.add_zero] at b0
  obtain ⟨g3, o3, c3, rfl, hc3, hcm3, hg3, -⟩ := hrow.opened (flat_pos _)
  have HROW := Lib.hid hrow
  rw [hul1] at hc1 ⊢
  have HLIT : Hid (∀ W, Below w2.heap.size w2 W → W.cell? ⟨w.heap.size, 1, none⟩ = some (.string ⟨#[109, 97, 112, 95, 118, 97, 108, 117, 101, 115]⟩) ∧ W.cell? ⟨g, o, none⟩ = some (.int .i64 6) ∧ Below w.heap.size w W) := Lib.hid (fun W hW => by
    have h0 : Below w.heap.size w w2 := Below.after ((Below.refl _ _).alloc (Nat.le_refl _) _) hb2
    refine ⟨((hW.cell (p := ⟨w.heap.size, 1, none⟩) (Nat.lt_of_lt_of_le (by simp) hb2.size)).trans (hb2.cell (p := ⟨w.heap.size, 1, none⟩) (by simp))).trans (by rw [Lib.cell_of_heap (heap_alloc_new w _)]; rfl), ?_, Below.after h0 hW⟩
    exact ((Below.after h0 hW).cell (p := ⟨g, o, none⟩) hg).trans (by rw [HT.out.c0, hop]))
  clear hul2 hu hur hx1 hz0 hrow hul1 hb2
  go_wp2_with fail
  refine (HTX.out _ _ HROW.out).mono ?_
  rintro e w3 ⟨rfl, hb3⟩
  obtain ⟨l0, l1, hbw⟩ := HLIT.out _ hb3
  go_wp2_with fail
  go_ret
  exact ⟨ret_str HF.out, hbw⟩
set_option maxRecDepth 100000 in
set_option maxHeartbeats 8000000 in
theorem refCall_7 {n : Nat} (hQ : TxQ n) (t : Tr Tm) (ht : SxT t) (hn : (flat t).length ≤ n + 1) (hop : t.nd.op = 7) (v : Value) (w : World) (hv : Tms w v (flat t)) :
    Calls Tryz.prog 41 #[v] w fun e w' => e = .returned (.string ⟨(txF t).toArray⟩) ∧ Below w.heap.size w w' := by
  have hl30 := ht.len
  obtain ⟨u, hks⟩ := ks_one ht (by omega)
  have hm := ht.many
  rw [hks] at hm
  have hui : u ∈ t.ks := by rw [hks]; simp
  have htx := txF_one hks (by omega)
  have hsl : (ByteArray.mk t.nd.s.toArray).size ≤ 100 := by rw [mk_size]; exact ht.nd.1
  have HPA := Lib.hid (fun (W : World) (hW : Below w.heap.size w W) => refPartsL_any v t W (hv.below hW) (by omega) ht.ok)
  rw [hks] at HPA
  have hul : (ByteArray.mk (txF u).toArray).size ≤ 100000000 := by rw [mk_size]; have := (ht.kid hui).fit.len; rwa [txF_clr] at this
  have HTX : Hid (∀ (x : Value) (W : World), Tms W x (flat (clrF u)) → Calls Tryz.prog 14 #[x] W fun e w' => e = .returned (.string ⟨(txF u).toArray⟩) ∧ Below W.heap.size W w') := Lib.hid (fun x W hx => by
    have h := hQ (clrF u) (by have := kid_lt hui; rw [flat_clrF_len]; omega) (ht.kid hui) x W hx
    rwa [txF_clr] at h)
  obtain ⟨g, o, c, rfl, hc, hcm, hg, hx⟩ := hv.opened (flat_pos t)
  have htm := (hx 0 t.nd (by rw [flat_eq]; rfl)).tm
  rw [Nat.zero_mul, Nat.add_zero] at htm
  have HT := Lib.hid htm
  obtain ⟨y0, y1, -, y3, -, -, -, -, -, -, -⟩ := htm
  rw [hm] at y1
  rw [hop] at y0
  have hpos := flat_pos t
  have HF : Hid (ByteArray.mk #[115, 101, 108, 101, 99, 116] ++ ByteArray.mk #[40] ++ ByteArray.mk (txF u).toArray ++ ByteArray.mk #[41] = ⟨(txF t).toArray⟩) := Lib.hid (by
    rw [htx]
    unfold aheadT behindT
    rw [hop]
    exact ByteArray.ext (by simp))
  clear hx hv hks hm htx hui hl30 hn
  generalize (flat t).length = m at *
  generalize ByteArray.mk (txF t).toArray = R at *
  generalize ByteArray.mk (txF u).toArray = X at *
  generalize ByteArray.mk t.nd.s.toArray = S at *
  go_enter Tryz.func41, Tryz.ntmps41
  go_wp2_with fail
  refine (HPA.out _ ((Below.refl _ _).alloc (Nat.le_refl _) _)).mono ?_
  rintro e w2 ⟨v2, rfl, hfl, hb2⟩
  obtain ⟨us, hul2, hu, hur⟩ := hfl
  have hul1 : us.length = 1 := by simpa using hul2
  obtain ⟨g1, o1, c1, rfl, hc1, hcm1, hg1, hx1⟩ := hu.opened (by omega)
  obtain ⟨z0, hz0⟩ : ∃ z, us[0]? = some z := ⟨_, List.getElem?_eq_getElem (by omega)⟩
  have b0 := (hx1 0 z0 hz0).one
  have hrow := hur 0 z0 (flat (clrF u)) hz0 rfl
  rw [Nat.add_zero] at b0
  obtain ⟨g3, o3, c3, rfl, hc3, hcm3, hg3, -⟩ := hrow.opened (flat_pos _)
  have HROW := Lib.hid hrow
  rw [hul1] at hc1 ⊢
  have HLIT : Hid (∀ W, Below w2.heap.size w2 W → W.cell? ⟨w.heap.size, 2, none⟩ = some (.string ⟨#[115, 101, 108, 101, 99, 116]⟩) ∧ W.cell? ⟨g, o, none⟩ = some (.int .i64 7) ∧ Below w.heap.size w W) := Lib.hid (fun W hW => by
    have h0 : Below w.heap.size w w2 := Below.after ((Below.refl _ _).alloc (Nat.le_refl _) _) hb2
    refine ⟨((hW.cell (p := ⟨w.heap.size, 2, none⟩) (Nat.lt_of_lt_of_le (by simp) hb2.size)).trans (hb2.cell (p := ⟨w.heap.size, 2, none⟩) (by simp))).trans (by rw [Lib.cell_of_heap (heap_alloc_new w _)]; rfl), ?_, Below.after h0 hW⟩
    exact ((Below.after h0 hW).cell (p := ⟨g, o, none⟩) hg).trans (by rw [HT.out.c0, hop]))
  clear hul2 hu hur hx1 hz0 hrow hul1 hb2
  go_wp2_with fail
  refine (HTX.out _ _ HROW.out).mono ?_
  rintro e w3 ⟨rfl, hb3⟩
  obtain ⟨l0, l1, hbw⟩ := HLIT.out _ hb3
  go_wp2_with fail
  go_ret
  exact ⟨ret_str HF.out, hbw⟩
end Go.Proofs.YtdgcdemihalefaaGreatDoor
namespace Go.Proofs.YtdgcdemihalefaaGreatDoor
namespace Np
open Go.RowKit
def wide : List UInt8 → Nat → Nat
  | [], _ => 0
  | c :: t, n => (c.toNat - 48) * 10 ^ (n - 1) + wide t (n - 1)
theorem dec_len_lt (u : Nat) : u < 10 ^ (Lib.decDigits u).length ∧ (0 < u → 10 ^ ((Lib.decDigits u).length - 1) ≤ u) := by
  induction u using Nat.strongRecOn with
  | _ u ih =>
    rw [Lib.decDigits]
    split
    · rename_i h
      simp
      exact ⟨h, fun h => h⟩
    · rename_i h
      obtain ⟨i1, i2⟩ := ih (u / 10) (by omega)
      have i2 := i2 (by omega)
      rw [List.length_append]
      simp only [List.length_cons, List.length_nil, Nat.zero_add, Nat.add_sub_cancel]
      have hp : 0 < (Lib.decDigits (u / 10)).length := List.length_pos_iff.2 (dec_worth (u / 10)).2.2
      obtain ⟨m, hm⟩ : ∃ m, (Lib.decDigits (u / 10)).length = m + 1 := ⟨(Lib.decDigits (u / 10)).length - 1, by omega⟩
      rw [hm] at i1 i2 ⊢
      rw [Nat.add_sub_cancel] at i2
      rw [Nat.pow_succ (m := m + 1), Nat.pow_succ (m := m)]
      rw [Nat.pow_succ] at i1
      generalize 10 ^ m = z at *
      omega
theorem dec_head {u : Nat} (h : 0 < u) : ∃ c t, Lib.decDigits u = c :: t ∧ c ≠ 48 := by
  induction u using Nat.strongRecOn with
  | _ u ih =>
    rw [Lib.decDigits]
    split
    · rename_i h10
      refine ⟨_, [], rfl, fun e => ?_⟩
      have := congrArg UInt8.toNat e
      rw [dig_nat u h10] at this
      simp at this
      omega
    · obtain ⟨c, t, e, hc⟩ := ih (u / 10) (by omega) (by omega)
      rw [e]
      exact ⟨c, t ++ _, rfl, hc⟩
theorem dec_ten (u : Nat) (h : u ≤ 2147483648) : (Lib.decDigits u).length ≤ 10 := by
  rcases Nat.lt_or_ge 10 (Lib.decDigits u).length with h1 | h1
  · by_cases h0 : 0 < u
    · have h2 := (dec_len_lt u).2 h0
      have h3 : 10 ^ 10 ≤ 10 ^ ((Lib.decDigits u).length - 1) := Nat.pow_le_pow_right (by decide) (by omega)
      omega
    · rw [show u = 0 by omega] at h1
      rw [Lib.decDigits] at h1
      simp at h1
  · exact h1
end Np
end Go.Proofs.YtdgcdemihalefaaGreatDoor
namespace Go.Proofs.YtdgcdemihalefaaGreatDoor
open Go.RowKit Np
theorem byte_sum (n : Nat) (acc : List UInt8) : ByteArray.mk #[48 + UInt8.ofNat n] ++ ByteArray.mk acc.toArray = ByteArray.mk (UInt8.ofNat (48 + n) :: acc).toArray :=
  ByteArray.ext (by simp [UInt8.ofNat_add])
theorem one_byte (W : World) (v : Int) : (convert 63 9 (.slice (some ⟨W.heap.size, 0, none⟩) 1 1)).run Tryz.prog (W.alloc (.cells #[.int .u8 v] 5)) = .ok (.string ⟨#[UInt8.ofNat v.toNat]⟩) (W.alloc (.cells #[.int .u8 v] 5)) :=
  run_convert_bytes_arg _ 63 5 Tryz.underlying63 Tryz.underlying5 W.heap.size 0 1 1 [v] rfl (fun i hi => by
    obtain rfl : i = 0 := by omega
    simp) 9 Tryz.underlying9
end Go.Proofs.YtdgcdemihalefaaGreatDoor
namespace Go.Proofs.YtdgcdemihalefaaGreatDoor
open Go.RowKit Np
def Ahead (u M : Nat) (acc : List UInt8) : Prop := (M < 10 ∧ Lib.decDigits u = acc) ∨ (10 ≤ M ∧ Lib.decDigits u = Lib.decDigits (M / 10) ++ acc)
theorem Ahead.first (u : Nat) : Ahead u u [UInt8.ofNat (48 + u % 10)] := by
  by_cases h : u < 10
  · left; exact ⟨h, by rw [Lib.decDigits_one h, Nat.mod_eq_of_lt h]⟩
  · right
    exact ⟨by omega, by conv => lhs; rw [Lib.decDigits, dif_neg h]⟩
theorem Ahead.step {u M : Nat} {acc : List UInt8} (h : Ahead u M acc) (hM : 10 ≤ M) : Ahead u (M / 10) (UInt8.ofNat (48 + M / 10 % 10) :: acc) := by
  rcases h with ⟨h1, _⟩ | ⟨_, h2⟩
  · omega
  · by_cases h : M / 10 < 10
    · left; exact ⟨h, by rw [h2, Lib.decDigits_one h, Nat.mod_eq_of_lt h]; rfl⟩
    · right
      have e : Lib.decDigits (M / 10) = Lib.decDigits (M / 10 / 10) ++ [UInt8.ofNat (48 + M / 10 % 10)] := by conv => lhs; rw [Lib.decDigits, dif_neg h]
      exact ⟨by omega, by rw [h2, e, List.append_assoc]; rfl⟩
theorem Ahead.len {u M : Nat} {acc : List UInt8} (h : Ahead u M acc) (hu : u ≤ 2147483648) : acc.length ≤ 10 := by
  have := dec_ten u hu
  rcases h with ⟨_, h3⟩ | ⟨_, h3⟩
  · rw [← h3]; exact this
  · rw [h3, List.length_append] at this; omega
set_option maxRecDepth 100000 in
set_option maxHeartbeats 1000000 in
theorem decimal_pos (u : Nat) (w : World) (hu : u ≤ 2147483648) :
    Calls Tryz.prog 102 #[.int .i64 u] w fun e w' => e = .returned (.string ⟨(Lib.decDigits u).toArray⟩) ∧ Below w.heap.size w w' := by
  have hB : Below w.heap.size w w := Below.refl _ _
  have hcv := one_byte
  have HA0 := Lib.hid (Ahead.first u)
  go_enter Tryz.func102, Tryz.ntmps102
  go_wp2_with fail
  go_loopw [0, 3] (fun a b wr => ∃ (M : Nat) (acc : List UInt8), a = .int .i64 M ∧ b = .string ⟨acc.toArray⟩ ∧ Hid (Ahead u M acc) ∧ M ≤ 2147483648 ∧ Below w.heap.size w wr) (fun a _ _ => (intOf a).toNat)
  case atStart => exact ⟨u, _, rfl, congrArg (fun c => Value.string ⟨#[c]⟩) (by simp [UInt8.ofNat_add]), HA0, hu, hB.alloc (Nat.le_refl _) _⟩
  case round =>
    obtain ⟨M, acc, rfl, rfl, HTk, hM, hb⟩ := hrel
    have hacc := HTk.out.len hu
    by_cases hg : 10 ≤ M
    · have HN := Lib.hid (HTk.out.step hg)
      have HBS := Lib.hid (byte_sum (M / 10 % 10) acc)
      go_wp2_with fail
      go_roundw
      case rel => exact ⟨M / 10, _, by go_num, congrArg Value.string HBS.out, HN, by omega, hb.alloc hb.size _⟩
      case measure => simp [intOf]; omega
    · have HA : Hid (Lib.decDigits u = acc) := Lib.hid (by
        rcases HTk.out with ⟨_, h⟩ | ⟨h, _⟩
        · exact h
        · omega)
      go_wp2_with fail
      go_ret
      exact ⟨ret_str (by rw [HA.out]), hb⟩
set_option maxRecDepth 100000 in
set_option maxHeartbeats 1000000 in
theorem decimal_neg : ∀ (u : Nat), 0 < u → u ≤ 2147483648 → ∀ w : World,
    Calls Tryz.prog 102 #[.int .i64 (-(u : Int))] w fun e w' => e = .returned (.string ⟨(45 :: Lib.decDigits u).toArray⟩) ∧ Below w.heap.size w w' := by
  intro u
  induction u using Nat.strongRecOn with
  | _ u ih =>
    intro h0 hu w
    have hB : Below w.heap.size w w := Below.refl _ _
    have hcv := any_byte
    by_cases h10 : u < 10
    · have HV := Lib.hid (Lib.decDigits_one h10)
      clear ih
      go_enter Tryz.func102, Tryz.ntmps102
      go_wp2_with fail
      go_ret
      refine ⟨?_, hB.alloc (Nat.le_refl _) _⟩
      rw [HV.out]
      simp
      exact ByteArray.ext (by simp)
    · obtain ⟨q, hq⟩ : ∃ q, u / 10 = q := ⟨_, rfl⟩
      obtain ⟨r, hr⟩ : ∃ r, u % 10 = r := ⟨_, rfl⟩
      have HV : Hid (Lib.decDigits u = Lib.decDigits q ++ [UInt8.ofNat (48 + r)]) := Lib.hid (by conv => lhs; rw [Lib.decDigits, dif_neg h10, hq, hr])
      have HI := Lib.hid (ih q (by omega) (by omega) (by omega))
      have hql : (Lib.decDigits q).length ≤ 10 := dec_ten q (by omega)
      have ht : (-(u : Int)).tdiv 10 = -(q : Int) := by
        rw [Int.neg_tdiv, Int.tdiv_eq_ediv_of_nonneg (by omega)]; omega
      have hm : (-(u : Int)).tmod 10 = -(r : Int) := by
        rw [Int.neg_tmod, Int.tmod_eq_emod_of_nonneg (by omega)]; omega
      have hr10 : r < 10 := by omega
      have hun : (u : Int) ≥ 10 := by omega
      have hwq : IntKind.i64.wrap (-(q : Int)) = -(q : Int) := IntWalk.i64_in _ ⟨by omega, by omega⟩
      have hwr : IntKind.i64.wrap (-(r : Int)) = -(r : Int) := IntWalk.i64_in _ ⟨by omega, by omega⟩
      have hws : IntKind.i64.wrap (48 - -(r : Int)) = 48 + (r : Int) := (IntWalk.i64_in _ ⟨by omega, by omega⟩).trans (by omega)
      have hws2 : IntKind.i64.wrap (48 + (r : Int)) = 48 + (r : Int) := IntWalk.i64_in _ ⟨by omega, by omega⟩
      have hwu : IntKind.u8.wrap (48 + (r : Int)) = 48 + (r : Int) := IntWalk.u8_in _ ⟨by omega, by omega⟩
      clear ih hq hr
      go_enter Tryz.func102, Tryz.ntmps102
      go_upto_region 4 with fail
      go_region_with (first | (go_at_call 102; ((with_reducible refine (HI.out _).mono ?_); rintro e3 w3 ⟨rfl, hb3⟩; obtain ⟨hc3, hf3⟩ := kept_cells hb3; have hz3 := hb3.size)))
      all_goals
        go_wp2_with fail
        go_ret
        refine ⟨ret_str (a := ByteArray.mk (45 :: Lib.decDigits q).toArray ++ ByteArray.mk #[48 + UInt8.ofNat r]) ?_, ?_⟩
        · rw [HV.out]
          exact ByteArray.ext (by simp [UInt8.ofNat_add])
        · first
            | exact (hB.drew.trans hb3).alloc hb3.size _
            | exact (hB.drew.alloc (Nat.le_refl _) _).trans (hb3.mono (by simp))
end Go.Proofs.YtdgcdemihalefaaGreatDoor
namespace Go.Proofs.YtdgcdemihalefaaGreatDoor
open Go.RowKit Np
theorem nought_ahead1 (i : Nat) (l : List UInt8) : ByteArray.mk #[48] ++ ByteArray.mk (noughts i ++ l).toArray = ByteArray.mk (noughts (i + 1) ++ l).toArray :=
  ByteArray.ext (by simp [noughts, List.replicate_succ])
theorem nought_behind1 (i : Nat) (l : List UInt8) : ByteArray.mk (l ++ noughts i).toArray ++ ByteArray.mk #[48] = ByteArray.mk (l ++ noughts (i + 1)).toArray :=
  ByteArray.ext (by simp [noughts, List.replicate_succ'])
theorem noughts_len1 (i : Nat) : (noughts i).length = i := by simp [noughts]
def PrintEnd (w : World) (t : List UInt8) (e : Ending) (w' : World) : Prop := e = .returned (.string ⟨t.toArray⟩) ∧ Below w.heap.size w w'
theorem printEnd_of {w w' : World} {t : List UInt8} {b : ByteArray} (h : b = ⟨t.toArray⟩) (hb : Below w.heap.size w w') : PrintEnd w t (.returned (.string b)) w' := ⟨by rw [h], hb⟩
set_option maxRecDepth 100000 in
set_option maxHeartbeats 4000000 in
theorem refPrint_any (k m : Int) (nm s : ByteArray) (g : Bool) (x : Int) (w : World) (hr : right ⟨k, m, nm.data.toList, s.data.toList, g, x⟩ = true) :
    Calls Tryz.prog 70 #[.agg #[.int .i64 k, .int .i64 m, .string nm, .string s, .bool g, .int .i64 x]] w (PrintEnd w (printN s.data.toList g x)) := by
  obtain ⟨p1, p2, p3⟩ := right_bounds hr
  simp only at p1 p2 p3
  rw [size_toList] at p1
  have hB := (Below.refl w.heap.size w).alloc (Nat.le_refl _) (.cells #[.int .i64 k, .int .i64 m, .string nm, .string s, .bool g, .int .i64 x] 43)
  have HG : Hid (s.data.toList = [] → g = false) := Lib.hid (fun h => by
    obtain ⟨_, _, _, ⟨_, h', _⟩ | ⟨h', _⟩⟩ := (right_iff _).1 hr
    · exact h'
    · exact absurd h h')
  clear hr
  have HP : Hid (printN s.data.toList g x = (if g = true then [45] else []) ++ printS s.data.toList x) := Lib.hid (by unfold printN; cases g <;> simp)
  go_enter Tryz.func70, Tryz.ntmps70
  go_upto_if 7 with fail
  go_cut [3] (fun s3 wx => s3 = .string ⟨(if g = true then [45] else []).toArray⟩ ∧ wx = w.alloc (.cells #[.int .i64 k, .int .i64 m, .string nm, .string s, .bool g, .int .i64 x] 43))
  case first =>
    cases g
    · go_wp2_with fail
      go_meet
      exact ⟨rfl, rfl⟩
    · go_wp2_with fail
      go_meet
      exact ⟨rfl, rfl⟩
  case rest =>
    obtain ⟨rfl, rfl⟩ := hcut
    have hsg : (if g = true then [45] else ([] : List UInt8)).length ≤ 1 := by split <;> simp
    have HSG : Hid (g = false → (if g = true then [45] else ([] : List UInt8)) = []) := Lib.hid (fun h => by rw [h]; rfl)
    generalize (if g = true then [45] else ([] : List UInt8)) = sg at *
    cases hne : s.toList.isEmpty
    · have HS : Hid (printS s.data.toList x = if 0 ≤ x ∧ x ≤ 20 - s.size then s.data.toList ++ Lib.repeatL [48] x.toNat
          else if -20 ≤ x ∧ x ≤ -1 then pointF s.data.toList (-x).toNat else s.data.toList ++ 101 :: Lib.itoa x) := Lib.hid (by rw [printS, if_neg (by rw [← ByteArray.toList_eq, hne]; decide), size_toList])
      by_cases c1 : 0 ≤ x ∧ x ≤ 20 - s.size
      · have HV := Lib.hid (HS.out.trans (if_pos c1))
        clear HS
        obtain ⟨c1, c2⟩ := c1
        go_wp2_with fail
        go_loop [4, 5] (fun a b => ∃ i : Nat, (i : Int) ≤ x ∧ b = .int .i64 i ∧ a = .string ⟨(s.data.toList ++ noughts i).toArray⟩) (fun _ b => x.toNat - (intOf b).toNat)
        case atStart => exact ⟨0, by omega, rfl, congrArg Value.string (by simp [noughts])⟩
        case round =>
          obtain ⟨i, hi, rfl, rfl⟩ := hrel
          have hln : (s.data.toList ++ noughts i).length ≤ 140 := by rw [List.length_append, noughts_len1, size_toList]; omega
          by_cases hlt : (i : Int) < x
          · have HN := Lib.hid (nought_behind1 i s.data.toList)
            generalize s.data.toList ++ noughts i = q at *
            go_wp2_with fail
            go_round
            case rel => exact ⟨i + 1, by omega, by go_num, congrArg Value.string HN.out⟩
            case measure => simp [intOf]; omega
          · have HF : Hid (printN s.data.toList g x = sg ++ (s.data.toList ++ noughts i)) := Lib.hid (by rw [HP.out, HV.out, repeat_noughts, show x.toNat = i by omega])
            generalize s.data.toList ++ noughts i = q at *
            go_wp2_with fail
            go_ret
            exact printEnd_of (b := ByteArray.mk sg.toArray ++ ByteArray.mk q.toArray) (by rw [HF.out]; exact ByteArray.ext (by simp)) hB
      · have HS2 := Lib.hid (HS.out.trans (if_neg c1))
        clear HS
        by_cases c2 : -20 ≤ x ∧ x ≤ -1
        · have HV := Lib.hid (HS2.out.trans (if_pos c2))
          clear HS2 c1
          obtain ⟨c2, c3⟩ := c2
          obtain ⟨b, hb⟩ : ∃ b : Nat, x = -(b : Int) := ⟨(-x).toNat, by omega⟩
          subst hb
          rw [show (-(-(b : Int))).toNat = b by omega] at HV
          have d1 : decide (0 ≤ -(b : Int)) = false := by simp; omega
          go_wp2_with fail
          go_loop [4] (fun a => ∃ j : Nat, j ≤ b + 1 - s.size ∧ a = .string ⟨(noughts j ++ s.data.toList).toArray⟩) (fun a => match a with | .string t => b + 1 - t.size | _ => 0)
          case atStart => exact ⟨0, by omega, congrArg Value.string (by rfl)⟩
          case round =>
            obtain ⟨j, hj, rfl⟩ := hrel
            have hln : (noughts j ++ s.data.toList).length = j + s.size := by rw [List.length_append, noughts_len1, size_toList]
            by_cases hlt : j < b + 1 - s.size
            · have HN := Lib.hid (nought_ahead1 j s.data.toList)
              have HLn := Lib.hid hln
              have hl1 : (noughts j ++ s.data.toList).length < b + 1 := by omega
              have HM : Hid ((ByteArray.mk #[48] ++ ByteArray.mk (noughts j ++ s.data.toList).toArray).size = j + 1 + s.size) := Lib.hid (by
                rw [HN.out]; show (noughts (j + 1) ++ s.data.toList).length = _; rw [List.length_append, noughts_len1, size_toList])
              clear hln
              generalize noughts j ++ s.data.toList = q at *
              go_wp2_with fail
              go_round
              case rel => exact ⟨j + 1, by omega, congrArg Value.string HN.out⟩
              case measure =>
                simp only
                rw [HM.out]
                show b + 1 - (j + 1 + s.size) < b + 1 - q.length
                rw [HLn.out]
                omega
            · have hje : j = b + 1 - s.size := by omega
              have HPd : Hid (padF s.data.toList b = noughts j ++ s.data.toList) := Lib.hid (by unfold padF; rw [repeat_noughts, size_toList, hje])
              have hpl := padF_len s.data.toList b
              have hpu := padF_le s.data.toList b
              rw [HPd.out] at hpl hpu
              rw [size_toList] at hpu
              have HQ : Hid (pointF s.data.toList b = (noughts j ++ s.data.toList).take ((noughts j ++ s.data.toList).length - b) ++ 46 :: (noughts j ++ s.data.toList).drop ((noughts j ++ s.data.toList).length - b)) := Lib.hid (by unfold pointF; rw [HPd.out])
              clear hln hje hlt HPd
              generalize noughts j ++ s.data.toList = pd at *
              obtain ⟨p, hp⟩ : ∃ p : Nat, pd.length - b = p := ⟨_, rfl⟩
              rw [hp] at HQ
              have hw : IntKind.i64.wrap ((pd.length : Int) + -(b : Int)) = (p : Int) := (IntWalk.i64_in _ ⟨by omega, by omega⟩).trans (by omega)
              have hp1 : p ≤ pd.length := by omega
              have HW := Lib.hid hw
              clear hp hw
              go_upto_region 16 with fail
              have hw := HW.out
              go_quiet (fail)
              go_wp2_with fail
              go_ret
              refine printEnd_of (b := ByteArray.mk sg.toArray ++ (ByteArray.mk pd.toArray).extract 0 p ++ ByteArray.mk #[46] ++ (ByteArray.mk pd.toArray).extract p pd.length) ?_ ⟨hB.os, hB.tape, hB.output, hB.size, hB.block⟩
              rw [HP.out, HV.out, HQ.out, extract_run (ByteArray.mk pd.toArray) 0 p (pd.take p) (by simp), extract_run (ByteArray.mk pd.toArray) p pd.length (pd.drop p) (by show pd.drop p = _; exact (List.take_of_length_le (by simp)).symm)]
              exact ByteArray.ext (by simp)
        · have HV := Lib.hid (HS2.out.trans (if_neg c2))
          clear HS2
          by_cases h0 : 0 ≤ x
          · obtain ⟨u, hu⟩ : ∃ u : Nat, x = u := ⟨x.toNat, by omega⟩
            subst hu
            have hit : Lib.itoa (u : Int) = Lib.decDigits u := by unfold Lib.itoa; rw [if_neg (by omega), Int.toNat_natCast]
            rw [hit] at HV
            have hil := dec_ten u (by omega)
            have d1 : decide ((s.size : Int) + u ≤ 20) = false := by simp; omega
            have d2 : decide ((u : Int) < 0) = false := by simp
            clear c1 c2 hit
            go_wp2_with fail
            refine (decimal_pos u _ (by omega)).mono ?_
            rintro e w2 ⟨rfl, hb2⟩
            have HF : Hid (printN s.data.toList g u = sg ++ (s.data.toList ++ 101 :: Lib.decDigits u)) := Lib.hid (by rw [HP.out, HV.out])
            generalize Lib.decDigits u = dd at *
            go_wp2_with fail
            go_ret
            exact printEnd_of (b := ByteArray.mk sg.toArray ++ s ++ ByteArray.mk #[101] ++ ByteArray.mk dd.toArray) (by rw [HF.out]; exact ByteArray.ext (by simp)) (hB.trans (hb2.mono hB.size))
          · obtain ⟨u, hu⟩ : ∃ u : Nat, x = -(u : Int) := ⟨(-x).toNat, by omega⟩
            subst hu
            have hit : Lib.itoa (-(u : Int)) = 45 :: Lib.decDigits u := by unfold Lib.itoa; rw [if_pos (by omega), Int.natAbs_neg, Int.natAbs_natCast]
            rw [hit] at HV
            have hil := dec_ten u (by omega)
            have d1 : decide (0 ≤ -(u : Int)) = false := by simp; omega
            have d2 : decide (-20 ≤ -(u : Int)) = false := by simp; omega
            have d3 : decide ((u : Int) ≤ 20) = false := by simp; omega
            have d4 : decide (u ≤ 20) = false := by simp; omega
            clear c1 c2 hit
            go_wp2_with fail
            refine (decimal_neg u (by omega) (by omega) _).mono ?_
            rintro e w2 ⟨rfl, hb2⟩
            have HF : Hid (printN s.data.toList g (-(u : Int)) = sg ++ (s.data.toList ++ 101 :: (45 :: Lib.decDigits u))) := Lib.hid (by rw [HP.out, HV.out])
            generalize Lib.decDigits u = dd at *
            go_wp2_with fail
            go_ret
            exact printEnd_of (b := ByteArray.mk sg.toArray ++ s ++ ByteArray.mk #[101] ++ ByteArray.mk (45 :: dd).toArray) (by rw [HF.out]; exact ByteArray.ext (by simp)) (hB.trans (hb2.mono hB.size))
    · have hg0 := HG.out (by rw [← ByteArray.toList_eq]; exact List.isEmpty_iff.1 hne)
      have hsg0 := HSG.out hg0
      have HV : Hid (printN s.data.toList g x = [48]) := Lib.hid (by
        rw [HP.out, hsg0, printS, if_pos (by rw [← ByteArray.toList_eq]; exact hne)]; rfl)
      clear hg0 hsg0
      go_wp2_with fail
      go_ret
      exact printEnd_of (b := ⟨#[48]⟩) (by rw [HV.out]) hB
end Go.Proofs.YtdgcdemihalefaaGreatDoor
namespace Go.Proofs.YtdgcdemihalefaaGreatDoor
open Go.RowKit Np Rw Vp Up Qp Tp
end Go.Proofs.YtdgcdemihalefaaGreatDoor
namespace Go.Proofs.YtdgcdemihalefaaGreatDoor
open Go.RowKit Np Rw Vp Up Qp Tp
set_option maxRecDepth 100000 in
set_option maxHeartbeats 2000000 in
theorem refScalar_any (n : Nd) (w : World) (hp : plainN n = true) (hn : n.name = []) (h5 : n.kind ≠ 5) (h6 : n.kind ≠ 6) (hs : n.s.length ≤ 1000000) :
    Calls Tryz.prog 40 #[nda n] w fun e w' => e = .returned (.string ⟨(scT n).toArray⟩) ∧ Below w.heap.size w w' := by
  have hb0 : Below w.heap.size w (w.alloc (.cells #[.int .i64 n.kind, .int .i64 n.many, .string ⟨n.name.toArray⟩, .string ⟨n.s.toArray⟩, .bool n.neg, .int .i64 n.e] 43)) := (Below.refl _ _).alloc (Nat.le_refl _) _
  have HB0 := Lib.hid hb0
  clear hb0
  by_cases c0 : n.kind = 0 ∨ n.kind = 1 ∨ n.kind = 2
  · have HS : Hid (scT n = wordT n.kind) := Lib.hid (by unfold scT; rw [if_pos c0])
    obtain ⟨nk, nm, nn, ns, ng, ne⟩ := n
    simp only at *
    subst hn
    rcases c0 with rfl | rfl | rfl
    all_goals
      generalize scT _ = X at *
      have HX := HS.out
      subst HX
      go_enter Tryz.func40, Tryz.ntmps40
      go_wp2_with fail
      go_ret
      exact ⟨rfl, by first | exact HB0.out | exact Below.refl _ _⟩
  by_cases c3 : n.kind = 3
  · have hr : right n = true := by
      have h := hp
      unfold plainN at h
      rw [if_neg c0, if_pos c3] at h
      have e : ({ n with name := [] } : Nd) = n := by rw [← hn]
      rwa [e] at h
    have HS : Hid (scT n = printN n.s n.neg n.e) := Lib.hid (by unfold scT; rw [if_neg c0, if_pos c3])
    obtain ⟨nk, nm, nn, ns, ng, ne⟩ := n
    simp only at *
    subst hn
    subst c3
    have HP := Lib.hid (fun W => refPrint_any 3 nm ⟨#[]⟩ ⟨ns.toArray⟩ ng ne W (by rw [mk_data]; exact hr))
    unfold PrintEnd at HP
    simp only at HP
    generalize scT _ = X at *
    have HX := HS.out
    subst HX
    clear HS
    go_enter Tryz.func40, Tryz.ntmps40
    go_wp2_with fail
    refine (HP.out _).mono ?_
    rintro e w1 ⟨rfl, hb1⟩
    have HB1 : Hid (Below w.heap.size w w1) := Lib.hid (by first | exact Below.after HB0.out hb1 | exact hb1)
    clear hb1
    go_wp2_with fail
    go_ret
    exact ⟨rfl, HB1.out⟩
  · have h4 : n.kind = 4 := by
      have h := hp
      unfold plainN at h
      rw [if_neg c0, if_neg c3] at h
      by_cases h4 : n.kind = 4
      · exact h4
      · rw [if_neg h4, if_neg (by omega)] at h; cases h
    have HS : Hid (scT n = quo n.s) := Lib.hid (by unfold scT; rw [if_neg c0, if_neg c3])
    obtain ⟨nk, nm, nn, ns, ng, ne⟩ := n
    simp only at *
    subst hn
    subst h4
    have HP := Lib.hid (fun W => refQuote_any ⟨ns.toArray⟩ W (by rw [mk_size]; omega))
    simp only at HP
    generalize scT _ = X at *
    have HX := HS.out
    subst HX
    clear HS
    go_enter Tryz.func40, Tryz.ntmps40
    go_wp2_with fail
    refine (HP.out _).mono ?_
    rintro e w1 ⟨rfl, hb1⟩
    have HB1 : Hid (Below w.heap.size w w1) := Lib.hid (by first | exact Below.after HB0.out hb1 | exact hb1)
    clear hb1
    go_wp2_with fail
    go_ret
    exact ⟨rfl, HB1.out⟩
end Go.Proofs.YtdgcdemihalefaaGreatDoor
