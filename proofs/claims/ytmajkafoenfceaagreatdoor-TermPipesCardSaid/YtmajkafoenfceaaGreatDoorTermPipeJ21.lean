/-
  Joined: BackP, TxR, TxS, TxT, TxW, RefW7, RefW8, TxX, FrG, TermPipe.
-/
import Derived.Test.YtmajkafoenfceaaGreatDoorTermPipeJ1
import Derived.Test.YtmajkafoenfceaaGreatDoorTermPipeJ3
import Derived.Test.YtmajkafoenfceaaGreatDoorTermPipeJ20
import Derived.Test.YtmajkafoenfceaaGreatDoorTermPipeJ2
import Derived.Test.YtmajkafoenfceaaGreatDoorTermPipeJ4
import Derived.Test.YtmajkafoenfceaaGreatDoorRefW6
import Derived.Test.YtmajkafoenfceaaGreatDoorTermPipeJ7
import Derived.Test.YtmajkafoenfceaaGreatDoorTermPipeJ11
import Derived.Test.YtmajkafoenfceaaGreatDoorTermPipeJ6
import Derived.Test.YtmajkafoenfceaaGreatDoorTermPipeJ10
import Derived.Test.YtmajkafoenfceaaGreatDoorTermPipeJ12
import Derived.Test.YtmajkafoenfceaaGreatDoorTermPipeJ18

/-
  Plain words: a list's parts are what it was made of; an object, made of its names and parts, is it; parts are right, and less deep. No program stands here.
-/
namespace Go.Proofs.YtmajkafoenfceaaGreatDoor
namespace Vp
open Go.RowKit Np Rw

theorem depths_le : ∀ {ts : List (Tr Nd)} {k : Tr Nd}, k ∈ ts → depth k ≤ depths ts
  | t :: ts, k, h => by
    rw [depths_cons]
    rcases List.mem_cons.1 h with rfl | h
    · omega
    · have := depths_le h; omega
end Vp
end Go.Proofs.YtmajkafoenfceaaGreatDoor

/-
  Plain words: a value's text is read as it. No program stands here.
-/
namespace Go.Proofs.YtmajkafoenfceaaGreatDoor
namespace Tp
open Go.RowKit Np Rw Vp Up Qp

/-! ### numbers -/
/-- What may stand behind a number. -/
def Stop (Q : List UInt8) : Prop := ∀ c, Q.head? = some c → numB.contains c = false
theorem Stop.nil : Stop [] := fun c h => by cases h
theorem Stop.cons {c : UInt8} {Q : List UInt8} (h : numB.contains c = false) : Stop (c :: Q) := fun x hx => by injection hx with hx; subst hx; exact h
end Tp
end Go.Proofs.YtmajkafoenfceaaGreatDoor

/-
  Plain words: a value's text is read as it: lists, objects, all. No program stands here.
-/
namespace Go.Proofs.YtmajkafoenfceaaGreatDoor
namespace Tp
open Go.RowKit Np Rw Vp Up Qp

def Blk (B : List UInt8) : Prop := ∀ c ∈ B, blk c.toNat = true
theorem Blk.nil : Blk [] := fun c h => by cases h
section
variable {α β : Type} {rd : Nat → Rs α} {put : β → α → β} {S : List UInt8}
end
end Tp
end Go.Proofs.YtmajkafoenfceaaGreatDoor

/-
  Plain words: a value's text is read as it, whatever stands behind that is no numeral. No program stands here.
-/
namespace Go.Proofs.YtmajkafoenfceaaGreatDoor
namespace Tp
open Go.RowKit Np Rw Vp Up Qp

def lit (ln : Bool) (d : Nat) (t : Tr Nd) : List Nd × List UInt8 := (flat (nmd [] t), prT ln (d + 1) t)
theorem kids_okP {n : Nd} {ks : List (Tr Nd)} (h1 : okT many (.mk n ks)) (h2 : rightT (.mk n ks) = true) : ∀ u ∈ ks, okT many u ∧ rightT u = true := by
  have := val_kids (t := nmd [] (.mk n ks)) (Val.clr h1 h2)
  rwa [nmd_ks] at this
theorem kid_lessP {n : Nd} {ks : List (Tr Nd)} {u : Tr Nd} (hu : u ∈ ks) : (flat u).length < (flat (.mk n ks)).length := by
  obtain ⟨a, c, rfl⟩ := List.append_of_mem hu
  rw [flat_mk, flats_append, flats_cons]
  simp; omega
end Tp
end Go.Proofs.YtmajkafoenfceaaGreatDoor

/-
  Plain words: what is read is a right value, not too deep; how long its texts are. No program stands here.
-/
namespace Go.Proofs.YtmajkafoenfceaaGreatDoor
namespace Tp
open Go.RowKit Np Rw Vp Up Qp

/-- What a node's strings are written as. -/
def wN (n : Nd) : Nat := (wrs n.name).length + (if n.kind = 4 then (wrs n.s).length else 0)
def wS (l : List Nd) : Nat := (l.map wN).sum
theorem wS_cons (n : Nd) (l : List Nd) : wS (n :: l) = wN n + wS l := by simp [wS]
theorem wS_append (a b : List Nd) : wS (a ++ b) = wS a + wS b := by simp [wS]
/-! ### how long a text is -/
theorem wordT_len (k : Int) : (wordT k).length ≤ 5 := by unfold wordT; split <;> (try split) <;> decide
theorem prN_len (ln : Bool) (nm : List UInt8) : (prN ln nm).length ≤ (wrs nm).length + 4 := by
  unfold prN
  rw [List.length_append, quo_len, List.length_cons]
  split <;> simp
theorem scT_len {n : Nd} (hp : plainN n = true) (h5 : n.kind ≠ 5) (h6 : n.kind ≠ 6) : (scT n).length + (wrs n.name).length ≤ wN n + 160 := by
  unfold scT wN
  split
  · have := wordT_len n.kind; omega
  · rename_i h0
    split
    · rename_i h3
      have hr : right { n with name := [] } = true := by unfold plainN at hp; rw [if_neg h0, if_pos h3] at hp; exact hp
      obtain ⟨b1, b2, b3⟩ := right_bounds hr
      have := print_short n.s n.neg n.e (by simp only at b2; omega) (by simp only at b3; omega)
      simp only at b1
      omega
    · rename_i h3
      have h4 : n.kind = 4 := by
        unfold plainN at hp
        rw [if_neg h0, if_neg h3] at hp
        split at hp
        · assumption
        · split at hp
          · omega
          · cases hp
      rw [if_pos h4, quo_len]; omega
/-- The sum of what the parts are written as. -/
def szK (ln : Bool) (d E : Nat) (ks : List (Tr Nd)) : Nat := (ks.map fun u => (prT ln d u).length + (wrs u.nd.name).length + (E + 5)).sum
theorem prK_len (ln : Bool) (ob : Bool) (d E : Nat) (hd0 : (prL ln d).length ≤ E) (hd : (prL ln (d + 1)).length ≤ E) : ∀ ks : List (Tr Nd), (prK ln d ob ks).length ≤ szK ln (d + 1) E ks + E
  | [] => by rw [prK_nil]; simp only [szK, List.map_nil, List.sum_nil]; omega
  | u :: ks => by
    have h1 := prK_len ln ob d E hd0 hd ks
    have h3 : (if ob = true then prN ln u.nd.name else []).length ≤ (wrs u.nd.name).length + 4 := by
      split
      · exact prN_len ln _
      · simp
    rw [prK_cons, List.length_cons, List.length_append, List.length_append, List.length_append]
    simp only [szK, List.map_cons, List.sum_cons] at h1 ⊢
    omega
theorem prB_len (ln : Bool) (ob : Bool) (d E : Nat) (hd0 : (prL ln d).length ≤ E) (hd : (prL ln (d + 1)).length ≤ E) (ks : List (Tr Nd)) : (prB ln d ob ks).length ≤ szK ln (d + 1) E ks + E := by
  cases ks with
  | nil => rw [prB_nil]; simp
  | cons u ks =>
    have h1 := prK_len ln ob d E hd0 hd ks
    have h3 : (if ob = true then prN ln u.nd.name else []).length ≤ (wrs u.nd.name).length + 4 := by
      split
      · exact prN_len ln _
      · simp
    rw [prB_cons, List.length_append, List.length_append, List.length_append]
    simp only [szK, List.map_cons, List.sum_cons] at h1 ⊢
    omega
theorem szK_le (ln : Bool) (d E : Nat) (c : Nat) : ∀ ks : List (Tr Nd), (∀ u ∈ ks, (prT ln d u).length + (wrs u.nd.name).length + (E + 5) ≤ wS (flat u) + c * (flat u).length) → szK ln d E ks ≤ wS (flats ks) + c * (flats ks).length
  | [], _ => by simp [szK]
  | u :: ks, h => by
    have h1 := szK_le ln d E c ks fun x hx => h x (List.mem_cons_of_mem _ hx)
    have h2 := h u (by simp)
    rw [flats_cons, wS_append, List.length_append, Nat.mul_add]
    simp only [szK, List.map_cons, List.sum_cons] at h1 ⊢
    omega
theorem prT_len (ln : Bool) (D E : Nat) (hE : ∀ d, d ≤ D → (prL ln d).length ≤ E) : ∀ (N : Nat) (t : Tr Nd) (d : Nat), (flat t).length ≤ N → okT many t → rightT t = true → d + depth t ≤ D →
    (prT ln d t).length + (wrs t.nd.name).length + (E + 5) ≤ wS (flat t) + (2 * E + 165) * (flat t).length
  | 0, t, _, hN, _, _, _ => by have := flat_pos t; omega
  | N + 1, .mk n ks, d, hN, h1, h2, hd => by
    have hk := kids_okP h1 h2
    have hpl : plainN n = true := by rw [rightT_mk, Bool.and_eq_true] at h2; exact h2.1
    rw [prT_mk, flat_mk, wS_cons, List.length_cons, Nat.mul_succ]
    show _ + (wrs n.name).length + _ ≤ _
    have hw : (wrs n.name).length ≤ wN n := by unfold wN; omega
    have key : n.kind = 5 ∨ n.kind = 6 → d + 1 ≤ D ∧ szK ln (d + 1) E ks ≤ wS (flats ks) + (2 * E + 165) * (flats ks).length := by
      intro h56
      rw [depth_mk, if_pos (by simpa [cont] using h56)] at hd
      refine ⟨by omega, szK_le ln (d + 1) E _ ks fun u hu => ?_⟩
      have h3 := depths_le hu
      exact prT_len ln D E hE N u (d + 1) (by have := kid_lessP (n := n) hu; omega) (hk u hu).1 (hk u hu).2 (by omega)
    split
    · rename_i h5
      obtain ⟨k1, k2⟩ := key (.inl h5)
      have := prB_len ln false d E (hE d (by omega)) (hE (d + 1) k1) ks
      simp only [List.length_cons, List.length_append, List.length_nil]
      omega
    · split
      · rename_i h6
        obtain ⟨k1, k2⟩ := key (.inr h6)
        have := prB_len ln true d E (hE d (by omega)) (hE (d + 1) k1) ks
        simp only [List.length_cons, List.length_append, List.length_nil]
        omega
      · have := scT_len hpl (by assumption) (by assumption)
        omega
theorem compact_len {t : Tr Nd} (h1 : okT many t) (h2 : rightT t = true) : (prT false 0 t).length ≤ wS (flat t) + 165 * (flat t).length := by
  have := prT_len false (depth t) 0 (fun d _ => by simp [prL]) _ t 0 (Nat.le_refl _) h1 h2 (by omega)
  omega
end Tp
end Go.Proofs.YtmajkafoenfceaaGreatDoor

/-
  What the document's own answers are: own, Parts, Names, Depth.
-/
namespace Go.Proofs.YtmajkafoenfceaaGreatDoor
open Go.RowKit Np Rw Vp

end Go.Proofs.YtmajkafoenfceaaGreatDoor

/-
  What the document's own answer Depth is.
-/
namespace Go.Proofs.YtmajkafoenfceaaGreatDoor
open Go.RowKit Np Rw Vp

end Go.Proofs.YtmajkafoenfceaaGreatDoor

/-
  The walk of TextBack: it answers true.
-/
namespace Go.Proofs.YtmajkafoenfceaaGreatDoor
open Go.RowKit Np Rw Vp Up Qp Tp

theorem run_plain : ∀ (l : List Nd) (st : List Hd), Vp.run st l = true → ∀ x ∈ l, plainN x = true
  | [], _, _, x, hx => by cases hx
  | n :: l, [], h, x, hx => by simp [Vp.run] at h
  | n :: l, h :: st, hr, x, hx => by
    rw [run_cons, Bool.and_eq_true, Bool.and_eq_true] at hr
    rcases List.mem_cons.1 hx with rfl | hx
    · exact hr.1.2
    · exact run_plain l _ hr.2 x hx
theorem val_plain {t : Tr Nd} (h : Val t) : ∀ x ∈ flat t, plainN x = true := run_plain _ _ (rightL_val h)
theorem fit_plain {n : Nd} (hp : plainN n = true) (h1 : n.name.length ≤ 1000000) (h2 : n.s.length ≤ 1000000) : FitN n := by
  unfold plainN at hp
  split at hp
  · rename_i h
    simp at hp
    exact ⟨by omega, by omega, h2, h1, by omega, by omega⟩
  · split at hp
    · rename_i h
      obtain ⟨b1, b2, b3⟩ := right_bounds hp
      simp only at b2 b3
      exact ⟨by omega, by omega, h2, h1, by omega, by omega⟩
    · split at hp
      · simp at hp
        exact ⟨by omega, by omega, h2, h1, by omega, by omega⟩
      · split at hp
        · simp at hp
          exact ⟨by omega, by omega, h2, h1, by omega, by omega⟩
        · cases hp
theorem fitT_of {t : Tr Nd} (hv : Val t) (hs : ∀ x ∈ flat t, x.name.length ≤ 1000000 ∧ x.s.length ≤ 1000000) (hl : (flat t).length ≤ 1000) : FitT t :=
  ⟨hv.ok, hv.rt, fun x hx => fit_plain (val_plain hv x hx) (hs x hx).1 (hs x hx).2, hl⟩
theorem wS_small : ∀ {l : List Nd}, (∀ x ∈ l, x.name.length ≤ 200 ∧ x.s.length ≤ 200) → wS l ≤ 2400 * l.length
  | [], _ => by simp [wS]
  | x :: l, h => by
    have h1 := wS_small fun y hy => h y (List.mem_cons_of_mem _ hy)
    have h2 := h x (by simp)
    have h3 := (wrs_len x.name).2
    have h4 := (wrs_len x.s).2
    rw [wS_cons, List.length_cons, wN]
    split <;> omega
end Go.Proofs.YtmajkafoenfceaaGreatDoor

/-
  What a filter of few terms with short texts is like: as its functions ask.
-/
namespace Go.Proofs.YtmajkafoenfceaaGreatDoor
open Go.RowKit Np Rw Vp Up Qp Tp Pw Fw

/-- A term with short texts is such as Right asks. -/
theorem fitTm_short {t : Tm} (h : shortT t = true) (hh : HeldT t) : FitTm t := by
  simp [shortT] at h
  exact ⟨by omega, by omega, ⟨hh.cn, hh.cs, hh.cm⟩, hh.m⟩
theorem leaf_of {c : Nd} (h : rightL [c] = true) : Val (.mk c []) := by
  obtain ⟨t, ht, he⟩ := val_of_rightL h
  obtain ⟨n, ks⟩ := t
  rw [flat_mk] at he
  injection he with e1 e2
  have hks : ks = [] := by
    cases ks with
    | nil => rfl
    | cons u us => rw [flats_cons] at e2; have := flat_ne u; simp_all
  subst e1 hks
  exact ht
theorem fitK_of {c : Nd} (h : flatN c = true) (hs : c.s.length ≤ 100) : FitK c := by
  unfold flatN at h
  rw [Bool.and_eq_true] at h
  have hv := leaf_of h.1
  have hn : c.name = [] := hv.nm
  have hx : ∀ x ∈ flat (.mk c []), x.name.length ≤ 200 ∧ x.s.length ≤ 200 := by
    intro x hx
    rw [flat_mk, flats_nil, List.mem_singleton] at hx
    subst hx
    rw [hn]; exact ⟨by simp, by omega⟩
  have hl : (flat (.mk c [])).length = 1 := by rw [flat_mk, flats_nil]; rfl
  refine ⟨fitT_of hv (fun x hx' => ⟨by have := (hx x hx').1; omega, by have := (hx x hx').2; omega⟩) (by omega), ?_⟩
  have h1 := compact_len hv.ok hv.rt
  have h2 := wS_small hx
  unfold constT
  omega
theorem plainT_n16 {t : Tm} (h : plainT t = true) (h16 : t.op = 16) : 0 ≤ t.n ∧ t.n ≤ 5 := by
  unfold plainT at h
  simp only [Bool.and_eq_true] at h
  have := h.1.2
  unfold nOk at this
  rw [if_neg (by omega), if_pos h16] at this
  simpa using this
theorem plainT_c16 {t : Tm} (h : plainT t = true) (h16 : t.op = 16) : flatN t.c = true := by
  unfold plainT at h
  simp only [Bool.and_eq_true] at h
  have := h.2
  unfold cOk at this
  rwa [if_pos h16] at this
theorem plainT_op {t : Tm} (h : plainT t = true) : 0 ≤ t.op ∧ t.op ≤ 19 := by
  unfold plainT at h
  simp only [Bool.and_eq_true] at h
  simpa using h.1.1.1.1
theorem fitP_short {t : Tm} (hp : plainT t = true) (h : shortT t = true) (hh : HeldT t) : FitP t := by
  simp [shortT] at h
  exact ⟨(plainT_op hp).1, (plainT_op hp).2, by omega, by omega, hh.n0, hh.n1, fun h16 => ⟨fitK_of (plainT_c16 hp h16) (by omega), (plainT_n16 hp h16).1, (plainT_n16 hp h16).2⟩⟩
theorem plain_all {t : Tr Tm} (hr : rightTF t = true) : ∀ x ∈ flat t, plainT x = true := by
  intro x hx
  rw [rightTF_subs] at hr
  rw [← subs_nd] at hx
  obtain ⟨s, hs, rfl⟩ := List.mem_map.1 hx
  have := List.all_eq_true.1 hr s hs
  unfold termOk at this
  rw [Bool.and_eq_true] at this
  exact this.1
theorem constT_len {c : Nd} (h : flatN c = true) (hs : c.s.length ≤ 100) : (constT c).length ≤ 2600 := by
  unfold flatN at h
  rw [Bool.and_eq_true] at h
  have hv := leaf_of h.1
  have hn : c.name = [] := hv.nm
  have hx : ∀ x ∈ flat (.mk c []), x.name.length ≤ 200 ∧ x.s.length ≤ 200 := by
    intro x hx
    rw [flat_mk, flats_nil, List.mem_singleton] at hx
    subst hx
    rw [hn]; exact ⟨by simp, by omega⟩
  have hl : (flat (.mk c [])).length = 1 := by rw [flat_mk, flats_nil]; rfl
  have h1 := compact_len hv.ok hv.rt
  have h2 := wS_small hx
  unfold constT
  omega
theorem ahead_len {t : Tm} (hp : plainT t = true) (hs : shortT t = true) (hh : HeldT t) : (aheadT t).length ≤ 2800 := by
  simp [shortT] at hs
  have hi := Lib.itoa_length_le t.n hh.n0 hh.n1
  have hf := fieldT_len t.s
  have hg : (signT t.n).length ≤ 2 := by
    unfold signT
    repeat' split
    all_goals simp
  by_cases h16 : t.op = 16
  · have hc := constT_len (plainT_c16 hp h16) (by omega)
    unfold aheadT
    simp [h16]
    omega
  · have hop := plainT_op hp
    have hc : t.op = 0 ∨ t.op = 1 ∨ t.op = 2 ∨ t.op = 3 ∨ t.op = 4 ∨ t.op = 5 ∨ t.op = 6 ∨ t.op = 7 ∨ t.op = 8 ∨ t.op = 9 ∨ t.op = 10 ∨ t.op = 11 ∨ t.op = 12 ∨ t.op = 13 ∨ t.op = 14 ∨ t.op = 15 ∨ t.op = 17 ∨ t.op = 18 ∨ t.op = 19 := by omega
    rcases hc with h | h | h | h | h | h | h | h | h | h | h | h | h | h | h | h | h | h | h <;> simp [aheadT, h] <;> omega
theorem between_len (op : Int) : (betweenT op).length ≤ 5 := by
  unfold betweenT
  repeat' split
  all_goals simp
theorem behind_len (op : Int) : (behindT op).length ≤ 9 := by
  unfold behindT
  repeat' split
  all_goals simp
theorem preT_len (op : Int) (f : Bool) (name : List UInt8) (h : name.length ≤ 100) : (preT op f name).length ≤ 612 := by
  have h1 := between_len op
  have h2 := fieldT_len name
  unfold preT nameT
  simp only [List.length_append]
  split <;> split <;> simp <;> omega
mutual
theorem txF_len : ∀ t : Tr Tm, (∀ x ∈ flat t, (aheadT x).length ≤ 2800 ∧ x.name.length ≤ 100) → (txF t).length + 1000 ≤ 4000 * (flat t).length
  | .mk n ks, h => by
    rw [flat_mk] at h
    have h1 := (h n (by simp)).1
    have h2 := behind_len n.op
    have h3 := txK_len n.op true ks (fun x hx => h x (List.mem_cons_of_mem _ hx))
    rw [txF_mk, flat_mk]
    simp only [List.length_append, List.length_cons]
    omega
theorem txK_len (op : Int) (f : Bool) : ∀ ks : List (Tr Tm), (∀ x ∈ flats ks, (aheadT x).length ≤ 2800 ∧ x.name.length ≤ 100) → (txK op f ks).length ≤ 4000 * (flats ks).length
  | [], _ => by simp
  | k :: ks, h => by
    rw [flats_cons] at h
    have h1 := txF_len k (fun x hx => h x (List.mem_append.2 (.inl hx)))
    have h2 := txK_len op false ks (fun x hx => h x (List.mem_append.2 (.inr hx)))
    have h3 := preT_len op f k.nd.name (h k.nd (List.mem_append.2 (.inl (by rw [flat_eq]; simp)))).2
    rw [txK_cons, flats_cons]
    simp only [List.length_append]
    split <;> (try simp only [List.length_append, List.length_cons, List.length_nil]) <;> omega
end
/-- A right filter, or condition, with short texts may be printed. -/
theorem fitX_short {t : Tr Tm} (ho : okT tmany t) (hr : rightTF t = true) (hs : (flat t).all shortT = true) (hh : HeldF (flat t)) (hl : (flat t).length ≤ 20000) : FitX t := by
  have hp := plain_all hr
  have hsx := List.all_eq_true.1 hs
  refine ⟨ho, hp t.nd (by rw [flat_eq]; simp), fun x hx => fitP_short (hp x hx) (hsx x hx) (hh x hx), ?_⟩
  have := txF_len t (fun x hx => ⟨ahead_len (hp x hx) (hsx x hx) (hh x hx), by have := hsx x hx; simp [shortT] at this; omega⟩)
  omega
end Go.Proofs.YtmajkafoenfceaaGreatDoor

/-
  The walk of TermPipe: it answers true.
-/
namespace Go.Proofs.YtmajkafoenfceaaGreatDoor
open Go.RowKit Np Rw Vp Up Qp Tp Pw Fw

theorem few_flt {l : List Tm} {m : Nat} (h : fewF m l = true) : ∃ t, Flt t ∧ l = flat t ∧ l.length ≤ m ∧ l.all shortT = true := by
  unfold fewF at h
  rw [Bool.and_eq_true, Bool.and_eq_true, decide_eq_true_eq] at h
  obtain ⟨t, ht, he⟩ := flt_of_rightF h.2
  exact ⟨t, ht, he, h.1.1, h.1.2⟩

theorem pipe_mem {t g : Tr Tm} (ht : Flt t) {x : Tm} (hx : x ∈ flat (pipeT t g)) : x ∈ flat t ∨ x ∈ flat g ∨ x = pipeTm := by
  rw [flat_pipe t g ht.ok ht.rt ht.nm] at hx
  rcases List.mem_append.1 hx with h | h
  · exact .inl (List.mem_of_mem_take h)
  · rcases List.mem_cons.1 h with h | h
    · exact .inr (.inr h)
    · rcases List.mem_append.1 h with h | h
      · exact .inl (List.mem_of_mem_drop h)
      · exact .inr (.inl h)
theorem pipe_short {t g : Tr Tm} (ht : Flt t) (h1 : (flat t).all shortT = true) (h2 : (flat g).all shortT = true) : (flat (pipeT t g)).all shortT = true := by
  rw [List.all_eq_true]
  intro x hx
  rcases pipe_mem ht hx with h | h | h
  · exact List.all_eq_true.1 h1 x h
  · exact List.all_eq_true.1 h2 x h
  · rw [h]; decide
theorem held_pipeTm : HeldT pipeTm := ⟨by decide, by decide, by decide, by decide, by decide, by decide, by decide, by decide⟩
theorem pipe_held {t g : Tr Tm} (ht : Flt t) (h1 : HeldF (flat t)) (h2 : HeldF (flat g)) : HeldF (flat (pipeT t g)) := by
  intro x hx
  rcases pipe_mem ht hx with h | h | h
  · exact h1 x h
  · exact h2 x h
  · rw [h]; exact held_pipeTm
set_option maxRecDepth 100000 in
set_option maxHeartbeats 8000000 in
theorem termPipe_any (v1 v2 v3 : Value) (l1 l2 l3 : List Tm) (w : World) (h1 : Tms w v1 l1) (h2 : Tms w v2 l2) (h3 : Tms w v3 l3) (k1 : HeldF l1) (k2 : HeldF l2) (k3 : HeldF l3) (hT : Fv w) :
    Calls Tryz.prog 5 #[v1, v2, v3] w fun e w' => e = .returned (.bool true) ∧ Below w.heap.size w w' := by
  have HT := Lib.hid hT
  have H1 := Lib.hid h1
  have H2 := Lib.hid h2
  have H3 := Lib.hid h3
  have HAL : Hid (∀ W, Below w.heap.size w W → Calls Tryz.prog 16 #[] W fun e w' => e = .returned (.bool true) ∧ Below w.heap.size w w') := Lib.hid (fun W hW => (falive_any W (HT.out.below hW)).mono fun e w' h => ⟨h.1, hW.trans (h.2.mono hW.size)⟩)
  have HF1 := Lib.hid (fun (W : World) (hW : Below w.heap.size w W) => refFewF_any v1 l1 30 W (h1.below hW) (by decide) k1)
  have HF2 := Lib.hid (fun (W : World) (hW : Below w.heap.size w W) => refFewF_any v2 l2 30 W (h2.below hW) (by decide) k2)
  have HF3 := Lib.hid (fun (W : World) (hW : Below w.heap.size w W) => refFewF_any v3 l3 30 W (h3.below hW) (by decide) k3)
  obtain ⟨A1, c1, rfl⟩ : ∃ (A : Option Addr) (c : Nat), v1 = .slice A l1.length c := by obtain ⟨A, c, h, -⟩ := h1; exact ⟨A, c, h⟩
  obtain ⟨A2, c2, rfl⟩ : ∃ (A : Option Addr) (c : Nat), v2 = .slice A l2.length c := by obtain ⟨A, c, h, -⟩ := h2; exact ⟨A, c, h⟩
  obtain ⟨A3, c3, rfl⟩ : ∃ (A : Option Addr) (c : Nat), v3 = .slice A l3.length c := by obtain ⟨A, c, h, -⟩ := h3; exact ⟨A, c, h⟩
  have hb0 := Below.refl w.heap.size w
  clear h1 h2 h3 hT
  go_enter Tryz.func5, Tryz.ntmps5
  cases hf1 : fewF 30 l1
  · rw [hf1] at HF1
    go_wp2_with fail
    refine (HF1.out _ hb0).mono ?_
    rintro e w1 ⟨rfl, hb1⟩
    go_wp2_with fail
    refine (HAL.out _ hb1).mono ?_
    rintro e w2 ⟨rfl, hb2⟩
    go_wp2_with fail
    go_ret
    exact ⟨rfl, hb2⟩
  · rw [hf1] at HF1
    cases hf2 : fewF 30 l2
    · rw [hf2] at HF2
      go_wp2_with fail
      refine (HF1.out _ hb0).mono ?_
      rintro e w1 ⟨rfl, hb1⟩
      go_wp2_with fail
      refine (HF2.out _ hb1).mono ?_
      rintro e w2 ⟨rfl, hb2'⟩
      have hb2 := hb1.trans (hb2'.mono hb1.size)
      go_wp2_with fail
      refine (HAL.out _ hb2).mono ?_
      rintro e w3 ⟨rfl, hb3⟩
      go_wp2_with fail
      go_ret
      exact ⟨rfl, hb3⟩
    · rw [hf2] at HF2
      cases hf3 : fewF 30 l3
      · rw [hf3] at HF3
        go_wp2_with fail
        refine (HF1.out _ hb0).mono ?_
        rintro e w1 ⟨rfl, hb1⟩
        go_wp2_with fail
        refine (HF2.out _ hb1).mono ?_
        rintro e w2 ⟨rfl, hb2'⟩
        have hb2 := hb1.trans (hb2'.mono hb1.size)
        go_wp2_with fail
        refine (HF3.out _ hb2).mono ?_
        rintro e w3 ⟨rfl, hb3'⟩
        have hb3 := hb2.trans (hb3'.mono hb2.size)
        go_wp2_with fail
        refine (HAL.out _ hb3).mono ?_
        rintro e w4 ⟨rfl, hb4⟩
        go_wp2_with fail
        go_ret
        exact ⟨rfl, hb4⟩
      · rw [hf3] at HF3
        obtain ⟨t1, ft1, e1, n1, s1⟩ := few_flt hf1
        obtain ⟨t2, ft2, e2, n2, s2⟩ := few_flt hf2
        obtain ⟨t3, ft3, e3, n3, s3⟩ := few_flt hf3
        have E1 := Lib.hid e1
        have E2 := Lib.hid e2
        have E3 := Lib.hid e3
        clear e1 e2 e3 hf1 hf2 hf3
        go_wp2_with fail
        refine (HF1.out _ hb0).mono ?_
        rintro e w1 ⟨rfl, hb1⟩
        go_wp2_with fail
        refine (HF2.out _ hb1).mono ?_
        rintro e w2 ⟨rfl, hb2'⟩
        have hb2 := hb1.trans (hb2'.mono hb1.size)
        go_wp2_with fail
        refine (HF3.out _ hb2).mono ?_
        rintro e w3 ⟨rfl, hb3'⟩
        have hb3 := hb2.trans (hb3'.mono hb2.size)
        go_wp2_with fail
        refine (tpipe_any _ _ l1 l2 t1 t2 w3 (H1.out.below hb3) (H2.out.below hb3) (by omega) (by omega) E1.out E2.out ft1).mono ?_
        rintro e w4 ⟨v4, rfl, ho4, hb4'⟩
        have hb4 := hb3.trans (hb4'.mono hb3.size)
        have HP4 : Hid (Tms w4 v4 (flat (pipeT t1 t2))) := Lib.hid (Own.row tmc_len ho4)
        have hl4 : (flat (pipeT t1 t2)).length = l1.length + l2.length + 1 := by rw [pipe_len _ _ ft1, E1.out, E2.out]
        obtain ⟨A4, c4, rfl⟩ : ∃ (A : Option Addr) (c : Nat), v4 = .slice A (l1.length + l2.length + 1) c := by obtain ⟨A, c, h, -⟩ := HP4.out; rw [hl4] at h; exact ⟨A, c, h⟩
        clear ho4 hb4' hb1 hb2 hb2' hb3'
        have KK : Hid (HeldF (flat t1) ∧ HeldF (flat t2) ∧ HeldF (flat t3) ∧ (flat t1).all shortT = true ∧ (flat t2).all shortT = true ∧ (flat t3).all shortT = true ∧ (flat t1).length ≤ 30 ∧ (flat t2).length ≤ 30 ∧ (flat t3).length ≤ 30) := Lib.hid ⟨E1.out ▸ k1, E2.out ▸ k2, E3.out ▸ k3, E1.out ▸ s1, E2.out ▸ s2, E3.out ▸ s3, E1.out ▸ n1, E2.out ▸ n2, E3.out ▸ n3⟩
        have SP := Lib.hid (pipe_short ft1 KK.out.2.2.2.1 KK.out.2.2.2.2.1)
        have KP := Lib.hid (pipe_held ft1 KK.out.1 KK.out.2.1)
        have FP := Lib.hid (pipe_right t1 t2 ft1 ft2)
        have LP : Hid ((flat (pipeT t1 t2)).length ≤ 61) := Lib.hid (by omega)
        have X1 := Lib.hid (fitX_short ft1.ok ft1.rt KK.out.2.2.2.1 KK.out.1 (by have := KK.out.2.2.2.2.2.2.1; omega))
        have X2 := Lib.hid (fitX_short ft2.ok ft2.rt KK.out.2.2.2.2.1 KK.out.2.1 (by have := KK.out.2.2.2.2.2.2.2.1; omega))
        have XP := Lib.hid (fitX_short FP.out.ok FP.out.rt SP.out KP.out (by have := LP.out; omega))
        clear s1 s2 s3 k1 k2 k3 hl4
        go_wp2_with fail
        refine (refRightF_any _ (flat (pipeT t1 t2)) w4 HP4.out (by have := LP.out; omega) (short_held SP.out KP.out)).mono ?_
        rintro e w5 ⟨rfl, hb5'⟩
        rw [rightF_flt FP.out]
        have hb5 := hb4.trans (hb5'.mono hb4.size)
        have HP5 := Lib.hid (HP4.out.below hb5')
        clear hb5'
        go_wp2_with fail
        have hx1 := X1.out.len
        have hx2 := X2.out.len
        have HTX : Hid ((ByteArray.mk (txF (pipeT t1 t2)).toArray) = (ByteArray.mk (txF t1).toArray) ++ (ByteArray.mk #[32, 124, 32]) ++ (ByteArray.mk (txF t2).toArray)) := Lib.hid (ByteArray.ext (by rw [txF_pipe t1 t2 ft1]; simp [barT]))
        have HT5 := Lib.hid (HT.out.below hb5)
        refine (ttext_any (pipeT t1 t2) _ w5 XP.out HP5.out HT5.out.pv.pow HT5.out.wds HT5.out.sgs).mono ?_
        rintro e w6 ⟨rfl, hb6'⟩
        rw [HTX.out]
        have hb6 := hb5.trans (hb6'.mono hb5.size)
        have HP6 := Lib.hid (HP5.out.below hb6')
        have HT6 := Lib.hid (HT.out.below hb6)
        clear hb6'
        go_wp2_with fail
        refine (ttext_any t1 _ w6 X1.out (E1.out ▸ H1.out.below hb6) HT6.out.pv.pow HT6.out.wds HT6.out.sgs).mono ?_
        rintro e w7 ⟨rfl, hb7'⟩
        have hb7 := hb6.trans (hb7'.mono hb6.size)
        have HP7 := Lib.hid (HP6.out.below hb7')
        have HT7 := Lib.hid (HT.out.below hb7)
        clear hb7'
        go_wp2_with fail
        refine (ttext_any t2 _ w7 X2.out (E2.out ▸ H2.out.below hb7) HT7.out.pv.pow HT7.out.wds HT7.out.sgs).mono ?_
        rintro e w8 ⟨rfl, hb8'⟩
        have hb8 := hb7.trans (hb8'.mono hb7.size)
        have HP8 := Lib.hid (HP7.out.below hb8')
        clear hb8'
        have L23 : Hid ((flat (pipeT t2 t3)).length ≤ 61) := Lib.hid (by have h1 := pipe_len t2 t3 ft2; have h2 := KK.out.2.2.2.2.2.2.2; omega)
        have FA := Lib.hid (pipe_assoc t1 t2 t3 ft1)
        clear HTX XP X1 X2 SP KP KK
        go_wp2_with fail
        refine (falive_any w8 (HT.out.below hb8)).mono ?_
        rintro e w9 ⟨rfl, hb9'⟩
        have hb9 := hb8.trans (hb9'.mono hb8.size)
        have HP9 := Lib.hid (HP8.out.below hb9')
        clear hb9'
        go_wp2_with fail
        refine (tpipe_any _ _ (flat (pipeT t1 t2)) l3 (pipeT t1 t2) t3 w9 HP9.out (H3.out.below hb9) (by have := LP.out; omega) (by omega) rfl E3.out FP.out).mono ?_
        rintro e w10 ⟨v10, rfl, ho10, hb10'⟩
        have hb10 := hb9.trans (hb10'.mono hb9.size)
        have HQ10 : Hid (Tms w10 v10 (flat (pipeT (pipeT t1 t2) t3))) := Lib.hid (Own.row tmc_len ho10)
        obtain ⟨A10, N10, c10, rfl⟩ : ∃ (A : Option Addr) (N c : Nat), v10 = .slice A N c := by obtain ⟨A, c, h, -⟩ := HQ10.out; exact ⟨A, _, c, h⟩
        clear hb10' ho10
        go_wp2_with fail
        refine (tpipe_any _ _ l2 l3 t2 t3 w10 (H2.out.below hb10) (H3.out.below hb10) (by omega) (by omega) E2.out E3.out ft2).mono ?_
        rintro e w11 ⟨v11, rfl, ho11, hb11'⟩
        have hb11 := hb10.trans (hb11'.mono hb10.size)
        have HQ11 : Hid (Tms w11 v11 (flat (pipeT t2 t3))) := Lib.hid (Own.row tmc_len ho11)
        have HQ10b := Lib.hid (HQ10.out.below hb11')
        obtain ⟨A11, N11, c11, rfl⟩ : ∃ (A : Option Addr) (N c : Nat), v11 = .slice A N c := by obtain ⟨A, c, h, -⟩ := HQ11.out; exact ⟨A, _, c, h⟩
        clear hb11' ho11
        go_wp2_with fail
        refine (tpipe_any _ _ l1 (flat (pipeT t2 t3)) t1 (pipeT t2 t3) w11 (H1.out.below hb11) HQ11.out (by omega) (by have := L23.out; omega) E1.out rfl ft1).mono ?_
        rintro e w12 ⟨v12, rfl, ho12, hb12'⟩
        have hb12 := hb11.trans (hb12'.mono hb11.size)
        have HQ12 : Hid (Tms w12 v12 (flat (pipeT t1 (pipeT t2 t3)))) := Lib.hid (Own.row tmc_len ho12)
        have HQ10c := Lib.hid (HQ10b.out.below hb12')
        obtain ⟨A12, N12, c12, rfl⟩ : ∃ (A : Option Addr) (N c : Nat), v12 = .slice A N c := by obtain ⟨A, c, h, -⟩ := HQ12.out; exact ⟨A, _, c, h⟩
        clear hb12' ho12
        go_wp2_with fail
        refine (refSameT_any _ _ _ _ w12 HQ10c.out HQ12.out).mono ?_
        rintro e w13 ⟨rfl, hb13⟩
        rw [show decide (flat (pipeT (pipeT t1 t2) t3) = flat (pipeT t1 (pipeT t2 t3))) = true by rw [FA.out]; simp]
        go_wp2_with fail
        go_ret
        exact ⟨rfl, hb12.trans (hb13.mono hb12.size)⟩
end Go.Proofs.YtmajkafoenfceaaGreatDoor
