/-
  Plain words on values: which nodes are right, which rows are right values (by a walk along the row; by its trees), how deep they are. No program stands here.
-/
import Derived.Test.YtbhgmfddjnkglaaGreatDoorRowP
import Derived.Lib.ValidU
namespace Go.Proofs.YtbhgmfddjnkglaaGreatDoor
namespace Vp
open Go.RowKit Np Rw

abbrev many (n : Nd) : Int := n.many
abbrev vld (s : List UInt8) : Bool := Lib.validD s

/-- Is a node right, whatever its name? -/
def plainN (n : Nd) : Bool :=
  if n.kind = 0 ∨ n.kind = 1 ∨ n.kind = 2 then decide (n.many = 0) && decide (n.s = []) && !n.neg && decide (n.e = 0)
  else if n.kind = 3 then right { n with name := [] }
  else if n.kind = 4 then decide (n.many = 0) && vld n.s && !n.neg && decide (n.e = 0)
  else if n.kind = 5 ∨ n.kind = 6 then decide (0 ≤ n.many) && decide (n.s = []) && !n.neg && decide (n.e = 0)
  else false

theorem plainN_many {n : Nd} (h : plainN n = true) : 0 ≤ n.many ∧ (n.kind ≠ 5 → n.kind ≠ 6 → n.many = 0) := by
  unfold plainN at h
  split at h
  · simp at h; omega
  · split at h
    · simp [right] at h; omega
    · split at h
      · simp at h; omega
      · split at h
        · simp at h; omega
        · cases h

/-- May a part of that name come next in one of that kind? -/
def lets (kind : Int) (begun : Bool) (ahead : List UInt8) (name : List UInt8) : Bool :=
  if kind = 6 then vld name && (!begun || decide (ahead < name)) else decide (name = [])

structure Hd where
  kind : Int
  left : Int
  begun : Bool
  ahead : List UInt8
deriving DecidableEq

/-- The holders, the innermost first, behind those that are full. -/
def pop : List Hd → List Hd
  | [] => []
  | h :: st => if h.left = 0 then pop st else h :: st
def stepH (h : Hd) (n : Nd) : Hd := ⟨h.kind, h.left - 1, true, n.name⟩
def passH : List Hd → Nd → List Hd
  | [], _ => []
  | h :: st, n => if 0 < n.many then ⟨n.kind, n.many, false, []⟩ :: stepH h n :: st else pop (stepH h n :: st)
theorem passH_cons (h : Hd) (st : List Hd) (n : Nd) : passH (h :: st) n = if 0 < n.many then ⟨n.kind, n.many, false, []⟩ :: stepH h n :: st else pop (stepH h n :: st) := rfl
def run : List Hd → List Nd → Bool
  | st, [] => st.isEmpty
  | [], _ :: _ => false
  | h :: st, n :: l => lets h.kind h.begun h.ahead n.name && plainN n && run (passH (h :: st) n) l
def start : List Hd := [⟨5, 1, false, []⟩]
/-- Is a row a right value? (By a walk along it.) -/
def rightL (l : List Nd) : Bool := run start l

theorem run_nil (st : List Hd) : run st [] = st.isEmpty := by cases st <;> simp [run]
theorem run_cons (h : Hd) (st : List Hd) (n : Nd) (l : List Nd) : run (h :: st) (n :: l) = (lets h.kind h.begun h.ahead n.name && plainN n && run (passH (h :: st) n) l) := by simp [run]

/-- All holders but the innermost may be full. -/
def Fit : List Hd → Prop
  | [] => True
  | h :: st => 1 ≤ h.left ∧ ∀ x ∈ st, 0 ≤ x.left
theorem pop_fit : ∀ {st : List Hd}, (∀ x ∈ st, 0 ≤ x.left) → Fit (pop st)
  | [], _ => by simp [pop, Fit]
  | h :: st, hh => by
    have h0 := hh h (by simp)
    have h1 : ∀ x ∈ st, 0 ≤ x.left := fun x hx => hh x (by simp [hx])
    unfold pop
    split
    · exact pop_fit h1
    · exact ⟨by omega, h1⟩
theorem passH_fit {st : List Hd} {n : Nd} (h : Fit st) : Fit (passH st n) := by
  cases st with
  | nil => simp [passH, Fit]
  | cons a st =>
    obtain ⟨h1, h2⟩ := h
    have h3 : ∀ x ∈ stepH a n :: st, 0 ≤ x.left := by
      intro x hx
      rcases List.mem_cons.1 hx with rfl | hx
      · simp [stepH]; omega
      · exact h2 x hx
    rw [passH_cons]
    split
    · rename_i h0; exact ⟨by simp; omega, h3⟩
    · exact pop_fit h3
def sumH : List Hd → Nat
  | [] => 0
  | h :: st => h.left.toNat + sumH st
theorem sumH_pop : ∀ st : List Hd, sumH (pop st) = sumH st
  | [] => rfl
  | h :: st => by
    unfold pop
    split
    · rename_i h0; rw [sumH_pop st, sumH, h0]; simp
    · rfl
theorem pop_len : ∀ st : List Hd, (pop st).length ≤ st.length
  | [] => Nat.le_refl _
  | h :: st => by
    unfold pop
    split
    · exact Nat.le_succ_of_le (pop_len st)
    · exact Nat.le_refl _
theorem passH_len (st : List Hd) (n : Nd) : (passH st n).length ≤ st.length + 1 := by
  cases st with
  | nil => simp [passH]
  | cons h st =>
    rw [passH_cons]
    split
    · simp
    · have := pop_len (stepH h n :: st); simp at this ⊢; omega
theorem run_skip : ∀ (l : List Nd) (st : List Hd), Fit st → run st l = true → skip many l (sumH st) = some []
  | [], st, _, h => by
    rw [run_nil, List.isEmpty_iff] at h
    subst h; rfl
  | n :: l, [], _, h => by simp [run] at h
  | n :: l, a :: st, hf, h => by
    rw [run_cons, Bool.and_eq_true, Bool.and_eq_true] at h
    obtain ⟨⟨_, hp⟩, hr⟩ := h
    have h0 := (plainN_many hp).1
    have ih := run_skip l _ (passH_fit hf) hr
    obtain ⟨h1, h2⟩ := hf
    have e : sumH (a :: st) = (a.left - 1).toNat + sumH st + 1 := by rw [sumH]; omega
    rw [e, skip_cons, if_neg (by show ¬ n.many < 0; omega)]
    rw [← ih]
    congr 1
    rw [passH_cons]
    split
    · simp [sumH, stepH, many]; omega
    · rw [sumH_pop]; simp [sumH, stepH, many]; omega

mutual
/-- Is a tree a right value's, whatever its name? -/
def rightT : Tr Nd → Bool
  | .mk n ks => plainN n && rightKs n.kind false [] ks
def rightKs (kind : Int) : Bool → List UInt8 → List (Tr Nd) → Bool
  | _, _, [] => true
  | b, a, t :: ts => lets kind b a t.nd.name && rightT t && rightKs kind true t.nd.name ts
end
theorem rightT_mk (n : Nd) (ks : List (Tr Nd)) : rightT (.mk n ks) = (plainN n && rightKs n.kind false [] ks) := by simp [rightT]
theorem rightT_eq (t : Tr Nd) : rightT t = (plainN t.nd && rightKs t.nd.kind false [] t.ks) := by cases t; simp [rightT]
@[simp] theorem rightKs_nil (k : Int) (b : Bool) (a : List UInt8) : rightKs k b a [] = true := by simp [rightKs]
theorem rightKs_cons (k : Int) (b : Bool) (a : List UInt8) (t : Tr Nd) (ts : List (Tr Nd)) : rightKs k b a (t :: ts) = (lets k b a t.nd.name && rightT t && rightKs k true t.nd.name ts) := by simp [rightKs]

mutual
theorem run_flat : ∀ (t : Tr Nd) (h : Hd) (st : List Hd) (r : List Nd), okT many t →
    run (h :: st) (flat t ++ r) = (lets h.kind h.begun h.ahead t.nd.name && rightT t && run (pop (stepH h t.nd :: st)) r)
  | .mk n ks, h, st, r, ho => by
    obtain ⟨h1, h2⟩ := okT_mk.1 ho
    have h1' : n.many = ks.length := h1
    rw [flat_mk, List.cons_append, run_cons, rightT_mk, Tr.nd_mk]
    cases ks with
    | nil =>
      have h0 : n.many = 0 := h1'
      simp [passH, h0]
    | cons t ts =>
      have h0 : 0 < n.many := by rw [h1', List.length_cons]; omega
      rw [passH, if_pos h0, run_flats (t :: ts) ⟨n.kind, n.many, false, []⟩ (stepH h n :: st) r h2 (by simp) (by simpa using h1')]
      simp only [Bool.and_assoc]
theorem run_flats : ∀ (ts : List (Tr Nd)) (h : Hd) (st : List Hd) (r : List Nd), okTs many ts → ts ≠ [] → h.left = ts.length →
    run (h :: st) (flats ts ++ r) = (rightKs h.kind h.begun h.ahead ts && run (pop st) r)
  | [], _, _, _, _, h0, _ => absurd rfl h0
  | [t], h, st, r, ho, _, hl => by
    rw [flats_cons, flats_nil, List.append_nil, run_flat t h st r (okTs_cons.1 ho).1, rightKs_cons, rightKs_nil]
    have : (stepH h t.nd).left = 0 := by simp [stepH, hl]
    rw [pop, if_pos this, Bool.and_true]
  | t :: u :: ts, h, st, r, ho, _, hl => by
    obtain ⟨h1, h2⟩ := okTs_cons.1 ho
    rw [flats_cons, List.append_assoc, run_flat t h st _ h1, rightKs_cons]
    have : ¬ (stepH h t.nd).left = 0 := by simp [stepH, hl]; omega
    rw [pop, if_neg this, run_flats (u :: ts) (stepH h t.nd) st r h2 (by simp) (by simp [stepH, hl])]
    simp only [stepH, Bool.and_assoc]
end

/-- A right value's tree. -/
structure Val (t : Tr Nd) : Prop where
  ok : okT many t
  rt : rightT t = true
  nm : t.nd.name = []

theorem rightL_flat {t : Tr Nd} (h : okT many t) : rightL (flat t) = (decide (t.nd.name = []) && rightT t) := by
  have := run_flat t ⟨5, 1, false, []⟩ [] [] h
  rw [List.append_nil] at this
  rw [rightL, start, this]
  have e : pop [stepH ⟨5, 1, false, []⟩ t.nd] = [] := by simp [pop, stepH]
  rw [e, run_nil]
  simp [lets]
theorem rightL_val {t : Tr Nd} (h : Val t) : rightL (flat t) = true := by rw [rightL_flat h.ok, h.rt, h.nm]; rfl
theorem val_of_rightL {l : List Nd} (h : rightL l = true) : ∃ t, Val t ∧ l = flat t := by
  have h1 := run_skip l start ⟨by simp, by simp⟩ h
  obtain ⟨t, ht, rfl⟩ := skip_one (many := many) h1
  rw [rightL_flat ht, Bool.and_eq_true, decide_eq_true_eq] at h
  exact ⟨t, ⟨ht, h.2, h.1⟩, rfl⟩
theorem rightL_no_skip {l : List Nd} (h : skip many l 1 ≠ some []) : rightL l = false := by
  rw [← Bool.not_eq_true]
  intro h1
  exact h (run_skip l start ⟨by simp, by simp⟩ h1)

/-! By the nodes, one by one. -/
def nameOk (kind : Int) (t : Tr Nd) : Bool := (!decide (kind = 5) || decide (t.nd.name = [])) && vld t.nd.name
def rising (kind : Int) : List (Tr Nd) → Bool
  | [] => true
  | [t] => nameOk kind t
  | t :: u :: ts => nameOk kind t && (!decide (kind = 6) || decide (t.nd.name < u.nd.name)) && rising kind (u :: ts)
def nodeOk (t : Tr Nd) : Bool := plainN t.nd && rising t.nd.kind t.ks

theorem rising_nil (kind : Int) : rising kind [] = true := rfl
theorem vld_nil : vld [] = true := rfl

theorem rightKs_six : ∀ (ts : List (Tr Nd)) (a : List UInt8), rightKs 6 true a ts = ((match ts with | [] => true | t :: _ => decide (a < t.nd.name)) && rising 6 ts && ts.all rightT)
  | [], _ => rfl
  | [t], a => by simp [rightKs_cons, lets, rising, nameOk]; cases vld t.nd.name <;> cases decide (a < t.nd.name) <;> simp
  | t :: u :: ts, a => by
    rw [rightKs_cons, rightKs_six (u :: ts) t.nd.name]
    simp only [lets, rising, nameOk, List.all_cons]
    simp
    cases vld t.nd.name <;> cases decide (a < t.nd.name) <;> cases rightT t <;> simp
theorem rightKs_obj (ts : List (Tr Nd)) : rightKs 6 false [] ts = (rising 6 ts && ts.all rightT) := by
  cases ts with
  | nil => rfl
  | cons t ts =>
    rw [rightKs_cons, rightKs_six]
    cases ts with
    | nil => simp [lets, rising, nameOk]
    | cons u ts =>
      simp only [lets, rising, nameOk, List.all_cons]
      simp
      cases vld t.nd.name <;> cases rightT t <;> simp
theorem rightKs_arr : ∀ (ts : List (Tr Nd)) (b : Bool) (a : List UInt8), rightKs 5 b a ts = (rising 5 ts && ts.all rightT)
  | [], _, _ => rfl
  | [t], b, a => by
    simp [rightKs_cons, lets, rising, nameOk]
    by_cases h : t.nd.name = []
    · simp [h, vld_nil]
    · simp [h]
  | t :: u :: ts, b, a => by
    rw [rightKs_cons, rightKs_arr (u :: ts)]
    simp only [lets, rising, nameOk, List.all_cons]
    by_cases h : t.nd.name = []
    · simp [h, vld_nil]; cases rightT t <;> simp
    · simp [h]
theorem rightT_node {t : Tr Nd} (h : okT many t) : rightT t = (nodeOk t && t.ks.all rightT) := by
  obtain ⟨n, ks⟩ := t
  obtain ⟨h1, _⟩ := okT_mk.1 h
  have h1' : n.many = ks.length := h1
  rw [rightT_mk]
  simp only [nodeOk, Tr.nd_mk, Tr.ks_mk]
  cases hp : plainN n
  · simp
  · have h2 := (plainN_many hp).2
    by_cases h5 : n.kind = 5
    · rw [h5, rightKs_arr]; simp
    · by_cases h6 : n.kind = 6
      · rw [h6, rightKs_obj]; simp
      · have h0 : ks = [] := by
          have := h2 h5 h6
          cases ks with
          | nil => rfl
          | cons t ts => rw [h1'] at this; simp at this; omega
        subst h0
        simp [rising_nil]
mutual
theorem rightT_subs : ∀ t : Tr Nd, okT many t → rightT t = (subs t).all nodeOk
  | .mk n ks, h => by
    rw [rightT_node h, subs_mk, List.all_cons, Tr.ks_mk, rightTs_subs ks (okT_mk.1 h).2]
theorem rightTs_subs : ∀ ts : List (Tr Nd), okTs many ts → ts.all rightT = (subss ts).all nodeOk
  | [], _ => by simp
  | t :: ts, h => by
    obtain ⟨h1, h2⟩ := okTs_cons.1 h
    rw [subss_cons, List.all_append, List.all_cons, rightT_subs t h1, rightTs_subs ts h2]
end

theorem val_kids {t : Tr Nd} (h : Val t) : ∀ k ∈ t.ks, okT many k ∧ rightT k = true := by
  have h1 := rightT_node h.ok
  rw [h.rt] at h1
  have h2 : (nodeOk t && t.ks.all rightT) = true := h1.symm
  rw [Bool.and_eq_true, List.all_eq_true] at h2
  intro k hk
  exact ⟨okTs_all.1 (okT_eq.1 h.ok).2 k hk, h2.2 k hk⟩

/-! How deep a value is. -/
def cont (k : Int) : Bool := decide (k = 5) || decide (k = 6)
mutual
def depth : Tr Nd → Nat
  | .mk n ks => if cont n.kind = true then depths ks + 1 else 0
def depths : List (Tr Nd) → Nat
  | [] => 0
  | t :: ts => max (depth t) (depths ts)
end
theorem depth_mk (n : Nd) (ks : List (Tr Nd)) : depth (.mk n ks) = if cont n.kind = true then depths ks + 1 else 0 := by rw [depth]
theorem depth_eq (t : Tr Nd) : depth t = if cont t.nd.kind = true then depths t.ks + 1 else 0 := by cases t; rw [depth_mk]; rfl
@[simp] theorem depths_nil : depths [] = 0 := by simp [depths]
@[simp] theorem depths_cons (t : Tr Nd) (ts : List (Tr Nd)) : depths (t :: ts) = max (depth t) (depths ts) := by simp [depths]
/-- The walk along a row that tells how deep it is. -/
def deepG : List Hd → Nat → List Nd → Nat
  | _, d, [] => d
  | st, d, n :: l => deepG (passH st n) (if cont n.kind = true then max d st.length else d) l
theorem deepG_cons (st : List Hd) (d : Nat) (n : Nd) (l : List Nd) : deepG st d (n :: l) = deepG (passH st n) (if cont n.kind = true then max d st.length else d) l := by simp [deepG]
mutual
theorem deepG_flat : ∀ (t : Tr Nd) (h : Hd) (st : List Hd) (d : Nat) (r : List Nd), okT many t → rightT t = true →
    deepG (h :: st) d (flat t ++ r) = deepG (pop (stepH h t.nd :: st)) (if depth t = 0 then d else max d (st.length + depth t)) r
  | .mk n ks, h, st, d, r, ho, hr => by
    obtain ⟨h1, h2⟩ := okT_mk.1 ho
    have h1' : n.many = ks.length := h1
    rw [rightT_node ho, Bool.and_eq_true, List.all_eq_true] at hr
    obtain ⟨hr1, hr2⟩ := hr
    have hp : plainN n = true := by rw [nodeOk, Bool.and_eq_true] at hr1; exact hr1.1
    rw [flat_mk, List.cons_append, deepG_cons, depth_mk, Tr.nd_mk]
    cases ks with
    | nil =>
      have h0 : n.many = 0 := h1'
      rw [passH, if_neg (by omega), flats_nil, List.nil_append]
      cases hc : cont n.kind <;> simp
    | cons t ts =>
      have h0 : 0 < n.many := by rw [h1', List.length_cons]; omega
      have hc : cont n.kind = true := by
        have := (plainN_many hp).2
        simp [cont]; omega
      rw [passH, if_pos h0, deepG_flats (t :: ts) _ _ _ r h2 (by simp) (by simpa using h1') (fun k hk => hr2 k hk)]
      congr 1
      simp only [hc, if_true, List.length_cons]
      split <;> split <;> simp_all <;> omega
theorem deepG_flats : ∀ (ts : List (Tr Nd)) (h : Hd) (st : List Hd) (d : Nat) (r : List Nd), okTs many ts → ts ≠ [] → h.left = ts.length → (∀ t ∈ ts, rightT t = true) →
    deepG (h :: st) d (flats ts ++ r) = deepG (pop st) (if depths ts = 0 then d else max d (st.length + depths ts)) r
  | [], _, _, _, _, _, h0, _, _ => absurd rfl h0
  | [t], h, st, d, r, ho, _, hl, hr => by
    rw [flats_cons, flats_nil, List.append_nil, deepG_flat t h st d r (okTs_cons.1 ho).1 (hr t (by simp))]
    have : (stepH h t.nd).left = 0 := by simp [stepH, hl]
    rw [pop, if_pos this]
    simp
  | t :: u :: ts, h, st, d, r, ho, _, hl, hr => by
    obtain ⟨h1, h2⟩ := okTs_cons.1 ho
    rw [flats_cons, List.append_assoc, deepG_flat t h st d _ h1 (hr t (by simp))]
    have : ¬ (stepH h t.nd).left = 0 := by simp [stepH, hl]; omega
    rw [pop, if_neg this, deepG_flats (u :: ts) (stepH h t.nd) st _ r h2 (by simp) (by simp [stepH, hl]) (fun k hk => hr k (by simp [hk]))]
    congr 1
    rw [depths_cons t]
    generalize depths (u :: ts) = x
    generalize depth t = y
    split <;> split <;> split <;> omega
end
theorem deepG_val {t : Tr Nd} (h : Val t) : deepG start 0 (flat t) = depth t := by
  have := deepG_flat t ⟨5, 1, false, []⟩ [] 0 [] h.ok h.rt
  rw [List.append_nil] at this
  rw [start, this, deepG]
  split <;> simp_all
end Vp
end Go.Proofs.YtbhgmfddjnkglaaGreatDoor
