/-
  Joined: OSrtP, Ow1.
-/
import Derived.Test.YtbhgmfddjnkglaaGreatDoorAtomTellsJ2
import Derived.Test.YtbhgmfddjnkglaaGreatDoorAtomTellsJ3
import Derived.Test.YtbhgmfddjnkglaaGreatDoorAtomTellsJ7
import Derived.Lib.FrozenHead

/-
  Plain words: places sorted by a comparison, halves merged; the groups of what is the same. No program stands here.
-/
namespace Go.Proofs.YtbhgmfddjnkglaaGreatDoor
namespace Ov
open Go.RowKit Np Rw Vp

/-- A comparison that is an order. -/
structure Cp (c : Nat → Nat → Int) : Prop where
  neg : ∀ i k, c k i = -c i k
  tri : ∀ i j k, Tri (c i j) (c j k) (c i k)
theorem Cp.refl {c : Nat → Nat → Int} (h : Cp c) (i : Nat) : c i i = 0 := by have := h.neg i i; omega
/-- What stands ahead of what. -/
def Bf (c : Nat → Nat → Int) (i k : Nat) : Prop := c i k < 0 ∨ c i k = 0 ∧ i < k
instance (c : Nat → Nat → Int) (i k : Nat) : Decidable (Bf c i k) := by unfold Bf; infer_instance
theorem Bf.asymm {c : Nat → Nat → Int} (h : Cp c) {i k : Nat} (h1 : Bf c i k) : ¬ Bf c k i := by
  have := h.neg i k
  unfold Bf at *
  omega
theorem Bf.trans {c : Nat → Nat → Int} (h : Cp c) {i j k : Nat} (h1 : Bf c i j) (h2 : Bf c j k) : Bf c i k := by
  have := h.tri i j k
  unfold Bf Tri at *
  omega
theorem Bf.total {c : Nat → Nat → Int} (h : Cp c) {i k : Nat} (hn : i ≠ k) : Bf c i k ∨ Bf c k i := by
  have := h.neg i k
  unfold Bf
  omega

def leC (c : Nat → Nat → Int) (i k : Nat) : Bool := decide (c i k ≤ 0)
/-- A list's halves, sorted, and merged. -/
def srtC (c : Nat → Nat → Int) (l : List Nat) : List Nat :=
  if h : l.length < 2 then l else List.merge (srtC c (l.take (l.length / 2))) (srtC c (l.drop (l.length / 2))) (leC c)
termination_by l.length
decreasing_by all_goals simp; omega
theorem srtC_short (c : Nat → Nat → Int) {l : List Nat} (h : l.length < 2) : srtC c l = l := by rw [srtC, dif_pos h]
theorem srtC_long (c : Nat → Nat → Int) {l : List Nat} (h : ¬ l.length < 2) : srtC c l = List.merge (srtC c (l.take (l.length / 2))) (srtC c (l.drop (l.length / 2))) (leC c) := by rw [srtC, dif_neg h]
theorem srt_perm (c : Nat → Nat → Int) : ∀ (n : Nat) (l : List Nat), l.length = n → (srtC c l).Perm l := by
  intro n
  induction n using Nat.strongRecOn with
  | ind n ih =>
    intro l hl
    by_cases h : l.length < 2
    · rw [srtC_short c h]
    · rw [srtC_long c h]
      refine (List.merge_perm_append _).trans ?_
      have h1 := ih (l.take (l.length / 2)).length (by simp; omega) _ rfl
      have h2 := ih (l.drop (l.length / 2)).length (by simp; omega) _ rfl
      have := h1.append h2
      rwa [List.take_append_drop] at this
theorem srt_len (c : Nat → Nat → Int) (l : List Nat) : (srtC c l).length = l.length := (srt_perm c _ l rfl).length_eq
theorem merge_bf {c : Nat → Nat → Int} (h : Cp c) : ∀ (n : Nat) (xs ys : List Nat), xs.length + ys.length = n → xs.Pairwise (Bf c) → ys.Pairwise (Bf c) → (∀ x ∈ xs, ∀ y ∈ ys, x < y) → (xs.merge ys (leC c)).Pairwise (Bf c) := by
  intro n
  induction n with
  | zero =>
    intro xs ys hn _ _ _
    obtain rfl : xs = [] := List.eq_nil_of_length_eq_zero (by omega)
    obtain rfl : ys = [] := List.eq_nil_of_length_eq_zero (by simpa using hn)
    simp
  | succ n ih =>
    intro xs ys hn hx hy hlt
    cases xs with
    | nil => simpa using hy
    | cons a xs =>
      cases ys with
      | nil => simpa using hx
      | cons b ys =>
        obtain ⟨x1, x2⟩ := List.pairwise_cons.1 hx
        obtain ⟨y1, y2⟩ := List.pairwise_cons.1 hy
        have hab := hlt a (by simp) b (by simp)
        rw [List.cons_merge_cons]
        by_cases hc : c a b ≤ 0
        · rw [if_pos (by simp [leC, hc])]
          have hB : Bf c a b := by unfold Bf; omega
          refine List.pairwise_cons.2 ⟨fun z hz => ?_, ih xs (b :: ys) (by simp at hn ⊢; omega) x2 hy fun x hx' y hy' => hlt x (by simp [hx']) y hy'⟩
          rcases List.mem_append.1 ((List.merge_perm_append _).mem_iff.1 hz) with h1 | h1
          · exact x1 z h1
          · rcases List.mem_cons.1 h1 with rfl | h1
            · exact hB
            · exact hB.trans h (y1 z h1)
        · rw [if_neg (by simp [leC]; omega)]
          have hB : Bf c b a := by have := h.neg a b; unfold Bf; omega
          refine List.pairwise_cons.2 ⟨fun z hz => ?_, ih (a :: xs) ys (by simp at hn ⊢; omega) hx y2 fun x hx' y hy' => hlt x hx' y (by simp [hy'])⟩
          rcases List.mem_append.1 ((List.merge_perm_append _).mem_iff.1 hz) with h1 | h1
          · rcases List.mem_cons.1 h1 with rfl | h1
            · exact hB
            · exact hB.trans h (x1 z h1)
          · exact y1 z h1
theorem srt_bf {c : Nat → Nat → Int} (h : Cp c) : ∀ (n : Nat) (l : List Nat), l.length = n → l.Pairwise (· < ·) → (srtC c l).Pairwise (Bf c) := by
  intro n
  induction n using Nat.strongRecOn with
  | ind n ih =>
    intro l hl hp
    by_cases h2 : l.length < 2
    · rw [srtC_short c h2]
      match l, h2 with
      | [], _ => exact List.Pairwise.nil
      | [x], _ => simp
    · rw [srtC_long c h2]
      have hp' := hp
      rw [← List.take_append_drop (l.length / 2) l, List.pairwise_append] at hp'
      obtain ⟨p1, p2, p3⟩ := hp'
      refine merge_bf h _ _ _ rfl (ih (l.take (l.length / 2)).length (by simp; omega) _ rfl p1) (ih (l.drop (l.length / 2)).length (by simp; omega) _ rfl p2) fun x hx y hy => ?_
      exact p3 x ((srt_perm c _ _ rfl).mem_iff.1 hx) y ((srt_perm c _ _ rfl).mem_iff.1 hy)
/-- The places of so many keys, sorted. -/
def plc (c : Nat → Nat → Int) (n : Nat) : List Nat := srtC c (List.range n)
theorem plc_len (c : Nat → Nat → Int) (n : Nat) : (plc c n).length = n := by rw [plc, srt_len, List.length_range]
theorem plc_perm (c : Nat → Nat → Int) (n : Nat) : (plc c n).Perm (List.range n) := srt_perm c _ _ rfl
theorem plc_bf {c : Nat → Nat → Int} (h : Cp c) (n : Nat) : (plc c n).Pairwise (Bf c) := srt_bf h _ _ rfl List.pairwise_lt_range
theorem plc_lt {c : Nat → Nat → Int} {n i : Nat} (hi : i ∈ plc c n) : i < n := by simpa using (plc_perm c n).mem_iff.1 hi
theorem plc_nodup (c : Nat → Nat → Int) (n : Nat) : (plc c n).Nodup := (plc_perm c n).nodup_iff.2 List.nodup_range
/-- There is but one such list. -/
theorem plc_uniq {c : Nat → Nat → Int} (h : Cp c) {n : Nat} {l : List Nat} (hp : l.Perm (List.range n)) (hb : l.Pairwise (Bf c)) : plc c n = l :=
  List.Perm.eq_of_pairwise (le := Bf c) (fun _ _ _ _ h1 h2 => absurd h2 (h1.asymm h)) (plc_bf h n) hb ((plc_perm c n).trans hp.symm)
/-- Do keys rise? -/
def rise (c : Nat → Nat → Int) (n : Nat) : Bool := (List.range (n - 1)).all fun i => decide (c i (i + 1) ≤ 0)
theorem rise_iff (c : Nat → Nat → Int) (n : Nat) : rise c n = true ↔ ∀ i, i + 1 < n → c i (i + 1) ≤ 0 := by
  unfold rise
  rw [List.all_eq_true]
  constructor
  · intro h i hi
    have := h i (by simp; omega)
    simpa using this
  · intro h i hi
    have : i < n - 1 := by simpa using hi
    simpa using h i (by omega)
theorem rise_all {c : Nat → Nat → Int} (h : Cp c) {n : Nat} (hr : rise c n = true) : ∀ d i, i + d < n → c i (i + d) ≤ 0 := by
  rw [rise_iff] at hr
  intro d
  induction d with
  | zero => intro i _; rw [Nat.add_zero, h.refl]; omega
  | succ d ih =>
    intro i hi
    exact (h.tri i (i + d) (i + (d + 1)) (ih i (by omega)) (hr (i + d) (by omega))).1
/-- What rises stays; what does not, does not. -/
theorem plc_stays {c : Nat → Nat → Int} (h : Cp c) (n : Nat) : plc c n = List.range n ↔ rise c n = true := by
  constructor
  · intro e
    rw [rise_iff]
    intro i hi
    have hb := plc_bf h n
    rw [e] at hb
    have := List.pairwise_iff_getElem.1 hb i (i + 1) (by simp; omega) (by simpa using hi) (by omega)
    rw [List.getElem_range, List.getElem_range] at this
    unfold Bf at this
    omega
  · intro hr
    refine plc_uniq h (List.Perm.refl _) (List.pairwise_iff_getElem.2 fun i j hi hj hij => ?_)
    rw [List.getElem_range, List.getElem_range]
    have := rise_all h hr (j - i) i (by simp at hj; omega)
    rw [show i + (j - i) = j by omega] at this
    unfold Bf
    omega
/-- How many stand ahead of one. -/
def cnt (c : Nat → Nat → Int) (n i : Nat) : Nat := (List.range n).countP fun k => decide (Bf c k i)
theorem cnt_at {c : Nat → Nat → Int} (h : Cp c) {n j i : Nat} (hj : (plc c n)[j]? = some i) : cnt c n i = j := by
  obtain ⟨hl, e⟩ := List.getElem?_eq_some_iff.1 hj
  have hb := plc_bf h n
  rw [cnt, ← (plc_perm c n).countP_eq]
  have hs : plc c n = (plc c n).take j ++ (i :: (plc c n).drop (j + 1)) := by
    rw [← e, List.getElem_cons_drop, List.take_append_drop]
  rw [hs] at hb ⊢
  rw [List.countP_append, List.countP_cons]
  obtain ⟨p1, p2, p3⟩ := List.pairwise_append.1 hb
  obtain ⟨p4, p5⟩ := List.pairwise_cons.1 p2
  have e1 : (List.countP (fun k => decide (Bf c k i)) ((plc c n).take j)) = j := by
    rw [List.countP_eq_length.2]
    · rw [List.length_take]; omega
    · intro a ha
      exact decide_eq_true (p3 a ha i (by simp))
  have e2 : (List.countP (fun k => decide (Bf c k i)) ((plc c n).drop (j + 1))) = 0 := by
    rw [List.countP_eq_zero]
    intro a ha
    have := (p4 a ha).asymm h
    simpa using this
  have e3 : ¬ Bf c i i := by have := h.refl i; unfold Bf; omega
  rw [e1, e2]
  simp [e3]
theorem cnt_lt {c : Nat → Nat → Int} (h : Cp c) {n i : Nat} (hi : i < n) : cnt c n i < n := by
  have hm : i ∈ plc c n := (plc_perm c n).mem_iff.2 (by simpa using hi)
  obtain ⟨j, hj⟩ := List.mem_iff_getElem?.1 hm
  rw [cnt_at h hj]
  have := (List.getElem?_eq_some_iff.1 hj).1
  rwa [plc_len] at this
/-- What has each place where as many stand ahead is what is sorted. -/
theorem plc_of_cnt {c : Nat → Nat → Int} (h : Cp c) {n : Nat} {l : List Nat} (hl : l.length = n) (hx : ∀ i, i < n → l[cnt c n i]? = some i) : l = plc c n := by
  refine List.ext_getElem? fun j => ?_
  by_cases hj : j < n
  · have h1 : j < (plc c n).length := by rw [plc_len]; exact hj
    have h2 : (plc c n)[j]? = some (plc c n)[j] := List.getElem?_eq_getElem h1
    have h3 := cnt_at h h2
    rw [h2, ← hx _ (plc_lt (List.getElem_mem h1)), h3]
  · rw [List.getElem?_eq_none (by omega), List.getElem?_eq_none (by rw [plc_len]; omega)]

/-! Groups. -/
/-- What is gathered: whole groups, and the one under way. -/
def stepG (c : Nat → Nat → Int) (s : List (List Nat) × List Nat) (at' : Nat) : List (List Nat) × List Nat :=
  match s.2 with
  | [] => (s.1, [at'])
  | h :: g => if c h at' = 0 then (s.1, h :: g ++ [at']) else (s.1 ++ [h :: g], [at'])
def allG (s : List (List Nat) × List Nat) : List (List Nat) := if s.2 = [] then s.1 else s.1 ++ [s.2]
def foldG (c : Nat → Nat → Int) (l : List Nat) : List (List Nat) × List Nat := l.foldl (stepG c) ([], [])
def grps (c : Nat → Nat → Int) (n : Nat) : List (List Nat) := allG (foldG c (plc c n))
theorem foldG_snoc (c : Nat → Nat → Int) (l : List Nat) (x : Nat) : foldG c (l ++ [x]) = stepG c (foldG c l) x := by simp [foldG]
theorem foldG_cur (c : Nat → Nat → Int) (l : List Nat) (h : l ≠ []) : (foldG c l).2 ≠ [] := by
  obtain ⟨l', x, rfl⟩ : ∃ l' x, l = l' ++ [x] := ⟨l.dropLast, l.getLast h, (List.dropLast_concat_getLast h).symm⟩
  rw [foldG_snoc, stepG]
  split
  · simp
  · split <;> simp
theorem foldG_flat (c : Nat → Nat → Int) (l : List Nat) : (foldG c l).1.flatten ++ (foldG c l).2 = l := by
  have key : ∀ (l : List Nat) (s : List (List Nat) × List Nat), (l.foldl (stepG c) s).1.flatten ++ (l.foldl (stepG c) s).2 = s.1.flatten ++ s.2 ++ l := by
    intro l
    induction l with
    | nil => intro s; simp
    | cons x l ih =>
      intro s
      rw [List.foldl_cons, ih, stepG]
      split
      · rename_i h; simp [h]
      · rename_i a g h
        split <;> simp [h]
  have := key l ([], [])
  rw [foldG, this]
  simp
theorem allG_flat (s : List (List Nat) × List Nat) : (allG s).flatten = s.1.flatten ++ s.2 := by
  unfold allG
  split
  · rename_i h; rw [h]; simp
  · simp
theorem grps_flat (c : Nat → Nat → Int) (n : Nat) : (grps c n).flatten = plc c n := by rw [grps, allG_flat, foldG_flat]
/-- What is known of groups: none is empty, all of one are the same. -/
structure Gd (c : Nat → Nat → Int) (g : List Nat) : Prop where
  ne : g ≠ []
  sm : ∀ h ∈ g.head?, ∀ x ∈ g, c h x = 0
theorem foldG_good {c : Nat → Nat → Int} (hc : Cp c) (l : List Nat) : (∀ g ∈ (foldG c l).1, Gd c g) ∧ ((foldG c l).2 = [] ∨ Gd c (foldG c l).2) := by
  have key : ∀ (l : List Nat) (s : List (List Nat) × List Nat), ((∀ g ∈ s.1, Gd c g) ∧ (s.2 = [] ∨ Gd c s.2)) → ((∀ g ∈ (l.foldl (stepG c) s).1, Gd c g) ∧ ((l.foldl (stepG c) s).2 = [] ∨ Gd c (l.foldl (stepG c) s).2)) := by
    intro l
    induction l with
    | nil => intro s h; exact h
    | cons x l ih =>
      intro s ⟨h1, h2⟩
      rw [List.foldl_cons]
      refine ih _ ?_
      have one : Gd c [x] := ⟨by simp, by intro h hh y hy; simp at hh hy; subst hh hy; exact hc.refl _⟩
      rw [stepG]
      split
      · exact ⟨h1, Or.inr one⟩
      · rename_i a g e
        rw [e] at h2
        have h2' := h2.resolve_left (by simp)
        split
        · rename_i h0
          refine ⟨h1, Or.inr ⟨by simp, ?_⟩⟩
          intro h hh y hy
          simp at hh
          subst hh
          rcases List.mem_append.1 hy with hy | hy
          · exact h2'.sm a (by simp) y hy
          · simp at hy; subst hy; exact h0
        · refine ⟨?_, Or.inr one⟩
          intro g' hg'
          rcases List.mem_append.1 hg' with hg' | hg'
          · exact h1 g' hg'
          · simp at hg'; subst hg'; exact h2'
  exact key l ([], []) ⟨by simp, Or.inl rfl⟩
theorem grps_good {c : Nat → Nat → Int} (hc : Cp c) (n : Nat) : ∀ g ∈ grps c n, Gd c g := by
  obtain ⟨h1, h2⟩ := foldG_good hc (plc c n)
  intro g hg
  rw [grps, allG] at hg
  split at hg
  · exact h1 g hg
  · rename_i h0
    rcases List.mem_append.1 hg with hg | hg
    · exact h1 g hg
    · simp at hg; subst hg; exact h2.resolve_left h0
/-- Heads of neighbours are not the same. -/
def apart (c : Nat → Nat → Int) (gs : List (List Nat)) : Prop := ∀ i a b, gs[i]? = some a → gs[i + 1]? = some b → ∀ x ∈ a.head?, ∀ y ∈ b.head?, c x y ≠ 0
theorem apart_snoc {c : Nat → Nat → Int} {gs : List (List Nat)} {a b : List Nat} (h : apart c (gs ++ [a])) (hab : ∀ x ∈ a.head?, ∀ y ∈ b.head?, c x y ≠ 0) : apart c (gs ++ [a] ++ [b]) := by
  intro i p q hp hq
  by_cases hi : i + 1 < (gs ++ [a]).length
  · rw [List.getElem?_append_left (by omega)] at hp
    rw [List.getElem?_append_left hi] at hq
    exact h i p q hp hq
  · have hl : i + 1 < (gs ++ [a] ++ [b]).length := (List.getElem?_eq_some_iff.1 hq).1
    have hi' : i = gs.length := by simp at hi hl; omega
    subst hi'
    simp at hp hq
    subst hp hq
    exact hab
theorem apart_head {c : Nat → Nat → Int} {gs : List (List Nat)} {a b : List Nat} (h : apart c (gs ++ [a])) (hab : a.head? = b.head?) : apart c (gs ++ [b]) := by
  intro i p q hp hq
  have hl : i + 1 < (gs ++ [b]).length := (List.getElem?_eq_some_iff.1 hq).1
  have hp' : (gs ++ [a])[i]? = some p := by
    rw [List.getElem?_append_left (by simp at hl; omega)] at hp ⊢; exact hp
  by_cases hi : i + 1 < gs.length
  · have hq' : (gs ++ [a])[i + 1]? = some q := by rw [List.getElem?_append_left hi] at hq ⊢; exact hq
    exact h i p q hp' hq'
  · have hi' : i + 1 = gs.length := by simp at hl; omega
    rw [hi'] at hq
    simp at hq
    subst hq
    have := h i p a hp' (by rw [hi']; simp)
    rwa [hab] at this
theorem foldG_apart {c : Nat → Nat → Int} (l : List Nat) : apart c (allG (foldG c l)) := by
  have key : ∀ (l : List Nat) (s : List (List Nat) × List Nat), (s.1 ≠ [] → s.2 ≠ []) → apart c (allG s) → apart c (allG (l.foldl (stepG c) s)) := by
    intro l
    induction l with
    | nil => intro s _ h; exact h
    | cons x l ih =>
      intro s hs h
      rw [List.foldl_cons]
      obtain ⟨s1, s2⟩ := s
      cases s2 with
      | nil =>
        have hs1 : s1 = [] := Classical.byContradiction fun h0 => hs h0 rfl
        subst hs1
        refine ih _ (by simp [stepG]) ?_
        intro i a b ha hb
        simp [stepG, allG] at hb
      | cons a g =>
        have h' : apart c (s1 ++ [a :: g]) := by simpa [allG] using h
        by_cases h0 : c a x = 0
        · refine ih _ (by simp [stepG, h0]) ?_
          have : allG (stepG c (s1, a :: g) x) = s1 ++ [a :: g ++ [x]] := by simp [stepG, allG, h0]
          rw [this]
          exact apart_head h' (by simp)
        · refine ih _ (by simp [stepG, h0]) ?_
          have : allG (stepG c (s1, a :: g) x) = s1 ++ [a :: g] ++ [[x]] := by simp [stepG, allG, h0]
          rw [this]
          refine apart_snoc h' ?_
          intro p hp q hq
          simp at hp hq
          subst hp hq
          exact h0
  refine key l ([], []) (by simp) ?_
  intro i a b ha hb
  simp [allG] at hb
/-- Each group's head is above the one's ahead. -/
theorem grps_rise {c : Nat → Nat → Int} (hc : Cp c) (n : Nat) {i : Nat} {a b : List Nat} (ha : (grps c n)[i]? = some a) (hb : (grps c n)[i + 1]? = some b) {x y : Nat} (hx : a.head? = some x) (hy : b.head? = some y) : c x y < 0 := by
  have h1 := foldG_apart (c := c) (plc c n) i a b ha hb x hx y hy
  have h2 := plc_bf hc n
  rw [← grps_flat, List.pairwise_flatten] at h2
  have h3 := List.pairwise_iff_getElem.1 h2.2 i (i + 1) (List.getElem?_eq_some_iff.1 ha).1 (List.getElem?_eq_some_iff.1 hb).1 (by omega)
  rw [(List.getElem?_eq_some_iff.1 ha).2, (List.getElem?_eq_some_iff.1 hb).2] at h3
  have h4 := h3 x (List.mem_of_mem_head? hx) y (List.mem_of_mem_head? hy)
  unfold Bf at h4
  omega
theorem grps_lt {c : Nat → Nat → Int} {n : Nat} {g : List Nat} (hg : g ∈ grps c n) {x : Nat} (hx : x ∈ g) : x < n := by
  have : x ∈ (grps c n).flatten := List.mem_flatten.2 ⟨g, hg, hx⟩
  rw [grps_flat] at this
  exact plc_lt this
end Ov
end Go.Proofs.YtbhgmfddjnkglaaGreatDoor

/-
  What order's small functions answer: next, name, past, node, leave; a pair of rows in its block.
-/
namespace Go.Proofs.YtbhgmfddjnkglaaGreatDoor
open Go.RowKit Np Rw Vp Ov

/-- A pair in a block. -/
def Pr2 (rb : Nat) (va vb : Value) (k : Nat) (w : World) : Prop := w.heap[rb]? = some (.cells #[va, vb, .int .i64 k] 84 (0, 0))
section
variable {rb : Nat} {va vb : Value} {k : Nat} {w w' : World}
theorem Pr2.lt (h : Pr2 rb va vb k w) : rb < w.heap.size := (Array.getElem?_eq_some_iff.1 h).1
theorem Pr2.c0 (h : Pr2 rb va vb k w) : w.cell? ⟨rb, 0, none⟩ = some va := by rw [Lib.cell_of_heap h]; rfl
theorem Pr2.c1 (h : Pr2 rb va vb k w) : w.cell? ⟨rb, 1, none⟩ = some vb := by rw [Lib.cell_of_heap h]; rfl
theorem Pr2.c2 (h : Pr2 rb va vb k w) : w.cell? ⟨rb, 2, none⟩ = some (.int .i64 k) := by rw [Lib.cell_of_heap h]; rfl
theorem Pr2.fz (h : Pr2 rb va vb k w) (o : Nat) : w.frozen? ⟨rb, o, none⟩ = false := Lib.frozen_of_heap h o
theorem Pr2.setA (h : Pr2 rb va vb k w) (u : Value) : Pr2 rb u vb k (w.setCell ⟨rb, 0, none⟩ u) := by
  unfold Pr2 at *; simp [World.setCell, Array.getElem?_modify, h]
theorem Pr2.setB (h : Pr2 rb va vb k w) (u : Value) : Pr2 rb va u k (w.setCell ⟨rb, 1, none⟩ u) := by
  unfold Pr2 at *; simp [World.setCell, Array.getElem?_modify, h]
theorem Pr2.setI (h : Pr2 rb va vb k w) (n : Nat) : Pr2 rb va vb n (w.setCell ⟨rb, 2, none⟩ (.int .i64 n)) := by
  unfold Pr2 at *; simp [World.setCell, Array.getElem?_modify, h]
theorem Pr2.drewN (h : Pr2 rb va vb k w) (n : Nat) : Pr2 rb va vb k (w.drewN n) := h
theorem Pr2.drew (h : Pr2 rb va vb k w) : Pr2 rb va vb k w.drew := h
theorem Pr2.alloc (h : Pr2 rb va vb k w) (o : Obj) : Pr2 rb va vb k (w.alloc o) := (Below.heap_alloc w o rb h.lt).trans h
theorem Pr2.below (h : Pr2 rb va vb k w) {B : Nat} (hb : Below B w w') (hB : rb < B) : Pr2 rb va vb k w' := (hb.block rb hB).trans h
end
/-- A row of nodes lies in no pair's block. -/
theorem Nds.pr {rb : Nat} {va vb : Value} {k : Nat} {w w' : World} {v : Value} {l : List Nd} (h : Nds w v l) (hr : Pr2 rb va vb k w) (hb : Kb w.heap.size rb w w') : Nds w' v l := by
  obtain ⟨A, c, hv, hc, hm, hz, H⟩ := h
  refine ⟨A, c, hv, hc, hm, hz, fun h0 => ?_⟩
  obtain ⟨g, o, hA, hg, hx⟩ := H h0
  have hne : g ≠ rb := by
    rintro rfl
    have := hx 0 _ (List.getElem?_eq_getElem h0) 5 _ rfl
    rw [Lib.cell_of_heap hr] at this
    simp at this
  refine ⟨g, o, hA, Nat.lt_of_lt_of_le hg hb.size, fun k x hk j u hu => ?_⟩
  exact (hb.cell (p := ⟨g, o + k * 6 + j, none⟩) hg hne).trans (hx k x hk j u hu)
/-- A pair of rows. -/
def Prs (rb : Nat) (la lb : List Nd) (k : Nat) (w : World) : Prop := ∃ va vb, Pr2 rb va vb k w ∧ Nds w va la ∧ Nds w vb lb
theorem Prs.lt {rb : Nat} {la lb : List Nd} {k : Nat} {w : World} (h : Prs rb la lb k w) : rb < w.heap.size := by obtain ⟨_, _, h, -, -⟩ := h; exact h.lt
theorem Prs.below {rb : Nat} {la lb : List Nd} {k : Nat} {w w' : World} (h : Prs rb la lb k w) (hb : Below w.heap.size w w') : Prs rb la lb k w' := by
  obtain ⟨va, vb, h1, h2, h3⟩ := h
  exact ⟨va, vb, h1.below hb h1.lt, h2.below hb, h3.below hb⟩
/-- A pair; its rows are known where that is asked. -/
def Prx (rb : Nat) (b : Prop) (ra rc : List Nd) (k : Nat) (w : World) : Prop := ∃ la lb, Prs rb la lb k w ∧ (b → la = ra ∧ lb = rc)

/-- A row's first node, and the row behind it. -/
def nxtN (l : List Nd) : Nd := l.headD zeroN

set_option maxHeartbeats 4000000000000 in
theorem onext_any (v : Value) (l : List Nd) (w : World) (hv : Nds w v l) :
    Calls Tryz.prog 106 #[v] w fun e w' => ∃ (A : Option Addr) (n c : Nat), e = .returned (.tuple #[nda (nxtN l), .slice A n c]) ∧ (∀ w0, Nds w0 v l → Nds w0 (.slice A n c) l.tail) ∧ Below w.heap.size w w' := by
  have hB : Below w.heap.size w w := Below.refl _ _
  cases l with
  | nil =>
    obtain ⟨A, c, rfl, -, -, -, -⟩ := hv
    go_enter Tryz.func106, Tryz.ntmps106
    go_wp2_with fail
    exact bodyPost_ret (v := .tuple #[nda zeroN, .slice none 0 0]) (by simp [results, Tryz.results106, go_sem, zeroN]) rfl ⟨none, 0, 0, rfl, fun _ _ => Row.nil _, hB.alloc (Nat.le_refl _) _⟩
  | cons n l =>
    have hlen := hv.len
    unfold maxLen at hlen
    obtain ⟨g, o, c, rfl, hc, hm, hg, hx⟩ := hv.opened (by simp)
    obtain ⟨c0, c1, c2, c3, c4, c5⟩ := (hx 0 _ rfl).nd
    have HV := Lib.hid hv
    clear hx hv
    rw [Nat.zero_mul, Nat.add_zero] at c0 c1 c2 c3 c4 c5
    have HN : Hid ((n :: l).length - 1 = l.length) := Lib.hid (by simp)
    have h1 : 1 ≤ (n :: l).length := by simp
    have HT : Hid ((n :: l).tail = (n :: l).drop 1) := Lib.hid rfl
    generalize hm : (n :: l).length = m at *
    have HM := Lib.hid hm; clear hm
    go_enter Tryz.func106, Tryz.ntmps106
    go_wp2_with fail
    go_region
    all_goals go_wp2_with fail
    · have hl : l = [] := List.eq_nil_of_length_eq_zero (by have := HN.out; omega)
      subst hl
      have hm1 : m - 1 = 0 := by have := HN.out; simpa using this
      rw [hm1]
      exact bodyPost_ret (v := .tuple #[nda n, .slice (some ⟨g, o, none⟩) 0 0]) (by simp [results, Tryz.results106, go_sem]) rfl ⟨_, _, _, rfl, fun _ _ => Row.empty _ _ _ (by unfold maxLen; omega), (hB.alloc (Nat.le_refl _) _).drew⟩
    · have HR : ∀ w0, Nds w0 (.slice (some ⟨g, o, none⟩) m c) (n :: l) → Nds w0 (.slice (some ⟨g, o + 6, none⟩) (m - 1) (c - 1)) l := by
        intro w0 h2
        rw [← HM.out] at h2
        have h3 := h2.rest 1 (by simp)
        rw [HM.out] at h3
        simpa using h3
      exact bodyPost_ret (v := .tuple #[nda n, .slice (some ⟨g, o + 6, none⟩) (m - 1) (c - 1)]) (by simp [results, Tryz.results106, go_sem]) rfl ⟨_, _, _, rfl, HR, (hB.alloc (Nat.le_refl _) _).drew⟩

set_option maxHeartbeats 4000000000000 in
theorem oname_any (v : Value) (l : List Nd) (w : World) (hv : Nds w v l) :
    Calls Tryz.prog 113 #[v] w fun e w' => e = .returned (.string ⟨(nxtN l).name.toArray⟩) ∧ Below w.heap.size w w' := by
  have HN := Lib.hid (onext_any v l w hv)
  obtain ⟨A, c, rfl, -⟩ := hv
  generalize nxtN l = n at *
  go_enter Tryz.func113, Tryz.ntmps113
  go_wp2_with fail
  go_at_call 106
  refine HN.out.mono ?_
  rintro e w1 ⟨A1, n1, c1, rfl, -, hb1⟩
  go_wp2_with fail
  go_ret
  exact ⟨rfl, hb1.alloc hb1.size _⟩

/-- What is gone by, node by node. -/
theorem skip_bound : ∀ (l : List Nd) (q : Nat) (r : List Nd), skip many l q = some r → q + r.length ≤ l.length := by
  intro l q r h
  obtain ⟨ts, -, h2, rfl⟩ := skip_inv l q r h
  have := flats_len ts
  rw [List.length_append]; omega
theorem skip_step {n : Nd} {l : List Nd} {q : Nat} {r : List Nd} (h : skip many (n :: l) (q + 1) = some r) : ∃ k : Nat, n.many = k ∧ skip many l (q + k) = some r := by
  rw [skip_cons] at h
  by_cases hn : many n < 0
  · rw [if_pos hn] at h; cases h
  · rw [if_neg hn] at h
    exact ⟨n.many.toNat, by have : 0 ≤ n.many := by unfold many at hn; omega
                            omega, h⟩
set_option maxHeartbeats 4000000000000 in
theorem past_any (v : Value) (l : List Nd) (m : Nat) (r : List Nd) (w : World) (hv : Nds w v l) (hs : skip many l m = some r) (hl : l.length ≤ 4000000000000) :
    Calls Tryz.prog 108 #[v, .int .i64 m] w fun e w' => ∃ (A : Option Addr) (n c : Nat), e = .returned (.slice A n c) ∧ (∀ w0, Nds w0 v l → Nds w0 (.slice A n c) r) ∧ ∃ n, w' = w.drewN n := by
  rcases Nat.eq_zero_or_pos l.length with h0 | h0
  · obtain rfl := List.eq_nil_of_length_eq_zero h0
    have h1 := skip_bound _ _ _ hs
    obtain rfl : m = 0 := by simp at h1; omega
    obtain rfl : r = [] := by rw [skip_zero] at hs; injection hs with hs; exact hs.symm
    obtain ⟨A, c, rfl, h2, h3, h4, -⟩ := hv
    have HR : Hid (∀ w', Nds w' (.slice A 0 c) []) := Lib.hid fun w' => ⟨A, c, rfl, Nat.zero_le _, h3, h4, fun h => absurd h (by simp)⟩
    unfold maxLen at h3
    clear h1 h0 hl hs h2 h4
    go_enter Tryz.func108, Tryz.ntmps108
    go_wp2_with fail
    go_loopw [1, 5] (fun mv av wr => mv = .int .i64 0 ∧ av = .int .i64 0 ∧ Hid (∃ n, wr = w.drewN n)) (fun _ _ _ => 0)
    case atStart => exact ⟨rfl, rfl, Lib.hid ⟨0, rfl⟩⟩
    case round =>
      obtain ⟨rfl, rfl, HW⟩ := hrel
      go_wp2_with fail
      all_goals go_ret
      all_goals exact ⟨_, _, _, rfl, fun _ _ => HR.out _, HW.out⟩
  · obtain ⟨g, o, c, rfl, hc, hm, hg, hx⟩ := hv.opened h0
    have HV := Lib.hid hv
    have HX := Lib.hid hx
    have HS0 := Lib.hid hs
    have hb0 := skip_bound _ _ _ hs
    clear hx hv hs
    unfold maxLen at hm
    generalize hn : l.length = N at *
    have HN := Lib.hid hn; clear hn
    have hB : ∃ n, w = w.drewN n := ⟨0, rfl⟩
    go_enter Tryz.func108, Tryz.ntmps108
    go_wp2_with fail
    go_loopw [1, 5] (fun mv av wr => ∃ (j q : Nat), j ≤ N ∧ mv = .int .i64 q ∧ av = .int .i64 j ∧ Hid (skip many (l.drop j) q = some r) ∧ Hid (∃ n, wr = w.drewN n)) (fun _ av _ => N - (intOf av).toNat)
    case atStart => exact ⟨0, m, Nat.zero_le _, rfl, rfl, by simpa using HS0, Lib.hid ⟨0, rfl⟩⟩
    case round =>
      obtain ⟨j, q, hj, rfl, rfl, HS, HW⟩ := hrel
      have hb := skip_bound _ _ _ HS.out
      rw [List.length_drop, HN.out] at hb
      rcases Nat.eq_zero_or_pos q with hq | hq
      · subst hq
        have hr : l.drop j = r := by have := HS.out; rw [skip_zero] at this; injection this
        have HR : ∀ w0, Nds w0 (.slice (some ⟨g, o, none⟩) N c) l → Nds w0 (.slice (some ⟨g, o + j * 6, none⟩) (N - j) (c - j)) r := by
          intro w0 h2
          rw [← HN.out] at h2
          have h3 := h2.rest j (by rw [HN.out]; exact hj)
          rw [HN.out, hr] at h3
          exact h3
        go_wp2_with fail
        · go_ret
          rename_i hcj
          have hr0 : r = [] := by rw [← hr]; exact List.drop_eq_nil_of_le (by rw [HN.out]; omega)
          rw [hr0, show N - j = 0 by omega]
          exact ⟨_, _, _, rfl, fun _ _ => Row.empty _ _ _ (by unfold maxLen; omega), HW.out⟩
        · go_ret
          exact ⟨_, _, _, rfl, HR, HW.out⟩
      · have hjn : j < N := by omega
        obtain ⟨x, hx⟩ : ∃ x, l[j]? = some x := ⟨_, List.getElem?_eq_getElem (by rw [HN.out]; exact hjn)⟩
        have hd : l.drop j = x :: l.drop (j + 1) := by
          obtain ⟨h1, h2⟩ := List.getElem?_eq_some_iff.1 hx
          rw [← h2, List.getElem_cons_drop]
        obtain ⟨q', rfl⟩ : ∃ q', q = q' + 1 := ⟨q - 1, by omega⟩
        obtain ⟨k, hk, hs2⟩ := skip_step (hd ▸ HS.out)
        have hb2 := skip_bound _ _ _ hs2
        rw [List.length_drop, HN.out] at hb2
        obtain ⟨mq, hmq⟩ := HW.out
        subst hmq
        have c1 := ((HX.out j x hx).nd.drewN mq).c1
        rw [hk] at c1
        have HS2 := Lib.hid hs2
        clear hs2 hd hk hx
        go_wp2_with fail
        refine ⟨⟨j + 1, q' + k, by omega, by congr 1; omega, rfl, HS2, Lib.hid ⟨mq, rfl⟩⟩, ?_⟩
        simp [intOf]; omega

theorem alloc_at (w : World) (o : Obj) {n : Nat} (h : w.heap.size = n) : (w.alloc o).heap[n]? = some o := by subst h; exact Array.getElem?_push_size
/-- A node in a block. -/
def NodeAt (B : Nat) (n : Nd) (w : World) : Prop := w.heap[B]? = some (.cells #[.int .i64 n.kind, .int .i64 n.many, .string ⟨n.name.toArray⟩, .string ⟨n.s.toArray⟩, .bool n.neg, .int .i64 n.e] 24 (0, 0))
abbrev fillN (B : Nat) (m : Nd) (w : World) : World := (((((w.setCell ⟨B, 0, none⟩ (.int .i64 m.kind)).setCell ⟨B, 1, none⟩ (.int .i64 m.many)).setCell ⟨B, 2, none⟩ (.string ⟨m.name.toArray⟩)).setCell ⟨B, 3, none⟩ (.string ⟨m.s.toArray⟩)).setCell ⟨B, 4, none⟩ (.bool m.neg)).setCell ⟨B, 5, none⟩ (.int .i64 m.e)
section
variable {B rb : Nat} {n : Nd} {w w' : World}
theorem NodeAt.lt (h : NodeAt B n w) : B < w.heap.size := (Array.getElem?_eq_some_iff.1 h).1
theorem NodeAt.nd (h : NodeAt B n w) : Nd6 w B 0 n := ⟨by rw [Lib.cell_of_heap h]; rfl, by rw [Lib.cell_of_heap h]; rfl, by rw [Lib.cell_of_heap h]; rfl, by rw [Lib.cell_of_heap h]; rfl, by rw [Lib.cell_of_heap h]; rfl, by rw [Lib.cell_of_heap h]; rfl⟩
theorem NodeAt.fz (h : NodeAt B n w) (o : Nat) : w.frozen? ⟨B, o, none⟩ = false := Lib.frozen_of_heap h o
theorem NodeAt.fill (h : NodeAt B n w) (m : Nd) : NodeAt B m (fillN B m w) := by
  unfold NodeAt at *; simp [fillN, World.setCell, Array.getElem?_modify, h]
theorem NodeAt.other (h : NodeAt B n w) {p : Addr} (hp : p.block ≠ B) (u : Value) : NodeAt B n (w.setCell p u) := (Below.heap_setCell w p u B (Ne.symm hp)).trans h
theorem NodeAt.below (h : NodeAt B n w) {C : Nat} (hb : Below C w w') (hB : B < C) : NodeAt B n w' := (hb.block B hB).trans h
theorem NodeAt.drew (h : NodeAt B n w) : NodeAt B n w.drew := h
theorem NodeAt.fillO {C : Nat} (h : NodeAt B n w) (hp : C ≠ B) (m : Nd) : NodeAt B n (fillN C m w) := (((((h.other hp _).other hp _).other hp _).other hp _).other hp _).other hp _
theorem Pr2.other {va vb : Value} {k : Nat} (h : Pr2 rb va vb k w) {p : Addr} (hp : p.block ≠ rb) (u : Value) : Pr2 rb va vb k (w.setCell p u) := (Below.heap_setCell w p u rb (Ne.symm hp)).trans h
theorem Pr2.fillO {va vb : Value} {k C : Nat} (h : Pr2 rb va vb k w) (hp : C ≠ rb) (m : Nd) : Pr2 rb va vb k (fillN C m w) := (((((h.other hp _).other hp _).other hp _).other hp _).other hp _).other hp _
theorem Kb.fill {D C : Nat} {a : World} (h : Kb D rb a w) (hp : D ≤ C) (m : Nd) : Kb D rb a (fillN C m w) := (((((h.setHigh hp _).setHigh hp _).setHigh hp _).setHigh hp _).setHigh hp _).setHigh hp _
end

set_option maxRecDepth 100000 in
set_option maxHeartbeats 4000000 in
theorem node_any (rb : Nat) (la lb : List Nd) (k : Nat) (w : World) (h : Prs rb la lb k w) :
    Calls Tryz.prog 72 #[.pointer (some ⟨rb, 0, none⟩)] w fun e w' => e = .returned (.tuple #[nda (nxtN la), nda (nxtN lb)]) ∧ Prs rb la.tail lb.tail k w' ∧ Kb w.heap.size rb w w' := by
  obtain ⟨va, vb, hp, ha, hb⟩ := h
  have HA : Hid (∀ w1, Below w.heap.size w w1 → Calls Tryz.prog 106 #[va] w1 fun e w' => ∃ (A : Option Addr) (n c : Nat), e = .returned (.tuple #[nda (nxtN la), .slice A n c]) ∧ (∀ w0, Nds w0 va la → Nds w0 (.slice A n c) la.tail) ∧ Below w1.heap.size w1 w') := Lib.hid fun w1 hb1 => onext_any va la w1 (ha.below hb1)
  have HC : Hid (∀ w1, Kb w.heap.size rb w w1 → Calls Tryz.prog 106 #[vb] w1 fun e w' => ∃ (A : Option Addr) (n c : Nat), e = .returned (.tuple #[nda (nxtN lb), .slice A n c]) ∧ (∀ w0, Nds w0 vb lb → Nds w0 (.slice A n c) lb.tail) ∧ Below w1.heap.size w1 w') := Lib.hid fun w1 hb1 => onext_any vb lb w1 (hb.pr hp hb1)
  have HP := Lib.hid hp
  have HNA := Lib.hid ha
  have HNB := Lib.hid hb
  obtain ⟨A, c, rfl, -⟩ := ha
  obtain ⟨B, d, rfl, -⟩ := hb
  have c0 := hp.c0
  have hlt := hp.lt
  have hb0 := Below.refl w.heap.size w
  clear hp
  generalize hx : nxtN la = x at *
  generalize hy : nxtN lb = y at *
  clear hx hy
  generalize la.length = nla at *
  generalize lb.length = nlb at *
  go_enter Tryz.func72, Tryz.ntmps72
  go_upto_region 1 with fail
  go_cut [] from 4 to 15 (fun wx => ∃ (A1 : Option Addr) (n1 c1 : Nat), Hid (Pr2 rb (.slice A1 n1 c1) (.slice B nlb d) k wx) ∧ Hid (Nds w (.slice A1 n1 c1) la.tail) ∧ Hid (NodeAt w.heap.size x wx) ∧ Hid (NodeAt (w.heap.size + 1) zeroN wx) ∧ Hid (Kb w.heap.size rb w wx))
  case first =>
    go_wp2_with fail
    go_at_call 106
    refine (HA.out _ ((hb0.alloc (Nat.le_refl _) _).alloc (by simp) _)).mono ?_
    rintro e w1 ⟨A1, n1, c1, rfl, hA1, hb1⟩
    have hw1 : w.heap.size + 2 ≤ w1.heap.size := by have := hb1.size; simp at this; omega
    have hb2 : Below w.heap.size w w1 := ((hb0.alloc (Nat.le_refl _) _).alloc (by simp) _).trans (hb1.mono (by simp; omega))
    have HP1 := Lib.hid (HP.out.below hb2 hlt)
    have X0 : NodeAt w.heap.size zeroN w1 := (hb1.block w.heap.size (by simp; omega)).trans ((Below.heap_alloc _ _ _ (by simp)).trans (alloc_at _ _ rfl))
    have Y0 : NodeAt (w.heap.size + 1) zeroN w1 := (hb1.block (w.heap.size + 1) (by simp)).trans (alloc_at _ _ (by simp))
    obtain ⟨x0, x1, x2, x3, x4, x5⟩ := X0.nd
    have fx := X0.fz
    have p0 := HP1.out.c0
    have p1 := HP1.out.c1
    have f0 := HP1.out.fz 0
    have HX0 := Lib.hid X0
    have HY0 := Lib.hid Y0
    have HA1 := Lib.hid (hA1 w HNA.out)
    have HB2 := Lib.hid hb2
    clear X0 Y0 hA1 hb2 hb1
    go_wp2_with fail
    go_meet
    exact ⟨A1, n1, c1, Lib.hid ((HP1.out.fillO (by simp; omega) x).setA _), HA1, Lib.hid ((HX0.out.fill x).other (by simp; omega) _), Lib.hid ((HY0.out.fillO (by simp) x).other (by simp; omega) _), Lib.hid (((Kb.of HB2.out).fill (by simp) x).set _ _)⟩
  case rest =>
    obtain ⟨A1, n1, c1, HP2, HA1, HX1, HY1, HK1⟩ := hcut
    have p1 := HP2.out.c1
    go_upto_region 2 with fail
    go_cut [] from 15 to 26 (fun wx => ∃ (B1 : Option Addr) (n2 c2 : Nat), Hid (Pr2 rb (.slice A1 n1 c1) (.slice B1 n2 c2) k wx) ∧ Hid (Nds w (.slice B1 n2 c2) lb.tail) ∧ Hid (NodeAt w.heap.size x wx) ∧ Hid (NodeAt (w.heap.size + 1) y wx) ∧ Hid (Kb w.heap.size rb w wx))
    case first =>
      go_wp2_with fail
      go_at_call 106
      refine (HC.out _ HK1.out).mono ?_
      rintro e w1 ⟨B1, n2, c2, rfl, hA2, hb1⟩
      have hw1 := hb1.size
      have hxl := HX1.out.lt
      have hyl := HY1.out.lt
      have HP3 := Lib.hid (HP2.out.below hb1 (HP2.out.lt))
      have HX3 := Lib.hid (HX1.out.below hb1 hxl)
      have HY3 := Lib.hid (HY1.out.below hb1 hyl)
      obtain ⟨x0, x1, x2, x3, x4, x5⟩ := HY3.out.nd
      have fx := HY3.out.fz
      have q1 := HP3.out.c1
      have f1 := HP3.out.fz 1
      have HA2 := Lib.hid (hA2 w HNB.out)
      have HK3 := Lib.hid (HK1.out.trans (Kb.of (hb1.mono (HK1.out.size))))
      clear hA2 hb1 p1
      go_wp2_with fail
      go_meet
      exact ⟨B1, n2, c2, Lib.hid ((HP3.out.fillO (by simp; omega) y).setB _), HA2, Lib.hid ((HX3.out.fillO (by simp) y).other (by simp; omega) _), Lib.hid ((HY3.out.fill y).other (by simp; omega) _), Lib.hid ((HK3.out.fill (by simp) y).set _ _)⟩
    case rest =>
      obtain ⟨B1, n2, c2, HP4, HB4, HX4, HY4, HK4⟩ := hcut
      obtain ⟨x0, x1, x2, x3, x4, x5⟩ := HX4.out.nd
      obtain ⟨y0, y1, y2, y3, y4, y5⟩ := HY4.out.nd
      have fx := HX4.out.fz
      have fy := HY4.out.fz
      go_wp2_with fail
      go_region
      all_goals go_wp2_with fail
      have hX : NodeAt w.heap.size x (fillN (w.heap.size + 1) y (fillN w.heap.size x wc)) := (HX4.out.fill x).fillO (by simp) y
      have hY : NodeAt (w.heap.size + 1) y (fillN (w.heap.size + 1) y (fillN w.heap.size x wc)) := (HY4.out.fillO (by simp) x).fill y
      have hPP : Pr2 rb (.slice A1 n1 c1) (.slice B1 n2 c2) k (fillN (w.heap.size + 1) y (fillN w.heap.size x wc)) := (HP4.out.fillO (by simp; omega) x).fillO (by simp; omega) y
      have hKK : Kb w.heap.size rb w (fillN (w.heap.size + 1) y (fillN w.heap.size x wc)) := (HK4.out.fill (Nat.le_refl _) x).fill (by simp) y
      unfold fillN at hX hY hPP hKK
      clear x0 x1 x2 x3 x4 x5 y0 y1 y2 y3 y4 y5 fx fy
      generalize (((((World.setCell _ ⟨w.heap.size + 1, 0, none⟩ _).setCell _ _).setCell _ _).setCell _ _).setCell _ _).setCell _ _ = W at *
      obtain ⟨x0, x1, x2, x3, x4, x5⟩ := hX.nd
      obtain ⟨y0, y1, y2, y3, y4, y5⟩ := hY.nd
      refine bodyPost_ret (v := .tuple #[nda x, nda y]) ?_ rfl ⟨rfl, ⟨_, _, hPP.drew, ?_, ?_⟩, hKK.drew⟩
      · simp only [Nat.zero_add] at x1 x2 x3 x4 x5 y1 y2 y3 y4 y5
        simp [results, Tryz.results72, go_sem, x0, x1, x2, x3, x4, x5, y0, y1, y2, y3, y4, y5]
      · exact HA1.out.pr HP.out hKK.drew
      · exact HB4.out.pr HP.out hKK.drew
end Go.Proofs.YtbhgmfddjnkglaaGreatDoor
