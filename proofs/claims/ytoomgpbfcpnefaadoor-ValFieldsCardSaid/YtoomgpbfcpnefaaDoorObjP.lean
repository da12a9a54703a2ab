/-
  Plain words: rows that are laid of named parts; an object of any names and parts, by their names. No program stands here.
-/
import Derived.Test.YtoomgpbfcpnefaaDoorValP2
import Derived.Test.YtoomgpbfcpnefaaDoorNumOrdP
namespace Go.Proofs.YtoomgpbfcpnefaaDoor
open Go.RowKit Np Rw Vp

/-- A node without a name, of a kind and so many parts. -/
def hdN (kind : Int) (m : Nat) : Nd := ⟨kind, m, [], [], false, 0⟩
abbrev zeroN : Nd := ⟨0, 0, [], [], false, 0⟩
/-- A row whose first node has that name. -/
def setNm (nm : List UInt8) : List Nd → List Nd
  | [] => []
  | n :: l => { n with name := nm } :: l
theorem setNm_len (nm : List UInt8) (l : List Nd) : (setNm nm l).length = l.length := by cases l <;> rfl
abbrev Pr := List UInt8 × List Nd
/-- A list or an object of named parts. -/
def laid (ps : List Pr) : List Nd := (ps.map fun p => setNm p.1 p.2).flatten
theorem laid_snoc (ps : List Pr) (p : Pr) : laid (ps ++ [p]) = laid ps ++ setNm p.1 p.2 := by simp [laid]
theorem laid_nil : laid [] = [] := rfl
theorem laid_cons (p : Pr) (ps : List Pr) : laid (p :: ps) = setNm p.1 p.2 ++ laid ps := by simp [laid]
theorem laid_append (ps qs : List Pr) : laid (ps ++ qs) = laid ps ++ laid qs := by simp [laid]
theorem laid_len (ps : List Pr) : (laid ps).length = (ps.map fun p => p.2.length).sum := by
  induction ps with
  | nil => rfl
  | cons p ps ih => 
    rw [laid_cons, List.length_append, ih, setNm_len]; simp
theorem laid_len' (L : List (List Nd)) : (laid (L.map fun l => ([], l))).length = (L.map List.length).sum := by
  rw [laid_len, List.map_map]; rfl

/-- Named parts, by their names. -/
def srt (ps : List Pr) : List Pr := ps.mergeSort (fun a b => decide (a.1 ≤ b.1))
def rises (ps : List Pr) : Prop := ps.Pairwise (fun a b => a.1 < b.1)
theorem le_of_not {a b : List UInt8} (h : ¬ b < a) : a ≤ b := List.not_lt.1 h
theorem lt_of_ne {a b : List UInt8} (h : ¬ b < a) (hne : a ≠ b) : a < b := by
  rcases Classical.em (a < b) with h1 | h1
  · exact h1
  · exact absurd (List.le_antisymm (le_of_not h) (le_of_not h1)) hne
theorem srt_of {ps qs : List Pr} (hp : ps.Perm qs) (hr : rises ps) : srt qs = ps := by
  have h1 : (srt qs).Perm ps := (List.mergeSort_perm qs _).trans hp.symm
  have h2 : (srt qs).Pairwise (fun a b => decide (a.1 ≤ b.1) = true) := List.pairwise_mergeSort
    (fun a b c h1 h2 => by simp only [decide_eq_true_eq] at *; exact List.le_trans h1 h2)
    (fun a b => by
      rcases List.le_total a.1 b.1 with h | h
      · simp [h]
      · simp [h]) qs
  have h3 : ps.Pairwise (fun a b => decide (a.1 ≤ b.1) = true) := hr.imp fun h => by simpa using List.le_of_lt h
  refine List.Perm.eq_of_pairwise (le := fun a b => decide (a.1 ≤ b.1) = true) ?_ h2 h3 h1
  intro a b ha hb h4 h5
  simp only [decide_eq_true_eq] at h4 h5
  have ha' : a ∈ ps := h1.mem_iff.1 ha
  have he : a.1 = b.1 := List.le_antisymm h4 h5
  have key : ∀ (l : List Pr), rises l → ∀ a ∈ l, ∀ b ∈ l, a.1 = b.1 → a = b := by
    intro l
    induction l with
    | nil => intro _ a ha; simp at ha
    | cons x l ih =>
      intro hr a ha b hb he
      obtain ⟨hx, hl⟩ := List.pairwise_cons.1 hr
      rcases List.mem_cons.1 ha with h1 | h1 <;> rcases List.mem_cons.1 hb with h2 | h2
      · rw [h1, h2]
      · have := hx b h2; rw [← he, h1] at this; exact absurd this (List.lt_irrefl _)
      · have := hx a h1; rw [he, h2] at this; exact absurd this (List.lt_irrefl _)
      · exact ih hl a h1 b h2 he
  exact key ps hr a ha' b hb he
/-- No two of the same, and all are text. -/
def okNames (names : List (List UInt8)) : Bool := decide names.Nodup && names.all vld
def objB (names : List (List UInt8)) (L : List (List Nd)) : Bool := decide (names.length = L.length) && okNames names
def objV (names : List (List UInt8)) (L : List (List Nd)) : List Nd := if objB names L = true then hdN 6 L.length :: laid (srt (names.zip L)) else []
def objE (names : List (List UInt8)) (L : List (List Nd)) : Int := if objB names L = true then 0 else 4

theorem strict : ∀ (q : List (List UInt8)), q.Pairwise (fun a b => ¬ b < a) → (∀ i a b, q[i]? = some a → q[i + 1]? = some b → a ≠ b) → q.Pairwise (· < ·)
  | [], _, _ => List.Pairwise.nil
  | [a], _, _ => by simp
  | a :: c :: q, h, hn => by
    obtain ⟨h1, h2⟩ := List.pairwise_cons.1 h
    have ih := strict (c :: q) h2 (fun i x y hx hy => hn (i + 1) x y (by simpa using hx) (by simpa using hy))
    obtain ⟨h3, h4⟩ := List.pairwise_cons.1 ih
    have hac : a < c := lt_of_ne (h1 c (by simp)) (hn 0 a c rfl rfl)
    refine List.pairwise_cons.2 ⟨fun b hb => ?_, ih⟩
    rcases List.mem_cons.1 hb with rfl | hb
    · exact hac
    · exact List.lt_trans hac (h3 b hb)

abbrev atN (names : List (List UInt8)) (j : Nat) : List UInt8 := names.getD j []
abbrev atL (L : List (List Nd)) (j : Nat) : List Nd := L.getD j []
theorem range_names (names : List (List UInt8)) : (List.range names.length).map (atN names) = names := by
  apply List.ext_getElem
  · simp
  · intro i h1 h2
    simp [atN, List.getD_eq_getElem?_getD, h2]
theorem range_zip (names : List (List UInt8)) (L : List (List Nd)) (h : names.length = L.length) : (List.range names.length).map (fun j => (atN names j, atL L j)) = names.zip L := by
  apply List.ext_getElem
  · simp [h]
  · intro i h1 h2
    simp at h1
    simp [atN, atL, List.getD_eq_getElem?_getD, h1, show i < L.length by omega]
/-- The places, so that the names rise. -/
structure Places (names : List (List UInt8)) (p : List Nat) : Prop where
  perm : p.Perm (List.range names.length)
  rise : p.Pairwise (fun i j => ¬ atN names j < atN names i)
theorem Places.length {names : List (List UInt8)} {p : List Nat} (h : Places names p) : p.length = names.length := by rw [h.perm.length_eq]; simp
theorem Places.lt {names : List (List UInt8)} {p : List Nat} (h : Places names p) {j : Nat} (hj : j ∈ p) : j < names.length := by simpa using h.perm.mem_iff.1 hj
theorem Places.names {names : List (List UInt8)} {p : List Nat} (h : Places names p) : (p.map (atN names)).Perm names := by
  have := h.perm.map (atN names)
  rwa [range_names] at this
theorem Places.same {names : List (List UInt8)} {p : List Nat} (h : Places names p) {k i j : Nat} (hi : p[k]? = some i) (hj : p[k + 1]? = some j) (he : atN names i = atN names j) : okNames names = false := by
  have : ¬ names.Nodup := fun hn => by
    have h2 := h.names.nodup_iff.2 hn
    have h3 : (p.map (atN names))[k]? = some (atN names i) := by rw [List.getElem?_map, hi]; rfl
    have h4 : (p.map (atN names))[k + 1]? = some (atN names j) := by rw [List.getElem?_map, hj]; rfl
    obtain ⟨l3, e3⟩ := List.getElem?_eq_some_iff.1 h3
    obtain ⟨l4, e4⟩ := List.getElem?_eq_some_iff.1 h4
    have h5 := List.pairwise_iff_getElem.1 h2 k (k + 1) l3 l4 (by omega)
    rw [e3, e4] at h5
    exact h5 he
  unfold okNames
  simp [this]
theorem Places.wrong {names : List (List UInt8)} {p : List Nat} (h : Places names p) {i : Nat} (hi : i ∈ p) (hv : vld (atN names i) = false) : okNames names = false := by
  unfold okNames
  have hlt := h.lt hi
  have : names.all vld = false := by
    rw [List.all_eq_false]
    refine ⟨atN names i, ?_, by rw [hv]; decide⟩
    rw [atN, List.getD_eq_getElem?_getD, List.getElem?_eq_getElem hlt]
    exact List.getElem_mem hlt
  simp [this]
theorem Places.good {names : List (List UInt8)} {p : List Nat} (h : Places names p) (hv : ∀ i ∈ p, vld (atN names i) = true) (hn : ∀ k i j, p[k]? = some i → p[k + 1]? = some j → atN names i ≠ atN names j) :
    okNames names = true ∧ (p.map (atN names)).Pairwise (· < ·) := by
  have hs : (p.map (atN names)).Pairwise (· < ·) := by
    refine strict _ (List.pairwise_map.2 h.rise) fun k a b ha hb => ?_
    rw [List.getElem?_map] at ha hb
    obtain ⟨i, hi, rfl⟩ := Option.map_eq_some_iff.1 ha
    obtain ⟨j, hj, rfl⟩ := Option.map_eq_some_iff.1 hb
    exact hn k i j hi hj
  refine ⟨?_, hs⟩
  unfold okNames
  rw [Bool.and_eq_true, decide_eq_true_eq]
  refine ⟨h.names.nodup_iff.1 (List.Pairwise.imp (R := (· < ·)) (fun {a b} hab (e : a = b) => by subst e; exact List.lt_irrefl a hab) hs), ?_⟩
  rw [List.all_eq_true]
  intro x hx
  obtain ⟨i, hi, rfl⟩ := List.mem_map.1 (h.names.mem_iff.2 hx)
  exact hv i hi
theorem Places.pairs {names : List (List UInt8)} {L : List (List Nd)} {p : List Nat} (h : Places names p) (hl : names.length = L.length) (hs : (p.map (atN names)).Pairwise (· < ·)) :
    srt (names.zip L) = p.map (fun j => (atN names j, atL L j)) := by
  refine srt_of ?_ (List.pairwise_map.2 (List.pairwise_map.1 hs))
  have := h.perm.map (fun j => (atN names j, atL L j))
  rwa [range_zip names L hl] at this
theorem sum_part {α : Type} (f : α → Nat) (p : List α) (k : Nat) : ((p.take k).map f).sum ≤ (p.map f).sum := by
  conv => rhs; rw [← List.take_append_drop k p]
  rw [List.map_append, List.sum_append]
  omega
theorem Places.sum {names : List (List UInt8)} {L : List (List Nd)} {p : List Nat} (h : Places names p) (hl : names.length = L.length) : (p.map fun x => (atL L x).length).sum = (L.map List.length).sum := by
  rw [(h.perm.map (fun x => (atL L x).length)).sum_nat, hl]
  congr 1
  apply List.ext_getElem
  · simp
  · intro i h1 h2
    simp at h1
    simp [atL, List.getD_eq_getElem?_getD, h1]
theorem Places.long {names : List (List UInt8)} {L : List (List Nd)} {p : List Nat} (h : Places names p) (hl : names.length = L.length) (k : Nat) : (laid ((p.take k).map fun x => (atN names x, atL L x))).length ≤ (L.map List.length).sum := by
  rw [laid_len, List.map_map]
  have := sum_part (fun x => (atL L x).length) p k
  rw [h.sum hl] at this
  exact this
end Go.Proofs.YtoomgpbfcpnefaaDoor
