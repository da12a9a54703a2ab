/-
  Joined: Mem, ValP, ValP2, FindP.
-/
import Derived.Test.YtbffeffplabaeaaOrderTotalJ1
import Derived.Below
import Derived.Laws.OwnMore
import Derived.Deep.AppendLies
import Derived.Deep.Draws
import Derived.Maps.AppendAt
import Derived.RegionTactic
import Derived.OwnWalk
import Derived.Deep.Light
import Derived.Lib.ValidU

/-
  Words for memory: a slice whose elements read as a list (nil let in), whatever the elements' cells; rows of nodes, of strings, of numbers, of rows.
-/
namespace Go.Proofs.Ytbffeffplabaeaa
open Go.RowKit Np

theorem quiet_more {w w' : World} (h : ∃ n, w' = w.drewN n) (k : Nat) : ∃ n, w'.drewN k = w.drewN n := by
  obtain ⟨n, rfl⟩ := h
  exact ⟨n + k, by rw [World.drewN_drewN]⟩

/-- The cells at a place are these. -/
def CellsAt (w : World) (g o : Nat) (cs : List Value) : Prop := ∀ j u, cs[j]? = some u → w.cell? ⟨g, o + j, none⟩ = some u
theorem CellsAt.below {w w' : World} {g o : Nat} {cs : List Value} (h : CellsAt w g o cs) (hg : g < w.heap.size) (hb : Below w.heap.size w w') : CellsAt w' g o cs :=
  fun j u hu => (hb.cell (p := ⟨g, o + j, none⟩) hg).trans (h j u hu)

/-- A slice's value: it reads as this list. -/
def Row {α : Type} (enc : α → List Value) (sz : Nat) (w : World) (v : Value) (l : List α) : Prop :=
  ∃ (A : Option Addr) (c : Nat), v = .slice A l.length c ∧ l.length ≤ c ∧ c ≤ maxLen ∧ (A = none → c = 0) ∧ (0 < l.length → ∃ g o : Nat, A = some ⟨g, o, none⟩ ∧ g < w.heap.size ∧ ∀ k x, l[k]? = some x → CellsAt w g (o + k * sz) (enc x))

section
variable {α : Type} {enc : α → List Value} {sz : Nat} {w w' : World} {v : Value} {l : List α}
theorem Row.below (h : Row enc sz w v l) (hb : Below w.heap.size w w') : Row enc sz w' v l := by
  obtain ⟨A, c, hv, hc, hm, hz, H⟩ := h
  refine ⟨A, c, hv, hc, hm, hz, fun h0 => ?_⟩
  obtain ⟨g, o, hA, hg, hx⟩ := H h0
  exact ⟨g, o, hA, Nat.lt_of_lt_of_le hg hb.size, fun k x hk => (hx k x hk).below hg hb⟩
/-- It reads on, where what lies below its block's bound does. -/
theorem Row.low {g o c n : Nat} (h : Row enc sz w (.slice (some ⟨g, o, none⟩) l.length c) l) (hg : g < n) (hb : Below n w w') : Row enc sz w' (.slice (some ⟨g, o, none⟩) l.length c) l := by
  obtain ⟨A, c', hv, hc, hm, hz, H⟩ := h
  refine ⟨A, c', hv, hc, hm, hz, fun h0 => ?_⟩
  obtain ⟨g', o', hA, hg', hx⟩ := H h0
  injection hv with e1 _ _
  rw [hA] at e1
  injection e1 with e1
  injection e1 with e1 _
  subst e1
  exact ⟨g, o', hA, Nat.lt_of_lt_of_le hg' hb.size, fun k x hk j u hu => (hb.cell (p := ⟨g, o' + k * sz + j, none⟩) hg).trans (hx k x hk j u hu)⟩
theorem Row.below' {B : Nat} (h : Row enc sz w v l) (hb : Below B w w') (hB : w.heap.size ≤ B) : Row enc sz w' v l := h.below (hb.mono hB)
theorem Row.nil (w : World) : Row enc sz w (.slice none 0 0) ([] : List α) := ⟨none, 0, rfl, Nat.le_refl _, Nat.zero_le _, fun _ => rfl, fun h => absurd h (by simp)⟩
theorem Row.empty (w : World) (ad : Addr) (c : Nat) (hm : c ≤ maxLen) : Row enc sz w (.slice (some ad) 0 c) ([] : List α) := ⟨some ad, c, rfl, Nat.zero_le _, hm, fun h => (by cases h), fun h => absurd h (by simp)⟩
/-- With something in it, it has a place. -/
theorem Row.opened (h : Row enc sz w v l) (h0 : 0 < l.length) : ∃ g o c : Nat, v = .slice (some ⟨g, o, none⟩) l.length c ∧ l.length ≤ c ∧ c ≤ maxLen ∧ g < w.heap.size ∧ ∀ k x, l[k]? = some x → CellsAt w g (o + k * sz) (enc x) := by
  obtain ⟨A, c, rfl, hc, hm, _, H⟩ := h
  obtain ⟨g, o, rfl, hg, hx⟩ := H h0
  exact ⟨g, o, c, rfl, hc, hm, hg, hx⟩
theorem Row.len (h : Row enc sz w v l) : l.length ≤ maxLen := by
  obtain ⟨A, c, _, hc, hm, _, _⟩ := h
  omega
theorem Row.mk {g o c : Nat} (hc : l.length ≤ c) (hm : c ≤ maxLen) (hg : g < w.heap.size) (hx : ∀ k x, l[k]? = some x → CellsAt w g (o + k * sz) (enc x)) : Row enc sz w (.slice (some ⟨g, o, none⟩) l.length c) l :=
  ⟨_, c, rfl, hc, hm, fun h => (by cases h), fun _ => ⟨g, o, rfl, hg, hx⟩⟩
end

/-- A node's value. -/
abbrev nda (n : Nd) : Value := .agg #[.int .i64 n.kind, .int .i64 n.many, .string ⟨n.name.toArray⟩, .string ⟨n.s.toArray⟩, .bool n.neg, .int .i64 n.e]
/-- A node's six cells, as values. -/
def ndc (n : Nd) : List Value := [.int .i64 n.kind, .int .i64 n.many, .string ⟨n.name.toArray⟩, .string ⟨n.s.toArray⟩, .bool n.neg, .int .i64 n.e]
def stc (s : List UInt8) : List Value := [.string ⟨s.toArray⟩]
def inc (n : Int) : List Value := [.int .i64 n]
abbrev Nds (w : World) (v : Value) (l : List Nd) : Prop := Row ndc 6 w v l
abbrev Sts (w : World) (v : Value) (l : List (List UInt8)) : Prop := Row stc 1 w v l
abbrev Ins (w : World) (v : Value) (l : List Int) : Prop := Row inc 1 w v l

/-- A node's six cells. -/
structure Nd6 (w : World) (g o : Nat) (n : Nd) : Prop where
  c0 : w.cell? ⟨g, o, none⟩ = some (.int .i64 n.kind)
  c1 : w.cell? ⟨g, o + 1, none⟩ = some (.int .i64 n.many)
  c2 : w.cell? ⟨g, o + 2, none⟩ = some (.string ⟨n.name.toArray⟩)
  c3 : w.cell? ⟨g, o + 3, none⟩ = some (.string ⟨n.s.toArray⟩)
  c4 : w.cell? ⟨g, o + 4, none⟩ = some (.bool n.neg)
  c5 : w.cell? ⟨g, o + 5, none⟩ = some (.int .i64 n.e)
theorem CellsAt.nd {w : World} {g o : Nat} {n : Nd} (h : CellsAt w g o (ndc n)) : Nd6 w g o n := ⟨h 0 _ rfl, h 1 _ rfl, h 2 _ rfl, h 3 _ rfl, h 4 _ rfl, h 5 _ rfl⟩
theorem Nd6.quiet {w w' : World} {g o : Nat} {n : Nd} (h : Nd6 w g o n) (hq : ∃ m, w' = w.drewN m) : Nd6 w' g o n := by
  obtain ⟨m, rfl⟩ := hq
  exact ⟨h.c0, h.c1, h.c2, h.c3, h.c4, h.c5⟩
theorem Nd6.drewN {w : World} {g o : Nat} {n : Nd} (h : Nd6 w g o n) (m : Nat) : Nd6 (w.drewN m) g o n := ⟨h.c0, h.c1, h.c2, h.c3, h.c4, h.c5⟩
theorem Nd6.below {w w' : World} {g o : Nat} {n : Nd} (h : Nd6 w g o n) (hg : g < w.heap.size) (hb : Below w.heap.size w w') : Nd6 w' g o n :=
  ⟨(hb.cell hg).trans h.c0, (hb.cell hg).trans h.c1, (hb.cell hg).trans h.c2, (hb.cell hg).trans h.c3, (hb.cell hg).trans h.c4, (hb.cell hg).trans h.c5⟩

theorem CellsAt.one {w : World} {g o k : Nat} {v : Value} (h : CellsAt w g (o + k * 1) [v]) : w.cell? ⟨g, o + k, none⟩ = some v := by
  have := h 0 _ rfl; rwa [Nat.mul_one] at this
theorem CellsAt.st {w : World} {g o k : Nat} {s : List UInt8} (h : CellsAt w g (o + k * 1) (stc s)) : w.cell? ⟨g, o + k, none⟩ = some (.string ⟨s.toArray⟩) := CellsAt.one h
theorem CellsAt.int {w : World} {g o k : Nat} {n : Int} (h : CellsAt w g (o + k * 1) (inc n)) : w.cell? ⟨g, o + k, none⟩ = some (.int .i64 n) := CellsAt.one h
theorem cell_quiet {w w' : World} {p : Addr} {v : Value} (h : w.cell? p = some v) (hq : ∃ m, w' = w.drewN m) : w'.cell? p = some v := by
  obtain ⟨m, rfl⟩ := hq
  exact h
theorem Row.quiet {α : Type} {enc : α → List Value} {sz : Nat} {w w' : World} {v : Value} {l : List α} (h : Row enc sz w v l) (hq : ∃ m, w' = w.drewN m) : Row enc sz w' v l := h.below (below_quiet hq)

/-- A slice of slices, each of which reads as a list. -/
def Rowz {α : Type} (enc : α → List Value) (sz : Nat) (w : World) (v : Value) (L : List (List α)) : Prop :=
  ∃ vs : List Value, vs.length = L.length ∧ Row (fun x => [x]) 1 w v vs ∧ ∀ (k : Nat) (x : Value) (l : List α), vs[k]? = some x → L[k]? = some l → Row enc sz w x l
abbrev Vls (w : World) (v : Value) (L : List (List Nd)) : Prop := Rowz ndc 6 w v L
section
variable {α : Type} {enc : α → List Value} {sz : Nat} {w w' : World} {v : Value} {L : List (List α)}
theorem Rowz.below (h : Rowz enc sz w v L) (hb : Below w.heap.size w w') : Rowz enc sz w' v L := by
  obtain ⟨vs, hl, h1, h2⟩ := h
  exact ⟨vs, hl, h1.below hb, fun k x l hx hk => (h2 k x l hx hk).below hb⟩
end

theorem bytes_eq_iff (a b : ByteArray) : a.toList = b.toList ↔ a = b := by
  rw [ByteArray.toList_eq, ByteArray.toList_eq]
  exact ⟨fun h => ByteArray.ext (Array.toList_inj.1 h), fun h => by rw [h]⟩
theorem mk_inj (a b : List UInt8) : ByteArray.mk a.toArray = ByteArray.mk b.toArray ↔ a = b := by
  constructor
  · intro h; have := congrArg (fun x : ByteArray => x.data.toList) h; simpa using this
  · rintro rfl; rfl

set_option maxHeartbeats 1000000 in
theorem eql_nd (a b : Nd) (w : World) :
    (binOp .eql 38 (.agg #[.int .i64 a.kind, .int .i64 a.many, .string ⟨a.name.toArray⟩, .string ⟨a.s.toArray⟩, .bool a.neg, .int .i64 a.e]) (.agg #[.int .i64 b.kind, .int .i64 b.many, .string ⟨b.name.toArray⟩, .string ⟨b.s.toArray⟩, .bool b.neg, .int .i64 b.e])).run Try.prog w
      = .ok (.bool (decide (a = b))) w := by
  obtain ⟨k, m, nm, s, g, x⟩ := a
  obtain ⟨k2, m2, nm2, s2, g2, x2⟩ := b
  simp only [Nd.mk.injEq]
  by_cases h1 : k = k2
  · by_cases h2 : m = m2
    · by_cases h3 : nm = nm2
      · by_cases h4 : s = s2
        · by_cases h5 : g = g2
          · by_cases h6 : x = x2
            · subst h1 h2 h3 h4 h5 h6; simp [go_sem]
            · subst h1 h2 h3 h4 h5; simp [go_sem, h6]
          · subst h1 h2 h3 h4; simp [go_sem, h5]
        · subst h1 h2 h3; simp [go_sem, h4]
      · subst h1 h2; simp [go_sem, h3]
    · subst h1; simp [go_sem, h2]
  · simp [go_sem, h1]
set_option maxHeartbeats 1000000 in
theorem neq_nd (a b : Nd) (w : World) :
    (binOp .neq 38 (.agg #[.int .i64 a.kind, .int .i64 a.many, .string ⟨a.name.toArray⟩, .string ⟨a.s.toArray⟩, .bool a.neg, .int .i64 a.e]) (.agg #[.int .i64 b.kind, .int .i64 b.many, .string ⟨b.name.toArray⟩, .string ⟨b.s.toArray⟩, .bool b.neg, .int .i64 b.e])).run Try.prog w
      = .ok (.bool (!decide (a = b))) w := by
  obtain ⟨k, m, nm, s, g, x⟩ := a
  obtain ⟨k2, m2, nm2, s2, g2, x2⟩ := b
  simp only [Nd.mk.injEq]
  by_cases h1 : k = k2
  · by_cases h2 : m = m2
    · by_cases h3 : nm = nm2
      · by_cases h4 : s = s2
        · by_cases h5 : g = g2
          · by_cases h6 : x = x2
            · subst h1 h2 h3 h4 h5 h6; simp [go_sem]
            · subst h1 h2 h3 h4 h5; simp [go_sem, h6]
          · subst h1 h2 h3 h4; simp [go_sem, h5]
        · subst h1 h2 h3; simp [go_sem, h4]
      · subst h1 h2; simp [go_sem, h3]
    · subst h1; simp [go_sem, h2]
  · simp [go_sem, h1]
/-- Are these two nodes the same? -/
def sameNode (k m : Int) (nm s : ByteArray) (g : Bool) (x : Int) (k2 m2 : Int) (nm2 s2 : ByteArray) (g2 : Bool) (x2 : Int) : Bool :=
  decide (k = k2 ∧ m = m2 ∧ nm = nm2 ∧ s = s2 ∧ g = g2 ∧ x = x2)

set_option maxHeartbeats 1000000 in
theorem eql_node (k m : Int) (nm s : ByteArray) (g : Bool) (x : Int) (k2 m2 : Int) (nm2 s2 : ByteArray) (g2 : Bool) (x2 : Int) (w : World) :
    (binOp .eql 38 (.agg #[.int .i64 k, .int .i64 m, .string nm, .string s, .bool g, .int .i64 x]) (.agg #[.int .i64 k2, .int .i64 m2, .string nm2, .string s2, .bool g2, .int .i64 x2])).run Try.prog w
      = .ok (.bool (sameNode k m nm s g x k2 m2 nm2 s2 g2 x2)) w := by
  unfold sameNode
  by_cases h1 : k = k2
  · by_cases h2 : m = m2
    · by_cases h3 : nm = nm2
      · by_cases h4 : s = s2
        · by_cases h5 : g = g2
          · by_cases h6 : x = x2
            · subst h1 h2 h3 h4 h5 h6; simp [go_sem]
            · subst h1 h2 h3 h4 h5; simp [go_sem, h6]
          · subst h1 h2 h3 h4; simp [go_sem, h5]
        · have h4' : ¬ s.toList = s2.toList := fun h => h4 ((bytes_eq_iff _ _).1 h)
          subst h1 h2 h3; simp [go_sem, h4, h4']
      · have h3' : ¬ nm.toList = nm2.toList := fun h => h3 ((bytes_eq_iff _ _).1 h)
        subst h1 h2; simp [go_sem, h3, h3']
    · subst h1; simp [go_sem, h2]
  · simp [go_sem, h1]

end Go.Proofs.Ytbffeffplabaeaa

/-
  Plain words on values: which nodes are right, which rows are right values (by a walk along the row; by its trees), how deep they are. No program stands here.
-/
namespace Go.Proofs.Ytbffeffplabaeaa
namespace Vp
open Go.RowKit Np Rw

abbrev many (n : Nd) : Int := n.many
abbrev vld (s : List UInt8) : Bool := Lib.validD s

/-- Is a node right, whatever its name? -/
def plainN (n : Nd) : Bool :=
  if n.kind = 0 ∨ n.kind = 1 ∨ n.kind = 2 then decide (n.many = 0) && decide (n.s = []) && !n.neg && decide (n.e = 0)
  else if n.kind = 3 then right { n with name := [] }
  else if n.kind = 4 then decide (n.many = 0) && vld n.s && !n.neg && decide (n.e = 0)
  else if n.kind = 5 ∨ n.kind = 6 then decide (0 ≤ n.many) && decide (n.s = []) && !n.neg && decide (n.e = 0)
  else false

theorem plainN_many {n : Nd} (h : plainN n = true) : 0 ≤ n.many ∧ (n.kind ≠ 5 → n.kind ≠ 6 → n.many = 0) := by
  unfold plainN at h
  split at h
  · simp at h; omega
  · split at h
    · simp [right] at h; omega
    · split at h
      · simp at h; omega
      · split at h
        · simp at h; omega
        · cases h

/-- May a part of that name come next in one of that kind? -/
def lets (kind : Int) (begun : Bool) (ahead : List UInt8) (name : List UInt8) : Bool :=
  if kind = 6 then vld name && (!begun || decide (ahead < name)) else decide (name = [])

structure Hd where
  kind : Int
  left : Int
  begun : Bool
  ahead : List UInt8
deriving DecidableEq

/-- The holders, the innermost first, behind those that are full. -/
def pop : List Hd → List Hd
  | [] => []
  | h :: st => if h.left = 0 then pop st else h :: st
def stepH (h : Hd) (n : Nd) : Hd := ⟨h.kind, h.left - 1, true, n.name⟩
def passH : List Hd → Nd → List Hd
  | [], _ => []
  | h :: st, n => if 0 < n.many then ⟨n.kind, n.many, false, []⟩ :: stepH h n :: st else pop (stepH h n :: st)
theorem passH_cons (h : Hd) (st : List Hd) (n : Nd) : passH (h :: st) n = if 0 < n.many then ⟨n.kind, n.many, false, []⟩ :: stepH h n :: st else pop (stepH h n :: st) := rfl
def run : List Hd → List Nd → Bool
  | st, [] => st.isEmpty
  | [], _ :: _ => false
  | h :: st, n :: l => lets h.kind h.begun h.ahead n.name && plainN n && run (passH (h :: st) n) l
def start : List Hd := [⟨5, 1, false, []⟩]
/-- Is a row a right value? (By a walk along it.) -/
def rightL (l : List Nd) : Bool := run start l

theorem run_nil (st : List Hd) : run st [] = st.isEmpty := by cases st <;> simp [run]
theorem run_cons (h : Hd) (st : List Hd) (n : Nd) (l : List Nd) : run (h :: st) (n :: l) = (lets h.kind h.begun h.ahead n.name && plainN n && run (passH (h :: st) n) l) := by simp [run]

/-- All holders but the innermost may be full. -/
def Fit : List Hd → Prop
  | [] => True
  | h :: st => 1 ≤ h.left ∧ ∀ x ∈ st, 0 ≤ x.left
theorem pop_fit : ∀ {st : List Hd}, (∀ x ∈ st, 0 ≤ x.left) → Fit (pop st)
  | [], _ => by simp [pop, Fit]
  | h :: st, hh => by
    have h0 := hh h (by simp)
    have h1 : ∀ x ∈ st, 0 ≤ x.left := fun x hx => hh x (by simp [hx])
    unfold pop
    split
    · exact pop_fit h1
    · exact ⟨by omega, h1⟩
theorem passH_fit {st : List Hd} {n : Nd} (h : Fit st) : Fit (passH st n) := by
  cases st with
  | nil => simp [passH, Fit]
  | cons a st =>
    obtain ⟨h1, h2⟩ := h
    have h3 : ∀ x ∈ stepH a n :: st, 0 ≤ x.left := by
      intro x hx
      rcases List.mem_cons.1 hx with rfl | hx
      · simp [stepH]; omega
      · exact h2 x hx
    rw [passH_cons]
    split
    · rename_i h0; exact ⟨by simp; omega, h3⟩
    · exact pop_fit h3
def sumH : List Hd → Nat
  | [] => 0
  | h :: st => h.left.toNat + sumH st
theorem sumH_pop : ∀ st : List Hd, sumH (pop st) = sumH st
  | [] => rfl
  | h :: st => by
    unfold pop
    split
    · rename_i h0; rw [sumH_pop st, sumH, h0]; simp
    · rfl
theorem pop_len : ∀ st : List Hd, (pop st).length ≤ st.length
  | [] => Nat.le_refl _
  | h :: st => by
    unfold pop
    split
    · exact Nat.le_succ_of_le (pop_len st)
    · exact Nat.le_refl _
theorem passH_len (st : List Hd) (n : Nd) : (passH st n).length ≤ st.length + 1 := by
  cases st with
  | nil => simp [passH]
  | cons h st =>
    rw [passH_cons]
    split
    · simp
    · have := pop_len (stepH h n :: st); simp at this ⊢; omega
theorem run_skip : ∀ (l : List Nd) (st : List Hd), Fit st → run st l = true → skip many l (sumH st) = some []
  | [], st, _, h => by
    rw [run_nil, List.isEmpty_iff] at h
    subst h; rfl
  | n :: l, [], _, h => by simp [run] at h
  | n :: l, a :: st, hf, h => by
    rw [run_cons, Bool.and_eq_true, Bool.and_eq_true] at h
    obtain ⟨⟨_, hp⟩, hr⟩ := h
    have h0 := (plainN_many hp).1
    have ih := run_skip l _ (passH_fit hf) hr
    obtain ⟨h1, h2⟩ := hf
    have e : sumH (a :: st) = (a.left - 1).toNat + sumH st + 1 := by rw [sumH]; omega
    rw [e, skip_cons, if_neg (by show ¬ n.many < 0; omega)]
    rw [← ih]
    congr 1
    rw [passH_cons]
    split
    · simp [sumH, stepH, many]; omega
    · rw [sumH_pop]; simp [sumH, stepH, many]; omega

mutual
/-- Is a tree a right value's, whatever its name? -/
def rightT : Tr Nd → Bool
  | .mk n ks => plainN n && rightKs n.kind false [] ks
def rightKs (kind : Int) : Bool → List UInt8 → List (Tr Nd) → Bool
  | _, _, [] => true
  | b, a, t :: ts => lets kind b a t.nd.name && rightT t && rightKs kind true t.nd.name ts
end
theorem rightT_mk (n : Nd) (ks : List (Tr Nd)) : rightT (.mk n ks) = (plainN n && rightKs n.kind false [] ks) := by simp [rightT]
theorem rightT_eq (t : Tr Nd) : rightT t = (plainN t.nd && rightKs t.nd.kind false [] t.ks) := by cases t; simp [rightT]
@[simp] theorem rightKs_nil (k : Int) (b : Bool) (a : List UInt8) : rightKs k b a [] = true := by simp [rightKs]
theorem rightKs_cons (k : Int) (b : Bool) (a : List UInt8) (t : Tr Nd) (ts : List (Tr Nd)) : rightKs k b a (t :: ts) = (lets k b a t.nd.name && rightT t && rightKs k true t.nd.name ts) := by simp [rightKs]

mutual
theorem run_flat : ∀ (t : Tr Nd) (h : Hd) (st : List Hd) (r : List Nd), okT many t →
    run (h :: st) (flat t ++ r) = (lets h.kind h.begun h.ahead t.nd.name && rightT t && run (pop (stepH h t.nd :: st)) r)
  | .mk n ks, h, st, r, ho => by
    obtain ⟨h1, h2⟩ := okT_mk.1 ho
    have h1' : n.many = ks.length := h1
    rw [flat_mk, List.cons_append, run_cons, rightT_mk, Tr.nd_mk]
    cases ks with
    | nil =>
      have h0 : n.many = 0 := h1'
      simp [passH, h0]
    | cons t ts =>
      have h0 : 0 < n.many := by rw [h1', List.length_cons]; omega
      rw [passH, if_pos h0, run_flats (t :: ts) ⟨n.kind, n.many, false, []⟩ (stepH h n :: st) r h2 (by simp) (by simpa using h1')]
      simp only [Bool.and_assoc]
theorem run_flats : ∀ (ts : List (Tr Nd)) (h : Hd) (st : List Hd) (r : List Nd), okTs many ts → ts ≠ [] → h.left = ts.length →
    run (h :: st) (flats ts ++ r) = (rightKs h.kind h.begun h.ahead ts && run (pop st) r)
  | [], _, _, _, _, h0, _ => absurd rfl h0
  | [t], h, st, r, ho, _, hl => by
    rw [flats_cons, flats_nil, List.append_nil, run_flat t h st r (okTs_cons.1 ho).1, rightKs_cons, rightKs_nil]
    have : (stepH h t.nd).left = 0 := by simp [stepH, hl]
    rw [pop, if_pos this, Bool.and_true]
  | t :: u :: ts, h, st, r, ho, _, hl => by
    obtain ⟨h1, h2⟩ := okTs_cons.1 ho
    rw [flats_cons, List.append_assoc, run_flat t h st _ h1, rightKs_cons]
    have : ¬ (stepH h t.nd).left = 0 := by simp [stepH, hl]; omega
    rw [pop, if_neg this, run_flats (u :: ts) (stepH h t.nd) st r h2 (by simp) (by simp [stepH, hl])]
    simp only [stepH, Bool.and_assoc]
end

/-- A right value's tree. -/
structure Val (t : Tr Nd) : Prop where
  ok : okT many t
  rt : rightT t = true
  nm : t.nd.name = []

theorem rightL_flat {t : Tr Nd} (h : okT many t) : rightL (flat t) = (decide (t.nd.name = []) && rightT t) := by
  have := run_flat t ⟨5, 1, false, []⟩ [] [] h
  rw [List.append_nil] at this
  rw [rightL, start, this]
  have e : pop [stepH ⟨5, 1, false, []⟩ t.nd] = [] := by simp [pop, stepH]
  rw [e, run_nil]
  simp [lets]
theorem rightL_val {t : Tr Nd} (h : Val t) : rightL (flat t) = true := by rw [rightL_flat h.ok, h.rt, h.nm]; rfl
theorem val_of_rightL {l : List Nd} (h : rightL l = true) : ∃ t, Val t ∧ l = flat t := by
  have h1 := run_skip l start ⟨by simp, by simp⟩ h
  obtain ⟨t, ht, rfl⟩ := skip_one (many := many) h1
  rw [rightL_flat ht, Bool.and_eq_true, decide_eq_true_eq] at h
  exact ⟨t, ⟨ht, h.2, h.1⟩, rfl⟩
theorem rightL_no_skip {l : List Nd} (h : skip many l 1 ≠ some []) : rightL l = false := by
  rw [← Bool.not_eq_true]
  intro h1
  exact h (run_skip l start ⟨by simp, by simp⟩ h1)

/-! By the nodes, one by one. -/
def nameOk (kind : Int) (t : Tr Nd) : Bool := (!decide (kind = 5) || decide (t.nd.name = [])) && vld t.nd.name
def rising (kind : Int) : List (Tr Nd) → Bool
  | [] => true
  | [t] => nameOk kind t
  | t :: u :: ts => nameOk kind t && (!decide (kind = 6) || decide (t.nd.name < u.nd.name)) && rising kind (u :: ts)
def nodeOk (t : Tr Nd) : Bool := plainN t.nd && rising t.nd.kind t.ks

theorem rising_nil (kind : Int) : rising kind [] = true := rfl
theorem vld_nil : vld [] = true := rfl

theorem rightKs_six : ∀ (ts : List (Tr Nd)) (a : List UInt8), rightKs 6 true a ts = ((match ts with | [] => true | t :: _ => decide (a < t.nd.name)) && rising 6 ts && ts.all rightT)
  | [], _ => rfl
  | [t], a => by simp [rightKs_cons, lets, rising, nameOk]; cases vld t.nd.name <;> cases decide (a < t.nd.name) <;> simp
  | t :: u :: ts, a => by
    rw [rightKs_cons, rightKs_six (u :: ts) t.nd.name]
    simp only [lets, rising, nameOk, List.all_cons]
    simp
    cases vld t.nd.name <;> cases decide (a < t.nd.name) <;> cases rightT t <;> simp
theorem rightKs_obj (ts : List (Tr Nd)) : rightKs 6 false [] ts = (rising 6 ts && ts.all rightT) := by
  cases ts with
  | nil => rfl
  | cons t ts =>
    rw [rightKs_cons, rightKs_six]
    cases ts with
    | nil => simp [lets, rising, nameOk]
    | cons u ts =>
      simp only [lets, rising, nameOk, List.all_cons]
      simp
      cases vld t.nd.name <;> cases rightT t <;> simp
theorem rightKs_arr : ∀ (ts : List (Tr Nd)) (b : Bool) (a : List UInt8), rightKs 5 b a ts = (rising 5 ts && ts.all rightT)
  | [], _, _ => rfl
  | [t], b, a => by
    simp [rightKs_cons, lets, rising, nameOk]
    by_cases h : t.nd.name = []
    · simp [h, vld_nil]
    · simp [h]
  | t :: u :: ts, b, a => by
    rw [rightKs_cons, rightKs_arr (u :: ts)]
    simp only [lets, rising, nameOk, List.all_cons]
    by_cases h : t.nd.name = []
    · simp [h, vld_nil]; cases rightT t <;> simp
    · simp [h]
theorem rightT_node {t : Tr Nd} (h : okT many t) : rightT t = (nodeOk t && t.ks.all rightT) := by
  obtain ⟨n, ks⟩ := t
  obtain ⟨h1, _⟩ := okT_mk.1 h
  have h1' : n.many = ks.length := h1
  rw [rightT_mk]
  simp only [nodeOk, Tr.nd_mk, Tr.ks_mk]
  cases hp : plainN n
  · simp
  · have h2 := (plainN_many hp).2
    by_cases h5 : n.kind = 5
    · rw [h5, rightKs_arr]; simp
    · by_cases h6 : n.kind = 6
      · rw [h6, rightKs_obj]; simp
      · have h0 : ks = [] := by
          have := h2 h5 h6
          cases ks with
          | nil => rfl
          | cons t ts => rw [h1'] at this; simp at this; omega
        subst h0
        simp [rising_nil]
mutual
theorem rightT_subs : ∀ t : Tr Nd, okT many t → rightT t = (subs t).all nodeOk
  | .mk n ks, h => by
    rw [rightT_node h, subs_mk, List.all_cons, Tr.ks_mk, rightTs_subs ks (okT_mk.1 h).2]
theorem rightTs_subs : ∀ ts : List (Tr Nd), okTs many ts → ts.all rightT = (subss ts).all nodeOk
  | [], _ => by simp
  | t :: ts, h => by
    obtain ⟨h1, h2⟩ := okTs_cons.1 h
    rw [subss_cons, List.all_append, List.all_cons, rightT_subs t h1, rightTs_subs ts h2]
end

theorem val_kids {t : Tr Nd} (h : Val t) : ∀ k ∈ t.ks, okT many k ∧ rightT k = true := by
  have h1 := rightT_node h.ok
  rw [h.rt] at h1
  have h2 : (nodeOk t && t.ks.all rightT) = true := h1.symm
  rw [Bool.and_eq_true, List.all_eq_true] at h2
  intro k hk
  exact ⟨okTs_all.1 (okT_eq.1 h.ok).2 k hk, h2.2 k hk⟩

/-! How deep a value is. -/
def cont (k : Int) : Bool := decide (k = 5) || decide (k = 6)
mutual
def depth : Tr Nd → Nat
  | .mk n ks => if cont n.kind = true then depths ks + 1 else 0
def depths : List (Tr Nd) → Nat
  | [] => 0
  | t :: ts => max (depth t) (depths ts)
end
theorem depth_mk (n : Nd) (ks : List (Tr Nd)) : depth (.mk n ks) = if cont n.kind = true then depths ks + 1 else 0 := by rw [depth]
theorem depth_eq (t : Tr Nd) : depth t = if cont t.nd.kind = true then depths t.ks + 1 else 0 := by cases t; rw [depth_mk]; rfl
@[simp] theorem depths_nil : depths [] = 0 := by simp [depths]
@[simp] theorem depths_cons (t : Tr Nd) (ts : List (Tr Nd)) : depths (t :: ts) = max (depth t) (depths ts) := by simp [depths]
/-- The walk along a row that tells how deep it is. -/
def deepG : List Hd → Nat → List Nd → Nat
  | _, d, [] => d
  | st, d, n :: l => deepG (passH st n) (if cont n.kind = true then max d st.length else d) l
theorem deepG_cons (st : List Hd) (d : Nat) (n : Nd) (l : List Nd) : deepG st d (n :: l) = deepG (passH st n) (if cont n.kind = true then max d st.length else d) l := by simp [deepG]
mutual
theorem deepG_flat : ∀ (t : Tr Nd) (h : Hd) (st : List Hd) (d : Nat) (r : List Nd), okT many t → rightT t = true →
    deepG (h :: st) d (flat t ++ r) = deepG (pop (stepH h t.nd :: st)) (if depth t = 0 then d else max d (st.length + depth t)) r
  | .mk n ks, h, st, d, r, ho, hr => by
    obtain ⟨h1, h2⟩ := okT_mk.1 ho
    have h1' : n.many = ks.length := h1
    rw [rightT_node ho, Bool.and_eq_true, List.all_eq_true] at hr
    obtain ⟨hr1, hr2⟩ := hr
    have hp : plainN n = true := by rw [nodeOk, Bool.and_eq_true] at hr1; exact hr1.1
    rw [flat_mk, List.cons_append, deepG_cons, depth_mk, Tr.nd_mk]
    cases ks with
    | nil =>
      have h0 : n.many = 0 := h1'
      rw [passH, if_neg (by omega), flats_nil, List.nil_append]
      cases hc : cont n.kind <;> simp
    | cons t ts =>
      have h0 : 0 < n.many := by rw [h1', List.length_cons]; omega
      have hc : cont n.kind = true := by
        have := (plainN_many hp).2
        simp [cont]; omega
      rw [passH, if_pos h0, deepG_flats (t :: ts) _ _ _ r h2 (by simp) (by simpa using h1') (fun k hk => hr2 k hk)]
      congr 1
      simp only [hc, if_true, List.length_cons]
      split <;> split <;> simp_all <;> omega
theorem deepG_flats : ∀ (ts : List (Tr Nd)) (h : Hd) (st : List Hd) (d : Nat) (r : List Nd), okTs many ts → ts ≠ [] → h.left = ts.length → (∀ t ∈ ts, rightT t = true) →
    deepG (h :: st) d (flats ts ++ r) = deepG (pop st) (if depths ts = 0 then d else max d (st.length + depths ts)) r
  | [], _, _, _, _, _, h0, _, _ => absurd rfl h0
  | [t], h, st, d, r, ho, _, hl, hr => by
    rw [flats_cons, flats_nil, List.append_nil, deepG_flat t h st d r (okTs_cons.1 ho).1 (hr t (by simp))]
    have : (stepH h t.nd).left = 0 := by simp [stepH, hl]
    rw [pop, if_pos this]
    simp
  | t :: u :: ts, h, st, d, r, ho, _, hl, hr => by
    obtain ⟨h1, h2⟩ := okTs_cons.1 ho
    rw [flats_cons, List.append_assoc, deepG_flat t h st d _ h1 (hr t (by simp))]
    have : ¬ (stepH h t.nd).left = 0 := by simp [stepH, hl]; omega
    rw [pop, if_neg this, deepG_flats (u :: ts) (stepH h t.nd) st _ r h2 (by simp) (by simp [stepH, hl]) (fun k hk => hr k (by simp [hk]))]
    congr 1
    rw [depths_cons t]
    generalize depths (u :: ts) = x
    generalize depth t = y
    split <;> split <;> split <;> omega
end
theorem deepG_val {t : Tr Nd} (h : Val t) : deepG start 0 (flat t) = depth t := by
  have := deepG_flat t ⟨5, 1, false, []⟩ [] 0 [] h.ok h.rt
  rw [List.append_nil] at this
  rw [start, this, deepG]
  split <;> simp_all
end Vp
end Go.Proofs.Ytbffeffplabaeaa

/-
  Plain words: the place behind a value in a row. No program stands here.
-/
namespace Go.Proofs.Ytbffeffplabaeaa
namespace Vp
open Go.RowKit Np Rw

/-- The place behind so many values; below 0: there is none. -/
def nxtL (N : Nat) : List Nd → Nat → Nat → Int
  | _, 0, i => i
  | [], _ + 1, _ => -1
  | n :: l, o + 1, i => if n.many < 0 ∨ (N : Int) < n.many then -1 else nxtL N l (o + n.many.toNat) (i + 1)
@[simp] theorem nxtL_zero (N : Nat) (l : List Nd) (i : Nat) : nxtL N l 0 i = i := by cases l <;> simp [nxtL]
@[simp] theorem nxtL_nil (N o i : Nat) : nxtL N [] (o + 1) i = -1 := by simp [nxtL]
theorem nxtL_cons (N : Nat) (n : Nd) (l : List Nd) (o i : Nat) : nxtL N (n :: l) (o + 1) i = if n.many < 0 ∨ (N : Int) < n.many then -1 else nxtL N l (o + n.many.toNat) (i + 1) := by simp [nxtL]

mutual
theorem nxt_flat : ∀ (t : Tr Nd) (N : Nat) (r : List Nd) (k i : Nat), okT many t → (flat t).length ≤ N → nxtL N (flat t ++ r) (k + 1) i = nxtL N r k (i + (flat t).length)
  | .mk n ks, N, r, k, i, h, hl => by
    obtain ⟨h1, h2⟩ := okT_mk.1 h
    have h1' : n.many = ks.length := h1
    have h3 := flats_len ks
    rw [flat_mk, List.length_cons] at hl
    rw [flat_mk, List.cons_append, nxtL_cons, if_neg (by omega), h1', Int.toNat_natCast, Nat.add_comm k, nxt_flats ks N r k (i + 1) h2 (by omega), List.length_cons]
    congr 1; omega
theorem nxt_flats : ∀ (ts : List (Tr Nd)) (N : Nat) (r : List Nd) (k i : Nat), okTs many ts → (flats ts).length ≤ N → nxtL N (flats ts ++ r) (ts.length + k) i = nxtL N r k (i + (flats ts).length)
  | [], N, r, k, i, _, _ => by simp
  | t :: ts, N, r, k, i, h, hl => by
    obtain ⟨h1, h2⟩ := okTs_cons.1 h
    rw [flats_cons, List.length_append] at hl
    rw [flats_cons, List.append_assoc, List.length_cons, show ts.length + 1 + k = ts.length + k + 1 by omega, nxt_flat t N _ _ i h1 (by omega), nxt_flats ts N r k _ h2 (by omega), List.length_append]
    congr 1; omega
end
theorem nxt_inv (N : Nat) : ∀ (l : List Nd) (k i : Nat), 0 ≤ nxtL N l k i → ∃ r, skip many l k = some r ∧ nxtL N l k i + r.length = i + l.length
  | l, 0, i, _ => ⟨l, by simp, by simp⟩
  | [], k + 1, i, h => by simp at h
  | n :: l, k + 1, i, h => by
    rw [nxtL_cons] at h ⊢
    by_cases hn : n.many < 0 ∨ (N : Int) < n.many
    · rw [if_pos hn] at h; omega
    · rw [if_neg hn] at h ⊢
      obtain ⟨r, h1, h2⟩ := nxt_inv N l _ _ h
      refine ⟨r, ?_, ?_⟩
      · rw [skip_cons, if_neg (by show ¬ n.many < 0; omega)]; exact h1
      · rw [h2, List.length_cons]; omega
theorem nxt_whole {l : List Nd} : nxtL l.length l 1 0 = l.length ↔ skip many l 1 = some [] := by
  constructor
  · intro h
    obtain ⟨r, h1, h2⟩ := nxt_inv l.length l 1 0 (by omega)
    rw [h] at h2
    have : r = [] := List.eq_nil_of_length_eq_zero (by omega)
    rw [h1, this]
  · intro h
    obtain ⟨t, ht, rfl⟩ := skip_one h
    have := nxt_flat t (flat t).length [] 0 0 ht (Nat.le_refl _)
    simpa using this
/-- Is a row a right value? (As the document reckons it.) -/
theorem rightL_eq (l : List Nd) : rightL l = (decide (l ≠ []) && decide ((l.headD ⟨0, 0, [], [], false, 0⟩).name = []) && decide (nxtL l.length l 1 0 = l.length) && rightL l) := by
  cases h : rightL l
  · simp
  · obtain ⟨t, ht, rfl⟩ := val_of_rightL h
    have h1 : nxtL (flat t).length (flat t) 1 0 = (flat t).length := nxt_whole.2 (skip_flat_one ht.ok)
    have h2 := ht.nm
    rw [h1, flat_eq]
    simp [h2]
theorem rightL_empty : rightL [] = false := rfl
theorem rightL_name {n : Nd} {l : List Nd} (h : n.name ≠ []) : rightL (n :: l) = false := by rw [rightL_eq]; simp [h]
theorem rightL_next {l : List Nd} (h : nxtL l.length l 1 0 ≠ l.length) : rightL l = false := rightL_no_skip (fun h' => h (nxt_whole.2 h'))
end Vp
end Go.Proofs.Ytbffeffplabaeaa

/-
  Plain words: where an object's part of a name stands, by a walk along its parts. No program stands here.
-/
namespace Go.Proofs.Ytbffeffplabaeaa
namespace Vp
open Go.RowKit Np Rw

/-- Where the part of that name begins, and where it ends; both the place where it would stand. -/
def findK (nm : List UInt8) : Nat → List (Tr Nd) → Nat × Nat
  | p, [] => (p, p)
  | p, t :: ts => if t.nd.name = nm then (p, p + (flat t).length) else if nm < t.nd.name then (p, p) else findK nm (p + (flat t).length) ts
def passes (nm : List UInt8) (t : Tr Nd) : Prop := t.nd.name ≠ nm ∧ ¬ nm < t.nd.name
theorem findK_pass {nm : List UInt8} : ∀ (ts us : List (Tr Nd)) (p : Nat), (∀ t ∈ ts, passes nm t) → findK nm p (ts ++ us) = findK nm (p + (flats ts).length) us
  | [], us, p, _ => by simp
  | t :: ts, us, p, h => by
    have h1 := h t (by simp)
    rw [List.cons_append, findK, if_neg h1.1, if_neg h1.2, findK_pass ts us _ (fun x hx => h x (by simp [hx])), flats_cons, List.length_append, Nat.add_assoc]
theorem findK_all {nm : List UInt8} {ts : List (Tr Nd)} {p : Nat} (h : ∀ t ∈ ts, passes nm t) : findK nm p ts = (p + (flats ts).length, p + (flats ts).length) := by
  have := findK_pass ts [] p h
  rw [List.append_nil] at this
  rw [this, findK]
theorem findK_hit {nm : List UInt8} {ts us : List (Tr Nd)} {t : Tr Nd} {p : Nat} (h : ∀ t ∈ ts, passes nm t) (ht : t.nd.name = nm) : findK nm p (ts ++ t :: us) = (p + (flats ts).length, p + (flats ts).length + (flat t).length) := by
  rw [findK_pass ts _ p h, findK, if_pos ht]
theorem findK_over {nm : List UInt8} {ts us : List (Tr Nd)} {t : Tr Nd} {p : Nat} (h : ∀ t ∈ ts, passes nm t) (ht : nm < t.nd.name) : findK nm p (ts ++ t :: us) = (p + (flats ts).length, p + (flats ts).length) := by
  rw [findK_pass ts _ p h, findK, if_neg (fun e => by rw [e] at ht; exact List.lt_irrefl _ ht), if_pos ht]
end Vp
end Go.Proofs.Ytbffeffplabaeaa
