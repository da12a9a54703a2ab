/-
  Words for memory: a slice whose elements read as a list (nil let in), whatever the elements' cells; rows of nodes, of strings, of numbers, of rows.
-/
import Derived.Test.YtbhgmfddjnkglaaGreatDoorNumW1
import Derived.Below
import Derived.Laws.OwnMore
import Derived.Deep.AppendLies
import Derived.Deep.Draws
import Derived.Maps.AppendAt
import Derived.RegionTactic
import Derived.OwnWalk
import Derived.Deep.Light
namespace Go.Proofs.YtbhgmfddjnkglaaGreatDoor
open Go.RowKit Np

theorem quiet_more {w w' : World} (h : ∃ n, w' = w.drewN n) (k : Nat) : ∃ n, w'.drewN k = w.drewN n := by
  obtain ⟨n, rfl⟩ := h
  exact ⟨n + k, by rw [World.drewN_drewN]⟩

/-- The cells at a place are these. -/
def CellsAt (w : World) (g o : Nat) (cs : List Value) : Prop := ∀ j u, cs[j]? = some u → w.cell? ⟨g, o + j, none⟩ = some u
theorem CellsAt.below {w w' : World} {g o : Nat} {cs : List Value} (h : CellsAt w g o cs) (hg : g < w.heap.size) (hb : Below w.heap.size w w') : CellsAt w' g o cs :=
  fun j u hu => (hb.cell (p := ⟨g, o + j, none⟩) hg).trans (h j u hu)

/-- A slice's value: it reads as this list. -/
def Row {α : Type} (enc : α → List Value) (sz : Nat) (w : World) (v : Value) (l : List α) : Prop :=
  ∃ (A : Option Addr) (c : Nat), v = .slice A l.length c ∧ l.length ≤ c ∧ c ≤ maxLen ∧ (A = none → c = 0) ∧ (0 < l.length → ∃ g o : Nat, A = some ⟨g, o, none⟩ ∧ g < w.heap.size ∧ ∀ k x, l[k]? = some x → CellsAt w g (o + k * sz) (enc x))

section
variable {α : Type} {enc : α → List Value} {sz : Nat} {w w' : World} {v : Value} {l : List α}
theorem Row.below (h : Row enc sz w v l) (hb : Below w.heap.size w w') : Row enc sz w' v l := by
  obtain ⟨A, c, hv, hc, hm, hz, H⟩ := h
  refine ⟨A, c, hv, hc, hm, hz, fun h0 => ?_⟩
  obtain ⟨g, o, hA, hg, hx⟩ := H h0
  exact ⟨g, o, hA, Nat.lt_of_lt_of_le hg hb.size, fun k x hk => (hx k x hk).below hg hb⟩
/-- It reads on, where what lies below its block's bound does. -/
theorem Row.low {g o c n : Nat} (h : Row enc sz w (.slice (some ⟨g, o, none⟩) l.length c) l) (hg : g < n) (hb : Below n w w') : Row enc sz w' (.slice (some ⟨g, o, none⟩) l.length c) l := by
  obtain ⟨A, c', hv, hc, hm, hz, H⟩ := h
  refine ⟨A, c', hv, hc, hm, hz, fun h0 => ?_⟩
  obtain ⟨g', o', hA, hg', hx⟩ := H h0
  injection hv with e1 _ _
  rw [hA] at e1
  injection e1 with e1
  injection e1 with e1 _
  subst e1
  exact ⟨g, o', hA, Nat.lt_of_lt_of_le hg' hb.size, fun k x hk j u hu => (hb.cell (p := ⟨g, o' + k * sz + j, none⟩) hg).trans (hx k x hk j u hu)⟩
theorem Row.below' {B : Nat} (h : Row enc sz w v l) (hb : Below B w w') (hB : w.heap.size ≤ B) : Row enc sz w' v l := h.below (hb.mono hB)
theorem Row.nil (w : World) : Row enc sz w (.slice none 0 0) ([] : List α) := ⟨none, 0, rfl, Nat.le_refl _, Nat.zero_le _, fun _ => rfl, fun h => absurd h (by simp)⟩
theorem Row.empty (w : World) (ad : Addr) (c : Nat) (hm : c ≤ maxLen) : Row enc sz w (.slice (some ad) 0 c) ([] : List α) := ⟨some ad, c, rfl, Nat.zero_le _, hm, fun h => (by cases h), fun h => absurd h (by simp)⟩
/-- With something in it, it has a place. -/
theorem Row.opened (h : Row enc sz w v l) (h0 : 0 < l.length) : ∃ g o c : Nat, v = .slice (some ⟨g, o, none⟩) l.length c ∧ l.length ≤ c ∧ c ≤ maxLen ∧ g < w.heap.size ∧ ∀ k x, l[k]? = some x → CellsAt w g (o + k * sz) (enc x) := by
  obtain ⟨A, c, rfl, hc, hm, _, H⟩ := h
  obtain ⟨g, o, rfl, hg, hx⟩ := H h0
  exact ⟨g, o, c, rfl, hc, hm, hg, hx⟩
theorem Row.len (h : Row enc sz w v l) : l.length ≤ maxLen := by
  obtain ⟨A, c, _, hc, hm, _, _⟩ := h
  omega
theorem Row.mk {g o c : Nat} (hc : l.length ≤ c) (hm : c ≤ maxLen) (hg : g < w.heap.size) (hx : ∀ k x, l[k]? = some x → CellsAt w g (o + k * sz) (enc x)) : Row enc sz w (.slice (some ⟨g, o, none⟩) l.length c) l :=
  ⟨_, c, rfl, hc, hm, fun h => (by cases h), fun _ => ⟨g, o, rfl, hg, hx⟩⟩
end

/-- A node's value. -/
abbrev nda (n : Nd) : Value := .agg #[.int .i64 n.kind, .int .i64 n.many, .string ⟨n.name.toArray⟩, .string ⟨n.s.toArray⟩, .bool n.neg, .int .i64 n.e]
/-- A node's six cells, as values. -/
def ndc (n : Nd) : List Value := [.int .i64 n.kind, .int .i64 n.many, .string ⟨n.name.toArray⟩, .string ⟨n.s.toArray⟩, .bool n.neg, .int .i64 n.e]
def stc (s : List UInt8) : List Value := [.string ⟨s.toArray⟩]
def inc (n : Int) : List Value := [.int .i64 n]
abbrev Nds (w : World) (v : Value) (l : List Nd) : Prop := Row ndc 6 w v l
abbrev Sts (w : World) (v : Value) (l : List (List UInt8)) : Prop := Row stc 1 w v l
abbrev Ins (w : World) (v : Value) (l : List Int) : Prop := Row inc 1 w v l

/-- A node's six cells. -/
structure Nd6 (w : World) (g o : Nat) (n : Nd) : Prop where
  c0 : w.cell? ⟨g, o, none⟩ = some (.int .i64 n.kind)
  c1 : w.cell? ⟨g, o + 1, none⟩ = some (.int .i64 n.many)
  c2 : w.cell? ⟨g, o + 2, none⟩ = some (.string ⟨n.name.toArray⟩)
  c3 : w.cell? ⟨g, o + 3, none⟩ = some (.string ⟨n.s.toArray⟩)
  c4 : w.cell? ⟨g, o + 4, none⟩ = some (.bool n.neg)
  c5 : w.cell? ⟨g, o + 5, none⟩ = some (.int .i64 n.e)
theorem CellsAt.nd {w : World} {g o : Nat} {n : Nd} (h : CellsAt w g o (ndc n)) : Nd6 w g o n := ⟨h 0 _ rfl, h 1 _ rfl, h 2 _ rfl, h 3 _ rfl, h 4 _ rfl, h 5 _ rfl⟩
theorem Nd6.quiet {w w' : World} {g o : Nat} {n : Nd} (h : Nd6 w g o n) (hq : ∃ m, w' = w.drewN m) : Nd6 w' g o n := by
  obtain ⟨m, rfl⟩ := hq
  exact ⟨h.c0, h.c1, h.c2, h.c3, h.c4, h.c5⟩
theorem Nd6.drewN {w : World} {g o : Nat} {n : Nd} (h : Nd6 w g o n) (m : Nat) : Nd6 (w.drewN m) g o n := ⟨h.c0, h.c1, h.c2, h.c3, h.c4, h.c5⟩
theorem Nd6.below {w w' : World} {g o : Nat} {n : Nd} (h : Nd6 w g o n) (hg : g < w.heap.size) (hb : Below w.heap.size w w') : Nd6 w' g o n :=
  ⟨(hb.cell hg).trans h.c0, (hb.cell hg).trans h.c1, (hb.cell hg).trans h.c2, (hb.cell hg).trans h.c3, (hb.cell hg).trans h.c4, (hb.cell hg).trans h.c5⟩

theorem CellsAt.one {w : World} {g o k : Nat} {v : Value} (h : CellsAt w g (o + k * 1) [v]) : w.cell? ⟨g, o + k, none⟩ = some v := by
  have := h 0 _ rfl; rwa [Nat.mul_one] at this
theorem CellsAt.st {w : World} {g o k : Nat} {s : List UInt8} (h : CellsAt w g (o + k * 1) (stc s)) : w.cell? ⟨g, o + k, none⟩ = some (.string ⟨s.toArray⟩) := CellsAt.one h
theorem CellsAt.int {w : World} {g o k : Nat} {n : Int} (h : CellsAt w g (o + k * 1) (inc n)) : w.cell? ⟨g, o + k, none⟩ = some (.int .i64 n) := CellsAt.one h
theorem cell_quiet {w w' : World} {p : Addr} {v : Value} (h : w.cell? p = some v) (hq : ∃ m, w' = w.drewN m) : w'.cell? p = some v := by
  obtain ⟨m, rfl⟩ := hq
  exact h
theorem Row.quiet {α : Type} {enc : α → List Value} {sz : Nat} {w w' : World} {v : Value} {l : List α} (h : Row enc sz w v l) (hq : ∃ m, w' = w.drewN m) : Row enc sz w' v l := h.below (below_quiet hq)

/-- A slice of slices, each of which reads as a list. -/
def Rowz {α : Type} (enc : α → List Value) (sz : Nat) (w : World) (v : Value) (L : List (List α)) : Prop :=
  ∃ vs : List Value, vs.length = L.length ∧ Row (fun x => [x]) 1 w v vs ∧ ∀ (k : Nat) (x : Value) (l : List α), vs[k]? = some x → L[k]? = some l → Row enc sz w x l
abbrev Vls (w : World) (v : Value) (L : List (List Nd)) : Prop := Rowz ndc 6 w v L
section
variable {α : Type} {enc : α → List Value} {sz : Nat} {w w' : World} {v : Value} {L : List (List α)}
theorem Rowz.below (h : Rowz enc sz w v L) (hb : Below w.heap.size w w') : Rowz enc sz w' v L := by
  obtain ⟨vs, hl, h1, h2⟩ := h
  exact ⟨vs, hl, h1.below hb, fun k x l hx hk => (h2 k x l hx hk).below hb⟩
end

theorem bytes_eq_iff (a b : ByteArray) : a.toList = b.toList ↔ a = b := by
  rw [ByteArray.toList_eq, ByteArray.toList_eq]
  exact ⟨fun h => ByteArray.ext (Array.toList_inj.1 h), fun h => by rw [h]⟩
theorem mk_inj (a b : List UInt8) : ByteArray.mk a.toArray = ByteArray.mk b.toArray ↔ a = b := by
  constructor
  · intro h; have := congrArg (fun x : ByteArray => x.data.toList) h; simpa using this
  · rintro rfl; rfl

set_option maxHeartbeats 1000000 in
theorem eql_nd (a b : Nd) (w : World) :
    (binOp .eql 24 (.agg #[.int .i64 a.kind, .int .i64 a.many, .string ⟨a.name.toArray⟩, .string ⟨a.s.toArray⟩, .bool a.neg, .int .i64 a.e]) (.agg #[.int .i64 b.kind, .int .i64 b.many, .string ⟨b.name.toArray⟩, .string ⟨b.s.toArray⟩, .bool b.neg, .int .i64 b.e])).run Tryz.prog w
      = .ok (.bool (decide (a = b))) w := by
  obtain ⟨k, m, nm, s, g, x⟩ := a
  obtain ⟨k2, m2, nm2, s2, g2, x2⟩ := b
  simp only [Nd.mk.injEq]
  by_cases h1 : k = k2
  · by_cases h2 : m = m2
    · by_cases h3 : nm = nm2
      · by_cases h4 : s = s2
        · by_cases h5 : g = g2
          · by_cases h6 : x = x2
            · subst h1 h2 h3 h4 h5 h6; simp [go_sem]
            · subst h1 h2 h3 h4 h5; simp [go_sem, h6]
          · subst h1 h2 h3 h4; simp [go_sem, h5]
        · subst h1 h2 h3; simp [go_sem, h4]
      · subst h1 h2; simp [go_sem, h3]
    · subst h1; simp [go_sem, h2]
  · simp [go_sem, h1]
set_option maxHeartbeats 1000000 in
theorem neq_nd (a b : Nd) (w : World) :
    (binOp .neq 24 (.agg #[.int .i64 a.kind, .int .i64 a.many, .string ⟨a.name.toArray⟩, .string ⟨a.s.toArray⟩, .bool a.neg, .int .i64 a.e]) (.agg #[.int .i64 b.kind, .int .i64 b.many, .string ⟨b.name.toArray⟩, .string ⟨b.s.toArray⟩, .bool b.neg, .int .i64 b.e])).run Tryz.prog w
      = .ok (.bool (!decide (a = b))) w := by
  obtain ⟨k, m, nm, s, g, x⟩ := a
  obtain ⟨k2, m2, nm2, s2, g2, x2⟩ := b
  simp only [Nd.mk.injEq]
  by_cases h1 : k = k2
  · by_cases h2 : m = m2
    · by_cases h3 : nm = nm2
      · by_cases h4 : s = s2
        · by_cases h5 : g = g2
          · by_cases h6 : x = x2
            · subst h1 h2 h3 h4 h5 h6; simp [go_sem]
            · subst h1 h2 h3 h4 h5; simp [go_sem, h6]
          · subst h1 h2 h3 h4; simp [go_sem, h5]
        · subst h1 h2 h3; simp [go_sem, h4]
      · subst h1 h2; simp [go_sem, h3]
    · subst h1; simp [go_sem, h2]
  · simp [go_sem, h1]
/-- Are these two nodes the same? -/
def sameNode (k m : Int) (nm s : ByteArray) (g : Bool) (x : Int) (k2 m2 : Int) (nm2 s2 : ByteArray) (g2 : Bool) (x2 : Int) : Bool :=
  decide (k = k2 ∧ m = m2 ∧ nm = nm2 ∧ s = s2 ∧ g = g2 ∧ x = x2)

set_option maxHeartbeats 1000000 in
theorem eql_node (k m : Int) (nm s : ByteArray) (g : Bool) (x : Int) (k2 m2 : Int) (nm2 s2 : ByteArray) (g2 : Bool) (x2 : Int) (w : World) :
    (binOp .eql 24 (.agg #[.int .i64 k, .int .i64 m, .string nm, .string s, .bool g, .int .i64 x]) (.agg #[.int .i64 k2, .int .i64 m2, .string nm2, .string s2, .bool g2, .int .i64 x2])).run Tryz.prog w
      = .ok (.bool (sameNode k m nm s g x k2 m2 nm2 s2 g2 x2)) w := by
  unfold sameNode
  by_cases h1 : k = k2
  · by_cases h2 : m = m2
    · by_cases h3 : nm = nm2
      · by_cases h4 : s = s2
        · by_cases h5 : g = g2
          · by_cases h6 : x = x2
            · subst h1 h2 h3 h4 h5 h6; simp [go_sem]
            · subst h1 h2 h3 h4 h5; simp [go_sem, h6]
          · subst h1 h2 h3 h4; simp [go_sem, h5]
        · have h4' : ¬ s.toList = s2.toList := fun h => h4 ((bytes_eq_iff _ _).1 h)
          subst h1 h2 h3; simp [go_sem, h4, h4']
      · have h3' : ¬ nm.toList = nm2.toList := fun h => h3 ((bytes_eq_iff _ _).1 h)
        subst h1 h2; simp [go_sem, h3, h3']
    · subst h1; simp [go_sem, h2]
  · simp [go_sem, h1]

end Go.Proofs.YtbhgmfddjnkglaaGreatDoor
