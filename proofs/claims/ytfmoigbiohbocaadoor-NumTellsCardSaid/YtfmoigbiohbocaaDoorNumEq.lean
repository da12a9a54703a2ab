/-
  Two nodes are the same just if their six fields are.
-/
import Derived.Test.YtfmoigbiohbocaaDoorNumW9
namespace Go.Proofs.YtfmoigbiohbocaaDoor
open Go.RowKit Np

theorem bytes_eq_iff (a b : ByteArray) : a.toList = b.toList ↔ a = b := by
  rw [ByteArray.toList_eq, ByteArray.toList_eq]
  exact ⟨fun h => ByteArray.ext (Array.toList_inj.1 h), fun h => by rw [h]⟩

/-- Are these two nodes the same? -/
def sameNode (k m : Int) (nm s : ByteArray) (g : Bool) (x : Int) (k2 m2 : Int) (nm2 s2 : ByteArray) (g2 : Bool) (x2 : Int) : Bool :=
  decide (k = k2 ∧ m = m2 ∧ nm = nm2 ∧ s = s2 ∧ g = g2 ∧ x = x2)

set_option maxHeartbeats 1000000 in
theorem eql_node (k m : Int) (nm s : ByteArray) (g : Bool) (x : Int) (k2 m2 : Int) (nm2 s2 : ByteArray) (g2 : Bool) (x2 : Int) (w : World) :
    (binOp .eql 23 (.agg #[.int .i64 k, .int .i64 m, .string nm, .string s, .bool g, .int .i64 x]) (.agg #[.int .i64 k2, .int .i64 m2, .string nm2, .string s2, .bool g2, .int .i64 x2])).run Tryd.prog w
      = .ok (.bool (sameNode k m nm s g x k2 m2 nm2 s2 g2 x2)) w := by
  unfold sameNode
  by_cases h1 : k = k2
  · by_cases h2 : m = m2
    · by_cases h3 : nm = nm2
      · by_cases h4 : s = s2
        · by_cases h5 : g = g2
          · by_cases h6 : x = x2
            · subst h1 h2 h3 h4 h5 h6; simp [go_sem]
            · subst h1 h2 h3 h4 h5; simp [go_sem, h6]
          · subst h1 h2 h3 h4; simp [go_sem, h5]
        · have h4' : ¬ s.toList = s2.toList := fun h => h4 ((bytes_eq_iff _ _).1 h)
          subst h1 h2 h3; simp [go_sem, h4, h4']
      · have h3' : ¬ nm.toList = nm2.toList := fun h => h3 ((bytes_eq_iff _ _).1 h)
        subst h1 h2; simp [go_sem, h3, h3']
    · subst h1; simp [go_sem, h2]
  · simp [go_sem, h1]

set_option maxHeartbeats 1000000 in
theorem neq_node (k m : Int) (nm s : ByteArray) (g : Bool) (x : Int) (k2 m2 : Int) (nm2 s2 : ByteArray) (g2 : Bool) (x2 : Int) (w : World) :
    (binOp .neq 23 (.agg #[.int .i64 k, .int .i64 m, .string nm, .string s, .bool g, .int .i64 x]) (.agg #[.int .i64 k2, .int .i64 m2, .string nm2, .string s2, .bool g2, .int .i64 x2])).run Tryd.prog w
      = .ok (.bool (!sameNode k m nm s g x k2 m2 nm2 s2 g2 x2)) w := by
  unfold sameNode
  by_cases h1 : k = k2
  · by_cases h2 : m = m2
    · by_cases h3 : nm = nm2
      · by_cases h4 : s = s2
        · by_cases h5 : g = g2
          · by_cases h6 : x = x2
            · subst h1 h2 h3 h4 h5 h6; simp [go_sem]
            · subst h1 h2 h3 h4 h5; simp [go_sem, h6]
          · subst h1 h2 h3 h4; simp [go_sem, h5]
        · have h4' : ¬ s.toList = s2.toList := fun h => h4 ((bytes_eq_iff _ _).1 h)
          subst h1 h2 h3; simp [go_sem, h4, h4']
      · have h3' : ¬ nm.toList = nm2.toList := fun h => h3 ((bytes_eq_iff _ _).1 h)
        subst h1 h2; simp [go_sem, h3, h3']
    · subst h1; simp [go_sem, h2]
  · simp [go_sem, h1]

theorem sameNode_iff (k m : Int) (nm s : ByteArray) (g : Bool) (x : Int) (k2 m2 : Int) (nm2 s2 : ByteArray) (g2 : Bool) (x2 : Int) :
    sameNode k m nm s g x k2 m2 nm2 s2 g2 x2 = true ↔ k = k2 ∧ m = m2 ∧ nm.data.toList = nm2.data.toList ∧ s.data.toList = s2.data.toList ∧ g = g2 ∧ x = x2 := by
  unfold sameNode
  rw [decide_eq_true_eq, ← ByteArray.toList_eq, ← ByteArray.toList_eq, ← ByteArray.toList_eq, ← ByteArray.toList_eq, bytes_eq_iff, bytes_eq_iff]

end Go.Proofs.YtfmoigbiohbocaaDoor
