/-
  Plain words: where an object's part of a name stands, by a walk along its parts. No program stands here.
-/
import Derived.Test.YtoomgpbfcpnefaaDoorValP2
namespace Go.Proofs.YtoomgpbfcpnefaaDoor
namespace Vp
open Go.RowKit Np Rw

/-- Where the part of that name begins, and where it ends; both the place where it would stand. -/
def findK (nm : List UInt8) : Nat → List (Tr Nd) → Nat × Nat
  | p, [] => (p, p)
  | p, t :: ts => if t.nd.name = nm then (p, p + (flat t).length) else if nm < t.nd.name then (p, p) else findK nm (p + (flat t).length) ts
def passes (nm : List UInt8) (t : Tr Nd) : Prop := t.nd.name ≠ nm ∧ ¬ nm < t.nd.name
theorem findK_pass {nm : List UInt8} : ∀ (ts us : List (Tr Nd)) (p : Nat), (∀ t ∈ ts, passes nm t) → findK nm p (ts ++ us) = findK nm (p + (flats ts).length) us
  | [], us, p, _ => by simp
  | t :: ts, us, p, h => by
    have h1 := h t (by simp)
    rw [List.cons_append, findK, if_neg h1.1, if_neg h1.2, findK_pass ts us _ (fun x hx => h x (by simp [hx])), flats_cons, List.length_append, Nat.add_assoc]
theorem findK_all {nm : List UInt8} {ts : List (Tr Nd)} {p : Nat} (h : ∀ t ∈ ts, passes nm t) : findK nm p ts = (p + (flats ts).length, p + (flats ts).length) := by
  have := findK_pass ts [] p h
  rw [List.append_nil] at this
  rw [this, findK]
theorem findK_hit {nm : List UInt8} {ts us : List (Tr Nd)} {t : Tr Nd} {p : Nat} (h : ∀ t ∈ ts, passes nm t) (ht : t.nd.name = nm) : findK nm p (ts ++ t :: us) = (p + (flats ts).length, p + (flats ts).length + (flat t).length) := by
  rw [findK_pass ts _ p h, findK, if_pos ht]
theorem findK_over {nm : List UInt8} {ts us : List (Tr Nd)} {t : Tr Nd} {p : Nat} (h : ∀ t ∈ ts, passes nm t) (ht : nm < t.nd.name) : findK nm p (ts ++ t :: us) = (p + (flats ts).length, p + (flats ts).length) := by
  rw [findK_pass ts _ p h, findK, if_neg (fun e => by rw [e] at ht; exact List.lt_irrefl _ ht), if_pos ht]
end Vp
end Go.Proofs.YtoomgpbfcpnefaaDoor
