/-
  Joined: ValW9, ValW12.
-/
import Derived.Test.YtafbojiojeemoaaGreatDoorPathTextsJ8
import Derived.Test.YtafbojiojeemoaaGreatDoorPathTextsJ2
import Derived.Sort.Walk0

/-
  What val.find answers.
-/
namespace Go.Proofs.YtafbojiojeemoaaGreatDoor
open Go.RowKit Go.Shelf Np Rw Vp
attribute [local go_sem] Oper.semAt_some

theorem then_no {K : Act → World → Prop} {Q : Exit → Act → World → Prop} (h : ¬ LetsOut Q) : ¬ LetsOut (Exit.then K Q) := fun ⟨a, w, hq⟩ => h ⟨a, w, hq⟩

def lenP {L : List Nd} (pre : List (Pt L)) : Nat := (flats (pre.map fun x => x.1.2)).length
theorem lenP_snoc {L : List Nd} (pre : List (Pt L)) (x : Pt L) : lenP (pre ++ [x]) = lenP pre + (flat x.1.2).length := by simp [lenP, flats_append]
theorem pt_len {L : List Nd} (x : Pt L) : (flat x.1.2).length ≤ L.length := by
  obtain ⟨⟨p, u⟩, h1, r, h2⟩ := x
  have hq : p + (flat u).length ≤ L.length := part_lt h2
  show (flat u).length ≤ _
  omega
theorem lenP_le {L : List Nd} : ∀ pre : List (Pt L), lenP pre ≤ pre.length * L.length
  | [] => by simp [lenP]
  | x :: pre => by
    have h1 := lenP_le pre
    have h2 := pt_len x
    have h3 : lenP (x :: pre) = (flat x.1.2).length + lenP pre := by simp [lenP]
    rw [h3, List.length_cons, Nat.add_mul]
    omega

/-- Between two rounds of find. -/
def FI {L : List Nd} (nm : List UInt8) (w : World) (pre : List (Pt L)) (W : World) : Prop :=
  ((∀ y ∈ pre, passes nm y.1.2) ∧ Boxed W w.heap.size 9 (.string ⟨nm.toArray⟩) ∧ Boxed W (w.heap.size + 1) 3 (.int .i64 0) ∧ Boxed W (w.heap.size + 1 + 1) 3 (.int .i64 0) ∧ Boxed W (w.heap.size + 1 + 1 + 1) 3 (.int .i64 (1 + lenP pre : Nat))) ∧ Below w.heap.size w W
/-- Where a round of find has left. -/
def FX {L : List Nd} (nm : List UInt8) (w : World) (c : Code) (pre : List (Pt L)) (W : World) : Prop :=
  ((c = .ret ∧ ∃ p y, pre = p ++ [y] ∧ (∀ z ∈ p, passes nm z.1.2) ∧ y.1.2.nd.name = nm ∧ Boxed W (w.heap.size + 1) 3 (.int .i64 (1 + lenP p : Nat)) ∧ Boxed W (w.heap.size + 1 + 1) 3 (.int .i64 (1 + lenP p + (flat y.1.2).length : Nat))) ∨
   (c = .exit 0 ∧ ∃ p y, pre = p ++ [y] ∧ (∀ z ∈ p, passes nm z.1.2) ∧ nm < y.1.2.nd.name ∧ Boxed W (w.heap.size + 1) 3 (.int .i64 0) ∧ Boxed W (w.heap.size + 1 + 1) 3 (.int .i64 0) ∧ Boxed W (w.heap.size + 1 + 1 + 1) 3 (.int .i64 (1 + lenP p : Nat)))) ∧ Below w.heap.size w W
theorem FI.own {L : List Nd} (nm : List UInt8) (w : World) (B : Nat) (hB : w.heap.size ≤ B) : OwnFrom B (FI (L := L) nm w) := by
  intro s W W' row hs hg hr
  obtain ⟨⟨h0, h1, h2, h3, h4⟩, h5⟩ := hs
  have hr' : ∀ r, row = some r → ∃ o : Obj, W.heap[r]? = some o ∧ o.isCells = false := fun r e => (hr r e).2
  exact ⟨⟨h0, boxed_turned h1 hg hr', boxed_turned h2 hg hr', boxed_turned h3 hg hr', boxed_turned h4 hg hr'⟩, ownFrom_below (β := Unit) (Nat.le_refl _) hB () W W' row h5 hg hr⟩
theorem FX.own {L : List Nd} (nm : List UInt8) (w : World) (c : Code) (B : Nat) (hB : w.heap.size ≤ B) : OwnFrom B (FX (L := L) nm w c) := by
  intro s W W' row hs hg hr
  obtain ⟨hs, h5⟩ := hs
  have hr' : ∀ r, row = some r → ∃ o : Obj, W.heap[r]? = some o ∧ o.isCells = false := fun r e => (hr r e).2
  refine ⟨?_, ownFrom_below (β := Unit) (Nat.le_refl _) hB () W W' row h5 hg hr⟩
  rcases hs with ⟨hc, p, y, h1, h2, h3, h4, h5⟩ | ⟨hc, p, y, h1, h2, h3, h4, h5, h6⟩
  · exact .inl ⟨hc, p, y, h1, h2, h3, boxed_turned h4 hg hr', boxed_turned h5 hg hr'⟩
  · exact .inr ⟨hc, p, y, h1, h2, h3, boxed_turned h4 hg hr', boxed_turned h5 hg hr', boxed_turned h6 hg hr'⟩

end Go.Proofs.YtafbojiojeemoaaGreatDoor

/-
  What val's Field answers.
-/
namespace Go.Proofs.YtafbojiojeemoaaGreatDoor
open Go.RowKit Np Rw Vp

/-- An object's part of that name, if there is one. -/
def midT (nm : List UInt8) (t : Tr Nd) : List (Tr Nd) := if t.nd.kind = 6 then t.ks.filter (fun u => decide (u.nd.name = nm)) else []
def fieldB (nm : List UInt8) (t : Tr Nd) : Bool := !(midT nm t).isEmpty
def fieldV (nm : List UInt8) (t : Tr Nd) : List Nd := match midT nm t with | [] => [] | u :: _ => flat (nmd [] u)
theorem midT_cut {nm : List UInt8} {t : Tr Nd} {pre mid post : List (Tr Nd)} (hk : t.nd.kind = 6) (h : Cut nm t.ks pre mid post) : midT nm t = mid := by
  have hlt : ∀ {a b : List UInt8}, a < b → ¬ a = b := fun h1 h2 => List.lt_irrefl _ (h2 ▸ h1)
  rw [midT, if_pos hk, h.all, List.filter_append, List.filter_append, List.filter_eq_nil_iff.2 (fun u hu => by simpa using hlt (h.lo u hu)), List.filter_eq_self.2 (fun u hu => by simpa using h.eq u hu),
    List.filter_eq_nil_iff.2 (fun u hu => by simpa using fun e => hlt (h.hi u hu) e.symm)]
  simp
/-- What val.Field hands back. -/
def GivesF (w : World) (nm : List UInt8) (t : Tr Nd) (e : Ending) (w' : World) : Prop := ∃ v', e = .returned (.tuple #[v', .bool (fieldB nm t)]) ∧ Nds w' v' (fieldV nm t) ∧ Below w.heap.size w w'
theorem GivesF.no {w w' : World} {nm : List UInt8} {t : Tr Nd} {e : Ending} (h : midT nm t = []) (he : e = .returned (.tuple #[.slice none 0 0, .bool false])) (hb : Below w.heap.size w w') : GivesF w nm t e w' :=
  ⟨_, by rw [fieldB, h]; exact he, by rw [fieldV, h]; exact Row.nil _, hb⟩

end Go.Proofs.YtafbojiojeemoaaGreatDoor
