/-
  Joined: Round, RowT, ValW7, Take, PaB3, ValW9, ValW12, PRef2, PFew.
-/
import Derived.Test.YtldioobbfkaebaaGreatDoorEvalHoldsJ7
import Derived.RangeFuncNested
import Derived.RangeFuncBound
import Derived.RangeFuncCalls
import Derived.RangeFuncLeaves
import Derived.RangeFuncBox
import Derived.OrdersHeld
import Derived.OrdersIn
import Derived.StillTail
import Derived.Shelf.Abstract
import Derived.Shelf.RegionOpen
import Derived.OwnWalkIn
import Derived.TacticsInMore
import Derived.LoopNIn
import Derived.LoopIn
import Derived.Test.YtldioobbfkaebaaGreatDoorEvalHoldsJ11
import Derived.Test.YtldioobbfkaebaaGreatDoorEvalHoldsJ8
import Derived.Test.YtldioobbfkaebaaGreatDoorEvalHoldsJ1
import Derived.Sort.Walk0
import Derived.Test.YtldioobbfkaebaaGreatDoorEvalHoldsJ2
set_option maxHeartbeats 1000000
set_option maxRecDepth 100000
namespace Go.Proofs.YtldioobbfkaebaaGreatDoor
section
open Go.RowKit
theorem take_read {P : Program} {md : Region.Mode} {l : List Oper} {Q : Exit → Act → World → Prop} {S : World → Prop} {T : List Value} {ds : List Deferred} (i d : Nat) (v : Value) {oi : Oper} {fuel : Nat} {listed : Array Bool} {w : World} (hi : l[i]? = some oi) (hd : oi.dst = some d)
  (hs : Region.noSelect l.toArray = true) (hf : Region.free md l.toArray listed i = true) (hr : (Region.ready md l.toArray listed).contains i = true) (hQ : ∀ c a w, Q (.panic c) (a.put oi.dst v) w → Q (.panic c) a w)
  (hw : Region.wanted oi (yielded l.toArray T.toArray) = true) (hrun : ∀ w, S w → (execOp (Act.eval { tmps := T.toArray, defers := ds }) oi).run P w = .ok (.value v) w) (hS : S w)
  (h : wpAnyH P md l.toArray Q S fuel (listed.setIfInBounds i true) { tmps := (T.set d v).toArray, defers := ds } w) : wpAnyH P md l.toArray Q S (fuel + 1) listed { tmps := T.toArray, defers := ds } w := by
 refine wpAnyH_take (i := i) (v := v) (by simpa using hi) hs hf hr hQ (.inl ⟨hw, hrun⟩) hS ?_
 rw [hd, Act.put]
 simpa using h
end
section
open Go.RowKit Go.Shelf Np
attribute [local go_sem] Oper.semAt_some
section
variable {α : Type} {enc : α → List Value} {sz : Nat} {W W' : World} {v : Value} {l : List α}
theorem Row.turned {row : Option Nat} (h : Row enc sz W v l) (hg : W.grownBy W' row) (hr : ∀ r, row = some r → ∃ o : Obj, W.heap[r]? = some o ∧ o.isCells = false) : Row enc sz W' v l := by
 obtain ⟨A, c, hv, hc, hm, hz, H⟩ := h
 refine ⟨A, c, hv, hc, hm, hz, fun h0 => ?_⟩
 obtain ⟨g, o, hA, hlt, hx⟩ := H h0
 exact ⟨g, o, hA, Nat.lt_of_lt_of_le hlt hg.size, fun k x hk j u hu => cell_kept (hx k x hk j u hu) hg hr⟩
end
theorem keeps_below {W W' : World} (h : Below W.heap.size W W') : KeepsOthers W W' :=
 ⟨h.size, fun k o hk _ => by
  rw [h.block k (Array.getElem?_eq_some_iff.1 hk).1]; exact hk⟩
theorem Own.turned {α : Type} {enc : α → List Value} {sz E base : Nat} {W W' : World} {v : Value} {l : List α} {row : Option Nat} (h : Own enc sz E base W v l) (hg : W.grownBy W' row) (hr : ∀ r, row = some r → ∃ o : Obj, W.heap[r]? = some o ∧ o.isCells = false) : Own enc sz E base W' v l := by
 refine World.ownsRow.kept h hg ?_
 rcases h.2 with ⟨rfl, _⟩ | ⟨g, cap, cur, rfl, _, hh, _⟩
 ·exact .inl rfl
 ·refine .inr (fun e => ?_)
  obtain ⟨o, ho, hc⟩ := hr g e.symm
  rw [hh] at ho
  injection ho with ho
  subst ho
  cases hc
theorem boxed_turned {W W' : World} {B t : Nat} {v : Value} {row : Option Nat} (h : Boxed W B t v) (hg : W.grownBy W' row) (hr : ∀ r, row = some r → ∃ o : Obj, W.heap[r]? = some o ∧ o.isCells = false) : Boxed W' B t v := by
 refine h.kept hg (fun e => ?_)
 obtain ⟨o, ho, hc⟩ := hr B e.symm
 rw [show W.heap[B]? = _ from h] at ho
 injection ho with ho
 subst ho
 cases hc
theorem own_apart {W : World} {b1 b2 e1 e2 s1 s2 n1 n2 : Nat} {v1 v2 : Value} {x1 x2 : List Value} (h1 : W.ownsRow b1 e1 s1 v1 n1 x1) (h2 : W.ownsRow b2 e2 s2 v2 n2 x2) (he : e1 ≠ e2) : v1.ownBlock = none ∨ v1.ownBlock ≠ v2.ownBlock := by
 rcases h1.2 with ⟨rfl, _⟩ | ⟨g1, c1, u1, rfl, _, k1, _⟩
 ·exact .inl rfl
 ·refine .inr (fun e => ?_)
  rcases h2.2 with ⟨rfl, _⟩ | ⟨g2, c2, u2, rfl, _, k2, _⟩
  ·cases e
  ·cases e
   rw [k1] at k2
   injection k2 with k2
   injection k2 with _ k2
   exact he k2
end
section
open Go.RowKit Go.Shelf Np Rw Vp
attribute [local go_sem] Oper.semAt_some
def clr (t : Tr Nd) : Tr Nd := .mk (noName t.nd) t.ks
def Elems (base : Nat) (W : World) (zs : List (Option Addr × Nat × Nat)) (L : List (List Nd)) : Prop := zs.length = L.length ∧ ∀ (k : Nat) (z : Option Addr × Nat × Nat) (l : List Nd), zs[k]? = some z → L[k]? = some l → OwnN base W (.slice z.1 z.2.1 z.2.2) l
theorem Elems.below {base : Nat} {W W' : World} {zs : List (Option Addr × Nat × Nat)} {L : List (List Nd)} (h : Elems base W zs L) (hb : Below W.heap.size W W') : Elems base W' zs L := ⟨h.1, fun k z l h1 h2 => (h.2 k z l h1 h2).below hb⟩
theorem Elems.snoc {base : Nat} {W : World} {zs : List (Option Addr × Nat × Nat)} {L : List (List Nd)} {z : Option Addr × Nat × Nat} {l : List Nd} (h : Elems base W zs L) (hz : OwnN base W (.slice z.1 z.2.1 z.2.2) l) : Elems base W (zs ++ [z]) (L ++ [l]) := by
 refine ⟨by simp [h.1], fun k y m h1 h2 => ?_⟩
 rw [List.getElem?_append] at h1 h2
 rw [h.1] at h1
 split at h1
 ·rename_i hk
  rw [if_pos hk] at h2
  exact h.2 k y m h1 h2
 ·rename_i hk
  rw [if_neg hk] at h2
  have : k - L.length = 0 := by
   have := (List.getElem?_eq_some_iff.1 h1).1
   simp at this; omega
  rw [this] at h1 h2
  simp at h1 h2
  subst h1 h2
  exact hz
theorem Elems.vls {base : Nat} {W : World} {v : Value} {zs : List (Option Addr × Nat × Nat)} {L : List (List Nd)} (h : Elems base W zs L) (hr : Row slc 1 W v zs) : Vls W v L := by
 refine ⟨zs.map (fun z => .slice z.1 z.2.1 z.2.2), by simp [h.1], ?_, ?_⟩
 ·obtain ⟨A, c, hv, hc, hm, hz, H⟩ := hr
  refine ⟨A, c, by simpa using hv, by simpa using hc, hm, hz, fun h0 => ?_⟩
  obtain ⟨g, o, hA, hlt, hx⟩ := H (by simpa using h0)
  refine ⟨g, o, hA, hlt, fun k x hk => ?_⟩
  rw [List.getElem?_map, Option.map_eq_some_iff] at hk
  obtain ⟨z, hz1, rfl⟩ := hk
  exact hx k z hz1
 ·intro k x l hx hl
  rw [List.getElem?_map, Option.map_eq_some_iff] at hx
  obtain ⟨z, hz1, rfl⟩ := hx
  exact (h.2 k z l hz1 hl).row ndc_len
def GivesV (w : World) (L : List (List Nd)) (e : Ending) (w' : World) : Prop := ∃ v', e = .returned v' ∧ Vls w' v' L ∧ Below w.heap.size w w'
def GivesS (w : World) (L : List (List UInt8)) (e : Ending) (w' : World) : Prop := ∃ v', e = .returned v' ∧ Sts w' v' L ∧ Below w.heap.size w w'
def PI {L : List Nd} (w : World) (pre : List (Pt L)) (W : World) : Prop :=
 (∃ v zs, Boxed W w.heap.size 54 v ∧ Own slc 1 27 w.heap.size W v zs ∧ Elems w.heap.size W zs (pre.map fun x => flat (clr x.1.2))) ∧ Below w.heap.size w W
theorem PI.own {L : List Nd} (w : World) (B : Nat) (hB : w.heap.size ≤ B) : OwnFrom B (PI (L := L) w) := by
 intro s W W' row hs hg hr
 obtain ⟨⟨v, zs, h1, h2, h3⟩, h4⟩ := hs
 have hr' : ∀ r, row = some r → ∃ o : Obj, W.heap[r]? = some o ∧ o.isCells = false := fun r e => (hr r e).2
 refine ⟨⟨v, zs, boxed_turned h1 hg hr', h2.turned hg hr', h3.1, fun k z l a b => (h3.2 k z l a b).turned hg hr'⟩, ?_⟩
 exact ownFrom_below (β := Unit) (Nat.le_refl _) hB () W W' row h4 hg hr
theorem PI.step {L : List Nd} {w W W1 W3 : World} {pre : List (Pt L)} {x : Pt L} {v0 : Value} {zs : List (Option Addr × Nat × Nat)} {z : Option Addr × Nat × Nat} {v3 : Value} (hb0 : Boxed W w.heap.size 54 v0) (hown : Own slc 1 27 w.heap.size W v0 zs)
  (hel : Elems w.heap.size W zs (pre.map fun x => flat (clr x.1.2))) (hB : Below w.heap.size w W) (h1 : Below W.heap.size W W1) (hz : OwnN w.heap.size W1 (.slice z.1 z.2.1 z.2.2) (flat (clr x.1.2)))
  (h3 : Own slc 1 27 w.heap.size W3 v3 (zs ++ [z])) (hg : (W1.alloc (.cells #[.slice z.1 z.2.1 z.2.2] 27)).grownBy W3 v0.ownBlock) :
  Boxed W3 w.heap.size 54 v0 ∧ KeepsOthers W (W3.setCell ⟨w.heap.size, 0, none⟩ v3) ∧ Below w.heap.size W (W3.setCell ⟨w.heap.size, 0, none⟩ v3) ∧ PI w (pre ++ [x]) (W3.setCell ⟨w.heap.size, 0, none⟩ v3) := by
 have hbx := hb0.lt
 have hBs := hB.size
 have h2 : Below W.heap.size W (W1.alloc (.cells #[.slice z.1 z.2.1 z.2.2] 27)) := h1.alloc h1.size _
 have hz2 := h2.size
 have hb2 : Boxed (W1.alloc (.cells #[.slice z.1 z.2.1 z.2.2] 27)) w.heap.size 54 v0 := (h2.block _ hbx).trans hb0
 have ho2 : Own slc 1 27 w.heap.size (W1.alloc (.cells #[.slice z.1 z.2.1 z.2.2] 27)) v0 zs := hown.below h2
 have hne : some w.heap.size ≠ v0.ownBlock := hb2.not_row (by decide) ho2
 have hb3 : Boxed W3 w.heap.size 54 v0 := hb2.kept hg hne
 have hne3 : v3.ownBlock ≠ some w.heap.size := fun e => (hb3.not_row (by decide) h3) e.symm
 have hlow : Below w.heap.size W W3 := (h2.mono hBs).trans (ho2.kept hg (by omega))
 have hset := hlow.setCell (p := ⟨w.heap.size, 0, none⟩) (Nat.le_refl _) v3
 refine ⟨hb3, ?_, hset, ⟨v3, zs ++ [z], hb3.set v3, ?_, ?_⟩, hB.trans hset⟩
 ·refine ((keeps_below h2).trans (KeepsOthers.of_grownBy hg (fun j o e ho => ?_))).trans (KeepsOthers.setCell _ _ _)
  obtain ⟨g, cap, cur, hv, _, hh, _⟩ := (ho2.2).resolve_left (fun h => by rw [h.1] at e; cases e)
  rw [hv] at e
  cases e
  rw [hh] at ho
  cases ho
  rfl
 ·exact ownsRow_setCell_other h3 hne3 v3
 ·have hk : ∀ {v : Value} {l : List Nd}, OwnN w.heap.size (W1.alloc (.cells #[.slice z.1 z.2.1 z.2.2] 27)) v l → OwnN w.heap.size (W3.setCell ⟨w.heap.size, 0, none⟩ v3) v l := by
   intro v l hn
   have hn3 : OwnN w.heap.size W3 v l := World.ownsRow.kept hn hg (own_apart hn ho2 (by decide))
   exact ownsRow_setCell_other hn3 (fun e => (hb3.not_row (by decide) hn3) e.symm) v3
  rw [List.map_append, List.map_singleton]
  exact Elems.snoc ⟨hel.1, fun k y l a b => hk ((hel.2 k y l a b).below h2)⟩ (hk (hz.alloc _))
end
section
open Go.RowKit
theorem ls0 {α : Type} (x y : α) (l : List α) : (x :: l).set 0 y = y :: l := rfl
theorem ls1 {α : Type} (x y : α) (l : List α) (n : Nat) : (x :: l).set (n + 1) y = x :: l.set n y := rfl
section
variable {P : Program} {md : Region.Mode} {l : List Oper} {Q : Exit → Act → World → Prop} {S : World → Prop} {T : List Value} {ds : List Deferred} {d : Nat} {oi : Oper} {fuel : Nat} {listed : Array Bool} {w : World}
theorem rtk (i : Nat) (v : Value) (hrun : ∀ w', S w' → (execOp (Act.eval { tmps := T.toArray, defers := ds }) oi).run P w' = .ok (.value v) w')
  (h : wpAnyH P md l.toArray Q S fuel (listed.setIfInBounds i true) { tmps := (T.set d v).toArray, defers := ds } w)
  (hi : l[i]? = some oi := by rfl) (hd : oi.dst = some d := by rfl) (hs : Region.noSelect l.toArray = true := by kernel_rfl) (hf : Region.free md l.toArray listed i = true := by kernel_rfl)
  (hr : (Region.ready md l.toArray listed).contains i = true := by kernel_rfl) (hQ : ∀ c a w, Q (.panic c) (a.put oi.dst v) w → Q (.panic c) a w := by exact fun _ _ _ h => h)
  (hw : Region.wanted oi (yielded l.toArray T.toArray) = true := by kernel_rfl) (hS : S w := by assumption) :
  wpAnyH P md l.toArray Q S (fuel + 1) listed { tmps := T.toArray, defers := ds } w := take_read i d v hi hd hs hf hr hQ hw hrun hS h
theorem rtn (i : Nat) (h : wpAnyH P md l.toArray Q S fuel (listed.setIfInBounds i true) { tmps := (T.set d undef).toArray, defers := ds } w)
  (hi : l[i]? = some oi := by rfl) (hd : oi.dst = some d := by rfl) (hs : Region.noSelect l.toArray = true := by kernel_rfl) (hf : Region.free md l.toArray listed i = true := by kernel_rfl)
  (hr : (Region.ready md l.toArray listed).contains i = true := by kernel_rfl) (hQ : ∀ c a w, Q (.panic c) (a.put oi.dst undef) w → Q (.panic c) a w := by exact fun _ _ _ h => h)
  (hw : Region.wanted oi (yielded l.toArray T.toArray) = false := by kernel_rfl) (hS : S w := by assumption) :
  wpAnyH P md l.toArray Q S (fuel + 1) listed { tmps := T.toArray, defers := ds } w := by
 refine wpAnyH_take (i := i) (v := undef) (by simpa using hi) hs hf hr hQ (.inr ⟨hw, rfl⟩) hS ?_
 rw [hd, Act.put]
 simpa using h
end
end
section
open Go.RowKit Np Rw Vp Pw Qp
end
section
open Go.RowKit Go.Shelf Np Rw Vp
attribute [local go_sem] Oper.semAt_some
def lenP {L : List Nd} (pre : List (Pt L)) : Nat := (flats (pre.map fun x => x.1.2)).length
def FI {L : List Nd} (nm : List UInt8) (w : World) (pre : List (Pt L)) (W : World) : Prop :=
 ((∀ y ∈ pre, passes nm y.1.2) ∧ Boxed W w.heap.size 9 (.string ⟨nm.toArray⟩) ∧ Boxed W (w.heap.size + 1) 3 (.int .i64 0) ∧ Boxed W (w.heap.size + 1 + 1) 3 (.int .i64 0) ∧ Boxed W (w.heap.size + 1 + 1 + 1) 3 (.int .i64 (1 + lenP pre : Nat))) ∧ Below w.heap.size w W
def FX {L : List Nd} (nm : List UInt8) (w : World) (c : Code) (pre : List (Pt L)) (W : World) : Prop :=
 ((c = .ret ∧ ∃ p y, pre = p ++ [y] ∧ (∀ z ∈ p, passes nm z.1.2) ∧ y.1.2.nd.name = nm ∧ Boxed W (w.heap.size + 1) 3 (.int .i64 (1 + lenP p : Nat)) ∧ Boxed W (w.heap.size + 1 + 1) 3 (.int .i64 (1 + lenP p + (flat y.1.2).length : Nat))) ∨
  (c = .exit 0 ∧ ∃ p y, pre = p ++ [y] ∧ (∀ z ∈ p, passes nm z.1.2) ∧ nm < y.1.2.nd.name ∧ Boxed W (w.heap.size + 1) 3 (.int .i64 0) ∧ Boxed W (w.heap.size + 1 + 1) 3 (.int .i64 0) ∧ Boxed W (w.heap.size + 1 + 1 + 1) 3 (.int .i64 (1 + lenP p : Nat)))) ∧ Below w.heap.size w W
theorem FI.own {L : List Nd} (nm : List UInt8) (w : World) (B : Nat) (hB : w.heap.size ≤ B) : OwnFrom B (FI (L := L) nm w) := by
 intro s W W' row hs hg hr
 obtain ⟨⟨h0, h1, h2, h3, h4⟩, h5⟩ := hs
 have hr' : ∀ r, row = some r → ∃ o : Obj, W.heap[r]? = some o ∧ o.isCells = false := fun r e => (hr r e).2
 exact ⟨⟨h0, boxed_turned h1 hg hr', boxed_turned h2 hg hr', boxed_turned h3 hg hr', boxed_turned h4 hg hr'⟩, ownFrom_below (β := Unit) (Nat.le_refl _) hB () W W' row h5 hg hr⟩
theorem FX.own {L : List Nd} (nm : List UInt8) (w : World) (c : Code) (B : Nat) (hB : w.heap.size ≤ B) : OwnFrom B (FX (L := L) nm w c) := by
 intro s W W' row hs hg hr
 obtain ⟨hs, h5⟩ := hs
 have hr' : ∀ r, row = some r → ∃ o : Obj, W.heap[r]? = some o ∧ o.isCells = false := fun r e => (hr r e).2
 refine ⟨?_, ownFrom_below (β := Unit) (Nat.le_refl _) hB () W W' row h5 hg hr⟩
 rcases hs with ⟨hc, p, y, h1, h2, h3, h4, h5⟩ | ⟨hc, p, y, h1, h2, h3, h4, h5, h6⟩
 ·exact .inl ⟨hc, p, y, h1, h2, h3, boxed_turned h4 hg hr', boxed_turned h5 hg hr'⟩
 ·exact .inr ⟨hc, p, y, h1, h2, h3, boxed_turned h4 hg hr', boxed_turned h5 hg hr', boxed_turned h6 hg hr'⟩
end
section
open Go.RowKit Np Rw Vp
def midT (nm : List UInt8) (t : Tr Nd) : List (Tr Nd) := if t.nd.kind = 6 then t.ks.filter (fun u => decide (u.nd.name = nm)) else []
def fieldB (nm : List UInt8) (t : Tr Nd) : Bool := !(midT nm t).isEmpty
def fieldV (nm : List UInt8) (t : Tr Nd) : List Nd := match midT nm t with | [] => [] | u :: _ => flat (nmd [] u)
def GivesF (w : World) (nm : List UInt8) (t : Tr Nd) (e : Ending) (w' : World) : Prop := ∃ v', e = .returned (.tuple #[v', .bool (fieldB nm t)]) ∧ Nds w' v' (fieldV nm t) ∧ Below w.heap.size w w'
theorem GivesF.no {w w' : World} {nm : List UInt8} {t : Tr Nd} {e : Ending} (h : midT nm t = []) (he : e = .returned (.tuple #[.slice none 0 0, .bool false])) (hb : Below w.heap.size w w') : GivesF w nm t e w' :=
 ⟨_, by rw [fieldB, h]; exact he, by rw [fieldV, h]; exact Row.nil _, hb⟩
end
section
open Go.RowKit Np Rw Vp Pw
theorem refRightP_any (pv : Value) (p : List St) (w : World) (hp : Sps w pv p) (hs : ∀ s ∈ p, s.name.length ≤ maxLen) :
  Calls Tryz.prog 6 #[pv] w fun e w' => e = .returned (.bool (rightP p)) ∧ w' = w := by
 have HS := Lib.hid hs
 have hlen := hp.len
 have HXP : Hid (∀ k s, p[k]? = some s → ∃ g o c, pv = .slice (some ⟨g, o, none⟩) p.length c ∧ g < w.heap.size ∧ Sp3 w g (o + k * 3) s) := Lib.hid fun k s hs => by
  obtain ⟨g, o, c, hv, -, -, hg, hx⟩ := hp.opened (by have := (List.getElem?_eq_some_iff.1 hs).1; omega)
  exact ⟨g, o, c, hv, hg, (hx k s hs).sp⟩
 obtain ⟨P, pc, rfl, -⟩ := hp
 clear hs
 generalize hRR : rightP p = R at *
 have HR : Hid (R = (p.all rightS && decide (p.length ≤ 20))) := Lib.hid (by rw [← hRR, rightP])
 clear hRR
 generalize hpp : p.length = n at *
 have HP := Lib.hid hpp
 clear hpp
 unfold maxLen at hlen
 go_enter Tryz.func6, Tryz.ntmps6
 go_wp2_with fail
 go_loopw [3] (fun iv wr => ∃ k : Nat, k ≤ n ∧ iv = .int .i64 k ∧ Hid ((p.take k).all rightS = true) ∧ wr = w) (fun iv _ => n - (intOf iv).toNat)
 case atStart => exact ⟨0, Nat.zero_le _, rfl, Lib.hid (by simp), rfl⟩
 case round =>
  obtain ⟨k, hk, rfl, HA, rfl⟩ := hrel
  by_cases hlt : k < n
  ·have hkp : k < p.length := by rw [HP.out]; exact hlt
   obtain ⟨gp, op, cp, e1, hgp, hs3⟩ := HXP.out k _ (List.getElem?_eq_getElem hkp)
   injection e1 with e1 e2 e3
   subst e1 e3
   obtain ⟨s0, s1, s2⟩ := hs3
   have htk : p.take (k + 1) = p.take k ++ [p[k]] := List.take_succ_eq_append_getElem hkp
   have HTK := Lib.hid htk
   have HSN := Lib.hid (HS.out _ (List.getElem_mem hkp))
   have HMEM : Hid (p[k] ∈ p) := Lib.hid (List.getElem_mem hkp)
   have HBAD : Hid (rightS p[k] = false → R = false) := Lib.hid (fun hr => by
    rw [HR.out]
    have : p.all rightS = false := by
     rw [List.all_eq_false]
     exact ⟨p[k], HMEM.out, by rw [hr]; simp⟩
    rw [this]; rfl)
   clear e2 htk
   generalize p[k] = s at *
   obtain ⟨sp, nm, sn⟩ := s
   have HRE : Hid (rightS ⟨sp, nm, sn⟩ = if sp then decide (nm = []) && decide (0 ≤ sn) && decide (sn ≤ 1000000) else decide (sn = 0) && vld nm) := Lib.hid rfl
   cases sp with
   | true =>
    by_cases h1 : nm = []
    ·subst h1
     by_cases h2 : 0 ≤ sn
     ·by_cases h3 : sn ≤ 1000000
      ·have HRS : Hid (rightS ⟨true, [], sn⟩ = true) := Lib.hid (by rw [HRE.out]; simp [h2, h3])
       have HA2 : Hid ((p.take (k + 1)).all rightS = true) := Lib.hid (by rw [HTK.out, List.all_append, HA.out]; simp [HRS.out])
       go_wp2_with fail
       go_roundw
       case rel => exact ⟨k + 1, by omega, by go_num, HA2, by first | trivial | rfl⟩
       case measure => simp [intOf]; omega
      ·have HRS : Hid (rightS ⟨true, [], sn⟩ = false) := Lib.hid (by rw [HRE.out]; simp [h3])
       have HF : Hid (R = false) := Lib.hid (HBAD.out HRS.out)
       go_wp2_with fail
       go_ret
       exact ⟨ret_bool HF.out.symm, rfl⟩
     ·have HRS : Hid (rightS ⟨true, [], sn⟩ = false) := Lib.hid (by rw [HRE.out]; simp [h2])
      have HF : Hid (R = false) := Lib.hid (HBAD.out HRS.out)
      go_wp2_with fail
      go_ret
      exact ⟨ret_bool HF.out.symm, rfl⟩
    ·have HRS : Hid (rightS ⟨true, nm, sn⟩ = false) := Lib.hid (by rw [HRE.out]; simp [h1])
     have h2 : (nm == []) = false := by simpa using h1
     have HF : Hid (R = false) := Lib.hid (HBAD.out HRS.out)
     go_wp2_with fail
     go_ret
     exact ⟨ret_bool HF.out.symm, rfl⟩
   | false =>
    by_cases h1 : sn = 0
    ·subst h1
     have HU := Lib.hid (refUtf_any ⟨nm.toArray⟩ wr HSN.out)
     cases hv : vld nm with
     | true =>
      have HRS : Hid (rightS ⟨false, nm, 0⟩ = true) := Lib.hid (by rw [HRE.out]; simp [hv])
      rw [show Lib.validD (ByteArray.mk nm.toArray).data.toList = true from hv] at HU
      clear hv
      have HA2 : Hid ((p.take (k + 1)).all rightS = true) := Lib.hid (by rw [HTK.out, List.all_append, HA.out]; simp [HRS.out])
      go_wp2_with (go_at_call 18; refine (HU.out).mono ?_; rintro e w3 ⟨rfl, rfl⟩)
      go_roundw
      case rel => exact ⟨k + 1, by omega, by go_num, HA2, by first | trivial | rfl⟩
      case measure => simp [intOf]; omega
     | false =>
      have HRS : Hid (rightS ⟨false, nm, 0⟩ = false) := Lib.hid (by rw [HRE.out]; simp [hv])
      rw [show Lib.validD (ByteArray.mk nm.toArray).data.toList = false from hv] at HU
      clear hv
      have HF : Hid (R = false) := Lib.hid (HBAD.out HRS.out)
      go_wp2_with (go_at_call 18; refine (HU.out).mono ?_; rintro e w3 ⟨rfl, rfl⟩)
      go_ret
      exact ⟨ret_bool HF.out.symm, rfl⟩
    ·have HRS : Hid (rightS ⟨false, nm, sn⟩ = false) := Lib.hid (by rw [HRE.out]; simp [h1])
     have h2 : (sn == 0) = false := by simpa using h1
     have HF : Hid (R = false) := Lib.hid (HBAD.out HRS.out)
     go_wp2_with fail
     go_ret
     exact ⟨ret_bool HF.out.symm, rfl⟩
  ·obtain rfl : k = n := by omega
   have HF : Hid (R = decide (k ≤ 20)) := Lib.hid (by
    have h1 := HA.out
    rw [List.take_of_length_le (by rw [HP.out]; omega)] at h1
    rw [HR.out, h1]; rfl)
   go_wp2_with fail
   go_ret
   exact ⟨ret_bool (by rw [HF.out]; simp; try omega), rfl⟩
end
section
open Go.RowKit Np Rw Vp Pw
end
end Go.Proofs.YtldioobbfkaebaaGreatDoor
