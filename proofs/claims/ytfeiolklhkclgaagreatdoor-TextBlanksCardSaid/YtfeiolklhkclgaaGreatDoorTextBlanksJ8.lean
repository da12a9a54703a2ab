/-
  Joined: Tx7.
-/
import Derived.Test.YtfeiolklhkclgaaGreatDoorTextBlanksJ7
import Derived.Maps.OwnSet
import Derived.Maps.Views

/-
  Words for memory: what an object has gathered: names, parts, and where each name stands.
-/
namespace Go.Proofs.YtfeiolklhkclgaaGreatDoor
open Go.RowKit Go.Maps Np Rw Vp Up Qp Tp

theorem lawS : Keyed Tryz.prog 9 := string_keyed Tryz.underlying9
theorem zeroS (w : World) : (zeroValue 3).run Tryz.prog w = .ok (.int .i64 0) w := by kernel_rfl
abbrev keyT (r : List UInt8) : Lit := .string r
theorem keyT_ne {a b : List UInt8} (h : a ≠ b) : keyT a ≠ keyT b := fun e => h (by injection e)
theorem keyT_ok (r : List UInt8) : WideAt.IsKeyLit (keyT r) := by unfold keyT WideAt.IsKeyLit; trivial
/-- A map, read as a function of strings. -/
def SVw (D : DataW Unit) (f : List UInt8 → Option Int) : Prop := IsMap D ∧ ∀ r, Maps.has D (keyT r) = (f r).isSome ∧ ∀ v, f r = some v → D.atKey (keyT r) (.lit (.int .i64 0)) = .lit (.int .i64 v)
theorem SVw.hit {D : DataW Unit} {f : List UInt8 → Option Int} (h : SVw D f) {r : List UInt8} {v c : Int} (hf : f r = some v) (hat : D.atKey (keyT r) (.lit (.int .i64 0)) = .lit (.int .i64 c)) : c = v := by
  have := (h.2 r).2 v hf
  rw [this] at hat
  injection hat with hat
  injection hat with _ hat
  exact hat.symm
def upS (f : List UInt8 → Option Int) (k : List UInt8) (v : Int) (r : List UInt8) : Option Int := if r = k then some v else f r
theorem SVw.put {D : DataW Unit} {f : List UInt8 → Option Int} (h : SVw D f) (k : List UInt8) (v : Int) : SVw (D.put (keyT k) (.lit (.int .i64 v))) (upS f k v) := by
  refine ⟨h.1.put _ _, fun r => ?_⟩
  by_cases e : r = k
  · subst e
    unfold upS
    rw [if_pos rfl]
    refine ⟨by rw [has_put_same h.1 (keyT_ok _)]; rfl, fun x hx => ?_⟩
    injection hx with hx
    rw [atKey_put_same h.1 (keyT_ok _), hx]
  · unfold upS
    rw [if_neg e]
    refine ⟨by rw [has_put_other (keyT_ne e)]; exact (h.2 r).1, fun x hx => ?_⟩
    rw [atKey_put_other (keyT_ne e)]
    exact (h.2 r).2 x hx
def SMap (w : World) (b n : Nat) (f : List UInt8 → Option Int) : Prop := ∃ D : DataW Unit, w.ownsMap Tryz.prog 9 (plainElem Tryz.prog 3) b n D ∧ SVw D f
/-- Where a name stands. -/
def ix (ns : List (List UInt8)) (nm : List UInt8) : Option Int := if nm ∈ ns then some (ns.idxOf nm : Nat) else none
theorem ix_snoc {ns : List (List UInt8)} {nm : List UInt8} (h : nm ∉ ns) : upS (ix ns) nm (ns.length : Nat) = ix (ns ++ [nm]) := by
  funext r
  unfold upS ix
  by_cases e : r = nm
  · subst e
    rw [if_pos rfl, if_pos (by simp), List.idxOf_append, if_neg h]
    simp
  · rw [if_neg e]
    by_cases hr : r ∈ ns
    · rw [if_pos hr, if_pos (by simp [hr]), List.idxOf_append, if_pos hr]
    · rw [if_neg hr, if_neg (by simp [hr, e])]

section
variable {α β : Type} {e1 : α → List Value} {e2 : β → List Value} {s1 s2 E1 E2 b1 b2 : Nat} {w w' : World} {v : Value} {l : List α}
theorem keptT (ho : Own e1 s1 E1 b1 w v l) (hg : w.grownBy w' v.ownBlock) {b T : Nat} {cs : Array Value} {fz : Nat × Nat} (hb : w.heap[b]? = some (.cells cs T fz)) (hT : E1 ≠ T) : w'.heap[b]? = some (.cells cs T fz) :=
  (hg.block b (Array.getElem?_eq_some_iff.1 hb).1 (Ne.symm (ho.ne hb hT))).trans hb
theorem Own.ne_map (ho : Own e1 s1 E1 b1 w v l) {b : Nat} {es : Array MapEntry} {clock : Nat} (h : w.heap[b]? = some (.map es clock)) : v.ownBlock ≠ some b := by
  rcases ho.2 with ⟨rfl, _⟩ | ⟨g, cap, cur, rfl, _, hh, _⟩
  · intro e; cases e
  · intro e
    have e1 : g = b := by simpa [Value.ownBlock] using e
    subst e1
    rw [h] at hh
    cases hh
theorem SMap.aside {b n : Nat} {f : List UInt8 → Option Int} (h : SMap w b n f) (ho : Own e1 s1 E1 b1 w v l) (hg : w.grownBy w' v.ownBlock) : SMap w' b n f := by
  obtain ⟨D, hD, hV⟩ := h
  have hD0 := hD
  obtain ⟨es, clock, hb, _⟩ := hD0
  exact ⟨D, hD.kept hg (Ne.symm (ho.ne_map hb)), hV⟩
theorem SMap.alloc {b n : Nat} {f : List UInt8 → Option Int} (h : SMap w b n f) (o : Obj) : SMap (w.alloc o) b n f := by
  obtain ⟨D, hD, hV⟩ := h
  exact ⟨D, hD.alloc o, hV⟩
theorem SMap.blk {b n : Nat} {f : List UInt8 → Option Int} (h : SMap w b n f) : ∃ es clock, w.heap[b]? = some (.map es clock) := by
  obtain ⟨D, ⟨es, clock, hb, _⟩, _⟩ := h
  exact ⟨es, clock, hb⟩
theorem SMap.same {b n : Nat} {f : List UInt8 → Option Int} (h : SMap w b n f) (hk : w'.heap[b]? = w.heap[b]?) : SMap w' b n f := by
  obtain ⟨D, ⟨es, clock, hb, r⟩, hV⟩ := h
  exact ⟨D, ⟨es, clock, hk.trans hb, r⟩, hV⟩
theorem SMap.cell {b n : Nat} {f : List UInt8 → Option Int} (h : SMap w b n f) {p : Addr} (hp : p.block ≠ b) (u : Value) : SMap (w.setCell p u) b n f := h.same (Below.heap_setCell w p u b (Ne.symm hp))
theorem SMap.ne {b n k : Nat} {f : List UInt8 → Option Int} (h : SMap w b n f) {cs : Array Value} {T : Nat} {fz : Nat × Nat} (hb : w.heap[k]? = some (.cells cs T fz)) : k ≠ b := by
  obtain ⟨es, clock, h1⟩ := h.blk
  rintro rfl
  rw [h1] at hb; cases hb
/-- A map is written: nothing else turns. -/
theorem kept_map {b : Nat} {es : Array MapEntry} {clock : Nat} (hm : w.heap[b]? = some (.map es clock)) (hg : w.grownBy w' (some b)) {k T : Nat} {cs : Array Value} {fz : Nat × Nat} (hb : w.heap[k]? = some (.cells cs T fz)) : w'.heap[k]? = some (.cells cs T fz) :=
  (hg.block k (Array.getElem?_eq_some_iff.1 hb).1 (fun e => by injection e with e; subst e; rw [hm] at hb; cases hb)).trans hb
theorem Own.map {b : Nat} {es : Array MapEntry} {clock : Nat} (ho : Own e1 s1 E1 b1 w v l) (hm : w.heap[b]? = some (.map es clock)) (hg : w.grownBy w' (some b)) : Own e1 s1 E1 b1 w' v l :=
  World.ownsRow.kept ho hg (by
    rcases hv : v.ownBlock with _ | g
    · exact .inl rfl
    · exact .inr (by rw [← hv]; exact ho.ne_map hm))
end

/-- What an object has gathered: the boxes hold these; the rows are these. -/
structure Ob0 (b0 b1 bN bL bP bm n rb : Nat) (uN uL : Value) (f : List UInt8 → Option Int) (X : World) (vN : Value) (ns : List (List UInt8)) (vL : Value) (zs : List (Option Addr × Nat × Nat)) (L : List (List Nd)) : Prop where
  x1 : Box b1 68 (.pointer (some ⟨rb, 0, none⟩)) X
  xN : Box bN 43 uN X
  xL : Box bL 44 uL X
  xP : Box bP 91 (.map (some bm)) X
  map : SMap X bm n f
  oN : Own stc 1 9 b0 X vN ns
  oL : Own slc 1 24 b0 X vL zs
  eL : Elems b0 X zs L
section
variable {b0 b1 bN bL bP bm n rb : Nat} {uN uL : Value} {f : List UInt8 → Option Int} {X X' : World} {vN : Value} {ns : List (List UInt8)} {vL : Value} {zs : List (Option Addr × Nat × Nat)} {L : List (List Nd)}
theorem Ob0.kb {s : ByteArray} {k d : Nat} (h : Ob0 b0 b1 bN bL bP bm n rb uN uL f X vN ns vL zs L) (hr : Rd rb s k d X) (hk : Kb X.heap.size rb X X') : Ob0 b0 b1 bN bL bP bm n rb uN uL f X' vN ns vL zs L := by
  obtain ⟨h1, h2, h3, h4, h5, h6, h7, h8⟩ := h
  obtain ⟨es, clock, hm⟩ := h5.blk
  refine ⟨h1.kb hr hk, h2.kb hr hk, h3.kb hr hk, h4.kb hr hk, h5.same (hk.block bm (Array.getElem?_eq_some_iff.1 hm).1 (fun e => ?_)), h6.kb (by decide) hr hk, h7.kb (by decide) hr hk, h8.kb hr hk⟩
  subst e
  unfold Rd at hr
  rw [hm] at hr; cases hr
theorem Ob0.alloc (h : Ob0 b0 b1 bN bL bP bm n rb uN uL f X vN ns vL zs L) (o : Obj) : Ob0 b0 b1 bN bL bP bm n rb uN uL f (X.alloc o) vN ns vL zs L :=
  ⟨h.x1.alloc o, h.xN.alloc o, h.xL.alloc o, h.xP.alloc o, h.map.alloc o, Own.alloc h.oN o, Own.alloc h.oL o, h.eL.alloc o⟩
theorem Ob0.drew (h : Ob0 b0 b1 bN bL bP bm n rb uN uL f X vN ns vL zs L) : Ob0 b0 b1 bN bL bP bm n rb uN uL f X.drew vN ns vL zs L := ⟨h.x1, h.xN, h.xL, h.xP, h.map, h.oN, h.oL, h.eL⟩
theorem Ob0.appN (h : Ob0 b0 b1 bN bL bP bm n rb uN uL f X vN ns vL zs L) {g cap : Nat} {nm : List UInt8} (ho : X'.ownsRow b0 9 1 (.slice (some ⟨g, 0, none⟩) (ns.length + 1) cap) (ns.length + 1) (ns.flatMap stc ++ [.string ⟨nm.toArray⟩])) (hg : X.grownBy X' vN.ownBlock) :
    Ob0 b0 b1 bN bL bP bm n rb uN uL f X' (.slice (some ⟨g, 0, none⟩) (ns.length + 1) cap) (ns ++ [nm]) vL zs L := by
  refine ⟨keptT h.oN hg h.x1 (by decide), keptT h.oN hg h.xN (by decide), keptT h.oN hg h.xL (by decide), keptT h.oN hg h.xP (by decide), h.map.aside h.oN hg, ?_, Own.aside h.oL h.oN (by decide) hg, ⟨h.eL.1, fun k z l a b => Own.aside (h.eL.2 k z l a b) h.oN (by decide) hg⟩⟩
  unfold Own
  rw [List.length_append, List.length_singleton, List.flatMap_append]
  exact ho
theorem Ob0.appL (h : Ob0 b0 b1 bN bL bP bm n rb uN uL f X vN ns vL zs L) {g cap m c : Nat} {A : Option Addr} {vv : List Nd} (hV : OwnN b0 X (.slice A m c) vv) (ho : X'.ownsRow b0 24 1 (.slice (some ⟨g, 0, none⟩) (zs.length + 1) cap) (zs.length + 1) (zs.flatMap slc ++ [.slice A m c])) (hg : X.grownBy X' vL.ownBlock) :
    Ob0 b0 b1 bN bL bP bm n rb uN uL f X' vN ns (.slice (some ⟨g, 0, none⟩) (zs.length + 1) cap) (zs ++ [(A, m, c)]) (L ++ [vv]) := by
  refine ⟨keptT h.oL hg h.x1 (by decide), keptT h.oL hg h.xN (by decide), keptT h.oL hg h.xL (by decide), keptT h.oL hg h.xP (by decide), h.map.aside h.oL hg, Own.aside h.oN h.oL (by decide) hg, ?_, (h.eL.asideT h.oL hg).snoc (Own.aside hV h.oL (by decide) hg)⟩
  unfold Own
  rw [List.length_append, List.length_singleton, List.flatMap_append]
  exact ho
theorem Ob0.upd (h : Ob0 b0 b1 bN bL bP bm n rb uN uL f X vN ns vL zs L) {n2 : Nat} {f2 : List UInt8 → Option Int} (hm : SMap X' bm n2 f2) (hg : X.grownBy X' (some bm)) : Ob0 b0 b1 bN bL bP bm n2 rb uN uL f2 X' vN ns vL zs L := by
  obtain ⟨es, clock, hb⟩ := h.map.blk
  exact ⟨kept_map hb hg h.x1, kept_map hb hg h.xN, kept_map hb hg h.xL, kept_map hb hg h.xP, hm, h.oN.map hb hg, h.oL.map hb hg, ⟨h.eL.1, fun k z l a b => (h.eL.2 k z l a b).map hb hg⟩⟩
theorem Ob0.setN (h : Ob0 b0 b1 bN bL bP bm n rb uN uL f X vN ns vL zs L) (u : Value) : Ob0 b0 b1 bN bL bP bm n rb u uL f (X.setCell ⟨bN, 0, none⟩ u) vN ns vL zs L :=
  ⟨h.x1.other (h.xN.apart h.x1 (by decide)) _, h.xN.set u, h.xL.other (h.xN.apart h.xL (by decide)) _, h.xP.other (h.xN.apart h.xP (by decide)) _, h.map.cell (h.map.ne (k := bN) h.xN) _, h.oN.box h.xN (by decide) _, h.oL.box h.xN (by decide) _, h.eL.box h.xN (by decide) _⟩
theorem Ob0.setL (h : Ob0 b0 b1 bN bL bP bm n rb uN uL f X vN ns vL zs L) (u : Value) : Ob0 b0 b1 bN bL bP bm n rb uN u f (X.setCell ⟨bL, 0, none⟩ u) vN ns vL zs L :=
  ⟨h.x1.other (h.xL.apart h.x1 (by decide)) _, h.xN.other (h.xL.apart h.xN (by decide)) _, h.xL.set u, h.xP.other (h.xL.apart h.xP (by decide)) _, h.map.cell (h.map.ne (k := bL) h.xL) _, h.oN.box h.xL (by decide) _, h.oL.box h.xL (by decide) _, h.eL.box h.xL (by decide) _⟩
end
theorem Ob0.putL {b0 b1 bN bL bP bm n rb g cap q m c : Nat} {uN uL : Value} {f : List UInt8 → Option Int} {X : World} {vN : Value} {ns : List (List UInt8)} {zs : List (Option Addr × Nat × Nat)} {L : List (List Nd)} {z : Option Addr × Nat × Nat} {A : Option Addr} {vv : List Nd}
    (h : Ob0 b0 b1 bN bL bP bm n rb uN uL f X vN ns (.slice (some ⟨g, 0, none⟩) zs.length cap) zs L) (hz : zs[q]? = some z) (hV : OwnN b0 X (.slice A m c) vv) :
    Ob0 b0 b1 bN bL bP bm n rb uN uL f (X.setCell ⟨g, q, none⟩ (.slice A m c)) vN ns (.slice (some ⟨g, 0, none⟩) zs.length cap) (zs.set q (A, m, c)) (L.set q vv) := by
  have hg : X.grownBy (X.setCell ⟨g, q, none⟩ (.slice A m c)) (Value.slice (some ⟨g, 0, none⟩) zs.length cap).ownBlock := (World.ownsRow.stored h.oL q (.slice A m c)).2
  have hp := Own.put slc_len (j := 0) (y := (A, m, c)) (u := .slice A m c) h.oL hz (by decide) rfl
  rw [Nat.mul_one, Nat.add_zero] at hp
  refine ⟨keptT h.oL hg h.x1 (by decide), keptT h.oL hg h.xN (by decide), keptT h.oL hg h.xL (by decide), keptT h.oL hg h.xP (by decide), h.map.aside h.oL hg, Own.aside h.oN h.oL (by decide) hg, hp, by rw [List.length_set, List.length_set]; exact h.eL.1, fun k y l a b => ?_⟩
  have hV' : OwnN b0 (X.setCell ⟨g, q, none⟩ (.slice A m c)) (.slice A m c) vv := Own.aside hV h.oL (by decide) hg
  by_cases e : q = k
  · subst e
    have hql : q < zs.length := (List.getElem?_eq_some_iff.1 hz).1
    rw [List.getElem?_set_self hql] at a
    rw [List.getElem?_set_self (by rw [← h.eL.1]; exact hql)] at b
    injection a with a
    injection b with b
    subst a b
    exact hV'
  · rw [List.getElem?_set_ne e] at a b
    exact Own.aside (h.eL.2 k y l a b) h.oL (by decide) hg
theorem putP_parts (nm : List UInt8) (v : List Nd) : ∀ acc : List Pr, (acc.map (·.1)).Nodup → (acc.map fun q => if q.1 = nm then (nm, v) else q).map (·.2) = (acc.map (·.2)).set ((acc.map (·.1)).idxOf nm) v
  | [], _ => rfl
  | p :: acc, h => by
    rw [List.map_cons, List.nodup_cons] at h
    have ih := putP_parts nm v acc h.2
    simp only [List.map_cons, List.idxOf_cons]
    by_cases e : p.1 = nm
    · rw [if_pos e]
      have hk : (acc.map fun q => if q.1 = nm then (nm, v) else q) = acc := by
        conv => rhs; rw [← List.map_id acc]
        refine List.map_congr_left fun r hr => ?_
        rw [if_neg]; rfl
        intro hr2
        exact h.1 (List.mem_map.2 ⟨r, hr, by rw [hr2, e]⟩)
      rw [hk]
      simp [e]
    · rw [if_neg e, ih]
      have : (p.1 == nm) = false := by simpa using e
      simp [this]
theorem new_at {w : World} {o : Obj} {B : Nat} (h : B = w.heap.size) : (w.alloc o).heap[B]? = some o := by subst h; exact heap_alloc_new w o
theorem new_at2 {w : World} {o o2 : Obj} {B : Nat} (h : B = w.heap.size) : ((w.alloc o).alloc o2).heap[B]? = some o := by
  subst h
  exact (Below.heap_alloc _ _ _ (by simp)).trans (heap_alloc_new w o)
/-- All that a field's end needs. -/
structure Bfd (base : World) (s : ByteArray) (k d b0 b1 bN bL bP bm n rb : Nat) (uN uL : Value) (f : List UInt8 → Option Int) (A : Option Addr) (m c : Nat) (vv : List Nd) (X : World) (vN : Value) (ns : List (List UInt8)) (vL : Value) (zs : List (Option Addr × Nat × Nat)) (L : List (List Nd)) : Prop where
  kb : Kb base.heap.size rb base X
  rd : Rd rb s k d X
  pt : OwnN b0 X (.slice A m c) vv
  ob : Ob0 b0 b1 bN bL bP bm n rb uN uL f X vN ns vL zs L
section
variable {base : World} {s : ByteArray} {k d b0 b1 bN bL bP bm n rb : Nat} {uN uL : Value} {f : List UInt8 → Option Int} {A : Option Addr} {m c : Nat} {vv : List Nd} {X X' : World} {vN : Value} {ns : List (List UInt8)} {vL : Value} {zs : List (Option Addr × Nat × Nat)} {L : List (List Nd)}
theorem Bfd.alloc (h : Bfd base s k d b0 b1 bN bL bP bm n rb uN uL f A m c vv X vN ns vL zs L) (o : Obj) : Bfd base s k d b0 b1 bN bL bP bm n rb uN uL f A m c vv (X.alloc o) vN ns vL zs L :=
  ⟨h.kb.alloc h.kb.size o, h.rd.alloc o, Own.alloc h.pt o, h.ob.alloc o⟩
theorem Bfd.alloc2 (h : Bfd base s k d b0 b1 bN bL bP bm n rb uN uL f A m c vv X vN ns vL zs L) (o o2 : Obj) : Bfd base s k d b0 b1 bN bL bP bm n rb uN uL f A m c vv ((X.alloc o).alloc o2) vN ns vL zs L := (h.alloc o).alloc o2
theorem Bfd.appN (h : Bfd base s k d b0 b1 bN bL bP bm n rb uN uL f A m c vv X vN ns vL zs L) (h0 : base.heap.size ≤ b0) {g cap : Nat} {nm : List UInt8} (ho : X'.ownsRow b0 9 1 (.slice (some ⟨g, 0, none⟩) (ns.length + 1) cap) (ns.length + 1) (ns.flatMap stc ++ [.string ⟨nm.toArray⟩])) (hg : X.grownBy X' vN.ownBlock) :
    Bfd base s k d b0 b1 bN bL bP bm n rb uN uL f A m c vv X' (.slice (some ⟨g, 0, none⟩) (ns.length + 1) cap) (ns ++ [nm]) vL zs L :=
  ⟨h.kb.grown hg h.kb.size (fun j hj => by have := (World.ownsRow.lt h.ob.oN j hj).1; omega), keptT h.ob.oN hg h.rd (by decide), Own.aside h.pt h.ob.oN (by decide) hg, h.ob.appN ho hg⟩
theorem Bfd.appL (h : Bfd base s k d b0 b1 bN bL bP bm n rb uN uL f A m c vv X vN ns vL zs L) (h0 : base.heap.size ≤ b0) {g cap : Nat} (ho : X'.ownsRow b0 24 1 (.slice (some ⟨g, 0, none⟩) (zs.length + 1) cap) (zs.length + 1) (zs.flatMap slc ++ [.slice A m c])) (hg : X.grownBy X' vL.ownBlock) :
    Bfd base s k d b0 b1 bN bL bP bm n rb uN uL f A m c vv X' vN ns (.slice (some ⟨g, 0, none⟩) (zs.length + 1) cap) (zs ++ [(A, m, c)]) (L ++ [vv]) :=
  ⟨h.kb.grown hg h.kb.size (fun j hj => by have := (World.ownsRow.lt h.ob.oL j hj).1; omega), keptT h.ob.oL hg h.rd (by decide), Own.aside h.pt h.ob.oL (by decide) hg, h.ob.appL h.pt ho hg⟩
theorem Bfd.alD (h : Bfd base s k d b0 b1 bN bL bP bm n rb uN uL f A m c vv X.drew vN ns vL zs L) (o : Obj) : Bfd base s k d b0 b1 bN bL bP bm n rb uN uL f A m c vv (X.alloc o).drew vN ns vL zs L := h.alloc o
theorem Bfd.alD2 (h : Bfd base s k d b0 b1 bN bL bP bm n rb uN uL f A m c vv X.drew vN ns vL zs L) (o o2 : Obj) : Bfd base s k d b0 b1 bN bL bP bm n rb uN uL f A m c vv ((X.alloc o).alloc o2).drew vN ns vL zs L := (h.alloc o).alloc o2
/-- What the stores and the loads want. -/
theorem Bfd.cells (h : Bfd base s k d b0 b1 bN bL bP bm n rb uN uL f A m c vv X vN ns vL zs L) : X.cell? ⟨bN, 0, none⟩ = some uN ∧ X.cell? ⟨bL, 0, none⟩ = some uL ∧ X.frozen? ⟨bN, 0, none⟩ = false ∧ X.frozen? ⟨bL, 0, none⟩ = false ∧ ¬ bN = X.heap.size ∧ ¬ bL = X.heap.size ∧ bN < X.heap.size ∧ bL < X.heap.size ∧ ¬ bN = bL ∧ ¬ bL = bN :=
  ⟨h.ob.xN.c, h.ob.xL.c, h.ob.xN.f, h.ob.xL.f, Nat.ne_of_lt h.ob.xN.lt, Nat.ne_of_lt h.ob.xL.lt, h.ob.xN.lt, h.ob.xL.lt, h.ob.xN.apart h.ob.xL (by decide), h.ob.xL.apart h.ob.xN (by decide)⟩
theorem Bfd.size (h : Bfd base s k d b0 b1 bN bL bP bm n rb uN uL f A m c vv X vN ns vL zs L) (hb : b0 ≤ base.heap.size) : b0 ≤ X.heap.size := Nat.le_trans hb h.kb.size
end
end Go.Proofs.YtfeiolklhkclgaaGreatDoor
