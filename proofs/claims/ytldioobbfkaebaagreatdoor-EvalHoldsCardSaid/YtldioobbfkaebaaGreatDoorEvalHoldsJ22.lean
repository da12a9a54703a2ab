/-
  Joined: EvC.
-/
import Derived.Test.YtldioobbfkaebaaGreatDoorEvalHoldsJ21
import Derived.Test.YtldioobbfkaebaaGreatDoorEvalHoldsJ13
import Derived.Maps.OwnIn
set_option maxHeartbeats 2000000
set_option maxRecDepth 100000
namespace Go.Proofs.YtldioobbfkaebaaGreatDoor
open Go.RowKit Go.Shelf Np Rw Vp Pw Ev
attribute [local go_sem] Oper.semAt_some
section
variable {α : Type} {P : Program} {enc : α → List Value} {T E sz bys base : Nat} {w : World}
theorem wpListIn_append_row {F : Fence} {n : Nat} (el : Elem P T E enc sz bys) {ops : Array Oper} {rest : List Oper} {o : Oper} {a : Act} {Q : Exit → Act → World → Prop} (hgd : o.guard = none) (s x : Operand)
  (ho : o.op = .call { callee := .builtin .append, args := #[s, x], argTypes := #[T, T] }) {v r : Value} {l l2 : List α} (hs : a.eval s = v) (hown : Own enc sz E base w v l) (hx : a.eval x = r) (hr : Row enc sz w r l2)
  (h0 : 0 < l2.length) (h63 : l.length + l2.length ≤ maxLen) (hby : (l.length + l2.length) * bys ≤ 140737488355328) (hbase : base ≤ w.heap.size)
  (h : ∀ (A : Option Addr) (c : Nat) (w' : World), Own enc sz E base w' (.slice A (l ++ l2).length c) (l ++ l2) → w.grownBy w' v.ownBlock → ((Value.slice A (l ++ l2).length c).ownBlock = v.ownBlock ∨ (Value.slice A (l ++ l2).length c).ownBlock = some w.heap.size) →
   wpListIn F n P ops Q rest (a.put o.dst (.slice A (l ++ l2).length c)) w') : wpListIn F n P ops Q (o :: rest) a w := by
 obtain ⟨i, z, hi, hz, hsize, hbytes, hzs⟩ := el.inf
 obtain ⟨A, c, rfl, hc, hcm, hnil, hcell⟩ := hr
 cases A with
 | none => have := hnil rfl; omega
 | some ad =>
  refine wpListIn_append_own_at w hgd s x T ho base E i z sz bys el.und hi hz hsize hbytes hzs el.pos v l.length _ hs hown ad l2.length c (l2.flatMap enc) hx (flat_len el.len l2) ?_ ?_ h63 hby hbase ?_
  ·intro j u hu
   obtain ⟨y, hy, hyu⟩ := flat_split el.len el.pos l2 j u hu
   obtain ⟨g, q, hA, _, hx'⟩ := hcell h0
   injection hA with hA
   subst hA
   have := hx' _ y hy _ u hyu
   rw [Nat.add_assoc, Nat.div_add_mod' j sz] at this
   unfold Addr.add
   split
   ·rename_i h; subst h; exact this
   ·exact this
  ·intro u hu
   obtain ⟨y, _, hyu⟩ := List.mem_flatMap.1 hu
   exact el.one y u hyu
  ·intro v' w' h1 h2 _ h4
   have h5 : Own enc sz E base w' v' (l ++ l2) := by unfold Own; rw [List.length_append, List.flatMap_append]; exact h1
   obtain ⟨B, d, hv, -, -, -⟩ := h5.form
   subst hv
   exact h B d w' h5 h2 h4
end
theorem Own.cut {α : Type} {enc : α → List Value} {sz E base : Nat} {w : World} {g c : Nat} {l r : List α} (hlen : ∀ x, (enc x).length = sz) (h : Own enc sz E base w (.slice (some ⟨g, 0, none⟩) (l ++ r).length c) (l ++ r)) : Own enc sz E base w (.slice (some ⟨g, 0, none⟩) l.length c) l := by
 obtain ⟨h1, h2⟩ := h
 have hfl : ∀ l : List α, (l.flatMap enc).length = l.length * sz := by
  intro l
  induction l with
  | nil => simp
  | cons x l ih => rw [List.flatMap_cons, List.length_append, ih, hlen, List.length_cons, Nat.succ_mul]; omega
 rcases h2 with ⟨hv, -⟩ | ⟨g', cap, cur, hv, hb, hg, hn, hc, hs, ht⟩
 ·cases hv
 ·injection hv with e1 e2 e3
  injection e1 with e1
  injection e1 with e1
  subst e1 e3
  refine ⟨hfl l, .inr ⟨g, c, cur, rfl, hb, hg, ?_, hc, hs, ?_⟩⟩
  ·rw [List.length_append] at hn; omega
  ·have h3 : l.length * sz ≤ (l ++ r).length * sz := Nat.mul_le_mul_right _ (by simp)
   have h4 := congrArg (List.take (l.length * sz)) ht
   rw [List.take_take, Nat.min_eq_left h3, List.flatMap_append, List.take_append_of_le_length (Nat.le_of_eq (hfl l).symm), List.take_of_length_le (Nat.le_of_eq (hfl l))] at h4
   exact h4
structure RwI (w : World) (N : List Nd) (W : World) (v : Value) (L : List Nd) (u : Value) (ps : List (Option Addr)) (ts : List (Tr Nd)) : Prop where
 bx : Boxed W (w.heap.size + 1) 122 u
 st : Own ptc 1 61 w.heap.size W u ps
 ow : Own ndc 6 30 w.heap.size W v L
 tr : TrsS (fun b => b < w.heap.size) W ts (ps.map .pointer)
 ok : okTs many ts
 bl : Below w.heap.size w W
 all : L ++ flats ts.reverse = N
def Dfs (B : Nat) (ds : List Deferred) (w : World) : Prop := ∀ d, d ∈ ds → ∃ D : Nat, B ≤ D ∧ d = { target := .collected D, args := #[] } ∧ w.heap[D]? = some (.deferred (some []))
theorem leavesM_collected {F : Fence} {n : Nat} {P : Program} {fn : Func} {tmps : Array Value} {R : Ending → World → Prop} (B : Nat) (Good : World → Prop) (hG : ∀ (W : World) (D : Nat), B ≤ D → Good W → W.heap[D]? = some (.deferred (some [])) → Good (W.putObj D (.deferred none)))
  (h : ∀ W, Good W → LeavesIn F n P fn tmps R [] .returning W) : ∀ (ds : List Deferred) (w : World), Good w → Dfs B ds w → ds.Nodup → LeavesInM F n P fn tmps R ds .returning w
 | [], w, hg, _, _ => h w hg
 | d :: ds, w, hg, hd, hn => by
  obtain ⟨D, hB, rfl, hD⟩ := hd d (by simp)
  refine ⟨by simp, .inl ⟨D, _, rfl, run_takeDeferred hD, leavesM_collected B Good hG h ds _ (hG _ _ hB hg hD) ?_ (List.nodup_cons.1 hn).2⟩⟩
  intro d' hd'
  obtain ⟨D', hB', rfl, hD'⟩ := hd d' (by simp [hd'])
  refine ⟨D', hB', rfl, ?_⟩
  have hne : D' ≠ D := fun e => (List.nodup_cons.1 hn).1 (e ▸ hd')
  exact (World.putObj_heap_other hne).trans hD'
structure RwJ (w : World) (n2 : Nat) (rv : Value) (v : Value) (L : List Nd) (qs : List (Option Addr)) (ds : List Deferred) (pre : List (Nat × Option Addr)) (W : World) : Prop where
 bx : ∃ u, Boxed W (w.heap.size + 1) 122 u ∧ Own ptc 1 61 w.heap.size W u (qs ++ pre.map (·.2))
 rb : Boxed W n2 122 rv
 ow : Own ndc 6 30 w.heap.size W v L
 bl : Below w.heap.size w W
 df : ∀ d, d ∈ ds → ∃ D : Nat, w.heap.size ≤ D ∧ D < n2 ∧ d = { target := .collected D, args := #[] } ∧ W.heap[D]? = some (.deferred (some []))
theorem RwJ.own (w : World) (n2 B : Nat) (rv v : Value) (L : List Nd) (qs : List (Option Addr)) (ds : List Deferred) (hB : w.heap.size ≤ B) (hn : n2 ≤ B) : OwnFrom B (RwJ w n2 rv v L qs ds) := by
 intro s W W' row hs hg hr
 obtain ⟨⟨u, h1, h2⟩, h3, h4, h5, h6⟩ := hs
 have hr' : ∀ r, row = some r → ∃ o : Obj, W.heap[r]? = some o ∧ o.isCells = false := fun r e => (hr r e).2
 refine ⟨⟨u, boxed_turned h1 hg hr', h2.turned hg hr'⟩, boxed_turned h3 hg hr', h4.turned hg hr', ?_, fun d hd => ?_⟩
 ·exact ownFrom_below (β := Unit) (Nat.le_refl _) hB () W W' row h5 hg hr
 ·obtain ⟨D, a1, a2, a3, a4⟩ := h6 d hd
  have hlt : D < W.heap.size := (Array.getElem?_eq_some_iff.1 a4).1
  exact ⟨D, a1, a2, a3, (hg.block D hlt (fun e => by have := (hr D e.symm).1; omega)).trans a4⟩
theorem RwJ.step {w W W3 : World} {n2 : Nat} {rv v u0 v3 : Value} {L : List Nd} {qs : List (Option Addr)} {ds : List Deferred} {pre : List (Nat × Option Addr)} {x : Nat × Option Addr} (hJ : RwJ w n2 rv v L qs ds pre W) (hn : w.heap.size + 1 < n2)
  (hb0 : Boxed W (w.heap.size + 1) 122 u0) (hown : Own ptc 1 61 w.heap.size W u0 (qs ++ pre.map (·.2))) (h3 : Own ptc 1 61 w.heap.size W3 v3 ((qs ++ pre.map (·.2)) ++ [x.2])) (hg : (W.alloc (.cells #[.pointer x.2] 61)).grownBy W3 u0.ownBlock) :
  Boxed W3 (w.heap.size + 1) 122 u0 ∧ KeepsOthers W (W3.setCell ⟨w.heap.size + 1, 0, none⟩ v3) ∧ Kq w.heap.size n2 W (W3.setCell ⟨w.heap.size + 1, 0, none⟩ v3) ∧ RwJ w n2 rv v L qs ds (pre ++ [x]) (W3.setCell ⟨w.heap.size + 1, 0, none⟩ v3) := by
 obtain ⟨-, hrb, how, hbl, hdf⟩ := hJ
 have hBs := hbl.size
 have h2 : Below W.heap.size W (W.alloc (.cells #[.pointer x.2] 61)) := (Below.refl _ _).alloc (Nat.le_refl _) _
 have hb2 := hb0.alloc (.cells #[.pointer x.2] 61)
 have hr2 := hrb.alloc (.cells #[.pointer x.2] 61)
 have ho2 := hown.alloc (.cells #[.pointer x.2] 61)
 have hw2 := how.alloc (.cells #[.pointer x.2] 61)
 have hne := hb2.not_row (by decide) ho2
 have hne2 := hr2.not_row (by decide) ho2
 have hb3 := hb2.kept hg hne
 have hr3 := hr2.kept hg hne2
 have hne3 : v3.ownBlock ≠ some (w.heap.size + 1) := fun e => (hb3.not_row (by decide) h3) e.symm
 have hw3 : Own ndc 6 30 w.heap.size W3 v L := World.ownsRow.kept hw2 hg (own_apart hw2 ho2 (by decide))
 have hlow : Below w.heap.size W W3 := (h2.mono hBs).trans ((Below.refl _ _).grown hg (by simp; omega) (fun j e => (World.ownsRow.lt ho2 _ e).1))
 have hset0 := hlow.setCell (p := ⟨w.heap.size + 1, 0, none⟩) (by show w.heap.size ≤ w.heap.size + 1; omega) v3
 have hn2 := hrb.lt
 refine ⟨hb3, ?_, ⟨hset0, (Below.heap_setCell W3 ⟨w.heap.size + 1, 0, none⟩ v3 n2 (by show n2 ≠ w.heap.size + 1; omega)).trans (hr3.trans hrb.symm)⟩, ⟨v3, hb3.set v3, ?_⟩, (Below.heap_setCell W3 ⟨w.heap.size + 1, 0, none⟩ v3 n2 (by show n2 ≠ w.heap.size + 1; omega)).trans hr3, ownsRow_setCell_other hw3 (fun e => (hb3.not_row (by decide) hw3) e.symm) v3, hbl.trans hset0, fun d hd => ?_⟩
 ·refine ((keeps_below h2).trans (KeepsOthers.of_grownBy hg (fun j o e ho => ?_))).trans (KeepsOthers.setCell _ _ _)
  obtain ⟨g, cap, cur, hv, _, hh, _⟩ := (ho2.2).resolve_left (fun h => by rw [h.1] at e; cases e)
  rw [hv] at e
  cases e
  rw [hh] at ho
  cases ho
  rfl
 ·have h4 := ownsRow_setCell_other (a := ⟨w.heap.size + 1, 0, none⟩) h3 hne3 v3
  rw [List.map_append, List.map_singleton, ← List.append_assoc]
  exact h4
 ·obtain ⟨D, a1, a2, a3, a4⟩ := hdf d hd
  have hlt : D < W.heap.size := (Array.getElem?_eq_some_iff.1 a4).1
  have a5 : (W.alloc (.cells #[.pointer x.2] 61)).heap[D]? = some (.deferred (some [])) := (h2.block D hlt).trans a4
  have d1 : some D ≠ u0.ownBlock := fun e => by
   obtain ⟨g, cap, cur, hv, _, hh, _⟩ := (ho2.2).resolve_left (fun h => by rw [h.1] at e; cases e)
   rw [hv] at e
   cases e
   rw [hh] at a5
   cases a5
  have d2 : D ≠ w.heap.size + 1 := fun e => by
   subst e
   have h5 := hb2.symm.trans a5
   cases h5
  exact ⟨D, a1, a2, a3, (Below.heap_setCell W3 ⟨w.heap.size + 1, 0, none⟩ v3 D d2).trans ((hg.block D (by simp; omega) d1).trans a5)⟩
theorem RwI.pop {w wr w2 : World} {N L : List Nd} {v u : Value} {qs : List (Option Addr)} {p : Option Addr} {ts : List (Tr Nd)} {gu cu : Nat} {o1 o2 : Obj} (hI : RwI w N wr v L u (qs ++ [p]) ts) (hu : u = .slice (some ⟨gu, 0, none⟩) (qs ++ [p]).length cu)
  (hg : (((wr.setCell ⟨w.heap.size + 1, 0, none⟩ (.slice (some ⟨gu, 0, none⟩) qs.length cu)).alloc o1).alloc o2).grownBy w2 v.ownBlock) :
  Boxed w2 (w.heap.size + 1) 122 (.slice (some ⟨gu, 0, none⟩) qs.length cu) ∧ Own ptc 1 61 w.heap.size w2 (.slice (some ⟨gu, 0, none⟩) qs.length cu) qs ∧ (∀ ds, Dfs w.heap.size ds wr → ∀ d, d ∈ ds → ∃ D : Nat, w.heap.size ≤ D ∧ D < w2.heap.size ∧ d = { target := .collected D, args := #[] } ∧ w2.heap[D]? = some (.deferred (some []))) := by
 obtain ⟨hbx, hst, how, -, -, hbl, -⟩ := hI
 subst hu
 have hs1 : Own ptc 1 61 w.heap.size (wr.setCell ⟨w.heap.size + 1, 0, none⟩ (.slice (some ⟨gu, 0, none⟩) qs.length cu)) (.slice (some ⟨gu, 0, none⟩) (qs ++ [p]).length cu) (qs ++ [p]) := ownsRow_setCell_other hst (fun e => (hbx.not_row (by decide) hst) e.symm) _
 have hs2 := ((Own.cut ptc_len hs1).alloc o1).alloc o2
 have hb1 := ((hbx.set (.slice (some ⟨gu, 0, none⟩) qs.length cu)).alloc o1).alloc o2
 have hw1 : Own ndc 6 30 w.heap.size (wr.setCell ⟨w.heap.size + 1, 0, none⟩ (.slice (some ⟨gu, 0, none⟩) qs.length cu)) v L := ownsRow_setCell_other how (fun e => (hbx.not_row (by decide) how) e.symm) _
 have hw2 := (hw1.alloc o1).alloc o2
 refine ⟨hb1.kept hg (hb1.not_row (by decide) hw2), World.ownsRow.kept hs2 hg (own_apart hs2 hw2 (by decide)), fun ds hd d hdm => ?_⟩
 obtain ⟨D, a1, a2, a4⟩ := hd d hdm
 have hlt : D < wr.heap.size := (Array.getElem?_eq_some_iff.1 a4).1
 have d2 : D ≠ w.heap.size + 1 := fun e => by
  subst e
  have h5 := hbx.symm.trans a4
  cases h5
 have a5 : (((wr.setCell ⟨w.heap.size + 1, 0, none⟩ (.slice (some ⟨gu, 0, none⟩) qs.length cu)).alloc o1).alloc o2).heap[D]? = some (.deferred (some [])) :=
  ((((Below.refl _ (wr.setCell ⟨w.heap.size + 1, 0, none⟩ (.slice (some ⟨gu, 0, none⟩) qs.length cu))).alloc (Nat.le_refl _) o1).alloc (by simp) o2).block D (by simp; exact hlt)).trans ((Below.heap_setCell wr ⟨w.heap.size + 1, 0, none⟩ _ D d2).trans a4)
 have d1 : some D ≠ v.ownBlock := fun e => by
  obtain ⟨g, cap, cur, hv, _, hh, _⟩ := (hw2.2).resolve_left (fun h => by rw [h.1] at e; cases e)
  rw [hv] at e
  cases e
  rw [hh] at a5
  cases a5
 have a6 := (hg.block D (by simp; omega) d1).trans a5
 exact ⟨D, a1, (Array.getElem?_eq_some_iff.1 a6).1, a2, a6⟩
theorem node_many {n : Nd} {k : Int} (h : n.many = k) : ({ n with many := k } : Nd) = n := by cases n; simp at h; simp [h]
theorem RwI.next {w wr W : World} {N L : List Nd} {v v2 u rv : Value} {qs ps2 : List (Option Addr)} {p : Option Addr} {us : List (Tr Nd)} {x : Tr Nd} {n2 D : Nat} {ds : List Deferred} (hI : RwI w N wr v L u (qs ++ [p]) (us ++ [x])) (hks : TrsS (fun b => b < w.heap.size) wr x.ks (ps2.map .pointer)) (hn : wr.heap.size ≤ n2)
  (hJ : RwJ w n2 rv v2 (L ++ [{ x.nd with many := (x.ks.length : Nat) }]) qs ds (bwds ps2) W) (hD : n2 < D) (hK : W.heap[D]? = some (.deferred (some []))) (hnd : ds.Nodup) :
  ∃ u2, RwI w N W v2 (L ++ [{ x.nd with many := (x.ks.length : Nat) }]) u2 (qs ++ ps2.reverse) (us ++ x.ks.reverse) ∧ Dfs w.heap.size ({ target := .collected D, args := #[] } :: ds) W ∧ ({ target := .collected D, args := #[] } :: ds).Nodup := by
 obtain ⟨-, -, -, htr, hok, hbl, hall⟩ := hI
 obtain ⟨⟨u2, h1, h2⟩, h3, h4, h5, h6⟩ := hJ
 rw [bwds_snd] at h2
 have hwn := hbl.size
 have hsz : wr.heap.size ≤ W.heap.size := by have := h3.lt; omega
 have hbk : ∀ b, b < w.heap.size → b < wr.heap.size → W.heap[b]? = wr.heap[b]? := fun b hb _ => (h5.block b hb).trans (hbl.block b hb).symm
 obtain ⟨o1, o2⟩ := okTs_append.1 hok
 have ox := (okTs_cons.1 o2).1
 have hxm : x.nd.many = x.ks.length := (okT_eq.1 ox).1
 have hl0 := TrsS_len htr
 simp only [List.map_append, List.length_append, List.length_map, List.length_singleton] at hl0
 have hql : qs.length = us.length := by simp at hl0; omega
 have hpl : ps2.length = x.ks.length := by have := TrsS_len hks; simpa using this
 refine ⟨u2, ⟨h1, h2, h4, ?_, ?_, h5, ?_⟩, ?_, ?_⟩
 ·rw [List.map_append]
  refine TrsS_append ?_ ?_
  ·have h := TrsS_take (htr.same hsz hbk) us.length
   rw [List.take_left, List.map_append, List.take_left' (by simp [hql])] at h
   exact h
  ·refine TrsS_sub (hks.same hsz hbk) (fun i => x.ks.length - 1 - i) (by simp [hpl]) (fun i hi => ?_) (fun i hi => ?_)
   ·rw [List.length_reverse] at hi
    rw [List.getElem?_reverse hi]
   ·rw [List.map_reverse, List.getElem?_reverse (by simp at hi ⊢; omega), List.length_map, hpl]
 ·refine okTs_append.2 ⟨o1, okTs_all.2 fun k hk => okTs_all.1 (okT_eq.1 ox).2 k (List.mem_reverse.1 hk)⟩
 ·rw [node_many hxm, ← hall, List.reverse_append, List.reverse_reverse, List.reverse_append, flats_append, flats_append, List.append_assoc]
  congr 1
  simp [flats_cons, flat_eq x]
 ·intro d hd
  rcases List.mem_cons.1 hd with rfl | hd
  ·exact ⟨D, by omega, rfl, hK⟩
  ·obtain ⟨D', a1, a2, a3, a4⟩ := h6 d hd
   exact ⟨D', a1, a3, a4⟩
 ·refine List.nodup_cons.2 ⟨fun hd => ?_, hnd⟩
  obtain ⟨D', a1, a2, a3, a4⟩ := h6 _ hd
  injection a3 with a3
  injection a3 with a3
  omega
def slen : Value → Nat
 | .slice _ n _ => n
 | _ => 0
theorem evRow_any (t : Tr Nd) (g : Nat) (w : World) (ho : okT many t) (hl : (flat t).length ≤ 1000000000000) (ht : TrS (fun b => b < w.heap.size) w t (.pointer (some ⟨g, 0, none⟩))) :
  Calls Tryz.prog 61 #[.pointer (some ⟨g, 0, none⟩)] w fun e w' => ∃ v', e = .returned v' ∧ Own ndc 6 30 w.heap.size w' v' (flat t) ∧ Below w.heap.size w w' := by
 have HT := Lib.hid ht
 have HO := Lib.hid ho
 clear ht ho
 refine (callsIn_wide (n := 5)).1 ?_
 refine callsIn_of_wp_marks Tryz.func61 rfl trivial ?_ rfl
 simp only [Tryz.ntmps61, List.size_toArray, List.length_cons, List.length_nil, Nat.reduceAdd, Nat.reduceSub, Array.replicate_succ, Array.replicate_zero, List.push_toArray, List.append_toArray, List.nil_append, List.cons_append]
 gi_wp2_with fail
 have HI0 : Hid (RwI w (flat t) ((w.alloc (.cells #[.pointer (some ⟨g, 0, none⟩)] 61)).alloc (.cells #[.slice (some ⟨w.heap.size, 0, none⟩) 1 1] 122)) (.slice none 0 0) [] (.slice (some ⟨w.heap.size, 0, none⟩) 1 1) [some ⟨g, 0, none⟩] [t]) := Lib.hid
  (by
   refine ⟨?_, ?_, Own.nil _, ?_, ?_, ?_, ?_⟩
   ·have := Boxed.new (w.alloc (.cells #[.pointer (some ⟨g, 0, none⟩)] 61)) 122 (.slice (some ⟨w.heap.size, 0, none⟩) 1 1)
    rwa [World.size_alloc] at this
   ·exact (Own.lit ptc_len w #[.pointer (some ⟨g, 0, none⟩)] [some ⟨g, 0, none⟩] (Nat.le_refl _) (by show 1 ≤ maxLen; decide) rfl).alloc _
   ·exact TrsS_cons.2 ⟨HT.out.below (((Below.refl _ _).alloc (Nat.le_refl _) _).alloc (by simp) _), TrsS_nil⟩
   ·exact okTs_cons.2 ⟨HO.out, okTs_nil⟩
   ·exact ((Below.refl _ _).alloc (Nat.le_refl _) _).alloc (by simp) _
   ·simp [flats_cons, flats_nil])
 refine wpIn_loop (fun a wr => ∃ (f : Nat → Value) (v u : Value) (L : List Nd) (ps : List (Option Addr)) (ts : List (Tr Nd)) (ds : List Deferred), a = { tmps := #[.pointer (some ⟨g, 0, none⟩), undef, f 2, v, .pointer (some ⟨w.heap.size + 1, 0, none⟩), f 5, f 6, f 7, undef, f 9, .pointer (some ⟨g, 0, none⟩), .slice (some ⟨w.heap.size, 0, none⟩) 1 1, f 12, f 13, f 14, f 15, f 16, f 17, f 18, f 19, f 20, f 21, f 22, f 23, f 24, f 25, f 26, f 27, f 28, f 29, f 30, f 31, f 32, f 33, f 34, f 35, f 36, f 37, f 38, f 39, f 40, f 41, f 42, f 43, undef, undef, f 46, f 47, f 48, f 49, f 50], defers := ds } ∧ Hid (RwI w (flat t) wr v L u ps ts) ∧ Hid (Dfs w.heap.size ds wr) ∧ Hid ds.Nodup)
  (fun a _ => 1000000000000 - slen (a.tmps.getD 3 undef)) ?_ ?_
 ·refine ⟨fun k => if k = 2 then .slice none 0 0 else undef, .slice none 0 0, _, [], _, _, [], rfl, HI0, Lib.hid (fun d hd => absurd hd (by simp)), Lib.hid List.nodup_nil⟩
 ·rintro a wr ⟨f, u3, u, L, ps, ts, ds, rfl, HI, HDF, HND⟩
  clear HI0
  have hI := HI.out
  have hcu := hI.bx.cell
  have hfu := hI.bx.frozen
  have hlen : ps.length = ts.length := by have := TrsS_len hI.tr; simpa using this
  obtain ⟨Av, cv, rfl, -, -, -⟩ := hI.ow.form
  obtain ⟨Au, cu, hu3, hcl, -, -⟩ := hI.st.form
  rcases List.eq_nil_or_concat ps with rfl | ⟨qs, p, rfl⟩
  ·have hts : ts = [] := List.eq_nil_of_length_eq_zero (by simpa using hlen.symm)
   subst hts
   subst hu3
   have HL : Hid (L = flat t) := Lib.hid (by have := hI.all; simpa [flats_nil] using this)
   clear hI
   gi_wp2_with fail
   refine leavesM_collected w.heap.size (fun W => Own ndc 6 30 w.heap.size W (.slice Av L.length cv) L ∧ Below w.heap.size w W) ?_ ?_ ds wr ⟨HI.out.ow, HI.out.bl⟩ HDF.out HND.out
   ·rintro W D hD ⟨hown, hB⟩ hK
    exact ⟨hown.turned (grownBy_putObj' W D (.deferred none)) (fun r e => by cases e; exact ⟨_, hK, rfl⟩), hB.trans (belowK_b (w := w) (Nat.le_refl _) W D _ _ hD hK rfl rfl)⟩
   ·rintro W ⟨hown, hB⟩
    exact ⟨_, results_tmp rfl _ _ _, _, rfl, by rw [← HL.out]; exact hown, hB⟩
  ·rw [List.concat_eq_append] at *
   rcases List.eq_nil_or_concat ts with rfl | ⟨us, x, rfl⟩
   ·simp at hlen
   rw [List.concat_eq_append] at *
   have hlq : qs.length = us.length := by simpa using hlen
   obtain ⟨px, hpx, hTx⟩ := TrsS_at hI.tr (i := us.length) (k := x) (by simp)
   have hpx2 : px = .pointer p := by
    rw [List.map_append, List.getElem?_append_right (by simp [hlq])] at hpx
    simpa [hlq] using hpx.symm
   subst hpx2
   obtain ⟨gx, m, Ax, cx, vs, hp, hgx, hgx2, hnd, hc6, hrow, hks⟩ := hTx.opened
   injection hp with hp
   subst hp
   obtain ⟨gu, ku, hgu⟩ := ownsRow_succ (k := qs.length) (by have := hI.st; rw [hu3] at this; unfold Own at this; rw [List.length_append] at this; exact this)
   rw [hu3] at hcu
   injection hgu with e1 e2 e3
   subst e1 e3
   have hcp : wr.cell? ⟨gu, qs.length, none⟩ = some (.pointer (some ⟨gx, 0, none⟩)) := by
    have h1 := hI.st.row ptc_len
    rw [hu3] at h1
    obtain ⟨A0, c0, hv0, -, -, -, H0⟩ := h1
    injection hv0 with e4
    obtain ⟨g0, o0, hA0, hl0, hx0⟩ := H0 (by simp)
    rw [← e4] at hA0
    injection hA0 with hA0
    injection hA0 with e5 e6
    have := hx0 qs.length (some ⟨gx, 0, none⟩) (by simp) 0 _ rfl
    rw [← e5, ← e6] at this
    simpa using this
   have q0 : (0 : Int) < ((qs ++ [some (⟨gx, 0, none⟩ : Addr)]).length : Nat) := by simp
   have q1 : (((qs ++ [some (⟨gx, 0, none⟩ : Addr)]).length : Nat) : Int) - 1 = (qs.length : Nat) := by simp
   have q2 : us.length ≤ 1000000000000 := by
    have h1 := congrArg List.length hI.all
    have h2 := flats_len (us ++ [x]).reverse
    rw [List.length_append] at h1
    rw [List.length_reverse, List.length_append] at h2
    simp only [List.length_singleton] at h2
    omega
   have q3 : us.length ≤ cu := by simp at hcl; omega
   rw [hlq] at hcp
   obtain ⟨y0, y1, y2, y3, y4, y5⟩ := hnd
   have HXK := Lib.hid hI.ok
   have hbx := hI.bx
   have hlb := hbx.lt
   have h2a := (hbx.set (.slice (some ⟨gu, 0, none⟩) us.length cu))
   have hst := hI.st
   have how := hI.ow
   have hstne : some (w.heap.size + 1) ≠ (Value.slice Av L.length cv).ownBlock := hbx.not_row (by decide) how
   have HOW : Hid (∀ o, Own ndc 6 30 w.heap.size ((wr.setCell ⟨w.heap.size + 1, 0, none⟩ (.slice (some ⟨gu, 0, none⟩) us.length cu)).alloc o) (.slice Av L.length cv) L) := Lib.hid (fun o => by
    have h1 : Own ndc 6 30 w.heap.size (wr.setCell ⟨w.heap.size + 1, 0, none⟩ (.slice (some ⟨gu, 0, none⟩) us.length cu)) (.slice Av L.length cv) L := ownsRow_setCell_other how (fun e => hstne e.symm) _
    exact h1.alloc o)
   have hLl : L.length ≤ 1000000000000 := by have h1 := congrArg List.length hI.all; rw [List.length_append] at h1; omega
   have hws : w.heap.size ≤ wr.heap.size := hI.bl.size
   have hbl := hI.bl
   have hvo : ∀ j, (Value.slice Av L.length cv).ownBlock = some j → w.heap.size ≤ j := fun j e => (World.ownsRow.lt how _ e).1
   clear hI h2a hst how hstne hbx hlb
   gi_wp2_with (gi_at_builtin; refine wpListIn_append_row (base := w.heap.size) (l := L) (l2 := [{ x.nd with many := (x.ks.length : Nat) }]) elNode rfl _ _ rfl rfl ?hown rfl ?hrow (by simp) ?h63 ?hby ?hbase ?hgo)
   case hown => exact (HOW.out _).alloc _
   case hrow =>
    have h1 := Row.lit (enc := ndc) (sz := 6) (fun _ => rfl) ((wr.setCell ⟨w.heap.size + 1, 0, none⟩ (.slice (some ⟨gu, 0, none⟩) us.length cu)).alloc (.cells (ndc { x.nd with many := (x.ks.length : Nat) }).toArray 30)) 30 (ndc { x.nd with many := (x.ks.length : Nat) }).toArray [{ x.nd with many := (x.ks.length : Nat) }] (by show 1 ≤ maxLen; decide) (by simp)
    simpa [ndc] using h1
   case h63 => unfold maxLen; omega
   case hby => omega
   case hbase => omega
   case hgo =>
    intro A2 c2 w2 hown2 hg2 hat2
    have hbb : Below w.heap.size wr w2 := by
     have h1 : Below w.heap.size wr (wr.setCell ⟨w.heap.size + 1, 0, none⟩ (.slice (some ⟨gu, 0, none⟩) us.length cu)) := (Below.refl _ _).setCell (p := ⟨w.heap.size + 1, 0, none⟩) (by show w.heap.size ≤ w.heap.size + 1; omega) _
     have h2 := h1.size
     exact ((h1.alloc (by omega) _).alloc (by simp; omega) _).grown hg2 (by simp; omega) hvo
    have e3 : w2.cell? ⟨gx, 6, none⟩ = some (.slice Ax x.ks.length cx) := (hbb.cell (p := ⟨gx, 6, none⟩) hgx).trans hc6
    have HB2 : Hid (Below w.heap.size w w2) := Lib.hid (hbl.trans hbb)
    have HP2 := Lib.hid (HI.out.pop hu3 (w2 := w2) (by rw [hlq]; exact hg2))
    have HO2 : Hid (Own ndc 6 30 w.heap.size w2 (.slice A2 (L.length + 1) c2) (L ++ [{ x.nd with many := (x.ks.length : Nat) }])) := Lib.hid (by simpa using hown2)
    have HBB := Lib.hid hbb
    have hwl : w.heap.size + 1 < w2.heap.size := by have h1 := HP2.out.1.lt; omega
    clear hown2 hg2 hat2
    gi_wp2_with (refine ⟨trivial, ?_⟩; gi_at_call 100; refine (bwd_in _ _ _ _ _).mono ?_; rintro e w' ⟨rfl, rfl⟩)
    obtain ⟨ps2, rfl⟩ := TrsS_ptrs hks
    have hpl : ps2.length = x.ks.length := by have := TrsS_len hks; simpa using this
    have hLx : L.length + (flat x).length ≤ 1000000000000 := by
     have h1 := congrArg List.length HI.out.all
     rw [List.reverse_append, List.reverse_singleton, List.singleton_append, flats_cons, List.length_append, List.length_append] at h1
     omega
    have hxl : x.ks.length ≤ 1000000000000 := by
     have h1 := flats_len x.ks
     have h2 := congrArg List.length (flat_eq x)
     simp at h2; omega
    have bN := Boxed.new w2 122 (.slice Ax x.ks.length cx)
    have HRW : RowS (fun b => b < w.heap.size) (w2.alloc (.cells #[.slice Ax x.ks.length cx] 122)) (.slice Ax x.ks.length cx) (ps2.map Value.pointer) := hrow.same (by have := hbb.size; simp; omega) (fun b hb _ => (hbb.alloc (by omega) (.cells #[.slice Ax x.ks.length cx] 122)).block b hb)
    have hb0 : Below w.heap.size w (w2.alloc (.cells #[.slice Ax x.ks.length cx] 122)) := HB2.out.alloc (by omega) _
    refine wpIn_rangeFunc_ownG rfl (by omega) (gf := 141) (lb := #[.pointer (some ⟨w2.heap.size, 0, none⟩)]) rfl trivial (enters_of Tryz.func141 (by kernel_rfl) rfl)
     (bwd_stops _ (by omega) w2.heap.size w.heap.size (.slice Ax x.ks.length cx) ps2 (by omega) (w2.alloc (.cells #[.slice Ax x.ks.length cx] 122)) bN (by simp; omega) HRW) Kq.trans (kq_b (by simp; omega) (by simp)) (Below.refl _ _) (fun _ => rfl)
     (RwJ w w2.heap.size (.slice Ax x.ks.length cx) (.slice A2 (L.length + 1) c2) (L ++ [{ x.nd with many := (x.ks.length : Nat) }]) qs ds) (fun _ _ _ => False) (RwJ.own w w2.heap.size _ _ _ _ _ _ (by simp; omega) (by simp)) (fun _ _ _ _ _ hs _ _ => hs)
     ⟨⟨_, HP2.out.1.alloc _, by simpa using HP2.out.2.1.alloc _⟩, bN, HO2.out.alloc _, hb0, fun d hd => by
      obtain ⟨D, a1, a2, a3, a4⟩ := HP2.out.2.2 ds HDF.out d hd
      exact ⟨D, a1, a2, a3, (((Below.refl _ w2).alloc (Nat.le_refl _) _).block D a2).trans a4⟩⟩
     (fun y => { tmps := #[Value.pointer (some ⟨g, 0, none⟩), undef, f 2, Value.slice A2 (L.length + 1) c2, Value.pointer (some ⟨w.heap.size + 1, 0, none⟩), Value.int IntKind.i64 ((us.length : Nat) : Int), Value.pointer (some ⟨gx, 0, none⟩), Value.pointer (some ⟨wr.heap.size, 0, none⟩), undef, Value.pointer y.2, Value.pointer (some ⟨g, 0, none⟩), Value.slice (some ⟨w.heap.size, 0, none⟩) 1 1, Value.slice (some ⟨gu, 0, none⟩) (us.length + 1) cu, Value.int IntKind.i64 (((us.length : Nat) : Int) + 1), Value.bool true, Value.slice (some ⟨gu, 0, none⟩) (us.length + 1) cu, Value.int IntKind.i64 (((us.length : Nat) : Int) + 1), Value.int IntKind.i64 ((us.length : Nat) : Int), Value.slice (some ⟨gu, 0, none⟩) (us.length + 1) cu, Value.int IntKind.i64 ((us.length : Nat) : Int), Value.pointer (some ⟨gu, us.length, none⟩), Value.pointer (some ⟨gx, 0, none⟩), Value.slice (some ⟨gu, 0, none⟩) (us.length + 1) cu, Value.int IntKind.i64 ((us.length : Nat) : Int), Value.slice (some ⟨gu, 0, none⟩) us.length cu, Value.pointer (some ⟨gx, 0, none⟩), Value.pointer (some ⟨gx, 0, none⟩), Value.pointer (some ⟨gx, 0, none⟩), Value.agg #[Value.int IntKind.i64 x.nd.kind, Value.int IntKind.i64 m, Value.string ⟨x.nd.name.toArray⟩, Value.string ⟨x.nd.s.toArray⟩, Value.bool x.nd.neg, Value.int IntKind.i64 x.nd.e], Value.pointer (some ⟨gx, 0, none⟩), Value.pointer (some ⟨gx, 0, none⟩), Value.pointer (some ⟨gx, 6, none⟩), Value.slice Ax x.ks.length cx, Value.int IntKind.i64 ((x.ks.length : Nat) : Int), Value.pointer (some ⟨wr.heap.size, 1, none⟩), Value.slice Av L.length cv, Value.agg #[Value.int IntKind.i64 x.nd.kind, Value.int IntKind.i64 ((x.ks.length : Nat) : Int), Value.string ⟨x.nd.name.toArray⟩, Value.string ⟨x.nd.s.toArray⟩, Value.bool x.nd.neg, Value.int IntKind.i64 x.nd.e], Value.slice (some ⟨wr.heap.size + 1, 0, none⟩) 1 1, Value.slice A2 (L.length + 1) c2, Value.pointer (some ⟨gx, 0, none⟩), Value.pointer (some ⟨gx, 0, none⟩), Value.pointer (some ⟨gx, 6, none⟩), Value.slice Ax x.ks.length cx, Value.func (Fn.func 141) #[] #[Value.pointer (some ⟨w2.heap.size, 0, none⟩)], Value.int IntKind.i64 (y.1 : Nat), Value.pointer y.2, f 46, f 47, f 48, f 49, f 50], defers := [] }) ?assign ?body ?done ?stop
    case assign =>
     intro l y W K hK
     gi_wp2
     exact hK
    case body =>
     rintro l pre y W hJ hlt
     obtain ⟨⟨u0, hb0, hown⟩, -, -, hJb, -⟩ := id hJ
     have hql : qs.length ≤ 1000000000000 := by omega
     rw [hpl] at hlt
     have hzl : (qs ++ pre.map (·.2)).length ≤ 2000000000000 := by simp; omega
     generalize hZ : qs ++ pre.map (·.2) = Z at *
     have HZ := Lib.hid hZ
     obtain ⟨A0, c0, rfl, hc0, hcm0, -⟩ := hown.form
     have HJ := Lib.hid hJ
     have HOW0 := Lib.hid hown
     have HB0 := Lib.hid hb0
     have hcell := hb0.cell
     have hfrz := hb0.frozen
     have hbs := hJb.size
     have HA1 := Lib.hid (hown.alloc (.cells #[.pointer y.2] 61))
     have HR1 := Lib.hid (Row.lit ptc_len W 61 #[.pointer y.2] [y.2] (by show 1 ≤ maxLen; decide) rfl)
     have H63 : Hid (Z.length + [y.2].length ≤ maxLen) := Lib.hid (by simp only [List.length_singleton]; unfold maxLen; omega)
     have HBY : Hid ((Z.length + [y.2].length) * 8 ≤ 140737488355328) := Lib.hid (by simp only [List.length_singleton]; omega)
     have HBA : Hid (w.heap.size ≤ (W.alloc (.cells #[.pointer y.2] 61)).heap.size) := Lib.hid (by simp; omega)
     clear hJ hown hb0 hZ
     refine wpIn_block ?_
     gi_wp2_with (gi_at_builtin; refine wpListIn_append_row (base := w.heap.size) (l := Z) (l2 := [y.2]) elTree rfl _ _ rfl rfl HA1.out rfl HR1.out (by simp) H63.out HBY.out HBA.out ?_; intro A3 c3 w3 hown3 hg3 hat3; obtain ⟨hb3, hk3, hkq, hJ3⟩ := RwJ.step (x := y) HJ.out hwl HB0.out (by rw [HZ.out]; exact HOW0.out) (by rw [HZ.out]; exact hown3) hg3; have hc3 := hb3.cell; have hf3 := hb3.frozen; have HF := Lib.hid (And.intro (hk3.from (w2.alloc (.cells #[.slice Ax x.ks.length cx] 122)).heap.size) (And.intro hkq hJ3)); clear hb3 hk3 hkq hJ3 hown3 hg3 hat3)
     have h := HF.out
     simp only [World.size_alloc, List.length_append, List.length_singleton] at h
     exact h
    case done =>
     rintro D ys W hD rfl hJ hK
     obtain ⟨u2, hn1, hn2, hn3⟩ := RwI.next HI.out hks (by have := hbb.size; omega) hJ (by simp at hD; omega) hK HND.out
     refine ⟨⟨fun k => ([Value.pointer (some ⟨g, 0, none⟩), undef, f 2, Value.slice A2 (L.length + 1) c2, Value.pointer (some ⟨w.heap.size + 1, 0, none⟩), Value.int IntKind.i64 ((us.length : Nat) : Int), Value.pointer (some ⟨gx, 0, none⟩), Value.pointer (some ⟨wr.heap.size, 0, none⟩), undef, f 9, Value.pointer (some ⟨g, 0, none⟩), Value.slice (some ⟨w.heap.size, 0, none⟩) 1 1, Value.slice (some ⟨gu, 0, none⟩) (us.length + 1) cu, Value.int IntKind.i64 (((us.length : Nat) : Int) + 1), Value.bool true, Value.slice (some ⟨gu, 0, none⟩) (us.length + 1) cu, Value.int IntKind.i64 (((us.length : Nat) : Int) + 1), Value.int IntKind.i64 ((us.length : Nat) : Int), Value.slice (some ⟨gu, 0, none⟩) (us.length + 1) cu, Value.int IntKind.i64 ((us.length : Nat) : Int), Value.pointer (some ⟨gu, us.length, none⟩), Value.pointer (some ⟨gx, 0, none⟩), Value.slice (some ⟨gu, 0, none⟩) (us.length + 1) cu, Value.int IntKind.i64 ((us.length : Nat) : Int), Value.slice (some ⟨gu, 0, none⟩) us.length cu, Value.pointer (some ⟨gx, 0, none⟩), Value.pointer (some ⟨gx, 0, none⟩), Value.pointer (some ⟨gx, 0, none⟩), Value.agg #[Value.int IntKind.i64 x.nd.kind, Value.int IntKind.i64 m, Value.string ⟨x.nd.name.toArray⟩, Value.string ⟨x.nd.s.toArray⟩, Value.bool x.nd.neg, Value.int IntKind.i64 x.nd.e], Value.pointer (some ⟨gx, 0, none⟩), Value.pointer (some ⟨gx, 0, none⟩), Value.pointer (some ⟨gx, 6, none⟩), Value.slice Ax x.ks.length cx, Value.int IntKind.i64 ((x.ks.length : Nat) : Int), Value.pointer (some ⟨wr.heap.size, 1, none⟩), Value.slice Av L.length cv, Value.agg #[Value.int IntKind.i64 x.nd.kind, Value.int IntKind.i64 ((x.ks.length : Nat) : Int), Value.string ⟨x.nd.name.toArray⟩, Value.string ⟨x.nd.s.toArray⟩, Value.bool x.nd.neg, Value.int IntKind.i64 x.nd.e], Value.slice (some ⟨wr.heap.size + 1, 0, none⟩) 1 1, Value.slice A2 (L.length + 1) c2, Value.pointer (some ⟨gx, 0, none⟩), Value.pointer (some ⟨gx, 0, none⟩), Value.pointer (some ⟨gx, 6, none⟩), Value.slice Ax x.ks.length cx, Value.func (Fn.func 141) #[] #[Value.pointer (some ⟨w2.heap.size, 0, none⟩)], undef, undef, f 46, f 47, f 48, f 49, f 50] : List Value).getD k undef, _, u2, _, _, _, _, rfl, Lib.hid hn1, Lib.hid hn2, Lib.hid hn3⟩, ?_⟩
     have := flat_pos x
     show 1000000000000 - (L.length + 1) < 1000000000000 - L.length
     omega
    case stop =>
     rintro D c pre W _ _ h _
     exact h.elim
end Go.Proofs.YtldioobbfkaebaaGreatDoor
