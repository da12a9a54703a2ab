/-
  Joined: TmS, FwB, FwC, FwD, FrI, FrJ, EhA, ErJ.
-/
import Derived.Test.YtldioobbfkaebaaGreatDoorEvalHoldsJ9
import Derived.Test.YtldioobbfkaebaaGreatDoorEvalHoldsJ8
import Derived.Deep.AppendLies
import Derived.Test.YtldioobbfkaebaaGreatDoorEvalHoldsJ10
import Derived.Test.YtldioobbfkaebaaGreatDoorEvalHoldsJ4
import Derived.RangeFuncNested
import Derived.RangeFuncBound
import Derived.RangeFuncCalls
import Derived.RangeFuncLeaves
import Derived.RangeFuncBox
import Derived.Shelf.Abstract
import Derived.Shelf.RegionOpen
import Derived.OwnWalkIn
import Derived.TacticsInMore
import Derived.LoopNIn
import Derived.LoopIn
import Derived.Test.YtldioobbfkaebaaGreatDoorEvalHoldsJ13
import Derived.Test.YtldioobbfkaebaaGreatDoorEvalHoldsJ14
import Derived.Deep.RegionHeld3
import Derived.Test.YtldioobbfkaebaaGreatDoorEvalHoldsJ17
set_option maxHeartbeats 8000000
set_option maxRecDepth 100000
namespace Go.Proofs.YtldioobbfkaebaaGreatDoor
section
open Go.RowKit Np Rw Vp Pw Fw
theorem wpList_store_term {ops : Array Oper} {rest : List Oper} {op : Oper} {a : Act} {w : World} {Q : Exit → Act → World → Prop} (hgd : op.guard = none) (x y : Operand) (ho : op.op = .store 32 x y)
  (g o : Nat) (n : Tm) (hx : a.eval x = .pointer (some ⟨g, o, none⟩)) (hy : a.eval y = tma n) (ht : w.there g o 11) (h : wpList Tryz.prog ops Q rest (a.put op.dst undef) (w.setCells g o (tmc n))) : wpList Tryz.prog ops Q (op :: rest) a w := by
 refine wpList_store_mid hgd 32 x y ho g o _ hx hy ht ?_ (all_oneCell_toArray (cs := tmc n) (elTerm.one n)) h
 have := term_info
 cases h : Tryz.prog.info? 32 with
 | none => rw [h] at this; cases this
 | some i => rw [h] at this; simp at this; simp [this.2.1]
section
variable {α : Type} {P : Program} {enc : α → List Value} {T E sz bys base : Nat} {w : World}
theorem Own.empty {W : World} {g : Nat} (h : W.heap[g]? = some (.cells #[] E)) (hb : base ≤ g) : Own enc sz E base W (.slice (some ⟨g, 0, none⟩) 0 0) ([] : List α) :=
 ⟨by simp, .inr ⟨g, 0, #[], rfl, hb, h, Nat.le_refl _, Nat.zero_le _, by simp, by simp⟩⟩
end
abbrev tmO' (t : Tm) : Obj := .cells #[.int .i64 t.op, .int .i64 t.many, .string ⟨t.name.toArray⟩, .string ⟨t.s.toArray⟩, .int .i64 t.n, .int .i64 t.c.kind, .int .i64 t.c.many, .string ⟨t.c.name.toArray⟩, .string ⟨t.c.s.toArray⟩, .bool t.c.neg, .int .i64 t.c.e] 32
theorem Tms.one {W : World} {g : Nat} {t : Tm} (h : W.heap[g]? = some (tmO' t)) : Tms W (.slice (some ⟨g, 0, none⟩) 1 1) [t] := by
 have hlt : g < W.heap.size := (Array.getElem?_eq_some_iff.1 h).1
 refine Row.mk (l := [t]) (c := 1) (Nat.le_refl _) (by decide) hlt (fun k x hk j u hu => ?_)
 have hk0 : k = 0 := by
  have := (List.getElem?_eq_some_iff.1 hk).1
  simp at this; omega
 subst hk0
 simp at hk; subst hk
 rw [Lib.cell_of_heap h]
 simpa [tmc] using hu
end
section
open Go.RowKit Go.Shelf Np Rw Vp Pw Fw
theorem sum_takeG {α : Type} {L : List (List α)} {k : Nat} {x : List α} (hx : L[k]? = some x) : ((L.take (k + 1)).map List.length).sum = ((L.take k).map List.length).sum + x.length := by
 rw [List.take_add_one, hx]; simp
theorem sum_takeG_le {α : Type} (L : List (List α)) (k : Nat) : ((L.take k).map List.length).sum ≤ (L.map List.length).sum := by
 conv => rhs; rw [← List.take_append_drop k L, List.map_append, List.sum_append]
 omega
theorem Row.pc {α : Type} {enc : α → List Value} {sz g o c : Nat} {w : World} {l : List α} (h : Row enc sz w (.slice (some ⟨g, o, none⟩) l.length c) l) (k m d : Nat) (hk : k + m ≤ l.length) (hd : m ≤ d) (hdc : d ≤ c) :
  Row enc sz w (.slice (some ⟨g, o + k * sz, none⟩) m d) ((l.drop k).take m) := by
 obtain ⟨A, c', hv, hc, hm, -, H⟩ := h
 injection hv with e1 _ e3
 subst e1 e3
 have hl : ((l.drop k).take m).length = m := by simp; omega
 refine ⟨_, d, by rw [hl], by rw [hl]; exact hd, by omega, fun h => (by cases h), fun h0 => ?_⟩
 rw [hl] at h0
 obtain ⟨g', o', hA, hg, hx⟩ := H (by omega)
 injection hA with hA
 injection hA with e1 e2
 subst e1 e2
 refine ⟨g, o + k * sz, rfl, hg, fun i x hi => ?_⟩
 rw [List.getElem?_take] at hi
 split at hi
 ·rw [List.getElem?_drop] at hi
  have := hx _ x hi
  rwa [Nat.add_mul, ← Nat.add_assoc] at this
 ·cases hi
end
section
open Go.RowKit Go.Shelf Np Rw Vp Pw Fw
attribute [local go_sem] Oper.semAt_some
abbrev PtF (L : List Tm) := { x : Nat × Tr Tm // okT tmany x.2 ∧ ∃ r, L.drop x.1 = flat x.2 ++ r }
def Kq (n₀ Bn : Nat) (W W' : World) : Prop := Below n₀ W W' ∧ W'.heap[Bn]? = W.heap[Bn]?
theorem Kq.refl (n₀ Bn : Nat) (W : World) : Kq n₀ Bn W W := ⟨Below.refl _ _, rfl⟩
theorem Kq.trans {n₀ Bn : Nat} {A B C : World} (h : Kq n₀ Bn A B) (k : Kq n₀ Bn B C) : Kq n₀ Bn A C := ⟨h.1.trans k.1, k.2.trans h.2⟩
theorem kq_b {n₀ Bn : Nat} {w : World} (hn : n₀ ≤ w.heap.size) (hB : Bn < w.heap.size) (W : World) (l : Nat) (o o' : Obj) (hl : w.heap.size ≤ l) (h : W.heap[l]? = some o) (_ : o.isCells = false) (_ : o.isWalk = false) : Kq n₀ Bn W (W.putObj l o') :=
 ⟨belowK_b hn W l o o' hl h (by assumption) (by assumption), (grownBy_putObj' W l o').block Bn (by have := (Array.getElem?_eq_some_iff.1 h).1; omega) (fun e => by cases e; omega)⟩
theorem box_same {Bn : Nat} {W W' : World} {v : Value} {T : TypeId} (hb : Boxed W Bn T v) (h : W'.heap[Bn]? = W.heap[Bn]?) : W'.cell? ⟨Bn, 0, none⟩ = some v := by
 have : Boxed W' Bn T v := h.trans hb
 exact this.cell
end
section
open Go.RowKit Go.Shelf Np Rw Vp Pw Fw
attribute [local go_sem] Oper.semAt_some
def ElemsF (base : Nat) (W : World) (zs : List (Option Addr × Nat × Nat)) (L : List (List Tm)) : Prop := zs.length = L.length ∧ ∀ (k : Nat) (z : Option Addr × Nat × Nat) (l : List Tm), zs[k]? = some z → L[k]? = some l → OwnT base W (.slice z.1 z.2.1 z.2.2) l
theorem ElemsF.below {base : Nat} {W W' : World} {zs : List (Option Addr × Nat × Nat)} {L : List (List Tm)} (h : ElemsF base W zs L) (hb : Below W.heap.size W W') : ElemsF base W' zs L := ⟨h.1, fun k z l h1 h2 => (h.2 k z l h1 h2).below hb⟩
theorem ElemsF.snoc {base : Nat} {W : World} {zs : List (Option Addr × Nat × Nat)} {L : List (List Tm)} {z : Option Addr × Nat × Nat} {l : List Tm} (h : ElemsF base W zs L) (hz : OwnT base W (.slice z.1 z.2.1 z.2.2) l) : ElemsF base W (zs ++ [z]) (L ++ [l]) := by
 refine ⟨by simp [h.1], fun k y m h1 h2 => ?_⟩
 rw [List.getElem?_append] at h1 h2
 rw [h.1] at h1
 split at h1
 ·rename_i hk
  rw [if_pos hk] at h2
  exact h.2 k y m h1 h2
 ·rename_i hk
  rw [if_neg hk] at h2
  have : k - L.length = 0 := by
   have := (List.getElem?_eq_some_iff.1 h1).1
   simp at this; omega
  rw [this] at h1 h2
  simp at h1 h2
  subst h1 h2
  exact hz
theorem ElemsF.fls {base : Nat} {W : World} {v : Value} {zs : List (Option Addr × Nat × Nat)} {L : List (List Tm)} (h : ElemsF base W zs L) (hr : Row slc 1 W v zs) : Fls W v L := by
 refine ⟨zs.map (fun z => .slice z.1 z.2.1 z.2.2), by simp [h.1], ?_, ?_⟩
 ·obtain ⟨A, c, hv, hc, hm, hz, H⟩ := hr
  refine ⟨A, c, by simpa using hv, by simpa using hc, hm, hz, fun h0 => ?_⟩
  obtain ⟨g, o, hA, hlt, hx⟩ := H (by simpa using h0)
  refine ⟨g, o, hA, hlt, fun k x hk => ?_⟩
  rw [List.getElem?_map, Option.map_eq_some_iff] at hk
  obtain ⟨z, hz1, rfl⟩ := hk
  exact hx k z hz1
 ·intro k x l hx hl
  rw [List.getElem?_map, Option.map_eq_some_iff] at hx
  obtain ⟨z, hz1, rfl⟩ := hx
  exact (h.2 k z l hz1 hl).row tmc_len
def GivesFs (w : World) (L : List (List Tm)) (e : Ending) (w' : World) : Prop := ∃ v', e = .returned v' ∧ Fls w' v' L ∧ Below w.heap.size w w'
def PIF {L : List Tm} (w : World) (pre : List (PtF L)) (W : World) : Prop :=
 (∃ v zs, Boxed W w.heap.size 33 v ∧ Own slc 1 23 (w.heap.size + 1 + 1) W v zs ∧ ElemsF w.heap.size W zs (pre.map fun x => flat (clrF x.1.2))) ∧ Below w.heap.size w W ∧ w.heap.size + 1 < W.heap.size
theorem PIF.own {L : List Tm} (w : World) (B : Nat) (hB : w.heap.size ≤ B) : OwnFrom B (PIF (L := L) w) := by
 intro s W W' row hs hg hr
 obtain ⟨⟨v, zs, h1, h2, h3⟩, h4, h5⟩ := hs
 have hr' : ∀ r, row = some r → ∃ o : Obj, W.heap[r]? = some o ∧ o.isCells = false := fun r e => (hr r e).2
 refine ⟨⟨v, zs, boxed_turned h1 hg hr', h2.turned hg hr', h3.1, fun k z l a b => (h3.2 k z l a b).turned hg hr'⟩, ?_, Nat.lt_of_lt_of_le h5 hg.size⟩
 exact ownFrom_below (β := Unit) (Nat.le_refl _) hB () W W' row h4 hg hr
theorem PIF.step {L : List Tm} {w W W1 W3 : World} {pre : List (PtF L)} {x : PtF L} {v0 : Value} {zs : List (Option Addr × Nat × Nat)} {z : Option Addr × Nat × Nat} {v3 : Value} (hb0 : Boxed W w.heap.size 33 v0) (hown : Own slc 1 23 (w.heap.size + 1 + 1) W v0 zs)
  (hel : ElemsF w.heap.size W zs (pre.map fun x => flat (clrF x.1.2))) (hB : Below w.heap.size w W) (hBn : w.heap.size + 1 < W.heap.size) (h1 : Below W.heap.size W W1) (hz : OwnT w.heap.size W1 (.slice z.1 z.2.1 z.2.2) (flat (clrF x.1.2)))
  (h3 : Own slc 1 23 (w.heap.size + 1 + 1) W3 v3 (zs ++ [z])) (hg : (W1.alloc (.cells #[.slice z.1 z.2.1 z.2.2] 23)).grownBy W3 v0.ownBlock) :
  Boxed W3 w.heap.size 33 v0 ∧ KeepsOthers W (W3.setCell ⟨w.heap.size, 0, none⟩ v3) ∧ Kq w.heap.size (w.heap.size + 1) W (W3.setCell ⟨w.heap.size, 0, none⟩ v3) ∧ PIF w (pre ++ [x]) (W3.setCell ⟨w.heap.size, 0, none⟩ v3) := by
 have hbx := hb0.lt
 have hBs := hB.size
 have h2 : Below W.heap.size W (W1.alloc (.cells #[.slice z.1 z.2.1 z.2.2] 23)) := h1.alloc h1.size _
 have hz2 := h2.size
 have hb2 : Boxed (W1.alloc (.cells #[.slice z.1 z.2.1 z.2.2] 23)) w.heap.size 33 v0 := (h2.block _ hbx).trans hb0
 have ho2 : Own slc 1 23 (w.heap.size + 1 + 1) (W1.alloc (.cells #[.slice z.1 z.2.1 z.2.2] 23)) v0 zs := hown.below h2
 have hne : some w.heap.size ≠ v0.ownBlock := hb2.not_row (by decide) ho2
 have hb3 : Boxed W3 w.heap.size 33 v0 := hb2.kept hg hne
 have hne3 : v3.ownBlock ≠ some w.heap.size := fun e => (hb3.not_row (by decide) h3) e.symm
 have hk3 := ho2.kept hg (by omega)
 have hlow : Below w.heap.size W W3 := (h2.mono hBs).trans (hk3.mono (by omega))
 have hset0 := hlow.setCell (p := ⟨w.heap.size, 0, none⟩) (Nat.le_refl _) v3
 have hset : Kq w.heap.size (w.heap.size + 1) W (W3.setCell ⟨w.heap.size, 0, none⟩ v3) := ⟨hset0, (Below.heap_setCell W3 ⟨w.heap.size, 0, none⟩ v3 (w.heap.size + 1) (by simp)).trans ((hk3.block _ (by omega)).trans (h2.block _ hBn))⟩
 refine ⟨hb3, ?_, hset, ⟨v3, zs ++ [z], hb3.set v3, ?_, ?_⟩, hB.trans hset0, Nat.lt_of_lt_of_le hBn hset0.size⟩
 ·refine ((keeps_below h2).trans (KeepsOthers.of_grownBy hg (fun j o e ho => ?_))).trans (KeepsOthers.setCell _ _ _)
  obtain ⟨g, cap, cur, hv, _, hh, _⟩ := (ho2.2).resolve_left (fun h => by rw [h.1] at e; cases e)
  rw [hv] at e
  cases e
  rw [hh] at ho
  cases ho
  rfl
 ·exact ownsRow_setCell_other h3 hne3 v3
 ·have hk : ∀ {v : Value} {l : List Tm}, OwnT w.heap.size (W1.alloc (.cells #[.slice z.1 z.2.1 z.2.2] 23)) v l → OwnT w.heap.size (W3.setCell ⟨w.heap.size, 0, none⟩ v3) v l := by
   intro v l hn
   have hn3 : OwnT w.heap.size W3 v l := World.ownsRow.kept hn hg (own_apart hn ho2 (by decide))
   exact ownsRow_setCell_other hn3 (fun e => (hb3.not_row (by decide) hn3) e.symm) v3
  rw [List.map_append, List.map_singleton]
  exact ElemsF.snoc ⟨hel.1, fun k y l a b => hk ((hel.2 k y l a b).below h2)⟩ (hk (hz.alloc _))
end
section
open Go.RowKit Np Rw Vp Up Qp Pw Fw
theorem ElemsF.aside {base : Nat} {W W' : World} {v : Value} {xs zs : List (Option Addr × Nat × Nat)} {L : List (List Tm)} (h : ElemsF base W zs L) (hv : Own slc 1 23 base W v xs) (hg : W.grownBy W' v.ownBlock) : ElemsF base W' zs L :=
 ⟨h.1, fun k z l hz hl => by
  refine World.ownsRow.kept (h.2 k z l hz hl) (row := v.ownBlock) hg ?_
  exact own_apart (h.2 k z l hz hl) hv (by decide)⟩
theorem drop_ks {t : Tr Tm} {pre post : List (Tr Tm)} (h : t.ks = pre ++ post) : (flat t).drop (1 + (flats pre).length) = flats post := by
 rw [flat_eq, h, flats_append, Nat.add_comm, List.drop_succ_cons, List.drop_left]
theorem refPartsL_any (v : Value) (t : Tr Tm) (w : World) (hv : Tms w v (flat t)) (hl : (flat t).length ≤ 60000) (ht : okT tmany t) :
  Calls Tryz.prog 29 #[v] w (GivesFs w (t.ks.map fun k => flat (clrF k))) := by
 obtain ⟨g, o, c, rfl, hc, hcm, hg, hx⟩ := hv.opened (flat_pos t)
 have hmany : t.nd.many = t.ks.length := (okT_eq.1 ht).1
 have a1 : w.cell? ⟨g, o + 1, none⟩ = some (.int .i64 (t.ks.length : Nat)) := by
  have := (hx 0 t.nd (by rw [flat_eq]; rfl)).tm.c1
  rw [hmany] at this
  simpa using this
 have HA1 := Lib.hid a1
 have HV := Lib.hid hv
 have HKS := Lib.hid (okT_eq.1 ht).2
 have hkl : t.ks.length ≤ 60000 := by
  have h1 := flats_len t.ks
  rw [flat_eq] at hl
  simp at hl
  omega
 have hpos := flat_pos t
 have HDR : Hid (∀ pre post, t.ks = pre ++ post → (flat t).drop (1 + (flats pre).length) = flats post) := Lib.hid (fun pre post h => drop_ks h)
 have HX := Lib.hid hx
 clear hx hv hmany a1
 have HLL := Lib.hid hl
 unfold maxLen at hcm
 generalize hn : (flat t).length = n at *
 have HN := Lib.hid hn
 clear hn
 generalize hq : t.ks.length = q at *
 have HQ := Lib.hid hq
 clear hq
 have HO0 : Hid (Own slc 1 23 w.heap.size (w.alloc (.cells #[] 23)) (.slice (some ⟨w.heap.size, 0, none⟩) 0 0) []) := Lib.hid (Own.lit (l := []) slc_len w #[] (Nat.le_refl _) (Nat.zero_le _) rfl)
 go_enter Tryz.func29, Tryz.ntmps29
 go_wp2_with fail
 go_loopw [3, 4, 5] (fun ov iv kv wr => ∃ (pre post : List (Tr Tm)) (zs : List (Option Addr × Nat × Nat)), t.ks = pre ++ post ∧ kv = .int .i64 pre.length ∧ iv = .int .i64 (1 + (flats pre).length : Nat) ∧ Own slc 1 23 w.heap.size wr ov zs ∧ ElemsF w.heap.size wr zs (pre.map fun k => flat (clrF k)) ∧ Below w.heap.size w wr) (fun _ _ kv _ => q - (intOf kv).toNat)
 case atStart => exact ⟨[], t.ks, [], rfl, rfl, rfl, HO0.out, ⟨rfl, fun k z l h => by simp at h⟩, (Below.refl _ _).alloc (Nat.le_refl _) _⟩
 case round =>
  obtain ⟨pre, post, zs, hpp, rfl, rfl, hown, hels, hb⟩ := hrel
  have a2 := (hb.cell (p := ⟨g, o + 1, none⟩) hg).trans HA1.out
  have HO := Lib.hid hown
  have HE := Lib.hid hels
  have HB := Lib.hid hb
  have HP := Lib.hid hpp
  have hlen : pre.length + post.length = q := by rw [← HQ.out, hpp]; simp
  obtain ⟨Ao, co, rfl, -, -, -⟩ := hown.form
  clear hown hels hb hpp
  cases post with
  | nil =>
   simp only [List.length_nil, Nat.add_zero] at hlen
   have HF : Hid (pre = t.ks) := Lib.hid (by rw [HP.out]; simp)
   have hlt : ¬ (pre.length : Int) < q := by omega
   clear hlen
   go_wp2_with fail
   go_ret
   exact ⟨_, rfl, by have := HE.out; rw [HF.out] at this; exact this.fls (HO.out.row slc_len), HB.out⟩
  | cons u rest =>
   simp only [List.length_cons] at hlen
   have hdr := HDR.out pre (u :: rest) HP.out
   rw [flats_cons] at hdr
   have hoku : okT tmany u := by have := HKS.out; rw [HP.out, okTs_append, okTs_cons] at this; exact this.2.1
   have hnx := nxtF_at hdr hoku
   have hup := flat_pos u
   have hpl : 1 + (flats pre).length + (flat u).length ≤ n := by
    have h1 := congrArg List.length hdr
    rw [List.length_drop, HN.out, List.length_append] at h1
    omega
   have hlt : (pre.length : Int) < q := by omega
   generalize hi : 1 + (flats pre).length = i at *
   generalize hm : (flat u).length = m at *
   rw [HN.out] at hnx
   have HNX := Lib.hid hnx
   have HPC : Hid (∀ W, Below wr.heap.size wr W → Tms W (.slice (some ⟨g, o + i * 11, none⟩) m (c - i)) (flat u)) := Lib.hid (fun W hW => by
    have h0 : Tms W (.slice (some ⟨g, o, none⟩) (flat t).length c) (flat t) := by rw [HN.out]; exact (HV.out.below HB.out).below hW
    have h1 := h0.pc i m (c - i) (by rw [HN.out]; exact hpl) (by omega) (by omega)
    rwa [hdr, ← hm, List.take_left, hm] at h1)
   have HNE := Lib.hid (refNextT_any (.slice (some ⟨g, o, none⟩) n c) (flat t) i wr (HV.out.below HB.out) (by rw [HN.out]; omega) (by rw [HN.out]; omega))
   rw [HN.out, HNX.out] at HNE
   have hlc : i + m ≤ c := by omega
   clear hdr hoku hnx HNX
   go_wp2_with fail
   refine HNE.out.mono ?_
   rintro e w' ⟨rfl, rfl⟩
   have HO4 : Hid (OwnT wr.heap.size (wr.alloc (.cells #[] 32)) (.slice (some ⟨wr.heap.size, 0, none⟩) 0 0) []) := Lib.hid (Own.lit (l := []) tmc_len wr #[] (Nat.le_refl _) (Nat.zero_le _) rfl)
   have HR4 : Hid (Tms (wr.alloc (.cells #[] 32)) (.slice (some ⟨g, o + i * 11, none⟩) (i + m - i) (c - i)) (flat u)) := Lib.hid (by rw [show i + m - i = m by omega]; exact HPC.out _ ((Below.refl _ _).alloc (Nat.le_refl _) _))
   have hic : ¬ (i = c) := by omega
   have HMU := Lib.hid hm
   clear hm
   go_wp2_with (at_builtin; refine wpList_append_row (base := wr.heap.size) elTerm rfl _ _ rfl rfl HO4.out rfl HR4.out ?_ ?_ ?_ ?_)
   ·rw [HMU.out]; unfold maxLen; simp only [List.length_nil]; omega
   ·rw [HMU.out]; simp only [List.length_nil]; omega
   ·simp
   intro A4 c4 w4 hown4 hg4 _
   have HB4 : Hid (Below wr.heap.size wr w4) := Lib.hid (((Below.refl _ _).alloc (Nat.le_refl _) _).trans (HO4.out.kept hg4 (by simp)))
   have HN4 : Hid (OwnT wr.heap.size w4 (.slice A4 m c4) (flat u)) := Lib.hid (by have h := hown4; simp only [HMU.out] at h; exact h)
   try simp only [HMU.out]
   clear hown4 hg4 HO4 HR4
   have HK0 : Hid ((flat u)[0]? = some u.nd) := Lib.hid (by rw [flat_eq]; rfl)
   obtain ⟨g4, rfl, HG4⟩ : ∃ g4, A4 = some ⟨g4, 0, none⟩ ∧ Hid (wr.heap.size ≤ g4 ∧ g4 < w4.heap.size ∧ m ≤ c4) := by
    obtain ⟨g', cap, hv, h1, h2⟩ := HN4.out.opened (by rw [HMU.out]; exact hup)
    injection hv with e1 _ e3
    exact ⟨g', e1, Lib.hid ⟨h1, h2, HN4.out.cap.2.1⟩⟩
   have htm : Tm11 w4 g4 0 u.nd := by
    have h : OwnT wr.heap.size w4 (.slice (some ⟨g4, 0, none⟩) (flat u).length c4) (flat u) := by rw [HMU.out]; exact HN4.out
    have h1 := fun j x (hj : (tmc u.nd)[j]? = some x) => Own.cell tmc_len (k := 0) (j := j) h HK0.out hj
    simp only [Nat.zero_mul, Nat.zero_add] at h1
    exact ⟨h1 0 _ rfl, h1 1 _ rfl, h1 2 _ rfl, h1 3 _ rfl, h1 4 _ rfl, h1 5 _ rfl, h1 6 _ rfl, h1 7 _ rfl, h1 8 _ rfl, h1 9 _ rfl, h1 10 _ rfl⟩
   obtain ⟨y0, y1, y2, y3, y4, y5, y6, y7, y8, y9, y10⟩ := htm
   simp only [Nat.zero_add] at y0 y1 y2 y3 y4 y5 y6 y7 y8 y9 y10
   have HTH4 : Hid (∀ ob : Obj, (w4.alloc ob).there g4 0 11) := Lib.hid (fun ob => by
    have h : OwnT wr.heap.size (w4.alloc ob) (.slice (some ⟨g4, 0, none⟩) (flat u).length c4) (flat u) := by rw [HMU.out]; exact HN4.out.alloc ob
    have := Own.there tmc_len h HK0.out
    simpa using this)
   have HPU4 : Hid (∀ ob : Obj, OwnT wr.heap.size ((w4.alloc ob).setCells g4 0 (tmc (noNm u.nd))) (.slice (some ⟨g4, 0, none⟩) m c4) (flat (clrF u))) := Lib.hid (fun ob => by
    have h : OwnT wr.heap.size (w4.alloc ob) (.slice (some ⟨g4, 0, none⟩) (flat u).length c4) (flat u) := by rw [HMU.out]; exact HN4.out.alloc ob
    have h2 := Own.puts (y := noNm u.nd) tmc_len h HK0.out
    rw [HMU.out, flat_eq u, List.set_cons_zero, ← flat_clrF u] at h2
    simpa using h2)
   have HBU4 : Hid (∀ ob : Obj, Below wr.heap.size wr ((w4.alloc ob).setCells g4 0 (tmc (noNm u.nd)))) := Lib.hid (fun ob => Below.setCells HG4.out.1 _ _ (HB4.out.alloc HB4.out.size ob))
   have hzc4 : 0 < c4 := Nat.lt_of_lt_of_le hup HG4.out.2.2
   go_upto_region 10 with fail
   go_upto_region 11 with (with_reducible refine wpList_store_term rfl _ _ rfl g4 0 (noNm u.nd) ?sx ?sy (HTH4.out _) ?sz)
   case sx => rfl
   case sy => rfl
   case sz =>
    have hn5 := HPU4.out (.cells #[.int .i64 u.nd.op, .int .i64 u.nd.many, .string ⟨#[]⟩, .string ⟨u.nd.s.toArray⟩, .int .i64 u.nd.n, .int .i64 u.nd.c.kind, .int .i64 u.nd.c.many, .string ⟨u.nd.c.name.toArray⟩, .string ⟨u.nd.c.s.toArray⟩, .bool u.nd.c.neg, .int .i64 u.nd.c.e] 32)
    have hb5 := HBU4.out (.cells #[.int .i64 u.nd.op, .int .i64 u.nd.many, .string ⟨#[]⟩, .string ⟨u.nd.s.toArray⟩, .int .i64 u.nd.n, .int .i64 u.nd.c.kind, .int .i64 u.nd.c.many, .string ⟨u.nd.c.name.toArray⟩, .string ⟨u.nd.c.s.toArray⟩, .bool u.nd.c.neg, .int .i64 u.nd.c.e] 32)
    clear y0 y1 y2 y3 y4 y5 y6 y7 y8 y9 y10 HTH4 HPU4 HBU4
    generalize (w4.alloc (.cells #[.int .i64 u.nd.op, .int .i64 u.nd.many, .string ⟨#[]⟩, .string ⟨u.nd.s.toArray⟩, .int .i64 u.nd.n, .int .i64 u.nd.c.kind, .int .i64 u.nd.c.many, .string ⟨u.nd.c.name.toArray⟩, .string ⟨u.nd.c.s.toArray⟩, .bool u.nd.c.neg, .int .i64 u.nd.c.e] 32)).setCells g4 0 (tmc (noNm u.nd)) = w5 at hn5 hb5 ⊢
    have HO5 := Lib.hid (HO.out.below hb5)
    have HE5 := Lib.hid (ElemsF.below HE.out hb5)
    have HN5 := Lib.hid (hn5.mono HB.out.size)
    have HB5 := Lib.hid (HB.out.trans (hb5.mono HB.out.size))
    have HZL : Hid (zs.length + 1 ≤ 60001) := Lib.hid (by have := HE.out.1; rw [List.length_map] at this; omega)
    have HIX : Hid (1 + (flats (pre ++ [u])).length = i + m) := Lib.hid (by rw [flats_append, flats_cons]; simp; rw [HMU.out]; omega)
    clear hn5 hb5 HN4 HB4 HG4 a2
    go_wp2_with (at_builtin; refine wpList_append_row (base := w.heap.size) elFilter rfl _ _ rfl rfl (HO5.out.alloc _) rfl (Row.lit slc_len w5 23 #[.slice (some ⟨g4, 0, none⟩) m c4] [(some ⟨g4, 0, none⟩, m, c4)] (by show 1 ≤ maxLen; decide) rfl) ?_ ?_ ?_ ?_)
    ·have := HZL.out; unfold maxLen; simp only [List.length_singleton]; omega
    ·have := HZL.out; simp only [List.length_singleton]; omega
    ·have := HB5.out.size; simp; omega
    intro A6 c6 w6 hown6 hg6 _
    have ha5 := (Below.refl w5.heap.size w5).alloc (Nat.le_refl _) (.cells #[.slice (some ⟨g4, 0, none⟩) m c4] 23)
    have HB6 : Hid (Below w.heap.size w w6) := Lib.hid ((HB5.out.trans (ha5.mono HB5.out.size)).trans ((HO5.out.alloc _).kept hg6 (by have := HB5.out.size; simp; omega)))
    have HE6 : Hid (ElemsF w.heap.size w6 (zs ++ [(some ⟨g4, 0, none⟩, m, c4)]) ((pre ++ [u]).map fun k => flat (clrF k))) := Lib.hid (by
     rw [List.map_append]
     exact ElemsF.aside (ElemsF.below (HE5.out.snoc (z := (some ⟨g4, 0, none⟩, m, c4)) HN5.out) ha5) (HO5.out.alloc _) hg6)
    have HO6 := Lib.hid hown6
    clear hown6 hg6 ha5
    go_wp2_with fail
    refine ⟨⟨pre ++ [u], rest, zs ++ [(some ⟨g4, 0, none⟩, m, c4)], by rw [HP.out]; simp, by simp, by rw [HIX.out]; rfl, ?_, HE6.out, HB6.out⟩, ?_⟩
    ·exact HO6.out
    ·simp [intOf]; omega
end
section
open Go.RowKit Np Rw Vp Up Qp Pw Fw
def manyT (t : Tm) (k : Nat) : Tm := { t with many := k }
theorem refMade_any (t : Tm) (vl : Value) (L : List (List Tm)) (w : World) (hv : Fls w vl L) (hb1 : L.length ≤ 60000) (hb2 : (L.map List.length).sum ≤ 1172812402926) :
  Calls Tryz.prog 4 #[tma t, .slice none 0 0, vl] w (OwnsT w (manyT t L.length :: L.flatten)) := by
 obtain ⟨us, hul, hu, hur⟩ := hv
 obtain ⟨A, c, rfl, -, -, -, H⟩ := hu
 have HUL := Lib.hid hul
 have HU := Lib.hid hur
 have HH := Lib.hid H
 clear hur H
 rw [← hul] at hb1 ⊢
 clear hul
 generalize hn : us.length = n at *
 have HN := Lib.hid hn; clear hn
 have HB2 := Lib.hid hb2
 clear hb2
 have hba := (Below.refl w.heap.size w).alloc (Nat.le_refl _) (tmO' (manyT t n))
 have HBA := Lib.hid hba
 have HO0 : Hid (OwnT w.heap.size ((w.alloc (tmO' (manyT t n))).alloc (tmO' (manyT t n))) (.slice (some ⟨w.heap.size + 1, 0, none⟩) 1 1) [manyT t n]) := Lib.hid (by
  have h := Own.lit (base := w.heap.size) (l := [manyT t n]) (E := 32) tmc_len (w.alloc (tmO' (manyT t n))) #[.int .i64 (manyT t n).op, .int .i64 (manyT t n).many, .string ⟨(manyT t n).name.toArray⟩, .string ⟨(manyT t n).s.toArray⟩, .int .i64 (manyT t n).n, .int .i64 (manyT t n).c.kind, .int .i64 (manyT t n).c.many, .string ⟨(manyT t n).c.name.toArray⟩, .string ⟨(manyT t n).c.s.toArray⟩, .bool (manyT t n).c.neg, .int .i64 (manyT t n).c.e] (by simp) (by show 1 ≤ maxLen; decide) rfl
  rw [show (w.alloc (tmO' (manyT t n))).heap.size = w.heap.size + 1 by simp] at h
  exact h)
 have HB0 : Hid (Below w.heap.size w ((w.alloc (tmO' (manyT t n))).alloc (tmO' (manyT t n)))) := Lib.hid (hba.alloc hba.size _)
 clear hba
 go_enter Tryz.func4, Tryz.ntmps4
 go_wp2_with fail
 go_loopw [7, 8] (fun vv i wr => ∃ k : Nat, k ≤ n ∧ i = .int .i64 k ∧ OwnT w.heap.size wr vv (manyT t n :: (L.take k).flatten) ∧ Below w.heap.size w wr) (fun _ i _ => n - (intOf i).toNat)
 case atStart => exact ⟨0, Nat.zero_le _, rfl, HO0.out, HB0.out⟩
 case round =>
  obtain ⟨j, hj, rfl, hown, hbw⟩ := hrel
  have HO := Lib.hid hown
  have HBW := Lib.hid hbw
  obtain ⟨Ao, co, rfl, -, -, -⟩ := hown.form
  by_cases hlt2 : j < n
  ·obtain ⟨g, o, rfl, hg, hx⟩ := HH.out (by omega)
   obtain ⟨x, hxk⟩ : ∃ a, us[j]? = some a := ⟨_, List.getElem?_eq_getElem (by rw [HN.out]; exact hlt2)⟩
   obtain ⟨a, ha⟩ : ∃ a, L[j]? = some a := ⟨_, List.getElem?_eq_getElem (by rw [← HUL.out]; exact hlt2)⟩
   have a0 := (hbw.cell (p := ⟨g, o + j, none⟩) hg).trans (hx j x hxk).one
   have HRA : Hid (Tms wr x a) := Lib.hid ((HU.out j x a hxk ha).below hbw)
   have HS : Hid (manyT t n :: (L.take (j + 1)).flatten = (manyT t n :: (L.take j).flatten) ++ a) := Lib.hid (by rw [List.take_add_one, ha]; simp)
   have HLN : Hid ((manyT t n :: (L.take j).flatten).length + a.length ≤ 1172812402927) := Lib.hid (by
    have h1 := sum_takeG ha
    have h2 := sum_takeG_le L (j + 1)
    have h3 := HB2.out
    rw [List.length_cons, List.length_flatten]; omega)
   clear ha hxk hx hown hbw
   generalize hq0 : (manyT t n :: (L.take j).flatten).length = q0 at *
   have HQ0 := Lib.hid hq0
   clear hq0
   go_wp2_with (at_builtin; refine wpList_append_row (base := w.heap.size) elTerm rfl _ _ rfl rfl HO.out rfl HRA.out ?_ ?_ ?_ ?_)
   ·have := HLN.out; rw [HQ0.out]; unfold maxLen; omega
   ·have := HLN.out; rw [HQ0.out]; omega
   ·exact HBW.out.size
   ·intro A' c' w2 hown2 hg2 _
    have HO2 := Lib.hid hown2
    have HG2 := Lib.hid hg2
    clear hown2 hg2 a0
    generalize ((manyT t n :: (L.take j).flatten) ++ a).length = q2 at HO2 ⊢
    go_wp2_with fail
    go_roundw
    case rel => exact ⟨j + 1, by omega, by go_num, by rw [HS.out]; exact HO2.out, HBW.out.trans (HO.out.kept HG2.out HBW.out.size)⟩
    case measure => simp [intOf]; omega
  ·have HE : Hid (L.take j = L) := Lib.hid (List.take_of_length_le (by rw [← HUL.out]; omega))
   clear hown hbw
   generalize (manyT t n :: (L.take j).flatten).length = q0 at *
   go_wp2_with fail
   go_ret
   exact ⟨_, rfl, by have := HO.out; rwa [HE.out] at this, HBW.out⟩
end
section
open Go.RowKit Np Rw Vp Up Qp Pw Fw
theorem stT_len {s : St} {N : Nat} (hr : rightS s = true) (hn : s.name.length ≤ N) : (stT s).length ≤ 6 * N + 10 := by
 obtain ⟨pt, nm, n⟩ := s
 cases pt with
 | true =>
  unfold rightS at hr
  simp only [if_true, Bool.and_eq_true, decide_eq_true_eq] at hr
  have h1 := dec_len (n := n.toNat) (by omega)
  rw [stT, if_pos rfl, itoa_nat (by exact hr.1.2)]
  simp
  omega
 | false =>
  have h1 := quo_len nm
  have h2 := wrs_le nm
  simp only at hn
  rw [stT, if_neg (by simp)]
  split
  ·simp; omega
  ·simp; omega
theorem textP_le {p : List St} {N : Nat} (hr : ∀ s ∈ p, rightS s = true) (hn : ∀ s ∈ p, s.name.length ≤ N) : (textP p).length ≤ 1 + p.length * (6 * N + 10) := by
 have h1 : (headT p).length ≤ 1 := by
  unfold headT
  split
  ·simp
  ·split <;> simp
 have h2 : ∀ l : List St, (∀ s ∈ l, rightS s = true) → (∀ s ∈ l, s.name.length ≤ N) → (l.flatMap stT).length ≤ l.length * (6 * N + 10) := by
  intro l
  induction l with
  | nil => simp
  | cons s l ih =>
   intro ha hb
   have e1 := stT_len (ha s (by simp)) (hb s (by simp))
   have e2 := ih (fun x hx => ha x (by simp [hx])) (fun x hx => hb x (by simp [hx]))
   rw [List.flatMap_cons, List.length_append, List.length_cons, Nat.succ_mul]
   omega
 have h3 := h2 p hr hn
 unfold textP
 rw [List.length_append]
 omega
def where0 : Tm := ⟨7, 0, [], [], 0, zeroC⟩
theorem held_where (k : Nat) (hk : k ≤ 9) : HeldT (manyT where0 k) := by
 constructor <;> simp [manyT, where0, zeroC, maxLen] <;> omega
theorem heldF_where {l : List Tm} (h : HeldF l) : HeldF (manyT where0 1 :: l) := by
 intro t ht
 rcases List.mem_cons.1 ht with rfl | ht
 ·exact held_where 1 (by decide)
 ·exact h t ht
theorem where_form {l : List Tm} {T : Tr Tm} (hT : Flt T) (he : manyT where0 1 :: l = flat T) : ∃ k, l = flat k ∧ okT tmany k ∧ rightTF k = true ∧ isC k.nd.op = true ∧ k.nd.name = [] := by
 have hk := flt_kids hT.ok hT.rt
 obtain ⟨d, ks⟩ := T
 have ho := (okT_mk.1 hT.ok).1
 rw [flat_mk] at he
 injection he with h1 h2
 subst h1
 have hl : ks.length = 1 := by
  have : ((1 : Nat) : Int) = ks.length := ho
  omega
 match ks, hl with
 | [k], _ =>
  obtain ⟨a1, a2, a3, a4, -⟩ := hk k (by simp)
  exact ⟨k, by simpa using h2, a1, a2, by rw [a3]; rfl, a4 (by simp [manyT, where0])⟩
theorem fls_one (W : World) (n : Nat) (hn : W.heap.size = n) (E : TypeId) (a : Value) (l1 : List Tm) (h1 : Tms W a l1) : Fls (W.alloc (.cells #[a] E)) (.slice (some ⟨n, 0, none⟩) 1 1) [l1] := by
 subst hn
 have hb : Below W.heap.size W (W.alloc (.cells #[a] E)) := (Below.refl _ _).alloc (Nat.le_refl _) _
 refine ⟨[a], rfl, Row.lit vac_len W E _ [a] (by unfold maxLen; simp) rfl, fun k x l hx hk => ?_⟩
 match k, hx, hk with
 | 0, hx, hk => simp at hx hk; subst hx hk; exact h1.below hb
 | k + 1, hx, hk => simp at hx
theorem lawGiven_any (fv vv : Value) (l : List Tm) (n : List Nd) (w : World) (hf : Tms w fv l) (hh : HeldF l) (hv : Nds w vv n) :
  Calls Tryz.prog 5 #[fv, vv] w fun e w' => e = .returned (.bool (fewF 40 l && few 40 n)) ∧ Below w.heap.size w w' := by
 have HF := Lib.hid (refFewF_any fv l 40 w hf (by decide) hh)
 have HV := Lib.hid (fun (W : World) (hW : Below w.heap.size w W) => refFew_any vv n 40 W (hv.below hW) (by decide))
 obtain ⟨A1, c1, rfl⟩ : ∃ (A : Option Addr) (c : Nat), fv = .slice A l.length c := by obtain ⟨A, c, h, -⟩ := hf; exact ⟨A, c, h⟩
 obtain ⟨A2, c2, rfl⟩ : ∃ (A : Option Addr) (c : Nat), vv = .slice A n.length c := by obtain ⟨A, c, h, -⟩ := hv; exact ⟨A, c, h⟩
 clear hf hv hh
 go_enter Tryz.func5, Tryz.ntmps5
 go_wp2_with fail
 refine HF.out.mono ?_
 rintro e w1 ⟨rfl, hb1⟩
 cases hfw : fewF 40 l
 ·go_wp2_with fail
  go_ret
  exact ⟨by rw [hfw]; rfl, hb1⟩
 ·go_wp2_with fail
  refine (HV.out _ hb1).mono ?_
  rintro e w2 ⟨rfl, hb2⟩
  go_wp2_with fail
  go_ret
  exact ⟨by rw [hfw]; rfl, Below.after hb1 hb2⟩
end
section
open Go.RowKit Np Rw Vp
section
variable {α : Type} {P : Program} {enc : α → List Value} {T E sz bys base : Nat} {w : World}
theorem step_append_rowE (el : Elem P T E enc sz bys) {ops : Array Oper} {o : Oper} {a : Act} {K : Act → World → Prop} {Q : Exit → Act → World → Prop} {R : Prop} (hgd : o.guard = none) (s x : Operand)
  (ho : o.op = .call { callee := .builtin .append, args := #[s, x], argTypes := #[T, T] }) {v : Value} {ad : Addr} {c : Nat} {l l2 : List α} (hs : a.eval s = v) (hown : Own enc sz E base w v l) (hx : a.eval x = .slice (some ad) l2.length c) (hr : Row enc sz w (.slice (some ad) l2.length c) l2)
  (h63 : l.length + l2.length ≤ maxLen) (hby : (l.length + l2.length) * bys ≤ 140737488355328) (hbase : base ≤ w.heap.size)
  (h : ∀ (A : Option Addr) (c' : Nat) (w' : World), Own enc sz E base w' (.slice A (l ++ l2).length c') (l ++ l2) → w.grownBy w' v.ownBlock → K (a.put o.dst (.slice A (l ++ l2).length c')) w') :
  if Region.wanted o (yielded ops a.tmps) = true then Oper.wp P o a w K Q else R := by
 obtain ⟨i, z, hi, hz, hsize, hbytes, hzs⟩ := el.inf
 obtain ⟨A, c2, hA, hc, hcm, hnil, hcell⟩ := hr
 injection hA with hA _ hcc
 subst hA hcc
 have hw : Region.wanted o (yielded ops a.tmps) = true := by simp [Region.wanted, hgd]
 rw [if_pos hw]
 obtain ⟨v', w', hrun, h2, h3, -, -⟩ := run_append_own_at (P := P) w base T o.type E i z sz bys el.und hi hz hsize hbytes hzs el.pos v l.length _ hown ad l2.length c (l2.flatMap enc) (flat_len el.len l2) (by
  intro j u hu
  obtain ⟨y, hy, hyu⟩ := flat_split el.len el.pos l2 j u hu
  have h0 : 0 < l2.length := by
   rcases Nat.eq_zero_or_pos l2.length with h0 | h0
   ·rw [List.eq_nil_of_length_eq_zero h0] at hu; simp at hu
   ·exact h0
  obtain ⟨g, q, hA, _, hx'⟩ := hcell h0
  injection hA with hA
  subst hA
  have := hx' _ y hy _ u hyu
  rw [Nat.add_assoc, Nat.div_add_mod' j sz] at this
  unfold Addr.add
  split
  ·rename_i h; subst h; exact this
  ·exact this) (by
  intro u hu
  obtain ⟨y, _, hyu⟩ := List.mem_flatMap.1 hu
  exact el.one y u hyu) h63 hby hbase
 have h5 : Own enc sz E base w' v' (l ++ l2) := by unfold Own; rw [List.length_append, List.flatMap_append]; exact h2
 obtain ⟨B, d, hv, -, -, -⟩ := h5.form
 subst hv
 unfold Oper.wp execOp
 simp only [ho, resolve, invoke, builtin, Sem.run_bind, Sem.run_pure, Result.andThen_ok, List.map_toArray, List.map_cons, List.map_nil, hs, hx, hrun]
 exact h B d w' h5 h3
end
end
end Go.Proofs.YtldioobbfkaebaaGreatDoor
