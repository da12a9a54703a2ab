/-
  Joined: Kb, Ow1, Ow2, Ow3, Ow4, Ow5.
-/
import Derived.Test.YtdgcdemihalefaaGreatDoorBase
import Derived.Laws.Pointers
import Derived.Test.YtdgcdemihalefaaGreatDoorNumW2
import Derived.Test.YtdgcdemihalefaaGreatDoorEvalDelsJ8
import Derived.Test.YtdgcdemihalefaaGreatDoorEvalDelsJ2
import Derived.Lib.FrozenHead
import Derived.Deep.RegionHeld3

/-
  Words for memory: all but one block is kept. Of no function.
-/
namespace Go.Proofs.YtdgcdemihalefaaGreatDoor
open Go.RowKit

/-- Below B all but one block is as it was. -/
structure Kb (B rb : Nat) (w w' : World) : Prop where
  os : w'.os = w.os
  tape : w'.tape = w.tape
  output : w'.output = w.output
  size : w.heap.size ≤ w'.heap.size
  block : ∀ k, k < B → k ≠ rb → w'.heap[k]? = w.heap[k]?
theorem Kb.refl (B rb : Nat) (w : World) : Kb B rb w w := ⟨rfl, rfl, rfl, Nat.le_refl _, fun _ _ _ => rfl⟩
theorem Kb.trans {B rb : Nat} {a b c : World} (h : Kb B rb a b) (k : Kb B rb b c) : Kb B rb a c :=
  ⟨k.os.trans h.os, k.tape.trans h.tape, k.output.trans h.output, Nat.le_trans h.size k.size, fun i hi hr => (k.block i hi hr).trans (h.block i hi hr)⟩
theorem Kb.mono {B B' rb : Nat} {w w' : World} (h : Kb B rb w w') (hB : B' ≤ B) : Kb B' rb w w' := ⟨h.os, h.tape, h.output, h.size, fun k hk hr => h.block k (Nat.lt_of_lt_of_le hk hB) hr⟩
/-- One call behind another. -/
theorem Kb.after {rb : Nat} {a b c : World} (h : Kb a.heap.size rb a b) (k : Kb b.heap.size rb b c) : Kb a.heap.size rb a c := h.trans (k.mono h.size)
theorem Kb.of {B rb : Nat} {w w' : World} (h : Below B w w') : Kb B rb w w' := ⟨h.os, h.tape, h.output, h.size, fun k hk _ => h.block k hk⟩
theorem Kb.below {B C rb : Nat} {w w' : World} (h : Kb B rb w w') (h1 : C ≤ B) (h2 : C ≤ rb) : Below C w w' := ⟨h.os, h.tape, h.output, h.size, fun k hk => h.block k (by omega) (by omega)⟩
theorem Kb.drewN {B rb : Nat} {a w : World} (h : Kb B rb a w) (n : Nat) : Kb B rb a (w.drewN n) := ⟨h.os, h.tape, h.output, h.size, h.block⟩
theorem Kb.drew {B rb : Nat} {a w : World} (h : Kb B rb a w) : Kb B rb a w.drew := ⟨h.os, h.tape, h.output, h.size, h.block⟩
theorem Kb.set {B rb : Nat} {a w : World} (h : Kb B rb a w) (o : Nat) (u : Value) : Kb B rb a (w.setCell ⟨rb, o, none⟩ u) :=
  h.trans ⟨rfl, rfl, rfl, by simp [World.setCell], fun k _ hr => Below.heap_setCell _ _ _ _ hr⟩
theorem Kb.setHigh {B rb : Nat} {a w : World} (h : Kb B rb a w) {p : Addr} (hp : B ≤ p.block) (u : Value) : Kb B rb a (w.setCell p u) :=
  h.trans ⟨rfl, rfl, rfl, by simp [World.setCell], fun k hk _ => Below.heap_setCell _ _ _ _ (by omega)⟩
theorem Kb.alloc {B rb : Nat} {a w : World} (h : Kb B rb a w) (hB : B ≤ w.heap.size) (o : Obj) : Kb B rb a (w.alloc o) :=
  h.trans ⟨rfl, rfl, rfl, by simp, fun k hk _ => Below.heap_alloc _ _ _ (by omega)⟩
theorem Kb.grown {B rb : Nat} {a w w' : World} {row : Option Nat} (h : Kb B rb a w) (hg : w.grownBy w' row) (hB : B ≤ w.heap.size) (hr : ∀ k, row = some k → B ≤ k) : Kb B rb a w' :=
  h.trans ⟨hg.os, hg.tape, hg.output, hg.size, fun k hk _ => hg.block k (by omega) (fun e => by have := hr k e.symm; omega)⟩
theorem Kb.cell {B rb : Nat} {w w' : World} (h : Kb B rb w w') {p : Addr} (hp : p.block < B) (hr : p.block ≠ rb) : w'.cell? p = w.cell? p := World.cell?_of_block (w := w) (h.block p.block hp hr)
theorem Kb.frozen {B rb : Nat} {w w' : World} (h : Kb B rb w w') {p : Addr} (hp : p.block < B) (hr : p.block ≠ rb) : w'.frozen? p = w.frozen? p := World.frozen?_of_block (w := w) (h.block p.block hp hr)
end Go.Proofs.YtdgcdemihalefaaGreatDoor

/-
  What order's small functions answer: next, name, past, node, leave; a pair of rows in its block.
-/
namespace Go.Proofs.YtdgcdemihalefaaGreatDoor
open Go.RowKit Np Rw Vp Ov

/-- A pair in a block. -/
def Pr2 (rb : Nat) (va vb : Value) (k : Nat) (w : World) : Prop := w.heap[rb]? = some (.cells #[va, vb, .int .i64 k] 232 (0, 0))
section
variable {rb : Nat} {va vb : Value} {k : Nat} {w w' : World}
theorem Pr2.lt (h : Pr2 rb va vb k w) : rb < w.heap.size := (Array.getElem?_eq_some_iff.1 h).1
theorem Pr2.c0 (h : Pr2 rb va vb k w) : w.cell? ⟨rb, 0, none⟩ = some va := by rw [Lib.cell_of_heap h]; rfl
theorem Pr2.c1 (h : Pr2 rb va vb k w) : w.cell? ⟨rb, 1, none⟩ = some vb := by rw [Lib.cell_of_heap h]; rfl
theorem Pr2.c2 (h : Pr2 rb va vb k w) : w.cell? ⟨rb, 2, none⟩ = some (.int .i64 k) := by rw [Lib.cell_of_heap h]; rfl
theorem Pr2.fz (h : Pr2 rb va vb k w) (o : Nat) : w.frozen? ⟨rb, o, none⟩ = false := Lib.frozen_of_heap h o
theorem Pr2.setA (h : Pr2 rb va vb k w) (u : Value) : Pr2 rb u vb k (w.setCell ⟨rb, 0, none⟩ u) := by
  unfold Pr2 at *; simp [World.setCell, Array.getElem?_modify, h]
theorem Pr2.setB (h : Pr2 rb va vb k w) (u : Value) : Pr2 rb va u k (w.setCell ⟨rb, 1, none⟩ u) := by
  unfold Pr2 at *; simp [World.setCell, Array.getElem?_modify, h]
theorem Pr2.setI (h : Pr2 rb va vb k w) (n : Nat) : Pr2 rb va vb n (w.setCell ⟨rb, 2, none⟩ (.int .i64 n)) := by
  unfold Pr2 at *; simp [World.setCell, Array.getElem?_modify, h]
theorem Pr2.drewN (h : Pr2 rb va vb k w) (n : Nat) : Pr2 rb va vb k (w.drewN n) := h
theorem Pr2.drew (h : Pr2 rb va vb k w) : Pr2 rb va vb k w.drew := h
theorem Pr2.alloc (h : Pr2 rb va vb k w) (o : Obj) : Pr2 rb va vb k (w.alloc o) := (Below.heap_alloc w o rb h.lt).trans h
theorem Pr2.below (h : Pr2 rb va vb k w) {B : Nat} (hb : Below B w w') (hB : rb < B) : Pr2 rb va vb k w' := (hb.block rb hB).trans h
end
/-- A row of nodes lies in no pair's block. -/
theorem Nds.pr {rb : Nat} {va vb : Value} {k : Nat} {w w' : World} {v : Value} {l : List Nd} (h : Nds w v l) (hr : Pr2 rb va vb k w) (hb : Kb w.heap.size rb w w') : Nds w' v l := by
  obtain ⟨A, c, hv, hc, hm, hz, H⟩ := h
  refine ⟨A, c, hv, hc, hm, hz, fun h0 => ?_⟩
  obtain ⟨g, o, hA, hg, hx⟩ := H h0
  have hne : g ≠ rb := by
    rintro rfl
    have := hx 0 _ (List.getElem?_eq_getElem h0) 5 _ rfl
    rw [Lib.cell_of_heap hr] at this
    simp at this
  refine ⟨g, o, hA, Nat.lt_of_lt_of_le hg hb.size, fun k x hk j u hu => ?_⟩
  exact (hb.cell (p := ⟨g, o + k * 6 + j, none⟩) hg hne).trans (hx k x hk j u hu)
/-- A pair of rows. -/
def Prs (rb : Nat) (la lb : List Nd) (k : Nat) (w : World) : Prop := ∃ va vb, Pr2 rb va vb k w ∧ Nds w va la ∧ Nds w vb lb
theorem Prs.lt {rb : Nat} {la lb : List Nd} {k : Nat} {w : World} (h : Prs rb la lb k w) : rb < w.heap.size := by obtain ⟨_, _, h, -, -⟩ := h; exact h.lt
theorem Prs.below {rb : Nat} {la lb : List Nd} {k : Nat} {w w' : World} (h : Prs rb la lb k w) (hb : Below w.heap.size w w') : Prs rb la lb k w' := by
  obtain ⟨va, vb, h1, h2, h3⟩ := h
  exact ⟨va, vb, h1.below hb h1.lt, h2.below hb, h3.below hb⟩
/-- A pair; its rows are known where that is asked. -/
def Prx (rb : Nat) (b : Prop) (ra rc : List Nd) (k : Nat) (w : World) : Prop := ∃ la lb, Prs rb la lb k w ∧ (b → la = ra ∧ lb = rc)

/-- A row's first node, and the row behind it. -/
def nxtN (l : List Nd) : Nd := l.headD zeroN

set_option maxHeartbeats 1000000 in
theorem onext_any (v : Value) (l : List Nd) (w : World) (hv : Nds w v l) :
    Calls Tryz.prog 267 #[v] w fun e w' => ∃ (A : Option Addr) (n c : Nat), e = .returned (.tuple #[nda (nxtN l), .slice A n c]) ∧ (∀ w0, Nds w0 v l → Nds w0 (.slice A n c) l.tail) ∧ Below w.heap.size w w' := by
  have hB : Below w.heap.size w w := Below.refl _ _
  cases l with
  | nil =>
    obtain ⟨A, c, rfl, -, -, -, -⟩ := hv
    go_enter Tryz.func267, Tryz.ntmps267
    go_wp2_with fail
    exact bodyPost_ret (v := .tuple #[nda zeroN, .slice none 0 0]) (by simp [results, Tryz.results267, go_sem, zeroN]) rfl ⟨none, 0, 0, rfl, fun _ _ => Row.nil _, hB.alloc (Nat.le_refl _) _⟩
  | cons n l =>
    have hlen := hv.len
    unfold maxLen at hlen
    obtain ⟨g, o, c, rfl, hc, hm, hg, hx⟩ := hv.opened (by simp)
    obtain ⟨c0, c1, c2, c3, c4, c5⟩ := (hx 0 _ rfl).nd
    have HV := Lib.hid hv
    clear hx hv
    rw [Nat.zero_mul, Nat.add_zero] at c0 c1 c2 c3 c4 c5
    have HN : Hid ((n :: l).length - 1 = l.length) := Lib.hid (by simp)
    have h1 : 1 ≤ (n :: l).length := by simp
    have HT : Hid ((n :: l).tail = (n :: l).drop 1) := Lib.hid rfl
    generalize hm : (n :: l).length = m at *
    have HM := Lib.hid hm; clear hm
    go_enter Tryz.func267, Tryz.ntmps267
    go_wp2_with fail
    go_region
    all_goals go_wp2_with fail
    · have hl : l = [] := List.eq_nil_of_length_eq_zero (by have := HN.out; omega)
      subst hl
      have hm1 : m - 1 = 0 := by have := HN.out; simpa using this
      rw [hm1]
      exact bodyPost_ret (v := .tuple #[nda n, .slice (some ⟨g, o, none⟩) 0 0]) (by simp [results, Tryz.results267, go_sem]) rfl ⟨_, _, _, rfl, fun _ _ => Row.empty _ _ _ (by unfold maxLen; omega), (hB.alloc (Nat.le_refl _) _).drew⟩
    · have HR : ∀ w0, Nds w0 (.slice (some ⟨g, o, none⟩) m c) (n :: l) → Nds w0 (.slice (some ⟨g, o + 6, none⟩) (m - 1) (c - 1)) l := by
        intro w0 h2
        rw [← HM.out] at h2
        have h3 := h2.rest 1 (by simp)
        rw [HM.out] at h3
        simpa using h3
      exact bodyPost_ret (v := .tuple #[nda n, .slice (some ⟨g, o + 6, none⟩) (m - 1) (c - 1)]) (by simp [results, Tryz.results267, go_sem]) rfl ⟨_, _, _, rfl, HR, (hB.alloc (Nat.le_refl _) _).drew⟩

set_option maxHeartbeats 1000000 in
theorem oname_any (v : Value) (l : List Nd) (w : World) (hv : Nds w v l) :
    Calls Tryz.prog 273 #[v] w fun e w' => e = .returned (.string ⟨(nxtN l).name.toArray⟩) ∧ Below w.heap.size w w' := by
  have HN := Lib.hid (onext_any v l w hv)
  obtain ⟨A, c, rfl, -⟩ := hv
  generalize nxtN l = n at *
  go_enter Tryz.func273, Tryz.ntmps273
  go_wp2_with fail
  go_at_call 267
  refine HN.out.mono ?_
  rintro e w1 ⟨A1, n1, c1, rfl, -, hb1⟩
  go_wp2_with fail
  go_ret
  exact ⟨rfl, hb1.alloc hb1.size _⟩

/-- What is gone by, node by node. -/
theorem skip_bound : ∀ (l : List Nd) (q : Nat) (r : List Nd), skip many l q = some r → q + r.length ≤ l.length := by
  intro l q r h
  obtain ⟨ts, -, h2, rfl⟩ := skip_inv l q r h
  have := flats_len ts
  rw [List.length_append]; omega
theorem skip_step {n : Nd} {l : List Nd} {q : Nat} {r : List Nd} (h : skip many (n :: l) (q + 1) = some r) : ∃ k : Nat, n.many = k ∧ skip many l (q + k) = some r := by
  rw [skip_cons] at h
  by_cases hn : many n < 0
  · rw [if_pos hn] at h; cases h
  · rw [if_neg hn] at h
    exact ⟨n.many.toNat, by have : 0 ≤ n.many := by unfold many at hn; omega
                            omega, h⟩
set_option maxHeartbeats 1000000 in
theorem past_any (v : Value) (l : List Nd) (m : Nat) (r : List Nd) (w : World) (hv : Nds w v l) (hs : skip many l m = some r) (hl : l.length ≤ 1000000) :
    Calls Tryz.prog 269 #[v, .int .i64 m] w fun e w' => ∃ (A : Option Addr) (n c : Nat), e = .returned (.slice A n c) ∧ (∀ w0, Nds w0 v l → Nds w0 (.slice A n c) r) ∧ ∃ n, w' = w.drewN n := by
  rcases Nat.eq_zero_or_pos l.length with h0 | h0
  · obtain rfl := List.eq_nil_of_length_eq_zero h0
    have h1 := skip_bound _ _ _ hs
    obtain rfl : m = 0 := by simp at h1; omega
    obtain rfl : r = [] := by rw [skip_zero] at hs; injection hs with hs; exact hs.symm
    obtain ⟨A, c, rfl, h2, h3, h4, -⟩ := hv
    have HR : Hid (∀ w', Nds w' (.slice A 0 c) []) := Lib.hid fun w' => ⟨A, c, rfl, Nat.zero_le _, h3, h4, fun h => absurd h (by simp)⟩
    unfold maxLen at h3
    clear h1 h0 hl hs h2 h4
    go_enter Tryz.func269, Tryz.ntmps269
    go_wp2_with fail
    go_loopw [1, 5] (fun mv av wr => mv = .int .i64 0 ∧ av = .int .i64 0 ∧ Hid (∃ n, wr = w.drewN n)) (fun _ _ _ => 0)
    case atStart => exact ⟨rfl, rfl, Lib.hid ⟨0, rfl⟩⟩
    case round =>
      obtain ⟨rfl, rfl, HW⟩ := hrel
      go_wp2_with fail
      all_goals go_ret
      all_goals exact ⟨_, _, _, rfl, fun _ _ => HR.out _, HW.out⟩
  · obtain ⟨g, o, c, rfl, hc, hm, hg, hx⟩ := hv.opened h0
    have HV := Lib.hid hv
    have HX := Lib.hid hx
    have HS0 := Lib.hid hs
    have hb0 := skip_bound _ _ _ hs
    clear hx hv hs
    unfold maxLen at hm
    generalize hn : l.length = N at *
    have HN := Lib.hid hn; clear hn
    have hB : ∃ n, w = w.drewN n := ⟨0, rfl⟩
    go_enter Tryz.func269, Tryz.ntmps269
    go_wp2_with fail
    go_loopw [1, 5] (fun mv av wr => ∃ (j q : Nat), j ≤ N ∧ mv = .int .i64 q ∧ av = .int .i64 j ∧ Hid (skip many (l.drop j) q = some r) ∧ Hid (∃ n, wr = w.drewN n)) (fun _ av _ => N - (intOf av).toNat)
    case atStart => exact ⟨0, m, Nat.zero_le _, rfl, rfl, by simpa using HS0, Lib.hid ⟨0, rfl⟩⟩
    case round =>
      obtain ⟨j, q, hj, rfl, rfl, HS, HW⟩ := hrel
      have hb := skip_bound _ _ _ HS.out
      rw [List.length_drop, HN.out] at hb
      rcases Nat.eq_zero_or_pos q with hq | hq
      · subst hq
        have hr : l.drop j = r := by have := HS.out; rw [skip_zero] at this; injection this
        have HR : ∀ w0, Nds w0 (.slice (some ⟨g, o, none⟩) N c) l → Nds w0 (.slice (some ⟨g, o + j * 6, none⟩) (N - j) (c - j)) r := by
          intro w0 h2
          rw [← HN.out] at h2
          have h3 := h2.rest j (by rw [HN.out]; exact hj)
          rw [HN.out, hr] at h3
          exact h3
        go_wp2_with fail
        · go_ret
          rename_i hcj
          have hr0 : r = [] := by rw [← hr]; exact List.drop_eq_nil_of_le (by rw [HN.out]; omega)
          rw [hr0, show N - j = 0 by omega]
          exact ⟨_, _, _, rfl, fun _ _ => Row.empty _ _ _ (by unfold maxLen; omega), HW.out⟩
        · go_ret
          exact ⟨_, _, _, rfl, HR, HW.out⟩
      · have hjn : j < N := by omega
        obtain ⟨x, hx⟩ : ∃ x, l[j]? = some x := ⟨_, List.getElem?_eq_getElem (by rw [HN.out]; exact hjn)⟩
        have hd : l.drop j = x :: l.drop (j + 1) := by
          obtain ⟨h1, h2⟩ := List.getElem?_eq_some_iff.1 hx
          rw [← h2, List.getElem_cons_drop]
        obtain ⟨q', rfl⟩ : ∃ q', q = q' + 1 := ⟨q - 1, by omega⟩
        obtain ⟨k, hk, hs2⟩ := skip_step (hd ▸ HS.out)
        have hb2 := skip_bound _ _ _ hs2
        rw [List.length_drop, HN.out] at hb2
        obtain ⟨mq, hmq⟩ := HW.out
        subst hmq
        have c1 := ((HX.out j x hx).nd.drewN mq).c1
        rw [hk] at c1
        have HS2 := Lib.hid hs2
        clear hs2 hd hk hx
        go_wp2_with fail
        refine ⟨⟨j + 1, q' + k, by omega, by congr 1; omega, rfl, HS2, Lib.hid ⟨mq, rfl⟩⟩, ?_⟩
        simp [intOf]; omega

theorem alloc_at (w : World) (o : Obj) {n : Nat} (h : w.heap.size = n) : (w.alloc o).heap[n]? = some o := by subst h; exact Array.getElem?_push_size
/-- A node in a block. -/
def NodeAt (B : Nat) (n : Nd) (w : World) : Prop := w.heap[B]? = some (.cells #[.int .i64 n.kind, .int .i64 n.many, .string ⟨n.name.toArray⟩, .string ⟨n.s.toArray⟩, .bool n.neg, .int .i64 n.e] 43 (0, 0))
abbrev fillN (B : Nat) (m : Nd) (w : World) : World := (((((w.setCell ⟨B, 0, none⟩ (.int .i64 m.kind)).setCell ⟨B, 1, none⟩ (.int .i64 m.many)).setCell ⟨B, 2, none⟩ (.string ⟨m.name.toArray⟩)).setCell ⟨B, 3, none⟩ (.string ⟨m.s.toArray⟩)).setCell ⟨B, 4, none⟩ (.bool m.neg)).setCell ⟨B, 5, none⟩ (.int .i64 m.e)
section
variable {B rb : Nat} {n : Nd} {w w' : World}
theorem NodeAt.lt (h : NodeAt B n w) : B < w.heap.size := (Array.getElem?_eq_some_iff.1 h).1
theorem NodeAt.nd (h : NodeAt B n w) : Nd6 w B 0 n := ⟨by rw [Lib.cell_of_heap h]; rfl, by rw [Lib.cell_of_heap h]; rfl, by rw [Lib.cell_of_heap h]; rfl, by rw [Lib.cell_of_heap h]; rfl, by rw [Lib.cell_of_heap h]; rfl, by rw [Lib.cell_of_heap h]; rfl⟩
theorem NodeAt.fz (h : NodeAt B n w) (o : Nat) : w.frozen? ⟨B, o, none⟩ = false := Lib.frozen_of_heap h o
theorem NodeAt.fill (h : NodeAt B n w) (m : Nd) : NodeAt B m (fillN B m w) := by
  unfold NodeAt at *; simp [fillN, World.setCell, Array.getElem?_modify, h]
theorem NodeAt.other (h : NodeAt B n w) {p : Addr} (hp : p.block ≠ B) (u : Value) : NodeAt B n (w.setCell p u) := (Below.heap_setCell w p u B (Ne.symm hp)).trans h
theorem NodeAt.below (h : NodeAt B n w) {C : Nat} (hb : Below C w w') (hB : B < C) : NodeAt B n w' := (hb.block B hB).trans h
theorem NodeAt.drew (h : NodeAt B n w) : NodeAt B n w.drew := h
theorem NodeAt.fillO {C : Nat} (h : NodeAt B n w) (hp : C ≠ B) (m : Nd) : NodeAt B n (fillN C m w) := (((((h.other hp _).other hp _).other hp _).other hp _).other hp _).other hp _
theorem Pr2.other {va vb : Value} {k : Nat} (h : Pr2 rb va vb k w) {p : Addr} (hp : p.block ≠ rb) (u : Value) : Pr2 rb va vb k (w.setCell p u) := (Below.heap_setCell w p u rb (Ne.symm hp)).trans h
theorem Pr2.fillO {va vb : Value} {k C : Nat} (h : Pr2 rb va vb k w) (hp : C ≠ rb) (m : Nd) : Pr2 rb va vb k (fillN C m w) := (((((h.other hp _).other hp _).other hp _).other hp _).other hp _).other hp _
theorem Kb.fill {D C : Nat} {a : World} (h : Kb D rb a w) (hp : D ≤ C) (m : Nd) : Kb D rb a (fillN C m w) := (((((h.setHigh hp _).setHigh hp _).setHigh hp _).setHigh hp _).setHigh hp _).setHigh hp _
end

set_option maxRecDepth 100000 in
set_option maxHeartbeats 4000000 in
theorem node_any (rb : Nat) (la lb : List Nd) (k : Nat) (w : World) (h : Prs rb la lb k w) :
    Calls Tryz.prog 230 #[.pointer (some ⟨rb, 0, none⟩)] w fun e w' => e = .returned (.tuple #[nda (nxtN la), nda (nxtN lb)]) ∧ Prs rb la.tail lb.tail k w' ∧ Kb w.heap.size rb w w' := by
  obtain ⟨va, vb, hp, ha, hb⟩ := h
  have HA : Hid (∀ w1, Below w.heap.size w w1 → Calls Tryz.prog 267 #[va] w1 fun e w' => ∃ (A : Option Addr) (n c : Nat), e = .returned (.tuple #[nda (nxtN la), .slice A n c]) ∧ (∀ w0, Nds w0 va la → Nds w0 (.slice A n c) la.tail) ∧ Below w1.heap.size w1 w') := Lib.hid fun w1 hb1 => onext_any va la w1 (ha.below hb1)
  have HC : Hid (∀ w1, Kb w.heap.size rb w w1 → Calls Tryz.prog 267 #[vb] w1 fun e w' => ∃ (A : Option Addr) (n c : Nat), e = .returned (.tuple #[nda (nxtN lb), .slice A n c]) ∧ (∀ w0, Nds w0 vb lb → Nds w0 (.slice A n c) lb.tail) ∧ Below w1.heap.size w1 w') := Lib.hid fun w1 hb1 => onext_any vb lb w1 (hb.pr hp hb1)
  have HP := Lib.hid hp
  have HNA := Lib.hid ha
  have HNB := Lib.hid hb
  obtain ⟨A, c, rfl, -⟩ := ha
  obtain ⟨B, d, rfl, -⟩ := hb
  have c0 := hp.c0
  have hlt := hp.lt
  have hb0 := Below.refl w.heap.size w
  clear hp
  generalize hx : nxtN la = x at *
  generalize hy : nxtN lb = y at *
  clear hx hy
  generalize la.length = nla at *
  generalize lb.length = nlb at *
  go_enter Tryz.func230, Tryz.ntmps230
  go_upto_region 1 with fail
  go_cut [] from 4 to 15 (fun wx => ∃ (A1 : Option Addr) (n1 c1 : Nat), Hid (Pr2 rb (.slice A1 n1 c1) (.slice B nlb d) k wx) ∧ Hid (Nds w (.slice A1 n1 c1) la.tail) ∧ Hid (NodeAt w.heap.size x wx) ∧ Hid (NodeAt (w.heap.size + 1) zeroN wx) ∧ Hid (Kb w.heap.size rb w wx))
  case first =>
    go_wp2_with fail
    go_at_call 267
    refine (HA.out _ ((hb0.alloc (Nat.le_refl _) _).alloc (by simp) _)).mono ?_
    rintro e w1 ⟨A1, n1, c1, rfl, hA1, hb1⟩
    have hw1 : w.heap.size + 2 ≤ w1.heap.size := by have := hb1.size; simp at this; omega
    have hb2 : Below w.heap.size w w1 := ((hb0.alloc (Nat.le_refl _) _).alloc (by simp) _).trans (hb1.mono (by simp; omega))
    have HP1 := Lib.hid (HP.out.below hb2 hlt)
    have X0 : NodeAt w.heap.size zeroN w1 := (hb1.block w.heap.size (by simp; omega)).trans ((Below.heap_alloc _ _ _ (by simp)).trans (alloc_at _ _ rfl))
    have Y0 : NodeAt (w.heap.size + 1) zeroN w1 := (hb1.block (w.heap.size + 1) (by simp)).trans (alloc_at _ _ (by simp))
    obtain ⟨x0, x1, x2, x3, x4, x5⟩ := X0.nd
    have fx := X0.fz
    have p0 := HP1.out.c0
    have p1 := HP1.out.c1
    have f0 := HP1.out.fz 0
    have HX0 := Lib.hid X0
    have HY0 := Lib.hid Y0
    have HA1 := Lib.hid (hA1 w HNA.out)
    have HB2 := Lib.hid hb2
    clear X0 Y0 hA1 hb2 hb1
    go_wp2_with fail
    go_meet
    exact ⟨A1, n1, c1, Lib.hid ((HP1.out.fillO (by simp; omega) x).setA _), HA1, Lib.hid ((HX0.out.fill x).other (by simp; omega) _), Lib.hid ((HY0.out.fillO (by simp) x).other (by simp; omega) _), Lib.hid (((Kb.of HB2.out).fill (by simp) x).set _ _)⟩
  case rest =>
    obtain ⟨A1, n1, c1, HP2, HA1, HX1, HY1, HK1⟩ := hcut
    have p1 := HP2.out.c1
    go_upto_region 2 with fail
    go_cut [] from 15 to 26 (fun wx => ∃ (B1 : Option Addr) (n2 c2 : Nat), Hid (Pr2 rb (.slice A1 n1 c1) (.slice B1 n2 c2) k wx) ∧ Hid (Nds w (.slice B1 n2 c2) lb.tail) ∧ Hid (NodeAt w.heap.size x wx) ∧ Hid (NodeAt (w.heap.size + 1) y wx) ∧ Hid (Kb w.heap.size rb w wx))
    case first =>
      go_wp2_with fail
      go_at_call 267
      refine (HC.out _ HK1.out).mono ?_
      rintro e w1 ⟨B1, n2, c2, rfl, hA2, hb1⟩
      have hw1 := hb1.size
      have hxl := HX1.out.lt
      have hyl := HY1.out.lt
      have HP3 := Lib.hid (HP2.out.below hb1 (HP2.out.lt))
      have HX3 := Lib.hid (HX1.out.below hb1 hxl)
      have HY3 := Lib.hid (HY1.out.below hb1 hyl)
      obtain ⟨x0, x1, x2, x3, x4, x5⟩ := HY3.out.nd
      have fx := HY3.out.fz
      have q1 := HP3.out.c1
      have f1 := HP3.out.fz 1
      have HA2 := Lib.hid (hA2 w HNB.out)
      have HK3 := Lib.hid (HK1.out.trans (Kb.of (hb1.mono (HK1.out.size))))
      clear hA2 hb1 p1
      go_wp2_with fail
      go_meet
      exact ⟨B1, n2, c2, Lib.hid ((HP3.out.fillO (by simp; omega) y).setB _), HA2, Lib.hid ((HX3.out.fillO (by simp) y).other (by simp; omega) _), Lib.hid ((HY3.out.fill y).other (by simp; omega) _), Lib.hid ((HK3.out.fill (by simp) y).set _ _)⟩
    case rest =>
      obtain ⟨B1, n2, c2, HP4, HB4, HX4, HY4, HK4⟩ := hcut
      obtain ⟨x0, x1, x2, x3, x4, x5⟩ := HX4.out.nd
      obtain ⟨y0, y1, y2, y3, y4, y5⟩ := HY4.out.nd
      have fx := HX4.out.fz
      have fy := HY4.out.fz
      go_wp2_with fail
      go_region
      all_goals go_wp2_with fail
      have hX : NodeAt w.heap.size x (fillN (w.heap.size + 1) y (fillN w.heap.size x wc)) := (HX4.out.fill x).fillO (by simp) y
      have hY : NodeAt (w.heap.size + 1) y (fillN (w.heap.size + 1) y (fillN w.heap.size x wc)) := (HY4.out.fillO (by simp) x).fill y
      have hPP : Pr2 rb (.slice A1 n1 c1) (.slice B1 n2 c2) k (fillN (w.heap.size + 1) y (fillN w.heap.size x wc)) := (HP4.out.fillO (by simp; omega) x).fillO (by simp; omega) y
      have hKK : Kb w.heap.size rb w (fillN (w.heap.size + 1) y (fillN w.heap.size x wc)) := (HK4.out.fill (Nat.le_refl _) x).fill (by simp) y
      unfold fillN at hX hY hPP hKK
      clear x0 x1 x2 x3 x4 x5 y0 y1 y2 y3 y4 y5 fx fy
      generalize (((((World.setCell _ ⟨w.heap.size + 1, 0, none⟩ _).setCell _ _).setCell _ _).setCell _ _).setCell _ _).setCell _ _ = W at *
      obtain ⟨x0, x1, x2, x3, x4, x5⟩ := hX.nd
      obtain ⟨y0, y1, y2, y3, y4, y5⟩ := hY.nd
      refine bodyPost_ret (v := .tuple #[nda x, nda y]) ?_ rfl ⟨rfl, ⟨_, _, hPP.drew, ?_, ?_⟩, hKK.drew⟩
      · simp only [Nat.zero_add] at x1 x2 x3 x4 x5 y1 y2 y3 y4 y5
        simp [results, Tryz.results230, go_sem, x0, x1, x2, x3, x4, x5, y0, y1, y2, y3, y4, y5]
      · exact HA1.out.pr HP.out hKK.drew
      · exact HB4.out.pr HP.out hKK.drew
end Go.Proofs.YtdgcdemihalefaaGreatDoor

/-
  What (*pair).leave, lists and objects answer, over any two lists of values whose comparison is what it should be.
-/
namespace Go.Proofs.YtdgcdemihalefaaGreatDoor
open Go.RowKit Np Rw Vp Ov

set_option maxRecDepth 100000 in
set_option maxHeartbeats 2000000 in
theorem leave_none (rb : Nat) (la lb : List Nd) (m n : Nat) (w : World) (h : Prs rb la lb 0 w) :
    Calls Tryz.prog 232 #[.pointer (some ⟨rb, 0, none⟩), .int .i64 m, .int .i64 n] w fun e w' => e = .returned (.tuple #[]) ∧ Prs rb la lb 0 w' ∧ Kb w.heap.size rb w w' := by
  obtain ⟨va, vb, hp, ha, hb⟩ := h
  have HP := Lib.hid hp
  have HA := Lib.hid ha
  have HB := Lib.hid hb
  have c2 := hp.c2
  have hK := Kb.refl w.heap.size rb w
  clear hp ha hb
  go_enter Tryz.func232, Tryz.ntmps232
  go_wp2_with fail
  go_end0
  exact ⟨rfl, ⟨va, vb, HP.out, HA.out, HB.out⟩, hK⟩

set_option maxRecDepth 100000 in
set_option maxHeartbeats 4000000 in
theorem leave_past (rb : Nat) (la lb : List Nd) (m n k : Nat) (ra rc : List Nd) (w : World) (h : Prs rb la lb k w) (hk : 0 < k) (h1 : skip many la m = some ra) (h2 : skip many lb n = some rc) (hla : la.length ≤ 1000000) (hlb : lb.length ≤ 1000000) :
    Calls Tryz.prog 232 #[.pointer (some ⟨rb, 0, none⟩), .int .i64 m, .int .i64 n] w fun e w' => e = .returned (.tuple #[]) ∧ Prs rb ra rc k w' ∧ Kb w.heap.size rb w w' := by
  obtain ⟨va, vb, hp, ha, hb⟩ := h
  have HP := Lib.hid hp
  have HNA := Lib.hid ha
  have HNB := Lib.hid hb
  have HA := Lib.hid (fun d => past_any va la m ra (w.drewN d) (ha.quiet ⟨d, rfl⟩) h1 hla)
  have HB := Lib.hid (fun d => past_any vb lb n rc (w.drewN d) (hb.quiet ⟨d, rfl⟩) h2 hlb)
  obtain ⟨A, c, rfl, -⟩ := ha
  obtain ⟨B, d, rfl, -⟩ := hb
  have c0 := hp.c0
  have c1 := hp.c1
  have c2 := hp.c2
  have f0 := hp.fz 0
  have f1 := hp.fz 1
  have hk' : ((k : Int) > 0) := by omega
  clear hp h1 h2 hla hlb
  generalize la.length = nla at *
  generalize lb.length = nlb at *
  go_enter Tryz.func232, Tryz.ntmps232
  go_upto_region 1 with fail
  go_region_with (first
      | (go_at_call_of 269 (m : Int); refine (HA.out _).mono ?_; rintro e w1 ⟨A1, n1, c1, rfl, hA1, ⟨d1, rfl⟩⟩)
      | (go_at_call_of 269 (n : Int); refine (HB.out _).mono ?_; rintro e w1 ⟨B1, n2, c2, rfl, hB1, ⟨d2, rfl⟩⟩))
  all_goals go_wp2_with fail
  all_goals go_end0
  all_goals
    have hK2 := (((Kb.refl w.heap.size rb w).drewN (1 + d1 + d2)).set 0 (Value.slice A1 n1 c1)).set 1 (Value.slice B1 n2 c2)
    exact ⟨rfl, ⟨_, _, (((HP.out.drewN (1 + d1 + d2)).setA _).setB _), (hA1 w HNA.out).pr HP.out hK2, (hB1 w HNB.out).pr HP.out hK2⟩, hK2⟩
end Go.Proofs.YtdgcdemihalefaaGreatDoor

/-
  What (*pair).lists and objects answer, over any two lists of values whose comparison is what it should be.
-/
namespace Go.Proofs.YtdgcdemihalefaaGreatDoor
open Go.RowKit Np Rw Vp Ov

/-- A comparison of two values by (*pair).value. -/
def ValueQ (t u : Tr Nd) : Prop := ∀ (rb : Nat) (ra rc : List Nd) (k : Nat) (w : World), Prs rb (flat t ++ ra) (flat u ++ rc) k w → (flat t ++ ra).length ≤ 100000 → (flat u ++ rc).length ≤ 100000 → k + (flat t).length ≤ 100000 →
  Calls Tryz.prog 206 #[.pointer (some ⟨rb, 0, none⟩)] w fun e w' => e = .returned (.int .i64 (cmpT t u)) ∧ Prx rb (0 < k ∨ cmpT t u = 0) ra rc k w' ∧ Kb w.heap.size rb w w'

theorem Prx.get {rb : Nat} {b : Prop} {ra rc : List Nd} {k : Nat} {w : World} (h : Prx rb b ra rc k w) (hb : b) : Prs rb ra rc k w := by
  obtain ⟨la, lb, h1, h2⟩ := h
  obtain ⟨rfl, rfl⟩ := h2 hb
  exact h1
theorem Prx.mono {rb : Nat} {b c : Prop} {ra rc ra' rc' : List Nd} {k : Nat} {w : World} (h : Prx rb b ra rc k w) (hcb : c → b) (h1 : c → ra = ra') (h2 : c → rc = rc') : Prx rb c ra' rc' k w := by
  obtain ⟨la, lb, h3, h4⟩ := h
  exact ⟨la, lb, h3, fun hc => ⟨(h4 (hcb hc)).1.trans (h1 hc), (h4 (hcb hc)).2.trans (h2 hc)⟩⟩
theorem Prs.x {rb : Nat} {b : Prop} {la lb : List Nd} {k : Nat} {w : World} (h : Prs rb la lb k w) : Prx rb b la lb k w := ⟨la, lb, h, fun _ => ⟨rfl, rfl⟩⟩
theorem flats_drop_cons {ts : List (Tr Nd)} {j : Nat} (h : j < ts.length) : flats (ts.drop j) = flat ts[j] ++ flats (ts.drop (j + 1)) := by
  rw [← List.getElem_cons_drop h, flats_cons]
theorem flats_drop_le (ts : List (Tr Nd)) (j : Nat) : (flats (ts.drop j)).length ≤ (flats ts).length := by
  have h : flats ts = flats (ts.take j) ++ flats (ts.drop j) := by rw [← flats_append, List.take_append_drop]
  rw [h, List.length_append]; omega
theorem cmpTs_at {ts us : List (Tr Nd)} {j : Nat} (h1 : j < ts.length) (h2 : j < us.length) : cmpTs (ts.drop j) (us.drop j) = orI (cmpT ts[j] us[j]) (cmpTs (ts.drop (j + 1)) (us.drop (j + 1))) := by
  rw [← List.getElem_cons_drop h1, ← List.getElem_cons_drop h2, cmpTs_cons]
theorem cmpTs_end {ts us : List (Tr Nd)} {j : Nat} (h : j = ts.length ∨ j = us.length) (h1 : j ≤ ts.length) (h2 : j ≤ us.length) : cmpTs (ts.drop j) (us.drop j) = Lib.compareInt ((ts.length - j : Nat) : Int) ((us.length - j : Nat) : Int) := by
  have e1 : (ts.drop j).length = ts.length - j := List.length_drop
  have e2 : (us.drop j).length = us.length - j := List.length_drop
  rw [← e1, ← e2]
  generalize hx : ts.drop j = x
  generalize hy : us.drop j = y
  rw [hx] at e1
  rw [hy] at e2
  cases x with
  | nil =>
    cases y with
    | nil => rw [cmpTs_nil]; exact ((cmpI_eq _ _).2 rfl).symm
    | cons b y => rw [cmpTs_less]; exact ((cmpI_lt _ _).2 (by simp)).symm
  | cons a x =>
    cases y with
    | nil => rw [cmpTs_more]; exact ((cmpI_gt _ _).2 (by simp)).symm
    | cons b y => simp at e1 e2; omega
/-- What a list of parts is gone past by. -/
theorem skip_parts {ts : List (Tr Nd)} (h : okTs many ts) (ra : List Nd) (j : Nat) : skip many (flats (ts.drop j) ++ ra) (ts.length - j) = some ra := by
  have h1 : okTs many (ts.drop j) := okTs_all.2 fun t ht => okTs_all.1 h t (List.mem_of_mem_drop ht)
  have := skip_flats (ts.drop j) ra 0 h1
  rw [List.length_drop, Nat.add_zero, skip_zero] at this
  exact this

/-- The first that is not nought. -/
def orL : List Int → Int
  | [] => 0
  | a :: l => orI a (orL l)
theorem orL_drop {l : List Int} {j : Nat} (h : j < l.length) : orL (l.drop j) = orI l[j] (orL (l.drop (j + 1))) := by
  rw [← List.getElem_cons_drop h, orL]
set_option maxHeartbeats 1000000 in
theorem orInt_any (v : Value) (l : List Int) (w : World) (hv : Ins w v l) (hl : l.length ≤ 1000) :
    Calls Tryz.prog 272 #[v] w fun e w' => e = .returned (.int .i64 (orL l)) ∧ Below w.heap.size w w' := by
  have hB : Below w.heap.size w w := Below.refl _ _
  have HX : Hid (∀ j x, l[j]? = some x → ∃ g o c, v = .slice (some ⟨g, o, none⟩) l.length c ∧ w.cell? ⟨g, o + j, none⟩ = some (.int .i64 x)) := Lib.hid fun j x hx => by
    obtain ⟨g, o, c, hv, -, -, -, h⟩ := hv.opened (by have := (List.getElem?_eq_some_iff.1 hx).1; omega)
    exact ⟨g, o, c, hv, (h j x hx).int⟩
  obtain ⟨A, c, rfl, -, -, -, -⟩ := hv
  have HO : Hid (orL l = orL (l.drop 0)) := Lib.hid (by simp)
  generalize hn : l.length = n at *
  generalize orL l = R at *
  have HN := Lib.hid hn
  clear hn
  go_enter Tryz.func272, Tryz.ntmps272
  go_wp2_with fail
  go_loopw [8] (fun iv wr => ∃ j : Nat, j ≤ n ∧ iv = .int .i64 j ∧ Hid (R = orL (l.drop j)) ∧ wr = w) (fun iv _ => n - (intOf iv).toNat)
  case atStart => exact ⟨0, Nat.zero_le _, rfl, HO, rfl⟩
  case round =>
    obtain ⟨j, hj, rfl, HR, rfl⟩ := hrel
    by_cases hlt : j < n
    · have hj' : j < l.length := by rw [HN.out]; exact hlt
      obtain ⟨g, o, c', hv, hc⟩ := HX.out j l[j] (List.getElem?_eq_getElem hj')
      injection hv with e1 e2 e3
      subst e1 e3
      clear e2
      have hd := orL_drop hj'
      generalize l[j] = x at *
      by_cases hx : x = 0
      · subst hx
        rw [orI_z] at hd
        have HD : Hid (R = orL (l.drop (j + 1))) := Lib.hid (by rw [HR.out, hd])
        clear hd
        go_wp2_with fail
        go_roundw
        case rel => exact ⟨j + 1, by omega, by go_num, HD, trivial⟩
        case measure => simp [intOf]; omega
      · rw [orI_ne hx] at hd
        have HD : Hid (R = x) := Lib.hid (by rw [HR.out, hd])
        have hx' : ((x != 0) : Bool) = true := by simpa using hx
        clear hd
        go_wp2_with fail
        go_ret
        exact ⟨ret_i64 HD.out.symm, hB⟩
    · obtain rfl : j = n := by omega
      have HD : Hid (R = 0) := Lib.hid (by rw [HR.out, List.drop_eq_nil_of_le (by rw [HN.out]; exact Nat.le_refl _)]; rfl)
      go_wp2_with fail
      go_ret
      exact ⟨ret_i64 HD.out.symm, hB⟩

theorem orInt_lit (l : List Int) (E : TypeId) (cs : Array Value) (n N : Nat) (w : World) (hc : cs.toList = l.flatMap inc) (hn : w.heap.size = n) (hN : l.length = N) (hl : N ≤ 1000) :
    Calls Tryz.prog 272 #[.slice (some ⟨n, 0, none⟩) N N] (w.alloc (.cells cs E)) fun e w' => e = .returned (.int .i64 (orL l)) ∧ Below w.heap.size w w' := by
  subst hn hN
  refine (orInt_any _ l _ (Row.lit inc_len w E cs l (by unfold maxLen; omega) hc) hl).mono ?_
  rintro e w' ⟨rfl, hb⟩
  exact ⟨rfl, ((Below.refl w.heap.size w).alloc (Nat.le_refl _) _).trans (hb.mono (by simp))⟩

/-- What leave leaves of rows of values. -/
theorem leave_any {ts us : List (Tr Nd)} (hts : okTs many ts) (hus : okTs many us) (rb : Nat) (b : Prop) (ra rc : List Nd) (k : Nat) (w : World) (m n : Nat) (hm : ts.length = m) (hn : us.length = n)
    (h : Prx rb b (flats ts ++ ra) (flats us ++ rc) k w) (hkb : 0 < k → b) (hla : (flats ts ++ ra).length ≤ 100000) (hlb : (flats us ++ rc).length ≤ 100000) :
    Calls Tryz.prog 232 #[.pointer (some ⟨rb, 0, none⟩), .int .i64 m, .int .i64 n] w fun e w' => e = .returned (.tuple #[]) ∧ Prx rb (0 < k ∨ (b ∧ m = 0 ∧ n = 0)) ra rc k w' ∧ Kb w.heap.size rb w w' := by
  subst hm hn
  rcases Nat.eq_zero_or_pos k with h0 | h0
  · subst h0
    obtain ⟨la, lb, h1, h2⟩ := h
    refine (leave_none rb la lb _ _ w h1).mono ?_
    rintro e w' ⟨rfl, h3, h4⟩
    refine ⟨rfl, ⟨la, lb, h3, ?_⟩, h4⟩
    rintro (h5 | ⟨h5, h6, h7⟩)
    · exact absurd h5 (Nat.lt_irrefl _)
    · obtain ⟨e1, e2⟩ := h2 h5
      rw [List.eq_nil_of_length_eq_zero h6] at e1
      rw [List.eq_nil_of_length_eq_zero h7] at e2
      exact ⟨by simpa using e1, by simpa using e2⟩
  · refine (leave_past rb _ _ ts.length us.length k ra rc w (h.get (hkb h0)) h0 ?_ ?_ (by omega) (by omega)).mono ?_
    · have := skip_parts hts ra 0
      simpa using this
    · have := skip_parts hus rc 0
      simpa using this
    · rintro e w' ⟨rfl, h3, h4⟩
      exact ⟨rfl, h3.x, h4⟩

set_option maxRecDepth 100000 in
set_option maxHeartbeats 4000000 in
theorem lists_of {ts us : List (Tr Nd)} (H : ∀ t ∈ ts, ∀ u ∈ us, ValueQ t u) (hts : okTs many ts) (hus : okTs many us) (rb : Nat) (ra rc : List Nd) (k : Nat) (w : World)
    (h : Prs rb (flats ts ++ ra) (flats us ++ rc) k w) (hla : (flats ts ++ ra).length ≤ 100000) (hlb : (flats us ++ rc).length ≤ 100000) (hk : k + (flats ts).length ≤ 100000) :
    Calls Tryz.prog 234 #[.pointer (some ⟨rb, 0, none⟩), .int .i64 ts.length, .int .i64 us.length] w fun e w' => e = .returned (.int .i64 (cmpTs ts us)) ∧ Prx rb (0 < k ∨ cmpTs ts us = 0) ra rc k w' ∧ Kb w.heap.size rb w w' := by
  have hlt := h.lt
  have HP := Lib.hid h
  have HH := Lib.hid H
  have hl1 := flats_len ts
  have hl2 := flats_len us
  rw [List.length_append] at hla hlb
  clear h H
  generalize hm : ts.length = m at *
  generalize hn : us.length = n at *
  have HM := Lib.hid hm
  have HN := Lib.hid hn
  clear hm hn
  go_enter Tryz.func234, Tryz.ntmps234
  go_wp2_with fail
  go_loopw [1, 2, 7] (fun mv nv pv wr => ∃ (j : Nat) (p : Int), j ≤ m ∧ j ≤ n ∧ mv = .int .i64 ((m - j : Nat) : Int) ∧ nv = .int .i64 ((n - j : Nat) : Int) ∧ pv = .int .i64 p ∧ Hid (Prx rb (0 < k ∨ p = 0) (flats (ts.drop j) ++ ra) (flats (us.drop j) ++ rc) k wr) ∧ Hid (cmpTs ts us = orI p (cmpTs (ts.drop j) (us.drop j))) ∧ Hid (Kb w.heap.size rb w wr)) (fun mv _ _ _ => (intOf mv).toNat)
  case atStart => exact ⟨0, 0, Nat.zero_le _, Nat.zero_le _, rfl, rfl, rfl, Lib.hid (by simpa using HP.out.x), Lib.hid (by simp), Lib.hid (Kb.refl _ _ _)⟩
  case round =>
    obtain ⟨j, p, hjm, hjn, rfl, rfl, rfl, HX, HC, HK⟩ := hrel
    by_cases hp : p = 0
    · subst hp
      by_cases hj : j < m ∧ j < n
      · obtain ⟨hj1, hj2⟩ := hj
        have HV : Hid (Calls Tryz.prog 206 #[.pointer (some ⟨rb, 0, none⟩)] wr fun e w' => e = .returned (.int .i64 (cmpT (ts[j]'(HM.out ▸ hj1)) (us[j]'(HN.out ▸ hj2)))) ∧ Prx rb (0 < k ∨ cmpT (ts[j]'(HM.out ▸ hj1)) (us[j]'(HN.out ▸ hj2)) = 0) (flats (ts.drop (j + 1)) ++ ra) (flats (us.drop (j + 1)) ++ rc) k w' ∧ Kb wr.heap.size rb wr w') := by
          have h1 := HX.out.get (.inr rfl)
          have g1 := flats_drop_le ts j
          have g2 := flats_drop_le us j
          have d1 := flats_drop_cons (ts := ts) (j := j) (HM.out ▸ hj1)
          have d2 := flats_drop_cons (ts := us) (j := j) (HN.out ▸ hj2)
          rw [d1, d2, List.append_assoc, List.append_assoc] at h1
          rw [d1, List.length_append] at g1
          rw [d2, List.length_append] at g2
          exact Lib.hid (HH.out _ (List.getElem_mem _) _ (List.getElem_mem _) rb _ _ k wr h1 (by simp only [List.length_append]; omega) (by simp only [List.length_append]; omega) (by omega))
        have HC2 : Hid (cmpTs ts us = orI (cmpT (ts[j]'(HM.out ▸ hj1)) (us[j]'(HN.out ▸ hj2))) (cmpTs (ts.drop (j + 1)) (us.drop (j + 1)))) := Lib.hid (by rw [HC.out, orI_z, cmpTs_at])
        generalize cmpT (ts[j]'(HM.out ▸ hj1)) (us[j]'(HN.out ▸ hj2)) = q at HV HC2
        go_wp2_with fail
        go_at_call 206
        refine HV.out.mono ?_
        rintro e w1 ⟨rfl, hx1, hk1⟩
        have HX1 := Lib.hid hx1
        have HK1 := Lib.hid (HK.out.trans (hk1.mono HK.out.size))
        clear hx1 hk1
        go_wp2_with fail
        refine ⟨⟨j + 1, q, by omega, by omega, by congr 1; omega, by congr 1; omega, rfl, HX1, HC2, HK1⟩, ?_⟩
        simp [intOf]; omega
      · have hend : cmpTs ts us = Lib.compareInt ((m - j : Nat) : Int) ((n - j : Nat) : Int) := by
          rw [HC.out, orI_z, cmpTs_end (by rw [HM.out, HN.out]; omega) (by rw [HM.out]; exact hjm) (by rw [HN.out]; exact hjn), HM.out, HN.out]
        have HE : Hid (orL [0, Lib.compareInt ((m - j : Nat) : Int) ((n - j : Nat) : Int)] = cmpTs ts us) := Lib.hid (by rw [hend]; simp [orL])
        have HZ : Hid (cmpTs ts us = 0 → (0 < k ∨ (0 : Int) = 0) ∧ m - j = 0 ∧ n - j = 0) := Lib.hid (by rw [hend, cmpI_eq]; omega)
        have HL := Lib.hid (leave_any (ts := ts.drop j) (us := us.drop j) (okTs_all.2 fun t ht => okTs_all.1 hts t (List.mem_of_mem_drop ht)) (okTs_all.2 fun t ht => okTs_all.1 hus t (List.mem_of_mem_drop ht)) rb _ ra rc k wr (m - j) (n - j) (by rw [List.length_drop, HM.out]) (by rw [List.length_drop, HN.out]) HX.out (fun h => .inl h)
          (by have := flats_drop_le ts j; rw [List.length_append]; omega) (by have := flats_drop_le us j; rw [List.length_append]; omega))
        have hMN : m - j = 0 ∨ n - j = 0 := by omega
        clear hend hj
        generalize m - j = M at *
        generalize n - j = N at *
        go_wp2_with fail
        all_goals go_at_call 232
        all_goals refine HL.out.mono ?_
        all_goals rintro e w1 ⟨rfl, hx1, hk1⟩
        all_goals have HX1 := Lib.hid hx1
        all_goals have HK1 := Lib.hid (HK.out.trans (hk1.mono HK.out.size))
        all_goals clear hx1 hk1
        all_goals go_wp2_with fail
        all_goals go_at_call 231
        all_goals refine (Tryz.cmp_Compare_int _ _ _).mono ?_
        all_goals rintro e w2 ⟨rfl, rfl⟩
        all_goals go_wp2_with fail
        all_goals go_at_call 272
        all_goals refine (orInt_lit [0, Lib.compareInt (M : Int) (N : Int)] _ _ _ _ _ rfl rfl rfl (by simp)).mono ?_
        all_goals rintro e w3 ⟨rfl, hb3⟩
        all_goals go_wp2_with fail
        all_goals go_ret
        all_goals
          obtain ⟨la, lb, hp1, hp2⟩ := HX1.out
          exact ⟨ret_i64 HE.out, ⟨la, lb, hp1.below hb3, fun h => hp2 (h.imp id HZ.out)⟩, HK1.out.trans (Kb.of (hb3.mono HK1.out.size))⟩
    · have HE : Hid (orL [p, Lib.compareInt ((m - j : Nat) : Int) ((n - j : Nat) : Int)] = cmpTs ts us) := Lib.hid (by rw [HC.out, orL, orI_ne hp, orI_ne hp])
      have HZ : Hid (¬ cmpTs ts us = 0) := Lib.hid (by rw [HC.out, orI_ne hp]; exact hp)
      have HL := Lib.hid (leave_any (ts := ts.drop j) (us := us.drop j) (okTs_all.2 fun t ht => okTs_all.1 hts t (List.mem_of_mem_drop ht)) (okTs_all.2 fun t ht => okTs_all.1 hus t (List.mem_of_mem_drop ht)) rb _ ra rc k wr (m - j) (n - j) (by rw [List.length_drop, HM.out]) (by rw [List.length_drop, HN.out]) HX.out (fun h => .inl h)
          (by have := flats_drop_le ts j; rw [List.length_append]; omega) (by have := flats_drop_le us j; rw [List.length_append]; omega))
      have hp' : ((p == 0) : Bool) = false := by simpa using hp
      generalize m - j = M at *
      generalize n - j = N at *
      go_wp2_with fail
      all_goals go_at_call 232
      all_goals refine HL.out.mono ?_
      all_goals rintro e w1 ⟨rfl, hx1, hk1⟩
      all_goals have HX1 := Lib.hid hx1
      all_goals have HK1 := Lib.hid (HK.out.trans (hk1.mono HK.out.size))
      all_goals clear hx1 hk1
      all_goals go_wp2_with fail
      all_goals go_at_call 231
      all_goals refine (Tryz.cmp_Compare_int _ _ _).mono ?_
      all_goals rintro e w2 ⟨rfl, rfl⟩
      all_goals go_wp2_with fail
      all_goals go_at_call 272
      all_goals refine (orInt_lit [p, Lib.compareInt (M : Int) (N : Int)] _ _ _ _ _ rfl rfl rfl (by simp)).mono ?_
      all_goals rintro e w3 ⟨rfl, hb3⟩
      all_goals go_wp2_with fail
      all_goals go_ret
      all_goals
        obtain ⟨la, lb, hp1, hp2⟩ := HX1.out
        exact ⟨ret_i64 HE.out, ⟨la, lb, hp1.below hb3, fun h => hp2 (.inl (h.resolve_right HZ.out))⟩, HK1.out.trans (Kb.of (hb3.mono HK1.out.size))⟩
end Go.Proofs.YtdgcdemihalefaaGreatDoor

/-
  What (*pair).objects answers, over any two lists of values whose comparison is what it should be.
-/
namespace Go.Proofs.YtdgcdemihalefaaGreatDoor
open Go.RowKit Np Rw Vp Ov

theorem nxt_parts {ts : List (Tr Nd)} {j : Nat} (h : j < ts.length) (ra : List Nd) : nxtN (flats (ts.drop j) ++ ra) = ts[j].nd := by
  rw [flats_drop_cons h, flat_eq]; rfl
theorem nms_at {ts us : List (Tr Nd)} {j : Nat} (h1 : j < ts.length) (h2 : j < us.length) : cmpNm (nms (ts.drop j)) (nms (us.drop j)) = orI (cmpB ts[j].nd.name us[j].nd.name) (cmpNm (nms (ts.drop (j + 1))) (nms (us.drop (j + 1)))) := by
  rw [← List.getElem_cons_drop h1, ← List.getElem_cons_drop h2]
  simp only [nms, List.map_cons]
  rw [cmpNm_cons]
theorem cmpNm_nn {x y : List (List UInt8)} (h : x.length = 0 ∨ y.length = 0) : cmpNm x y = Lib.compareInt (x.length : Int) (y.length : Int) := by
  cases x with
  | nil =>
    cases y with
    | nil => rw [cmpNm_nil]; exact ((cmpI_eq _ _).2 rfl).symm
    | cons b y => rw [cmpNm_less]; exact ((cmpI_lt _ _).2 (by simp)).symm
  | cons a x =>
    cases y with
    | nil => rw [cmpNm_more]; exact ((cmpI_gt _ _).2 (by simp)).symm
    | cons b y => simp at h
theorem nms_end {ts us : List (Tr Nd)} {j : Nat} (h : j = ts.length ∨ j = us.length) : cmpNm (nms (ts.drop j)) (nms (us.drop j)) = Lib.compareInt ((ts.length - j : Nat) : Int) ((us.length - j : Nat) : Int) := by
  rw [cmpNm_nn (by simp; omega)]
  simp
/-- What the region of the two names holds fast. -/
def Os (rb : Nat) (va vb : Value) (la lb : List Nd) (k : Nat) (w w' : World) : Prop := w'.cell? ⟨rb, 0, none⟩ = some va ∧ w'.cell? ⟨rb, 1, none⟩ = some vb ∧ Pr2 rb va vb k w' ∧ Nds w' va la ∧ Nds w' vb lb ∧ Kb w.heap.size rb w w'
theorem Os.mk' {rb : Nat} {va vb : Value} {la lb : List Nd} {k : Nat} {w w' : World} (h : Pr2 rb va vb k w') (ha : Nds w' va la) (hb : Nds w' vb lb) (hk : Kb w.heap.size rb w w') : Os rb va vb la lb k w w' := ⟨h.c0, h.c1, h, ha, hb, hk⟩
theorem Os.step {rb : Nat} {va vb : Value} {la lb : List Nd} {k : Nat} {w w' w'' : World} (h : Os rb va vb la lb k w w') (hb : Below w'.heap.size w' w'') : Os rb va vb la lb k w w'' := by
  obtain ⟨-, -, h3, h4, h5, h6⟩ := h
  exact Os.mk' (h3.below hb h3.lt) (h4.below hb) (h5.below hb) (h6.trans (Kb.of (hb.mono h6.size)))
theorem Os.a {rb : Nat} {va vb : Value} {la lb : List Nd} {k : Nat} {w w' : World} (h : Os rb va vb la lb k w w') : Nds w' va la := h.2.2.2.1
theorem Os.b {rb : Nat} {va vb : Value} {la lb : List Nd} {k : Nat} {w w' : World} (h : Os rb va vb la lb k w w') : Nds w' vb lb := h.2.2.2.2.1
theorem Os.p {rb : Nat} {va vb : Value} {la lb : List Nd} {k : Nat} {w w' : World} (h : Os rb va vb la lb k w w') : Prs rb la lb k w' := ⟨va, vb, h.2.2.1, h.a, h.b⟩
theorem Os.k {rb : Nat} {va vb : Value} {la lb : List Nd} {k : Nat} {w w' : World} (h : Os rb va vb la lb k w w') : Kb w.heap.size rb w w' := h.2.2.2.2.2
theorem Os.pk {rb : Nat} {va vb : Value} {la lb : List Nd} {k : Nat} {w w' : World} (h : Os rb va vb la lb k w w') : Prs rb la lb k w' ∧ Kb w.heap.size rb w w' := ⟨h.p, h.k⟩
theorem cmpStr_below (s t : List UInt8) (w : World) :
    Calls Tryz.prog 207 #[.string ⟨s.toArray⟩, .string ⟨t.toArray⟩] w fun e w' => e = .returned (.int .i64 (cmpB s t)) ∧ Below w.heap.size w w' :=
  (cmpStr_any _ _ w).mono fun _ _ ⟨he, hw⟩ => ⟨he, hw ▸ Below.refl _ _⟩
/-- What the walk tells of objects, j parts on. -/
structure Ob4 (rb : Nat) (ts us : List (Tr Nd)) (ra rc : List Nd) (k j : Nat) (q p : Int) (w wr : World) : Prop where
  pr : Prs rb (flats (ts.drop j) ++ ra) (flats (us.drop j) ++ rc) (k + 1) wr
  nm : cmpNm (nms ts) (nms us) = orI q (cmpNm (nms (ts.drop j)) (nms (us.drop j)))
  vl : q = 0 → cmpTs ts us = orI p (cmpTs (ts.drop j) (us.drop j))
  kb : Kb w.heap.size rb w wr
theorem Ob4.done {rb : Nat} {ts us : List (Tr Nd)} {ra rc : List Nd} {k j : Nat} {q p : Int} {w wr : World} (h : Ob4 rb ts us ra rc k j q p w wr) (hj1 : j ≤ ts.length) (hj2 : j ≤ us.length) (he : q ≠ 0 ∨ j = ts.length ∨ j = us.length) :
    orL [q, Lib.compareInt ((ts.length - j : Nat) : Int) ((us.length - j : Nat) : Int), p] = orI (cmpNm (nms ts) (nms us)) (cmpTs ts us) ∧ (orI (cmpNm (nms ts) (nms us)) (cmpTs ts us) = 0 → ts.length - j = 0 ∧ us.length - j = 0) := by
  have h1 := h.nm
  have h2 := h.vl
  simp only [orL, orI_r]
  by_cases hq : q = 0
  · subst hq
    have he' := he.resolve_left (by simp)
    rw [orI_z] at h1
    rw [nms_end he'] at h1
    rw [orI_z, h1]
    have h3 := h2 rfl
    by_cases hc : Lib.compareInt ((ts.length - j : Nat) : Int) ((us.length - j : Nat) : Int) = 0
    · have hc' := (cmpI_eq _ _).1 hc
      rw [hc, orI_z, orI_z, h3, cmpTs_end he' hj1 hj2, hc, orI_r]
      exact ⟨rfl, fun _ => by omega⟩
    · rw [orI_ne hc, orI_ne hc]
      exact ⟨rfl, fun h => absurd h hc⟩
  · rw [h1, orI_ne hq, orI_ne hq, orI_ne hq]
    exact ⟨rfl, fun h => absurd h hq⟩

set_option maxRecDepth 100000 in
set_option maxHeartbeats 4000000 in
theorem objects_of {ts us : List (Tr Nd)} (H : ∀ t ∈ ts, ∀ u ∈ us, ValueQ t u) (hts : okTs many ts) (hus : okTs many us) (rb : Nat) (ra rc : List Nd) (k : Nat) (w : World)
    (h : Prs rb (flats ts ++ ra) (flats us ++ rc) k w) (hla : (flats ts ++ ra).length ≤ 100000) (hlb : (flats us ++ rc).length ≤ 100000) (hk : k + 1 + (flats ts).length ≤ 100000) :
    Calls Tryz.prog 235 #[.pointer (some ⟨rb, 0, none⟩), .int .i64 ts.length, .int .i64 us.length] w fun e w' => e = .returned (.int .i64 (orI (cmpNm (nms ts) (nms us)) (cmpTs ts us))) ∧ Prx rb (0 < k ∨ orI (cmpNm (nms ts) (nms us)) (cmpTs ts us) = 0) ra rc k w' ∧ Kb w.heap.size rb w w' := by
  have hlt := h.lt
  have HP := Lib.hid h
  have HH := Lib.hid H
  have hl1 := flats_len ts
  have hl2 := flats_len us
  rw [List.length_append] at hla hlb
  obtain ⟨va, vb, hp, ha, hb⟩ := h
  have c2 := hp.c2
  have f2 := hp.fz 2
  have hS : Ob4 rb ts us ra rc k 0 0 0 w (w.setCell ⟨rb, 2, none⟩ (.int .i64 ((k : Int) + 1))) := by
    have hK := (Kb.refl w.heap.size rb w).set 2 (.int .i64 ((k : Int) + 1))
    exact ⟨⟨va, vb, hp.setI (k + 1), by simpa using ha.pr hp hK, by simpa using hb.pr hp hK⟩, by simp, fun _ => by simp, hK⟩
  have HS := Lib.hid hS
  clear hp ha hb H hS
  generalize hR : orI (cmpNm (nms ts) (nms us)) (cmpTs ts us) = R at *
  have HR := Lib.hid hR
  clear hR
  generalize hm : ts.length = m at *
  generalize hn : us.length = n at *
  have HM := Lib.hid hm
  have HN := Lib.hid hn
  clear hm hn
  go_enter Tryz.func235, Tryz.ntmps235
  go_wp2_with fail
  go_loopw [1, 2, 7, 8] (fun mv nv qv pv wr => ∃ (j : Nat) (q p : Int), j ≤ m ∧ j ≤ n ∧ mv = .int .i64 ((m - j : Nat) : Int) ∧ nv = .int .i64 ((n - j : Nat) : Int) ∧ qv = .int .i64 q ∧ pv = .int .i64 p ∧ Hid (Ob4 rb ts us ra rc k j q p w wr)) (fun mv _ _ _ _ => (intOf mv).toNat)
  case atStart => exact ⟨0, 0, 0, Nat.zero_le _, Nat.zero_le _, rfl, rfl, rfl, rfl, HS⟩
  case round =>
    obtain ⟨j, q, p, hjm, hjn, rfl, rfl, rfl, rfl, HO⟩ := hrel
    by_cases hgo : q = 0 ∧ j < m ∧ j < n
    · obtain ⟨rfl, hj1, hj2⟩ := hgo
      obtain ⟨va1, vb1, hp1, ha1, hb1⟩ := HO.out.pr
      have hK1 := HO.out.kb
      have hnm := HO.out.nm
      have hvl := HO.out.vl rfl
      rw [orI_z] at hnm
      rw [nms_at (HM.out ▸ hj1) (HN.out ▸ hj2)] at hnm
      rw [cmpTs_at (HM.out ▸ hj1) (HN.out ▸ hj2)] at hvl
      have hN1 : nxtN (flats (ts.drop j) ++ ra) = (ts[j]'(HM.out ▸ hj1)).nd := nxt_parts _ _
      have hN2 : nxtN (flats (us.drop j) ++ rc) = (us[j]'(HN.out ▸ hj2)).nd := nxt_parts _ _
      have hA : ∀ W, Nds W va1 (flats (ts.drop j) ++ ra) → Calls Tryz.prog 273 #[va1] W fun e w' => e = .returned (.string ⟨(ts[j]'(HM.out ▸ hj1)).nd.name.toArray⟩) ∧ Below W.heap.size W w' := fun W h => by have := oname_any va1 _ W h; rwa [hN1] at this
      have hB : ∀ W, Nds W vb1 (flats (us.drop j) ++ rc) → Calls Tryz.prog 273 #[vb1] W fun e w' => e = .returned (.string ⟨(us[j]'(HN.out ▸ hj2)).nd.name.toArray⟩) ∧ Below W.heap.size W w' := fun W h => by have := oname_any vb1 _ W h; rwa [hN2] at this
      have HVQ : Hid (ValueQ (ts[j]'(HM.out ▸ hj1)) (us[j]'(HN.out ▸ hj2))) := Lib.hid (HH.out _ (List.getElem_mem _) _ (List.getElem_mem _))
      have HD1 : Hid (flats (ts.drop j) = flat (ts[j]'(HM.out ▸ hj1)) ++ flats (ts.drop (j + 1))) := Lib.hid (flats_drop_cons _)
      have HD2 : Hid (flats (us.drop j) = flat (us[j]'(HN.out ▸ hj2)) ++ flats (us.drop (j + 1))) := Lib.hid (flats_drop_cons _)
      have HO1 : Hid (okT many (ts[j]'(HM.out ▸ hj1))) := Lib.hid (okTs_all.1 hts _ (List.getElem_mem _))
      have HO2 : Hid (okT many (us[j]'(HN.out ▸ hj2))) := Lib.hid (okTs_all.1 hus _ (List.getElem_mem _))
      have HL1 := Lib.hid (flats_drop_le ts j)
      have HL2 := Lib.hid (flats_drop_le us j)
      have HA := Lib.hid hA
      have HB := Lib.hid hB
      have HNM := Lib.hid hnm
      have HVL := Lib.hid hvl
      clear hA hB hnm hvl hN1 hN2
      generalize ts[j]'(HM.out ▸ hj1) = t at *
      generalize us[j]'(HN.out ▸ hj2) = u at *
      obtain ⟨A1, c1, rfl, -⟩ := (id ha1 : Nds wr va1 (flats (ts.drop j) ++ ra))
      obtain ⟨B1, d1, rfl, -⟩ := (id hb1 : Nds wr vb1 (flats (us.drop j) ++ rc))
      have hStart := Os.mk' hp1 ha1 hb1 hK1
      generalize (flats (ts.drop j) ++ ra).length = na at *
      generalize (flats (us.drop j) ++ rc).length = nb at *
      have HST := Lib.hid hStart
      clear hStart hp1 ha1 hb1 hK1 HO HS HP
      go_upto_region 4 with fail
      go_cut [7] from 24 to 37 (fun s7 wx => s7 = .int .i64 (cmpB t.nd.name u.nd.name) ∧ Hid (Prs rb (flats (ts.drop j) ++ ra) (flats (us.drop j) ++ rc) (k + 1) wx ∧ Kb w.heap.size rb w wx))
      case first =>
        go_region_held3 (fun w' => w'.cell? ⟨rb, 0, none⟩ = some (.slice A1 na c1) ∧ w'.cell? ⟨rb, 1, none⟩ = some (.slice B1 nb d1) ∧ Pr2 rb (.slice A1 na c1) (.slice B1 nb d1) (k + 1) w' ∧ Nds w' (.slice A1 na c1) (flats (ts.drop j) ++ ra) ∧ Nds w' (.slice B1 nb d1) (flats (us.drop j) ++ rc) ∧ Kb w.heap.size rb w w') (first | exact Os.step (by assumption : Os rb (.slice A1 na c1) (.slice B1 nb d1) (flats (ts.drop j) ++ ra) (flats (us.drop j) ++ rc) (k + 1) w _) hb3 | exact Os.step HST.out (Below.refl _ _).drew | go_keep)
          (first
            | (go_at_call_of 273 A1; refine (HA.out _ (by assumption : Os rb (.slice A1 na c1) (.slice B1 nb d1) (flats (ts.drop j) ++ ra) (flats (us.drop j) ++ rc) (k + 1) w _).a).mono ?_; rintro e3 w3 ⟨rfl, hb3⟩)
            | (go_at_call_of 273 B1; refine (HB.out _ (by assumption : Os rb (.slice A1 na c1) (.slice B1 nb d1) (flats (ts.drop j) ++ ra) (flats (us.drop j) ++ rc) (k + 1) w _).b).mono ?_; rintro e3 w3 ⟨rfl, hb3⟩)
            | (go_at_call 207; refine (cmpStr_below _ _ _).mono ?_; rintro e3 w3 ⟨rfl, hb3⟩))
        go_wp2_with fail
        go_meet
        exact ⟨rfl, Lib.hid (Os.pk (va := .slice A1 na c1) (vb := .slice B1 nb d1) (by assumption))⟩
      case rest =>
        obtain ⟨rfl, HC⟩ := hcut
        by_cases hq : cmpB t.nd.name u.nd.name = 0 ∧ p = 0
        · obtain ⟨hq, rfl⟩ := hq
          rw [hq]
          have HV : Hid (Calls Tryz.prog 206 #[.pointer (some ⟨rb, 0, none⟩)] wc fun e w' => e = .returned (.int .i64 (cmpT t u)) ∧ Prx rb (0 < k + 1 ∨ cmpT t u = 0) (flats (ts.drop (j + 1)) ++ ra) (flats (us.drop (j + 1)) ++ rc) (k + 1) w' ∧ Kb wc.heap.size rb wc w') := by
            have h1 := HC.out.1
            have g1 := HL1.out
            have g2 := HL2.out
            rw [HD1.out, HD2.out, List.append_assoc, List.append_assoc] at h1
            rw [HD1.out, List.length_append] at g1
            rw [HD2.out, List.length_append] at g2
            exact Lib.hid (HVQ.out rb _ _ (k + 1) wc h1 (by simp only [List.length_append]; omega) (by simp only [List.length_append]; omega) (by omega))
          have HQ := Lib.hid hq
          clear hq
          go_wp2_with fail
          go_at_call 206
          refine HV.out.mono ?_
          rintro e w1 ⟨rfl, hx1, hk1⟩
          have HO2 : Hid (Ob4 rb ts us ra rc k (j + 1) 0 (cmpT t u) w w1) := Lib.hid ⟨hx1.get (.inl (Nat.succ_pos _)), by rw [HNM.out, HQ.out], fun _ => by rw [HVL.out, orI_z], HC.out.2.trans (hk1.mono HC.out.2.size)⟩
          clear hx1 hk1
          go_wp2_with fail
          refine ⟨⟨j + 1, 0, cmpT t u, by omega, by omega, by congr 1; omega, by congr 1; omega, rfl, rfl, HO2⟩, ?_⟩
          simp [intOf]; omega
        · have HL : Hid (Calls Tryz.prog 232 #[.pointer (some ⟨rb, 0, none⟩), .int .i64 (1 : Nat), .int .i64 (1 : Nat)] wc fun e w' => e = .returned (.tuple #[]) ∧ Prx rb (0 < k + 1 ∨ (True ∧ 1 = 0 ∧ 1 = 0)) (flats (ts.drop (j + 1)) ++ ra) (flats (us.drop (j + 1)) ++ rc) (k + 1) w' ∧ Kb wc.heap.size rb wc w') := by
            have h1 := HC.out.1
            have g1 := HL1.out
            have g2 := HL2.out
            rw [HD1.out, HD2.out, List.append_assoc, List.append_assoc] at h1
            rw [HD1.out, List.length_append] at g1
            rw [HD2.out, List.length_append] at g2
            refine Lib.hid (leave_any (ts := [t]) (us := [u]) (okTs_all.2 (by simpa using HO1.out)) (okTs_all.2 (by simpa using HO2.out)) rb True _ _ (k + 1) wc 1 1 rfl rfl ?_ (fun _ => trivial) ?_ ?_)
            · simpa using h1.x
            · simp only [List.length_append, flats_cons, flats_nil, List.append_nil]; omega
            · simp only [List.length_append, flats_cons, flats_nil, List.append_nil]; omega
          have HV2 : Hid (cmpB t.nd.name u.nd.name = 0 → cmpTs ts us = orI p (cmpTs (ts.drop (j + 1)) (us.drop (j + 1)))) := Lib.hid fun h => by
            have hp0 : p ≠ 0 := fun h2 => hq ⟨h, h2⟩
            rw [HVL.out, orI_ne hp0, orI_ne hp0]
          generalize cmpB t.nd.name u.nd.name = q at *
          by_cases hq0 : q = 0
          · subst hq0
            have hp0 : ((p == 0) : Bool) = false := by simpa using hq
            go_wp2_with fail
            go_at_call 232
            refine HL.out.mono ?_
            rintro e w1 ⟨rfl, hx1, hk1⟩
            have HO2 : Hid (Ob4 rb ts us ra rc k (j + 1) 0 p w w1) := Lib.hid ⟨hx1.get (.inl (Nat.succ_pos _)), HNM.out, fun _ => HV2.out (by trivial), HC.out.2.trans (hk1.mono HC.out.2.size)⟩
            clear hx1 hk1
            go_wp2_with fail
            refine ⟨⟨j + 1, 0, p, by omega, by omega, by congr 1; omega, by congr 1; omega, rfl, rfl, HO2⟩, ?_⟩
            simp [intOf]; omega
          · have hq1 : ((q == 0) : Bool) = false := by simpa using hq0
            go_wp2_with fail
            go_at_call 232
            refine HL.out.mono ?_
            rintro e w1 ⟨rfl, hx1, hk1⟩
            have HO2 : Hid (Ob4 rb ts us ra rc k (j + 1) q p w w1) := Lib.hid ⟨hx1.get (.inl (Nat.succ_pos _)), HNM.out, HV2.out, HC.out.2.trans (hk1.mono HC.out.2.size)⟩
            clear hx1 hk1
            go_wp2_with fail
            refine ⟨⟨j + 1, q, p, by omega, by omega, by congr 1; omega, by congr 1; omega, rfl, rfl, HO2⟩, ?_⟩
            simp [intOf]; omega
    · have hend : q ≠ 0 ∨ j = m ∨ j = n := by
        by_cases h : q = 0
        · exact .inr (by omega)
        · exact .inl h
      have hdone := HO.out.done (by rw [HM.out]; exact hjm) (by rw [HN.out]; exact hjn) (by rw [HM.out, HN.out]; exact hend)
      rw [HM.out, HN.out, HR.out] at hdone
      have HE := Lib.hid hdone.1
      have HZ := Lib.hid hdone.2
      obtain ⟨va1, vb1, hp1, ha1, hb1⟩ := HO.out.pr
      have c2 := hp1.c2
      have f2 := hp1.fz 2
      have HK0 : Hid (Kb w.heap.size rb w (wr.setCell ⟨rb, 2, none⟩ (.int .i64 k))) := Lib.hid (HO.out.kb.set _ _)
      have HL := Lib.hid (leave_any (ts := ts.drop j) (us := us.drop j) (okTs_all.2 fun t ht => okTs_all.1 hts t (List.mem_of_mem_drop ht)) (okTs_all.2 fun t ht => okTs_all.1 hus t (List.mem_of_mem_drop ht)) rb True ra rc k (wr.setCell ⟨rb, 2, none⟩ (.int .i64 k)) (m - j) (n - j) (by rw [List.length_drop, HM.out]) (by rw [List.length_drop, HN.out])
          (Prs.x ⟨va1, vb1, hp1.setI k, ha1.pr hp1 ((Kb.refl _ _ _).set _ _), hb1.pr hp1 ((Kb.refl _ _ _).set _ _)⟩) (fun _ => trivial)
          (by have := flats_drop_le ts j; rw [List.length_append]; omega) (by have := flats_drop_le us j; rw [List.length_append]; omega))
      have hmn : q = 0 → m - j = 0 ∨ n - j = 0 := by omega
      clear hend hdone hp1 ha1 hb1 hgo
      generalize m - j = M at *
      generalize n - j = N at *
      by_cases hq0 : q = 0
      · subst hq0
        have hMN := hmn rfl
        clear hmn
        go_wp2_with fail
        all_goals go_at_call 232
        all_goals refine HL.out.mono ?_
        all_goals rintro e w1 ⟨rfl, hx1, hk1⟩
        all_goals have HX1 := Lib.hid hx1
        all_goals have HK1 := Lib.hid (HK0.out.trans (hk1.mono HK0.out.size))
        all_goals clear hx1 hk1
        all_goals go_wp2_with fail
        all_goals go_at_call 231
        all_goals refine (Tryz.cmp_Compare_int _ _ _).mono ?_
        all_goals rintro e w2 ⟨rfl, rfl⟩
        all_goals go_wp2_with fail
        all_goals go_at_call 272
        all_goals refine (orInt_lit [0, Lib.compareInt (M : Int) (N : Int), p] _ _ _ _ _ rfl rfl rfl (by simp)).mono ?_
        all_goals rintro e w3 ⟨rfl, hb3⟩
        all_goals go_wp2_with fail
        all_goals go_ret
        all_goals
          obtain ⟨la, lb, hp1, hp2⟩ := HX1.out
          exact ⟨ret_i64 HE.out, ⟨la, lb, hp1.below hb3, fun h => hp2 (h.imp id fun h => ⟨trivial, HZ.out h⟩)⟩, HK1.out.trans (Kb.of (hb3.mono HK1.out.size))⟩
      · have hq1 : ((q == 0) : Bool) = false := by simpa using hq0
        clear hmn
        go_wp2_with fail
        all_goals go_at_call 232
        all_goals refine HL.out.mono ?_
        all_goals rintro e w1 ⟨rfl, hx1, hk1⟩
        all_goals have HX1 := Lib.hid hx1
        all_goals have HK1 := Lib.hid (HK0.out.trans (hk1.mono HK0.out.size))
        all_goals clear hx1 hk1
        all_goals go_wp2_with fail
        all_goals go_at_call 231
        all_goals refine (Tryz.cmp_Compare_int _ _ _).mono ?_
        all_goals rintro e w2 ⟨rfl, rfl⟩
        all_goals go_wp2_with fail
        all_goals go_at_call 272
        all_goals refine (orInt_lit [q, Lib.compareInt (M : Int) (N : Int), p] _ _ _ _ _ rfl rfl rfl (by simp)).mono ?_
        all_goals rintro e w3 ⟨rfl, hb3⟩
        all_goals go_wp2_with fail
        all_goals go_ret
        all_goals
          obtain ⟨la, lb, hp1, hp2⟩ := HX1.out
          exact ⟨ret_i64 HE.out, ⟨la, lb, hp1.below hb3, fun h => hp2 (h.imp id fun h => ⟨trivial, HZ.out h⟩)⟩, HK1.out.trans (Kb.of (hb3.mono HK1.out.size))⟩
end Go.Proofs.YtdgcdemihalefaaGreatDoor

/-
  What (*pair).value and order.Cmp answer.
-/
namespace Go.Proofs.YtdgcdemihalefaaGreatDoor
open Go.RowKit Np Rw Vp Ov

theorem drop_flat (t : Tr Nd) (r : List Nd) : (flat t ++ r).tail = flats t.ks ++ r := by rw [flat_eq]; rfl
theorem nxt_flat (t : Tr Nd) (r : List Nd) : nxtN (flat t ++ r) = t.nd := by rw [flat_eq]; rfl
/-- What value asks of a value: its nodes are right. -/
structure Ok9 (t : Tr Nd) : Prop where
  ok : okT many t
  rt : rightT t = true
theorem Ok9.kids {t : Tr Nd} (h : Ok9 t) : ∀ u ∈ t.ks, Ok9 u := fun u hu => ⟨((Val.clr h.ok h.rt).parts u hu).1, ((Val.clr h.ok h.rt).parts u hu).2⟩
theorem Ok9.plain {t : Tr Nd} (h : Ok9 t) : plainN t.nd = true := (Val.clr h.ok h.rt).plain
theorem Ok9.many {t : Tr Nd} (h : Ok9 t) : t.nd.many = t.ks.length := (okT_eq.1 h.ok).1
theorem Ok9.kinds {t : Tr Nd} (h : Ok9 t) : t.nd.kind = 0 ∨ t.nd.kind = 1 ∨ t.nd.kind = 2 ∨ t.nd.kind = 3 ∨ t.nd.kind = 4 ∨ t.nd.kind = 5 ∨ t.nd.kind = 6 := by
  have := h.plain
  unfold plainN at this
  split at this
  · omega
  · split at this
    · omega
    · split at this
      · omega
      · split at this
        · omega
        · cases this
theorem Ok9.leaf {t : Tr Nd} (h : Ok9 t) (h5 : t.nd.kind ≠ 5) (h6 : t.nd.kind ≠ 6) : t.ks = [] := (Val.clr h.ok h.rt).leaf h5 h6

set_option maxRecDepth 100000 in
set_option maxHeartbeats 4000000 in
theorem value_of {t u : Tr Nd} (ht : Ok9 t) (hu : Ok9 u) (H : ∀ a ∈ t.ks, ∀ b ∈ u.ks, ValueQ a b) : ValueQ t u := by
  intro rb ra rc k w hp hla hlb hk
  have hk2 : k + 1 + (flats t.ks).length ≤ 100000 := by rw [flat_eq, List.length_cons] at hk; omega
  have HN := Lib.hid (node_any rb _ _ k w hp)
  rw [drop_flat, drop_flat, nxt_flat, nxt_flat] at HN
  have hlt := hp.lt
  have hla' : (flats t.ks ++ ra).length ≤ 100000 := by rw [List.length_append] at hla ⊢; rw [flat_eq, List.length_cons] at hla; omega
  have hlb' : (flats u.ks ++ rc).length ≤ 100000 := by rw [List.length_append] at hlb ⊢; rw [flat_eq, List.length_cons] at hlb; omega
  have HL : Hid (∀ w1, Prs rb (flats t.ks ++ ra) (flats u.ks ++ rc) k w1 → Calls Tryz.prog 234 #[.pointer (some ⟨rb, 0, none⟩), .int .i64 t.ks.length, .int .i64 u.ks.length] w1 fun e w' => e = .returned (.int .i64 (cmpTs t.ks u.ks)) ∧ Prx rb (0 < k ∨ cmpTs t.ks u.ks = 0) ra rc k w' ∧ Kb w1.heap.size rb w1 w') :=
    Lib.hid fun w1 h1 => lists_of H (okT_eq.1 ht.ok).2 (okT_eq.1 hu.ok).2 rb ra rc k w1 h1 hla' hlb' (by omega)
  have HO : Hid (∀ w1, Prs rb (flats t.ks ++ ra) (flats u.ks ++ rc) k w1 → Calls Tryz.prog 235 #[.pointer (some ⟨rb, 0, none⟩), .int .i64 t.ks.length, .int .i64 u.ks.length] w1 fun e w' => e = .returned (.int .i64 (orI (cmpNm (nms t.ks) (nms u.ks)) (cmpTs t.ks u.ks))) ∧ Prx rb (0 < k ∨ orI (cmpNm (nms t.ks) (nms u.ks)) (cmpTs t.ks u.ks) = 0) ra rc k w' ∧ Kb w1.heap.size rb w1 w') :=
    Lib.hid fun w1 h1 => objects_of H (okT_eq.1 ht.ok).2 (okT_eq.1 hu.ok).2 rb ra rc k w1 h1 hla' hlb' (by omega)
  have HV : Hid (∀ w1, Prs rb (flats t.ks ++ ra) (flats u.ks ++ rc) k w1 → Calls Tryz.prog 232 #[.pointer (some ⟨rb, 0, none⟩), .int .i64 t.ks.length, .int .i64 u.ks.length] w1 fun e w' => e = .returned (.tuple #[]) ∧ Prx rb (0 < k ∨ (True ∧ t.ks.length = 0 ∧ u.ks.length = 0)) ra rc k w' ∧ Kb w1.heap.size rb w1 w') :=
    Lib.hid fun w1 h1 => leave_any (okT_eq.1 ht.ok).2 (okT_eq.1 hu.ok).2 rb True ra rc k w1 _ _ rfl rfl h1.x (fun _ => trivial) hla' hlb'
  have HRn := Lib.hid (fun h => cmpT_kind (t := t) (u := u) h)
  have HRs := Lib.hid (fun h => cmpT_same (t := t) (u := u) h)
  have hm := ht.many
  have hn := hu.many
  have HPx := Lib.hid ht.plain
  have HPy := Lib.hid hu.plain
  have HKx := Lib.hid ht.kinds
  have HLx := Lib.hid (fun a b => ht.leaf a b)
  have HLy := Lib.hid (fun a b => hu.leaf a b)
  have g1 := flats_len t.ks
  have g2 := flats_len u.ks
  have e1 : (flats t.ks ++ ra).length = (flats t.ks).length + ra.length := List.length_append
  have e2 : (flats u.ks ++ rc).length = (flats u.ks).length + rc.length := List.length_append
  generalize cmpT t u = R at *
  generalize t.nd = x at *
  generalize u.nd = y at *
  obtain ⟨kx, mx, nx, sx, gx, ex⟩ := x
  obtain ⟨ky, my, ny, sy, gy, ey⟩ := y
  simp only at hm hn HRn HRs HKx HLx HLy
  subst hm hn
  dsimp only [nda] at HN
  clear hp H hla hlb ht hu
  go_enter Tryz.func206, Tryz.ntmps206
  go_wp2_with fail
  go_at_call 230
  refine HN.out.mono ?_
  rintro e w1 ⟨rfl, hx1, hk1⟩
  have HX1 := Lib.hid hx1
  have HK1 := Lib.hid hk1
  obtain ⟨va, vb, hp1, ha1, hb1⟩ := hx1
  have hsz1 := hk1.size
  have hrb : rb < w1.heap.size := hp1.lt
  have hrb1 : ¬ rb = w1.heap.size := by omega
  have hrb2 : ¬ rb = w1.heap.size + 1 := by omega
  have c0 := hp1.c0
  have c1 := hp1.c1
  obtain ⟨A, c, rfl, -⟩ := ha1
  obtain ⟨B, d, rfl, -⟩ := hb1
  have HT : Hid (t.ks.length = 0 → t.ks = []) := Lib.hid List.eq_nil_of_length_eq_zero
  generalize (flats t.ks ++ ra).length = na at *
  generalize (flats u.ks ++ rc).length = nb at *
  have hmA : t.ks.length ≤ na := by omega
  have hmB : u.ks.length ≤ nb := by omega
  clear hk1 hp1 g1 g2 e1 e2 HN
  have HM : Hid (∃ m n, m = t.ks.length ∧ n = u.ks.length) := Lib.hid ⟨_, _, rfl, rfl⟩
  generalize hm : t.ks.length = m at *
  generalize hn : u.ks.length = n at *
  have HM1 := Lib.hid hm
  have HM2 := Lib.hid hn
  clear hm hn
  go_wp2_with fail
  have hmin1 : min (m : Int) (na : Int) = m := by omega
  have hmin2 : min (n : Int) (nb : Int) = n := by omega
  go_quiet (fail)
  go_wp2_with fail
  go_at_call 231
  refine (Tryz.cmp_Compare_int _ _ _).mono ?_
  rintro e w2 ⟨rfl, rfl⟩
  have HB2 : Hid (∀ a b q, Prs rb (flats t.ks ++ ra) (flats u.ks ++ rc) k (((w1.alloc a).alloc b).drewN q) ∧ Kb w.heap.size rb w (((w1.alloc a).alloc b).drewN q)) := Lib.hid fun a b q => by
    have hb : Below w1.heap.size w1 (((w1.alloc a).alloc b).drewN q) := drewN_below (((Below.refl _ w1).alloc (Nat.le_refl _) _).alloc (by simp) _) q
    exact ⟨HX1.out.below hb, HK1.out.trans (Kb.of (hb.mono HK1.out.size))⟩
  by_cases hk3 : kx = ky
  · subst hk3
    have hR := HRs.out rfl
    have hc0 : Lib.compareInt kx kx = 0 := (cmpI_eq _ _).2 rfl
    rw [hc0]
    rcases HKx.out with rfl | rfl | rfl | rfl | rfl | rfl | rfl
    · have HC : Hid (R = 0) := Lib.hid (by simpa using hR)
      have hks1 := HLx.out (by decide) (by decide)
      have hks2 := HLy.out (by decide) (by decide)
      clear hR
      go_wp2_with fail
      go_ret
      refine ⟨ret_i64 HC.out.symm, (HB2.out _ _ _).1.x.mono (fun _ => trivial) (fun _ => by rw [hks1]; rfl) (fun _ => by rw [hks2]; rfl), (HB2.out _ _ _).2⟩
    · have HC : Hid (R = 0) := Lib.hid (by simpa using hR)
      have hks1 := HLx.out (by decide) (by decide)
      have hks2 := HLy.out (by decide) (by decide)
      clear hR
      go_wp2_with fail
      go_ret
      refine ⟨ret_i64 HC.out.symm, (HB2.out _ _ _).1.x.mono (fun _ => trivial) (fun _ => by rw [hks1]; rfl) (fun _ => by rw [hks2]; rfl), (HB2.out _ _ _).2⟩
    · have HC : Hid (R = 0) := Lib.hid (by simpa using hR)
      have hks1 := HLx.out (by decide) (by decide)
      have hks2 := HLy.out (by decide) (by decide)
      clear hR
      go_wp2_with fail
      go_ret
      refine ⟨ret_i64 HC.out.symm, (HB2.out _ _ _).1.x.mono (fun _ => trivial) (fun _ => by rw [hks1]; rfl) (fun _ => by rw [hks2]; rfl), (HB2.out _ _ _).2⟩
    · have HC : Hid (R = cmpN sx gx ex sy gy ey) := Lib.hid (by simpa using hR)
      have hks1 := HLx.out (by decide) (by decide)
      have hks2 := HLy.out (by decide) (by decide)
      have q1 : right ⟨3, m, [], sx, gx, ex⟩ = true := HPx.out
      have q2 : right ⟨3, n, [], sy, gy, ey⟩ = true := HPy.out
      obtain ⟨b1, b2, b3⟩ := right_bounds q1
      obtain ⟨b4, b5, b6⟩ := right_bounds q2
      simp only at b1 b2 b3 b4 b5 b6
      clear hR q1 q2
      have HB3 : Hid (∀ a b q v1 v2, Prs rb (flats t.ks ++ ra) (flats u.ks ++ rc) k (((((w1.alloc a).alloc b).drewN q).setCell ⟨w1.heap.size, 2, none⟩ v1).setCell ⟨w1.heap.size + 1, 2, none⟩ v2) ∧ Kb w.heap.size rb w (((((w1.alloc a).alloc b).drewN q).setCell ⟨w1.heap.size, 2, none⟩ v1).setCell ⟨w1.heap.size + 1, 2, none⟩ v2)) := Lib.hid fun a b q v1 v2 => by
        have hb : Below w1.heap.size w1 (((((w1.alloc a).alloc b).drewN q).setCell ⟨w1.heap.size, 2, none⟩ v1).setCell ⟨w1.heap.size + 1, 2, none⟩ v2) := ((drewN_below (((Below.refl _ w1).alloc (Nat.le_refl _) _).alloc (by simp) _) q).setCell (by simp) _).setCell (by simp) _
        exact ⟨HX1.out.below hb, HK1.out.trans (Kb.of (hb.mono HK1.out.size))⟩
      go_wp2_with fail
      go_at_call 233
      refine (cmp_any 3 m ⟨#[]⟩ ⟨sx.toArray⟩ gx ex 3 n ⟨#[]⟩ ⟨sy.toArray⟩ gy ey _ (by rw [mk_size]; omega) (by rw [mk_size]; omega) (by omega) (by omega) (by omega) (by omega)).mono ?_
      rintro e w3 ⟨rfl, hb3⟩
      go_wp2_with fail
      go_ret
      refine ⟨ret_i64 (by rw [HC.out]), ((HB3.out _ _ _ _ _).1.below hb3).x.mono (fun _ => trivial) (fun _ => by rw [hks1]; rfl) (fun _ => by rw [hks2]; rfl), (HB3.out _ _ _ _ _).2.trans (Kb.of (hb3.mono (HB3.out _ _ _ _ _).2.size))⟩
    · have HC : Hid (R = cmpB sx sy) := Lib.hid (by simpa using hR)
      have hks1 := HLx.out (by decide) (by decide)
      have hks2 := HLy.out (by decide) (by decide)
      clear hR
      go_wp2_with fail
      go_at_call 207
      refine (cmpStr_below _ _ _).mono ?_
      rintro e w3 ⟨rfl, hb3⟩
      go_wp2_with fail
      go_ret
      refine ⟨ret_i64 (by rw [HC.out]), ((HB2.out _ _ _).1.below hb3).x.mono (fun _ => trivial) (fun _ => by rw [hks1]; rfl) (fun _ => by rw [hks2]; rfl), (HB2.out _ _ _).2.trans (Kb.of (hb3.mono (HB2.out _ _ _).2.size))⟩
    · have HC : Hid (R = cmpTs t.ks u.ks) := Lib.hid hR
      clear hR
      go_wp2_with fail
      go_at_call 234
      refine (HL.out _ (HB2.out _ _ _).1).mono ?_
      rintro e w3 ⟨rfl, hx3, hk3⟩
      have HX3 := Lib.hid hx3
      have HK3 := Lib.hid ((HB2.out _ _ _).2.trans (hk3.mono (HB2.out _ _ _).2.size))
      clear hx3 hk3
      go_wp2_with fail
      go_ret
      rw [HC.out]
      exact ⟨rfl, HX3.out, HK3.out⟩
    · have HC : Hid (R = orI (cmpNm (nms t.ks) (nms u.ks)) (cmpTs t.ks u.ks)) := Lib.hid hR
      clear hR
      go_wp2_with fail
      go_at_call 235
      refine (HO.out _ (HB2.out _ _ _).1).mono ?_
      rintro e w3 ⟨rfl, hx3, hk3⟩
      have HX3 := Lib.hid hx3
      have HK3 := Lib.hid ((HB2.out _ _ _).2.trans (hk3.mono (HB2.out _ _ _).2.size))
      clear hx3 hk3
      go_wp2_with fail
      go_ret
      rw [HC.out]
      exact ⟨rfl, HX3.out, HK3.out⟩
  · have hc0 : ¬ Lib.compareInt kx ky = 0 := fun h => hk3 ((cmpI_eq _ _).1 h)
    have HC : Hid (R = Lib.compareInt kx ky) := Lib.hid (HRn.out hk3)
    generalize Lib.compareInt kx ky = cc at *
    have hcc : ((cc != 0) : Bool) = true := by simpa using hc0
    go_wp2_with fail
    go_at_call 232
    refine (HV.out _ (HB2.out _ _ _).1).mono ?_
    rintro e w3 ⟨rfl, hx3, hk3⟩
    have HX3 := Lib.hid hx3
    have HK3 := Lib.hid ((HB2.out _ _ _).2.trans (hk3.mono (HB2.out _ _ _).2.size))
    clear hx3 hk3
    go_wp2_with fail
    go_ret
    exact ⟨ret_i64 HC.out.symm, HX3.out.mono (fun h => h.imp id fun h => absurd (HC.out.symm.trans h) hc0) (fun _ => rfl) (fun _ => rfl), HK3.out⟩

/-- What value answers, whatever stands behind. -/
theorem value_any : ∀ (n : Nat) (t u : Tr Nd), (flat t).length ≤ n → Ok9 t → Ok9 u → ValueQ t u := by
  intro n
  induction n with
  | zero => intro t u h; have := flat_pos t; omega
  | succ n ih =>
    intro t u h ht hu
    refine value_of ht hu fun a ha b hb => ih a b ?_ (ht.kids a ha) (hu.kids b hb)
    rw [flat_eq, List.length_cons] at h
    have : (flat a).length ≤ (flats t.ks).length := by
      obtain ⟨x, y, hxy⟩ := List.append_of_mem ha
      rw [hxy, flats_append, flats_cons, List.length_append, List.length_append]; omega
    omega
end Go.Proofs.YtdgcdemihalefaaGreatDoor
