/-
  Joined: Kb, OTxP, OSrtP, Ow1, Ow2.
-/
import Derived.Test.YtldioobbfkaebaaGreatDoorEvalHoldsJ2
import Derived.Laws.Pointers
import Derived.Test.YtldioobbfkaebaaGreatDoorEvalHoldsJ1
import Derived.Test.YtldioobbfkaebaaGreatDoorEvalHoldsJ7
import Derived.Test.YtldioobbfkaebaaGreatDoorEvalHoldsJ11
import Derived.Lib.FrozenHead
set_option maxHeartbeats 4000000000000
set_option maxRecDepth 100000
namespace Go.Proofs.YtldioobbfkaebaaGreatDoor
section
open Go.RowKit
structure Kb (B rb : Nat) (w w' : World) : Prop where
 os : w'.os = w.os
 tape : w'.tape = w.tape
 output : w'.output = w.output
 size : w.heap.size ≤ w'.heap.size
 block : ∀ k, k < B → k ≠ rb → w'.heap[k]? = w.heap[k]?
theorem Kb.refl (B rb : Nat) (w : World) : Kb B rb w w := ⟨rfl, rfl, rfl, Nat.le_refl _, fun _ _ _ => rfl⟩
theorem Kb.trans {B rb : Nat} {a b c : World} (h : Kb B rb a b) (k : Kb B rb b c) : Kb B rb a c :=
 ⟨k.os.trans h.os, k.tape.trans h.tape, k.output.trans h.output, Nat.le_trans h.size k.size, fun i hi hr => (k.block i hi hr).trans (h.block i hi hr)⟩
theorem Kb.mono {B B' rb : Nat} {w w' : World} (h : Kb B rb w w') (hB : B' ≤ B) : Kb B' rb w w' := ⟨h.os, h.tape, h.output, h.size, fun k hk hr => h.block k (Nat.lt_of_lt_of_le hk hB) hr⟩
theorem Kb.after {rb : Nat} {a b c : World} (h : Kb a.heap.size rb a b) (k : Kb b.heap.size rb b c) : Kb a.heap.size rb a c := h.trans (k.mono h.size)
theorem Kb.of {B rb : Nat} {w w' : World} (h : Below B w w') : Kb B rb w w' := ⟨h.os, h.tape, h.output, h.size, fun k hk _ => h.block k hk⟩
theorem Kb.below {B C rb : Nat} {w w' : World} (h : Kb B rb w w') (h1 : C ≤ B) (h2 : C ≤ rb) : Below C w w' := ⟨h.os, h.tape, h.output, h.size, fun k hk => h.block k (by omega) (by omega)⟩
theorem Kb.drewN {B rb : Nat} {a w : World} (h : Kb B rb a w) (n : Nat) : Kb B rb a (w.drewN n) := ⟨h.os, h.tape, h.output, h.size, h.block⟩
theorem Kb.drew {B rb : Nat} {a w : World} (h : Kb B rb a w) : Kb B rb a w.drew := ⟨h.os, h.tape, h.output, h.size, h.block⟩
theorem Kb.set {B rb : Nat} {a w : World} (h : Kb B rb a w) (o : Nat) (u : Value) : Kb B rb a (w.setCell ⟨rb, o, none⟩ u) :=
 h.trans ⟨rfl, rfl, rfl, by simp [World.setCell], fun k _ hr => Below.heap_setCell _ _ _ _ hr⟩
theorem Kb.setHigh {B rb : Nat} {a w : World} (h : Kb B rb a w) {p : Addr} (hp : B ≤ p.block) (u : Value) : Kb B rb a (w.setCell p u) :=
 h.trans ⟨rfl, rfl, rfl, by simp [World.setCell], fun k hk _ => Below.heap_setCell _ _ _ _ (by omega)⟩
theorem Kb.alloc {B rb : Nat} {a w : World} (h : Kb B rb a w) (hB : B ≤ w.heap.size) (o : Obj) : Kb B rb a (w.alloc o) :=
 h.trans ⟨rfl, rfl, rfl, by simp, fun k hk _ => Below.heap_alloc _ _ _ (by omega)⟩
theorem Kb.grown {B rb : Nat} {a w w' : World} {row : Option Nat} (h : Kb B rb a w) (hg : w.grownBy w' row) (hB : B ≤ w.heap.size) (hr : ∀ k, row = some k → B ≤ k) : Kb B rb a w' :=
 h.trans ⟨hg.os, hg.tape, hg.output, hg.size, fun k hk _ => hg.block k (by omega) (fun e => by have := hr k e.symm; omega)⟩
theorem Kb.cell {B rb : Nat} {w w' : World} (h : Kb B rb w w') {p : Addr} (hp : p.block < B) (hr : p.block ≠ rb) : w'.cell? p = w.cell? p := World.cell?_of_block (w := w) (h.block p.block hp hr)
theorem Kb.frozen {B rb : Nat} {w w' : World} (h : Kb B rb w w') {p : Addr} (hp : p.block < B) (hr : p.block ≠ rb) : w'.frozen? p = w.frozen? p := World.frozen?_of_block (w := w) (h.block p.block hp hr)
end
section
namespace Ov
open Go.RowKit Np Rw Vp
def orI (a b : Int) : Int := if a = 0 then b else a
def cmpNm : List (List UInt8) → List (List UInt8) → Int
 | a :: aa, b :: bb => orI (cmpB a b) (cmpNm aa bb)
 | [], bb => Lib.compareInt 0 bb.length
 | _ :: aa, [] => Lib.compareInt (aa.length + 1 : Nat) 0
abbrev nms (ts : List (Tr Nd)) : List (List UInt8) := ts.map fun t => t.nd.name
mutual
def cmpT : Tr Nd → Tr Nd → Int
 | .mk x xs, .mk y ys =>
  orI (Lib.compareInt x.kind y.kind)
   (if x.kind = 3 then cmpN x.s x.neg x.e y.s y.neg y.e
    else if x.kind = 4 then cmpB x.s y.s
    else if x.kind = 5 then cmpTs xs ys
    else if x.kind = 6 then orI (cmpNm (nms xs) (nms ys)) (cmpTs xs ys)
    else 0)
def cmpTs : List (Tr Nd) → List (Tr Nd) → Int
 | t :: ts, us => match us with
  | [] => 1
  | u :: us => orI (cmpT t u) (cmpTs ts us)
 | [], us => match us with
  | [] => 0
  | _ :: _ => -1
end
theorem cmpT_mk (x y : Nd) (xs ys : List (Tr Nd)) : cmpT (.mk x xs) (.mk y ys) = orI (Lib.compareInt x.kind y.kind) (if x.kind = 3 then cmpN x.s x.neg x.e y.s y.neg y.e else if x.kind = 4 then cmpB x.s y.s else if x.kind = 5 then cmpTs xs ys else if x.kind = 6 then orI (cmpNm (nms xs) (nms ys)) (cmpTs xs ys) else 0) := by rw [cmpT]
theorem cmpTs_cons (t u : Tr Nd) (ts us : List (Tr Nd)) : cmpTs (t :: ts) (u :: us) = orI (cmpT t u) (cmpTs ts us) := by rw [cmpTs]
@[simp] theorem cmpTs_nil : cmpTs [] [] = 0 := by rw [cmpTs]
@[simp] theorem cmpTs_less (u : Tr Nd) (us : List (Tr Nd)) : cmpTs [] (u :: us) = -1 := by rw [cmpTs]
@[simp] theorem cmpTs_more (t : Tr Nd) (ts : List (Tr Nd)) : cmpTs (t :: ts) [] = 1 := by rw [cmpTs]
theorem cmpI_neg (x y : Int) : Lib.compareInt y x = -Lib.compareInt x y := by unfold Lib.compareInt; (repeat' split) <;> omega
theorem cmpB_neg (a b : List UInt8) : cmpB b a = -cmpB a b := by
 rcases cmpB_cases a b with h | h | h
 ·rw [h, (cmpB_gt b a).2 ((cmpB_lt a b).1 h)]; rfl
 ·rw [h, (cmpB_eq b a).2 ((cmpB_eq a b).1 h).symm]; rfl
 ·rw [h, (cmpB_lt b a).2 ((cmpB_gt a b).1 h)]
theorem orI_neg {a b a' b' : Int} (h : a' = -a) (h2 : b' = -b) : orI a' b' = -orI a b := by unfold orI; split <;> split <;> omega
@[simp] theorem orI_z (b : Int) : orI 0 b = b := by simp [orI]
@[simp] theorem orI_r (a : Int) : orI a 0 = a := by unfold orI; split <;> omega
theorem orI_ne {a b : Int} (h : a ≠ 0) : orI a b = a := by simp [orI, h]
theorem cmpNm_nil : cmpNm [] [] = 0 := by simp [cmpNm, Lib.compareInt]
theorem cmpNm_less (b : List UInt8) (bb : List (List UInt8)) : cmpNm [] (b :: bb) = -1 := by simp only [cmpNm]; exact (cmpI_lt _ _).2 (by simp)
theorem cmpNm_more (a : List UInt8) (aa : List (List UInt8)) : cmpNm (a :: aa) [] = 1 := by simp only [cmpNm]; exact (cmpI_gt _ _).2 (by omega)
theorem cmpNm_cons (a b : List UInt8) (aa bb : List (List UInt8)) : cmpNm (a :: aa) (b :: bb) = orI (cmpB a b) (cmpNm aa bb) := by rw [cmpNm]
theorem cmpNm_neg : ∀ aa bb : List (List UInt8), cmpNm bb aa = -cmpNm aa bb
 | [], [] => by simp [cmpNm_nil]
 | [], b :: bb => by simp [cmpNm_less, cmpNm_more]
 | a :: aa, [] => by simp [cmpNm_less, cmpNm_more]
 | a :: aa, b :: bb => by rw [cmpNm_cons, cmpNm_cons]; exact orI_neg (cmpB_neg a b) (cmpNm_neg aa bb)
theorem cmpT_kind {t u : Tr Nd} (h : t.nd.kind ≠ u.nd.kind) : cmpT t u = Lib.compareInt t.nd.kind u.nd.kind := by
 cases t with | mk x xs => cases u with | mk y ys =>
  rw [cmpT_mk, orI_ne (a := Lib.compareInt x.kind y.kind) (fun e => h ((cmpI_eq _ _).1 e))]; rfl
theorem cmpT_same {t u : Tr Nd} (h : t.nd.kind = u.nd.kind) : cmpT t u = (if t.nd.kind = 3 then cmpN t.nd.s t.nd.neg t.nd.e u.nd.s u.nd.neg u.nd.e else if t.nd.kind = 4 then cmpB t.nd.s u.nd.s else if t.nd.kind = 5 then cmpTs t.ks u.ks else if t.nd.kind = 6 then orI (cmpNm (nms t.ks) (nms u.ks)) (cmpTs t.ks u.ks) else 0) := by
 cases t with | mk x xs => cases u with | mk y ys =>
  rw [cmpT_mk, show Lib.compareInt x.kind y.kind = 0 from (cmpI_eq _ _).2 h, orI_z]; rfl
theorem cmpT_nmd (a b : List UInt8) (t u : Tr Nd) : cmpT (nmd a t) (nmd b u) = cmpT t u := by
 cases t with | mk x xs => cases u with | mk y ys =>
  show cmpT (.mk (nmN a x) xs) (.mk (nmN b y) ys) = _
  rw [cmpT_mk, cmpT_mk]; rfl
mutual
theorem cmpT_neg : ∀ t u : Tr Nd, cmpT u t = -cmpT t u
 | .mk x xs, .mk y ys => by
  rw [cmpT_mk, cmpT_mk]
  by_cases h : x.kind = y.kind
  ·refine orI_neg (cmpI_neg _ _) ?_
   rw [h]
   split
   ·exact cmpN_neg _ _ _ _ _ _
   ·split
    ·exact cmpB_neg _ _
    ·split
     ·exact cmpTs_neg xs ys
     ·split
      ·exact orI_neg (cmpNm_neg _ _) (cmpTs_neg xs ys)
      ·rfl
  ·rw [orI_ne (fun e => h ((cmpI_eq _ _).1 e).symm), orI_ne (fun e => h ((cmpI_eq _ _).1 e))]
   exact cmpI_neg _ _
theorem cmpTs_neg : ∀ ts us : List (Tr Nd), cmpTs us ts = -cmpTs ts us
 | [], [] => by simp
 | [], u :: us => by simp
 | t :: ts, [] => by simp
 | t :: ts, u :: us => by rw [cmpTs_cons, cmpTs_cons]; exact orI_neg (cmpT_neg t u) (cmpTs_neg ts us)
end
def Tri (x y z : Int) : Prop := x ≤ 0 → y ≤ 0 → z ≤ 0 ∧ (z = 0 → x = 0 ∧ y = 0)
theorem Tri.or {a b c a' b' c' : Int} (h : Tri a b c) (h' : a = 0 → b = 0 → c = 0 → Tri a' b' c') : Tri (orI a a') (orI b b') (orI c c') := by
 intro h1 h2
 have ha : a ≤ 0 := by unfold orI at h1; split at h1 <;> omega
 have hb : b ≤ 0 := by unfold orI at h2; split at h2 <;> omega
 obtain ⟨h3, h4⟩ := h ha hb
 by_cases hc : c = 0
 ·obtain ⟨e1, e2⟩ := h4 hc
  subst e1 e2 hc
  rw [orI_z] at h1 h2 ⊢
  rw [orI_z, orI_z]
  exact h' rfl rfl rfl h1 h2
 ·rw [orI_ne hc]
  exact ⟨h3, fun e => absurd e hc⟩
theorem cmpT_refl (t : Tr Nd) : cmpT t t = 0 := by have := cmpT_neg t t; omega
theorem Parts.cons {t : Tr Nd} {ts : List (Tr Nd)} (h : Parts (t :: ts)) : (okT many t ∧ rightT t = true) ∧ Parts ts := ⟨h t (by simp), fun u hu => h u (by simp [hu])⟩
end Ov
end
section
namespace Ov
open Go.RowKit Np Rw Vp
structure Cp (c : Nat → Nat → Int) : Prop where
 neg : ∀ i k, c k i = -c i k
 tri : ∀ i j k, Tri (c i j) (c j k) (c i k)
theorem Cp.refl {c : Nat → Nat → Int} (h : Cp c) (i : Nat) : c i i = 0 := by have := h.neg i i; omega
def Bf (c : Nat → Nat → Int) (i k : Nat) : Prop := c i k < 0 ∨ c i k = 0 ∧ i < k
instance (c : Nat → Nat → Int) (i k : Nat) : Decidable (Bf c i k) := by unfold Bf; infer_instance
theorem Bf.trans {c : Nat → Nat → Int} (h : Cp c) {i j k : Nat} (h1 : Bf c i j) (h2 : Bf c j k) : Bf c i k := by
 have := h.tri i j k
 unfold Bf Tri at *
 omega
def leC (c : Nat → Nat → Int) (i k : Nat) : Bool := decide (c i k ≤ 0)
def srtC (c : Nat → Nat → Int) (l : List Nat) : List Nat :=
 if h : l.length < 2 then l else List.merge (srtC c (l.take (l.length / 2))) (srtC c (l.drop (l.length / 2))) (leC c)
termination_by l.length
decreasing_by all_goals simp; omega
theorem srtC_short (c : Nat → Nat → Int) {l : List Nat} (h : l.length < 2) : srtC c l = l := by rw [srtC, dif_pos h]
theorem srtC_long (c : Nat → Nat → Int) {l : List Nat} (h : ¬ l.length < 2) : srtC c l = List.merge (srtC c (l.take (l.length / 2))) (srtC c (l.drop (l.length / 2))) (leC c) := by rw [srtC, dif_neg h]
theorem srt_perm (c : Nat → Nat → Int) : ∀ (n : Nat) (l : List Nat), l.length = n → (srtC c l).Perm l := by
 intro n
 induction n using Nat.strongRecOn with
 | ind n ih =>
  intro l hl
  by_cases h : l.length < 2
  ·rw [srtC_short c h]
  ·rw [srtC_long c h]
   refine (List.merge_perm_append _).trans ?_
   have h1 := ih (l.take (l.length / 2)).length (by simp; omega) _ rfl
   have h2 := ih (l.drop (l.length / 2)).length (by simp; omega) _ rfl
   have := h1.append h2
   rwa [List.take_append_drop] at this
def rise (c : Nat → Nat → Int) (n : Nat) : Bool := (List.range (n - 1)).all fun i => decide (c i (i + 1) ≤ 0)
def cnt (c : Nat → Nat → Int) (n i : Nat) : Nat := (List.range n).countP fun k => decide (Bf c k i)
end Ov
end
section
open Go.RowKit Np Rw Vp Ov
def Pr2 (rb : Nat) (va vb : Value) (k : Nat) (w : World) : Prop := w.heap[rb]? = some (.cells #[va, vb, .int .i64 k] 158 (0, 0))
section
variable {rb : Nat} {va vb : Value} {k : Nat} {w w' : World}
theorem Pr2.lt (h : Pr2 rb va vb k w) : rb < w.heap.size := (Array.getElem?_eq_some_iff.1 h).1
theorem Pr2.c0 (h : Pr2 rb va vb k w) : w.cell? ⟨rb, 0, none⟩ = some va := by rw [Lib.cell_of_heap h]; rfl
theorem Pr2.c1 (h : Pr2 rb va vb k w) : w.cell? ⟨rb, 1, none⟩ = some vb := by rw [Lib.cell_of_heap h]; rfl
theorem Pr2.c2 (h : Pr2 rb va vb k w) : w.cell? ⟨rb, 2, none⟩ = some (.int .i64 k) := by rw [Lib.cell_of_heap h]; rfl
theorem Pr2.fz (h : Pr2 rb va vb k w) (o : Nat) : w.frozen? ⟨rb, o, none⟩ = false := Lib.frozen_of_heap h o
theorem Pr2.setA (h : Pr2 rb va vb k w) (u : Value) : Pr2 rb u vb k (w.setCell ⟨rb, 0, none⟩ u) := by
 unfold Pr2 at *; simp [World.setCell, Array.getElem?_modify, h]
theorem Pr2.setB (h : Pr2 rb va vb k w) (u : Value) : Pr2 rb va u k (w.setCell ⟨rb, 1, none⟩ u) := by
 unfold Pr2 at *; simp [World.setCell, Array.getElem?_modify, h]
theorem Pr2.setI (h : Pr2 rb va vb k w) (n : Nat) : Pr2 rb va vb n (w.setCell ⟨rb, 2, none⟩ (.int .i64 n)) := by
 unfold Pr2 at *; simp [World.setCell, Array.getElem?_modify, h]
theorem Pr2.drewN (h : Pr2 rb va vb k w) (n : Nat) : Pr2 rb va vb k (w.drewN n) := h
theorem Pr2.drew (h : Pr2 rb va vb k w) : Pr2 rb va vb k w.drew := h
theorem Pr2.alloc (h : Pr2 rb va vb k w) (o : Obj) : Pr2 rb va vb k (w.alloc o) := (Below.heap_alloc w o rb h.lt).trans h
theorem Pr2.below (h : Pr2 rb va vb k w) {B : Nat} (hb : Below B w w') (hB : rb < B) : Pr2 rb va vb k w' := (hb.block rb hB).trans h
end
theorem Nds.pr {rb : Nat} {va vb : Value} {k : Nat} {w w' : World} {v : Value} {l : List Nd} (h : Nds w v l) (hr : Pr2 rb va vb k w) (hb : Kb w.heap.size rb w w') : Nds w' v l := by
 obtain ⟨A, c, hv, hc, hm, hz, H⟩ := h
 refine ⟨A, c, hv, hc, hm, hz, fun h0 => ?_⟩
 obtain ⟨g, o, hA, hg, hx⟩ := H h0
 have hne : g ≠ rb := by
  rintro rfl
  have := hx 0 _ (List.getElem?_eq_getElem h0) 5 _ rfl
  rw [Lib.cell_of_heap hr] at this
  simp at this
 refine ⟨g, o, hA, Nat.lt_of_lt_of_le hg hb.size, fun k x hk j u hu => ?_⟩
 exact (hb.cell (p := ⟨g, o + k * 6 + j, none⟩) hg hne).trans (hx k x hk j u hu)
def Prs (rb : Nat) (la lb : List Nd) (k : Nat) (w : World) : Prop := ∃ va vb, Pr2 rb va vb k w ∧ Nds w va la ∧ Nds w vb lb
theorem Prs.lt {rb : Nat} {la lb : List Nd} {k : Nat} {w : World} (h : Prs rb la lb k w) : rb < w.heap.size := by obtain ⟨_, _, h, -, -⟩ := h; exact h.lt
theorem Prs.below {rb : Nat} {la lb : List Nd} {k : Nat} {w w' : World} (h : Prs rb la lb k w) (hb : Below w.heap.size w w') : Prs rb la lb k w' := by
 obtain ⟨va, vb, h1, h2, h3⟩ := h
 exact ⟨va, vb, h1.below hb h1.lt, h2.below hb, h3.below hb⟩
def Prx (rb : Nat) (b : Prop) (ra rc : List Nd) (k : Nat) (w : World) : Prop := ∃ la lb, Prs rb la lb k w ∧ (b → la = ra ∧ lb = rc)
def nxtN (l : List Nd) : Nd := l.headD zeroN
theorem onext_any (v : Value) (l : List Nd) (w : World) (hv : Nds w v l) :
  Calls Tryz.prog 179 #[v] w fun e w' => ∃ (A : Option Addr) (n c : Nat), e = .returned (.tuple #[nda (nxtN l), .slice A n c]) ∧ (∀ w0, Nds w0 v l → Nds w0 (.slice A n c) l.tail) ∧ Below w.heap.size w w' := by
 have hB : Below w.heap.size w w := Below.refl _ _
 cases l with
 | nil =>
  obtain ⟨A, c, rfl, -, -, -, -⟩ := hv
  go_enter Tryz.func179, Tryz.ntmps179
  go_wp2_with fail
  exact bodyPost_ret (v := .tuple #[nda zeroN, .slice none 0 0]) (by simp [results, Tryz.results179, go_sem, zeroN]) rfl ⟨none, 0, 0, rfl, fun _ _ => Row.nil _, hB.alloc (Nat.le_refl _) _⟩
 | cons n l =>
  have hlen := hv.len
  unfold maxLen at hlen
  obtain ⟨g, o, c, rfl, hc, hm, hg, hx⟩ := hv.opened (by simp)
  obtain ⟨c0, c1, c2, c3, c4, c5⟩ := (hx 0 _ rfl).nd
  have HV := Lib.hid hv
  clear hx hv
  rw [Nat.zero_mul, Nat.add_zero] at c0 c1 c2 c3 c4 c5
  have HN : Hid ((n :: l).length - 1 = l.length) := Lib.hid (by simp)
  have h1 : 1 ≤ (n :: l).length := by simp
  have HT : Hid ((n :: l).tail = (n :: l).drop 1) := Lib.hid rfl
  generalize hm : (n :: l).length = m at *
  have HM := Lib.hid hm; clear hm
  go_enter Tryz.func179, Tryz.ntmps179
  go_wp2_with fail
  go_region
  all_goals go_wp2_with fail
  ·have hl : l = [] := List.eq_nil_of_length_eq_zero (by have := HN.out; omega)
   subst hl
   have hm1 : m - 1 = 0 := by have := HN.out; simpa using this
   rw [hm1]
   exact bodyPost_ret (v := .tuple #[nda n, .slice (some ⟨g, o, none⟩) 0 0]) (by simp [results, Tryz.results179, go_sem]) rfl ⟨_, _, _, rfl, fun _ _ => Row.empty _ _ _ (by unfold maxLen; omega), (hB.alloc (Nat.le_refl _) _).drew⟩
  ·have HR : ∀ w0, Nds w0 (.slice (some ⟨g, o, none⟩) m c) (n :: l) → Nds w0 (.slice (some ⟨g, o + 6, none⟩) (m - 1) (c - 1)) l := by
    intro w0 h2
    rw [← HM.out] at h2
    have h3 := h2.rest 1 (by simp)
    rw [HM.out] at h3
    simpa using h3
   exact bodyPost_ret (v := .tuple #[nda n, .slice (some ⟨g, o + 6, none⟩) (m - 1) (c - 1)]) (by simp [results, Tryz.results179, go_sem]) rfl ⟨_, _, _, rfl, HR, (hB.alloc (Nat.le_refl _) _).drew⟩
theorem oname_any (v : Value) (l : List Nd) (w : World) (hv : Nds w v l) :
  Calls Tryz.prog 186 #[v] w fun e w' => e = .returned (.string ⟨(nxtN l).name.toArray⟩) ∧ Below w.heap.size w w' := by
 have HN := Lib.hid (onext_any v l w hv)
 obtain ⟨A, c, rfl, -⟩ := hv
 generalize nxtN l = n at *
 go_enter Tryz.func186, Tryz.ntmps186
 go_wp2_with fail
 go_at_call 179
 refine HN.out.mono ?_
 rintro e w1 ⟨A1, n1, c1, rfl, -, hb1⟩
 go_wp2_with fail
 go_ret
 exact ⟨rfl, hb1.alloc hb1.size _⟩
theorem skip_bound : ∀ (l : List Nd) (q : Nat) (r : List Nd), skip many l q = some r → q + r.length ≤ l.length := by
 intro l q r h
 obtain ⟨ts, -, h2, rfl⟩ := skip_inv l q r h
 have := flats_len ts
 rw [List.length_append]; omega
theorem skip_step {n : Nd} {l : List Nd} {q : Nat} {r : List Nd} (h : skip many (n :: l) (q + 1) = some r) : ∃ k : Nat, n.many = k ∧ skip many l (q + k) = some r := by
 rw [skip_cons] at h
 by_cases hn : many n < 0
 ·rw [if_pos hn] at h; cases h
 ·rw [if_neg hn] at h
  exact ⟨n.many.toNat, by have : 0 ≤ n.many := (by unfold many at hn; omega); omega, h⟩
theorem past_any (v : Value) (l : List Nd) (m : Nat) (r : List Nd) (w : World) (hv : Nds w v l) (hs : skip many l m = some r) (hl : l.length ≤ 4000000000000) :
  Calls Tryz.prog 181 #[v, .int .i64 m] w fun e w' => ∃ (A : Option Addr) (n c : Nat), e = .returned (.slice A n c) ∧ (∀ w0, Nds w0 v l → Nds w0 (.slice A n c) r) ∧ ∃ n, w' = w.drewN n := by
 rcases Nat.eq_zero_or_pos l.length with h0 | h0
 ·obtain rfl := List.eq_nil_of_length_eq_zero h0
  have h1 := skip_bound _ _ _ hs
  obtain rfl : m = 0 := by simp at h1; omega
  obtain rfl : r = [] := by rw [skip_zero] at hs; injection hs with hs; exact hs.symm
  obtain ⟨A, c, rfl, h2, h3, h4, -⟩ := hv
  have HR : Hid (∀ w', Nds w' (.slice A 0 c) []) := Lib.hid fun w' => ⟨A, c, rfl, Nat.zero_le _, h3, h4, fun h => absurd h (by simp)⟩
  unfold maxLen at h3
  clear h1 h0 hl hs h2 h4
  go_enter Tryz.func181, Tryz.ntmps181
  go_wp2_with fail
  go_loopw [1, 5] (fun mv av wr => mv = .int .i64 0 ∧ av = .int .i64 0 ∧ Hid (∃ n, wr = w.drewN n)) (fun _ _ _ => 0)
  case atStart => exact ⟨rfl, rfl, Lib.hid ⟨0, rfl⟩⟩
  case round =>
   obtain ⟨rfl, rfl, HW⟩ := hrel
   go_wp2_with fail
   all_goals go_ret
   all_goals exact ⟨_, _, _, rfl, fun _ _ => HR.out _, HW.out⟩
 ·obtain ⟨g, o, c, rfl, hc, hm, hg, hx⟩ := hv.opened h0
  have HV := Lib.hid hv
  have HX := Lib.hid hx
  have HS0 := Lib.hid hs
  have hb0 := skip_bound _ _ _ hs
  clear hx hv hs
  unfold maxLen at hm
  generalize hn : l.length = N at *
  have HN := Lib.hid hn; clear hn
  have hB : ∃ n, w = w.drewN n := ⟨0, rfl⟩
  go_enter Tryz.func181, Tryz.ntmps181
  go_wp2_with fail
  go_loopw [1, 5] (fun mv av wr => ∃ (j q : Nat), j ≤ N ∧ mv = .int .i64 q ∧ av = .int .i64 j ∧ Hid (skip many (l.drop j) q = some r) ∧ Hid (∃ n, wr = w.drewN n)) (fun _ av _ => N - (intOf av).toNat)
  case atStart => exact ⟨0, m, Nat.zero_le _, rfl, rfl, by simpa using HS0, Lib.hid ⟨0, rfl⟩⟩
  case round =>
   obtain ⟨j, q, hj, rfl, rfl, HS, HW⟩ := hrel
   have hb := skip_bound _ _ _ HS.out
   rw [List.length_drop, HN.out] at hb
   rcases Nat.eq_zero_or_pos q with hq | hq
   ·subst hq
    have hr : l.drop j = r := by have := HS.out; rw [skip_zero] at this; injection this
    have HR : ∀ w0, Nds w0 (.slice (some ⟨g, o, none⟩) N c) l → Nds w0 (.slice (some ⟨g, o + j * 6, none⟩) (N - j) (c - j)) r := by
     intro w0 h2
     rw [← HN.out] at h2
     have h3 := h2.rest j (by rw [HN.out]; exact hj)
     rw [HN.out, hr] at h3
     exact h3
    go_wp2_with fail
    ·go_ret
     rename_i hcj
     have hr0 : r = [] := by rw [← hr]; exact List.drop_eq_nil_of_le (by rw [HN.out]; omega)
     rw [hr0, show N - j = 0 by omega]
     exact ⟨_, _, _, rfl, fun _ _ => Row.empty _ _ _ (by unfold maxLen; omega), HW.out⟩
    ·go_ret
     exact ⟨_, _, _, rfl, HR, HW.out⟩
   ·have hjn : j < N := by omega
    obtain ⟨x, hx⟩ : ∃ x, l[j]? = some x := ⟨_, List.getElem?_eq_getElem (by rw [HN.out]; exact hjn)⟩
    have hd : l.drop j = x :: l.drop (j + 1) := by
     obtain ⟨h1, h2⟩ := List.getElem?_eq_some_iff.1 hx
     rw [← h2, List.getElem_cons_drop]
    obtain ⟨q', rfl⟩ : ∃ q', q = q' + 1 := ⟨q - 1, by omega⟩
    obtain ⟨k, hk, hs2⟩ := skip_step (hd ▸ HS.out)
    have hb2 := skip_bound _ _ _ hs2
    rw [List.length_drop, HN.out] at hb2
    obtain ⟨mq, hmq⟩ := HW.out
    subst hmq
    have c1 := ((HX.out j x hx).nd.drewN mq).c1
    rw [hk] at c1
    have HS2 := Lib.hid hs2
    clear hs2 hd hk hx
    go_wp2_with fail
    refine ⟨⟨j + 1, q' + k, by omega, by congr 1; omega, rfl, HS2, Lib.hid ⟨mq, rfl⟩⟩, ?_⟩
    simp [intOf]; omega
theorem alloc_at (w : World) (o : Obj) {n : Nat} (h : w.heap.size = n) : (w.alloc o).heap[n]? = some o := by subst h; exact Array.getElem?_push_size
def NodeAt (B : Nat) (n : Nd) (w : World) : Prop := w.heap[B]? = some (.cells #[.int .i64 n.kind, .int .i64 n.many, .string ⟨n.name.toArray⟩, .string ⟨n.s.toArray⟩, .bool n.neg, .int .i64 n.e] 30 (0, 0))
abbrev fillN (B : Nat) (m : Nd) (w : World) : World := (((((w.setCell ⟨B, 0, none⟩ (.int .i64 m.kind)).setCell ⟨B, 1, none⟩ (.int .i64 m.many)).setCell ⟨B, 2, none⟩ (.string ⟨m.name.toArray⟩)).setCell ⟨B, 3, none⟩ (.string ⟨m.s.toArray⟩)).setCell ⟨B, 4, none⟩ (.bool m.neg)).setCell ⟨B, 5, none⟩ (.int .i64 m.e)
section
variable {B rb : Nat} {n : Nd} {w w' : World}
theorem NodeAt.lt (h : NodeAt B n w) : B < w.heap.size := (Array.getElem?_eq_some_iff.1 h).1
theorem NodeAt.nd (h : NodeAt B n w) : Nd6 w B 0 n := ⟨by rw [Lib.cell_of_heap h]; rfl, by rw [Lib.cell_of_heap h]; rfl, by rw [Lib.cell_of_heap h]; rfl, by rw [Lib.cell_of_heap h]; rfl, by rw [Lib.cell_of_heap h]; rfl, by rw [Lib.cell_of_heap h]; rfl⟩
theorem NodeAt.fz (h : NodeAt B n w) (o : Nat) : w.frozen? ⟨B, o, none⟩ = false := Lib.frozen_of_heap h o
theorem NodeAt.fill (h : NodeAt B n w) (m : Nd) : NodeAt B m (fillN B m w) := by
 unfold NodeAt at *; simp [fillN, World.setCell, Array.getElem?_modify, h]
theorem NodeAt.other (h : NodeAt B n w) {p : Addr} (hp : p.block ≠ B) (u : Value) : NodeAt B n (w.setCell p u) := (Below.heap_setCell w p u B (Ne.symm hp)).trans h
theorem NodeAt.below (h : NodeAt B n w) {C : Nat} (hb : Below C w w') (hB : B < C) : NodeAt B n w' := (hb.block B hB).trans h
theorem NodeAt.drew (h : NodeAt B n w) : NodeAt B n w.drew := h
theorem NodeAt.fillO {C : Nat} (h : NodeAt B n w) (hp : C ≠ B) (m : Nd) : NodeAt B n (fillN C m w) := (((((h.other hp _).other hp _).other hp _).other hp _).other hp _).other hp _
theorem Pr2.other {va vb : Value} {k : Nat} (h : Pr2 rb va vb k w) {p : Addr} (hp : p.block ≠ rb) (u : Value) : Pr2 rb va vb k (w.setCell p u) := (Below.heap_setCell w p u rb (Ne.symm hp)).trans h
theorem Pr2.fillO {va vb : Value} {k C : Nat} (h : Pr2 rb va vb k w) (hp : C ≠ rb) (m : Nd) : Pr2 rb va vb k (fillN C m w) := (((((h.other hp _).other hp _).other hp _).other hp _).other hp _).other hp _
theorem Kb.fill {D C : Nat} {a : World} (h : Kb D rb a w) (hp : D ≤ C) (m : Nd) : Kb D rb a (fillN C m w) := (((((h.setHigh hp _).setHigh hp _).setHigh hp _).setHigh hp _).setHigh hp _).setHigh hp _
end
theorem node_any (rb : Nat) (la lb : List Nd) (k : Nat) (w : World) (h : Prs rb la lb k w) :
  Calls Tryz.prog 158 #[.pointer (some ⟨rb, 0, none⟩)] w fun e w' => e = .returned (.tuple #[nda (nxtN la), nda (nxtN lb)]) ∧ Prs rb la.tail lb.tail k w' ∧ Kb w.heap.size rb w w' := by
 obtain ⟨va, vb, hp, ha, hb⟩ := h
 have HA : Hid (∀ w1, Below w.heap.size w w1 → Calls Tryz.prog 179 #[va] w1 fun e w' => ∃ (A : Option Addr) (n c : Nat), e = .returned (.tuple #[nda (nxtN la), .slice A n c]) ∧ (∀ w0, Nds w0 va la → Nds w0 (.slice A n c) la.tail) ∧ Below w1.heap.size w1 w') := Lib.hid fun w1 hb1 => onext_any va la w1 (ha.below hb1)
 have HC : Hid (∀ w1, Kb w.heap.size rb w w1 → Calls Tryz.prog 179 #[vb] w1 fun e w' => ∃ (A : Option Addr) (n c : Nat), e = .returned (.tuple #[nda (nxtN lb), .slice A n c]) ∧ (∀ w0, Nds w0 vb lb → Nds w0 (.slice A n c) lb.tail) ∧ Below w1.heap.size w1 w') := Lib.hid fun w1 hb1 => onext_any vb lb w1 (hb.pr hp hb1)
 have HP := Lib.hid hp
 have HNA := Lib.hid ha
 have HNB := Lib.hid hb
 obtain ⟨A, c, rfl, -⟩ := ha
 obtain ⟨B, d, rfl, -⟩ := hb
 have c0 := hp.c0
 have hlt := hp.lt
 have hb0 := Below.refl w.heap.size w
 clear hp
 generalize hx : nxtN la = x at *
 generalize hy : nxtN lb = y at *
 clear hx hy
 generalize la.length = nla at *
 generalize lb.length = nlb at *
 go_enter Tryz.func158, Tryz.ntmps158
 go_upto_region 1 with fail
 go_cut [] from 4 to 15 (fun wx => ∃ (A1 : Option Addr) (n1 c1 : Nat), Hid (Pr2 rb (.slice A1 n1 c1) (.slice B nlb d) k wx) ∧ Hid (Nds w (.slice A1 n1 c1) la.tail) ∧ Hid (NodeAt w.heap.size x wx) ∧ Hid (NodeAt (w.heap.size + 1) zeroN wx) ∧ Hid (Kb w.heap.size rb w wx))
 case first =>
  go_wp2_with fail
  go_at_call 179
  refine (HA.out _ ((hb0.alloc (Nat.le_refl _) _).alloc (by simp) _)).mono ?_
  rintro e w1 ⟨A1, n1, c1, rfl, hA1, hb1⟩
  have hw1 : w.heap.size + 2 ≤ w1.heap.size := by have := hb1.size; simp at this; omega
  have hb2 : Below w.heap.size w w1 := ((hb0.alloc (Nat.le_refl _) _).alloc (by simp) _).trans (hb1.mono (by simp; omega))
  have HP1 := Lib.hid (HP.out.below hb2 hlt)
  have X0 : NodeAt w.heap.size zeroN w1 := (hb1.block w.heap.size (by simp; omega)).trans ((Below.heap_alloc _ _ _ (by simp)).trans (alloc_at _ _ rfl))
  have Y0 : NodeAt (w.heap.size + 1) zeroN w1 := (hb1.block (w.heap.size + 1) (by simp)).trans (alloc_at _ _ (by simp))
  obtain ⟨x0, x1, x2, x3, x4, x5⟩ := X0.nd
  have fx := X0.fz
  have p0 := HP1.out.c0
  have p1 := HP1.out.c1
  have f0 := HP1.out.fz 0
  have HX0 := Lib.hid X0
  have HY0 := Lib.hid Y0
  have HA1 := Lib.hid (hA1 w HNA.out)
  have HB2 := Lib.hid hb2
  clear X0 Y0 hA1 hb2 hb1
  go_wp2_with fail
  go_meet
  exact ⟨A1, n1, c1, Lib.hid ((HP1.out.fillO (by simp; omega) x).setA _), HA1, Lib.hid ((HX0.out.fill x).other (by simp; omega) _), Lib.hid ((HY0.out.fillO (by simp) x).other (by simp; omega) _), Lib.hid (((Kb.of HB2.out).fill (by simp) x).set _ _)⟩
 case rest =>
  obtain ⟨A1, n1, c1, HP2, HA1, HX1, HY1, HK1⟩ := hcut
  have p1 := HP2.out.c1
  go_upto_region 2 with fail
  go_cut [] from 15 to 26 (fun wx => ∃ (B1 : Option Addr) (n2 c2 : Nat), Hid (Pr2 rb (.slice A1 n1 c1) (.slice B1 n2 c2) k wx) ∧ Hid (Nds w (.slice B1 n2 c2) lb.tail) ∧ Hid (NodeAt w.heap.size x wx) ∧ Hid (NodeAt (w.heap.size + 1) y wx) ∧ Hid (Kb w.heap.size rb w wx))
  case first =>
   go_wp2_with fail
   go_at_call 179
   refine (HC.out _ HK1.out).mono ?_
   rintro e w1 ⟨B1, n2, c2, rfl, hA2, hb1⟩
   have hw1 := hb1.size
   have hxl := HX1.out.lt
   have hyl := HY1.out.lt
   have HP3 := Lib.hid (HP2.out.below hb1 (HP2.out.lt))
   have HX3 := Lib.hid (HX1.out.below hb1 hxl)
   have HY3 := Lib.hid (HY1.out.below hb1 hyl)
   obtain ⟨x0, x1, x2, x3, x4, x5⟩ := HY3.out.nd
   have fx := HY3.out.fz
   have q1 := HP3.out.c1
   have f1 := HP3.out.fz 1
   have HA2 := Lib.hid (hA2 w HNB.out)
   have HK3 := Lib.hid (HK1.out.trans (Kb.of (hb1.mono (HK1.out.size))))
   clear hA2 hb1 p1
   go_wp2_with fail
   go_meet
   exact ⟨B1, n2, c2, Lib.hid ((HP3.out.fillO (by simp; omega) y).setB _), HA2, Lib.hid ((HX3.out.fillO (by simp) y).other (by simp; omega) _), Lib.hid ((HY3.out.fill y).other (by simp; omega) _), Lib.hid ((HK3.out.fill (by simp) y).set _ _)⟩
  case rest =>
   obtain ⟨B1, n2, c2, HP4, HB4, HX4, HY4, HK4⟩ := hcut
   obtain ⟨x0, x1, x2, x3, x4, x5⟩ := HX4.out.nd
   obtain ⟨y0, y1, y2, y3, y4, y5⟩ := HY4.out.nd
   have fx := HX4.out.fz
   have fy := HY4.out.fz
   go_wp2_with fail
   go_region
   all_goals go_wp2_with fail
   have hX : NodeAt w.heap.size x (fillN (w.heap.size + 1) y (fillN w.heap.size x wc)) := (HX4.out.fill x).fillO (by simp) y
   have hY : NodeAt (w.heap.size + 1) y (fillN (w.heap.size + 1) y (fillN w.heap.size x wc)) := (HY4.out.fillO (by simp) x).fill y
   have hPP : Pr2 rb (.slice A1 n1 c1) (.slice B1 n2 c2) k (fillN (w.heap.size + 1) y (fillN w.heap.size x wc)) := (HP4.out.fillO (by simp; omega) x).fillO (by simp; omega) y
   have hKK : Kb w.heap.size rb w (fillN (w.heap.size + 1) y (fillN w.heap.size x wc)) := (HK4.out.fill (Nat.le_refl _) x).fill (by simp) y
   unfold fillN at hX hY hPP hKK
   clear x0 x1 x2 x3 x4 x5 y0 y1 y2 y3 y4 y5 fx fy
   generalize (((((World.setCell _ ⟨w.heap.size + 1, 0, none⟩ _).setCell _ _).setCell _ _).setCell _ _).setCell _ _).setCell _ _ = W at *
   obtain ⟨x0, x1, x2, x3, x4, x5⟩ := hX.nd
   obtain ⟨y0, y1, y2, y3, y4, y5⟩ := hY.nd
   refine bodyPost_ret (v := .tuple #[nda x, nda y]) ?_ rfl ⟨rfl, ⟨_, _, hPP.drew, ?_, ?_⟩, hKK.drew⟩
   ·simp only [Nat.zero_add] at x1 x2 x3 x4 x5 y1 y2 y3 y4 y5
    simp [results, Tryz.results158, go_sem, x0, x1, x2, x3, x4, x5, y0, y1, y2, y3, y4, y5]
   ·exact HA1.out.pr HP.out hKK.drew
   ·exact HB4.out.pr HP.out hKK.drew
end
section
open Go.RowKit Np Rw Vp Ov
theorem leave_none (rb : Nat) (la lb : List Nd) (m n : Nat) (w : World) (h : Prs rb la lb 0 w) :
  Calls Tryz.prog 160 #[.pointer (some ⟨rb, 0, none⟩), .int .i64 m, .int .i64 n] w fun e w' => e = .returned (.tuple #[]) ∧ Prs rb la lb 0 w' ∧ Kb w.heap.size rb w w' := by
 obtain ⟨va, vb, hp, ha, hb⟩ := h
 have HP := Lib.hid hp
 have HA := Lib.hid ha
 have HB := Lib.hid hb
 have c2 := hp.c2
 have hK := Kb.refl w.heap.size rb w
 clear hp ha hb
 go_enter Tryz.func160, Tryz.ntmps160
 go_wp2_with fail
 go_end0
 exact ⟨rfl, ⟨va, vb, HP.out, HA.out, HB.out⟩, hK⟩
theorem leave_past (rb : Nat) (la lb : List Nd) (m n k : Nat) (ra rc : List Nd) (w : World) (h : Prs rb la lb k w) (hk : 0 < k) (h1 : skip many la m = some ra) (h2 : skip many lb n = some rc) (hla : la.length ≤ 4000000000000) (hlb : lb.length ≤ 4000000000000) :
  Calls Tryz.prog 160 #[.pointer (some ⟨rb, 0, none⟩), .int .i64 m, .int .i64 n] w fun e w' => e = .returned (.tuple #[]) ∧ Prs rb ra rc k w' ∧ Kb w.heap.size rb w w' := by
 obtain ⟨va, vb, hp, ha, hb⟩ := h
 have HP := Lib.hid hp
 have HNA := Lib.hid ha
 have HNB := Lib.hid hb
 have HA := Lib.hid (fun d => past_any va la m ra (w.drewN d) (ha.quiet ⟨d, rfl⟩) h1 hla)
 have HB := Lib.hid (fun d => past_any vb lb n rc (w.drewN d) (hb.quiet ⟨d, rfl⟩) h2 hlb)
 obtain ⟨A, c, rfl, -⟩ := ha
 obtain ⟨B, d, rfl, -⟩ := hb
 have c0 := hp.c0
 have c1 := hp.c1
 have c2 := hp.c2
 have f0 := hp.fz 0
 have f1 := hp.fz 1
 have hk' : ((k : Int) > 0) := by omega
 clear hp h1 h2 hla hlb
 generalize la.length = nla at *
 generalize lb.length = nlb at *
 go_enter Tryz.func160, Tryz.ntmps160
 go_upto_region 1 with fail
 go_region_with (first
   | (go_at_call_of 181 (m : Int); refine (HA.out _).mono ?_; rintro e w1 ⟨A1, n1, c1, rfl, hA1, ⟨d1, rfl⟩⟩)
   | (go_at_call_of 181 (n : Int); refine (HB.out _).mono ?_; rintro e w1 ⟨B1, n2, c2, rfl, hB1, ⟨d2, rfl⟩⟩))
 all_goals go_wp2_with fail
 all_goals go_end0
 all_goals
  have hK2 := (((Kb.refl w.heap.size rb w).drewN (1 + d1 + d2)).set 0 (Value.slice A1 n1 c1)).set 1 (Value.slice B1 n2 c2)
  exact ⟨rfl, ⟨_, _, (((HP.out.drewN (1 + d1 + d2)).setA _).setB _), (hA1 w HNA.out).pr HP.out hK2, (hB1 w HNB.out).pr HP.out hK2⟩, hK2⟩
end
end Go.Proofs.YtldioobbfkaebaaGreatDoor
