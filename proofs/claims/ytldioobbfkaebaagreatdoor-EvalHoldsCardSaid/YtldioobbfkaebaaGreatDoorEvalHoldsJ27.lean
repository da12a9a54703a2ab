/-
  Joined: EvK, EvL, EvN, EvO, EvQ, EvR.
-/
import Derived.Test.YtldioobbfkaebaaGreatDoorEvalHoldsJ25
import Derived.Test.YtldioobbfkaebaaGreatDoorEvalHoldsJ26
import Derived.Test.YtldioobbfkaebaaGreatDoorEvalHoldsJ10
set_option maxHeartbeats 2000000
set_option maxRecDepth 100000
namespace Go.Proofs.YtldioobbfkaebaaGreatDoor
section
open Go.RowKit Go.Shelf Np Rw Vp Pw Fw Ev
structure KeepX (rb nb : Nat) (w W : World) : Prop where
 sz : w.heap.size ≤ W.heap.size
 bk : ∀ b, b < w.heap.size → (b < rb ∨ nb ≤ b) → W.heap[b]? = w.heap[b]?
theorem KeepX.refl (rb nb : Nat) (w : World) : KeepX rb nb w w := ⟨Nat.le_refl _, fun _ _ _ => rfl⟩
theorem KeepX.trans {rb nb : Nat} {a b c : World} (h : KeepX rb nb a b) (k : KeepX rb nb b c) : KeepX rb nb a c :=
 ⟨Nat.le_trans h.sz k.sz, fun x hx hn => (k.bk x (Nat.lt_of_lt_of_le hx h.sz) hn).trans (h.bk x hx hn)⟩
theorem KeepX.wide {rb rb' nb nb' : Nat} {w W : World} (h : KeepX rb nb w W) (h1 : rb' ≤ rb) (h2 : nb ≤ nb') : KeepX rb' nb' w W := ⟨h.sz, fun b hb hn => h.bk b hb (by omega)⟩
theorem Below.keepX {w W : World} (h : Below w.heap.size w W) (rb nb : Nat) : KeepX rb nb w W := ⟨h.size, fun b hb _ => h.block b hb⟩
theorem KeepX.cell {rb nb : Nat} {w W : World} (h : KeepX rb nb w W) {g o : Nat} (hg : g < w.heap.size) (hn : g < rb ∨ nb ≤ g) : W.cell? ⟨g, o, none⟩ = w.cell? ⟨g, o, none⟩ := World.cell?_of_block (h.bk g hg hn)
def OffR (rb nb : Nat) (v : Value) : Prop := ∀ (g o n c : Nat), v = .slice (some ⟨g, o, none⟩) n c → 0 < n → (g < rb ∨ nb ≤ g)
theorem Row.keepX {α : Type} {enc : α → List Value} {sz rb nb : Nat} {w W : World} {v : Value} {l : List α} (h : Row enc sz w v l) (hk : KeepX rb nb w W) (hn : OffR rb nb v) : Row enc sz W v l := by
 obtain ⟨A, c, hv, h1, h2, h3, H⟩ := h
 refine ⟨A, c, hv, h1, h2, h3, fun h0 => ?_⟩
 obtain ⟨g, o, hA, hg, hx⟩ := H h0
 have hne : g < rb ∨ nb ≤ g := hn g o l.length c (by rw [hv, hA]) h0
 exact ⟨g, o, hA, Nat.lt_of_lt_of_le hg hk.sz, fun k x hkx j u hu => (hk.cell hg hne).trans (hx k x hkx j u hu)⟩
def Ahead (rb : Nat) (v : Value) : Prop := ∀ (g o n c : Nat), v = .slice (some ⟨g, o, none⟩) n c → 0 < n → g < rb
theorem Ahead.off {rb nb : Nat} {v : Value} (h : Ahead rb v) : OffR rb nb v := fun g o n c e hn => .inl (h g o n c e hn)
structure RdF (rb : Nat) (l : List Tm) (w : World) : Prop where
 c : ∃ v, Boxed w rb 57 v ∧ Tms w v l ∧ Ahead rb v
structure Rk (base rb : Nat) (w W : World) : Prop where
 k1 : KeepX rb (rb + 1) w W
 b : Below base w W
theorem Rk.k {base rb nb : Nat} {w W : World} (h : Rk base rb w W) (hn : rb < nb) : KeepX rb nb w W := h.k1.wide (Nat.le_refl _) hn
theorem Rk.trans {base rb : Nat} {a b c : World} (h : Rk base rb a b) (k : Rk base rb b c) : Rk base rb a c := ⟨h.k1.trans k.k1, h.b.trans k.b⟩
theorem Rk.of {base rb : Nat} {w W : World} (h : Below w.heap.size w W) (hb : base ≤ w.heap.size) : Rk base rb w W := ⟨Below.keepX h rb _, h.mono hb⟩
theorem Rk.sz {base rb : Nat} {w W : World} (h : Rk base rb w W) : w.heap.size ≤ W.heap.size := h.k1.sz
theorem RdF.below {rb : Nat} {l : List Tm} {w W : World} (h : RdF rb l w) (hb : Below w.heap.size w W) : RdF rb l W := by
 obtain ⟨v, h1, h2, h3⟩ := h
 exact ⟨v, (hb.block rb h1.lt).trans h1, h2.below hb, h3⟩
theorem take_end {base rb : Nat} {w : World} {v v' : Value} {r : List Tm} (o1 o2 : Obj) (hbx : Boxed w rb 57 v) (hb : base ≤ rb) (hrow : Tms w v' r) (hoff : Ahead rb v') :
  RdF rb r (((w.setCell ⟨rb, 0, none⟩ v').alloc o1).alloc o2) ∧ Rk base rb w (((w.setCell ⟨rb, 0, none⟩ v').alloc o1).alloc o2) := by
 have hl := hbx.lt
 have h1 : Below (w.setCell ⟨rb, 0, none⟩ v').heap.size (w.setCell ⟨rb, 0, none⟩ v') (((w.setCell ⟨rb, 0, none⟩ v').alloc o1).alloc o2) := ((Below.refl _ _).alloc (Nat.le_refl _) _).alloc (by simp) _
 have hk0 : KeepX rb (rb + 1) w (w.setCell ⟨rb, 0, none⟩ v') := ⟨by simp, fun b _ hn => Below.heap_setCell w ⟨rb, 0, none⟩ v' b (by show b ≠ rb; omega)⟩
 have hk := hk0.trans (Below.keepX h1 rb _)
 refine ⟨⟨v', ((hbx.set v').alloc o1).alloc o2, hrow.keepX hk hoff.off, hoff⟩, hk, ?_⟩
 exact (((Below.refl base w).setCell (p := ⟨rb, 0, none⟩) hb v').alloc (by simp; omega) o1).alloc (by simp; omega) o2
theorem evTakeX_any (base rb : Nat) (t : Tm) (r : List Tm) (w : World) (h : RdF rb (t :: r) w) (hb : base ≤ rb) (hl : r.length ≤ 1000000) :
  Calls Tryz.prog 48 #[.pointer (some ⟨rb, 0, none⟩)] w fun e w' => e = .returned (tma t) ∧ RdF rb r w' ∧ Rk base rb w w' := by
 obtain ⟨v, hbx, hrow, hoff⟩ := h
 obtain ⟨g, o, c, rfl, hc, hcm, hg, hx⟩ := hrow.opened (by simp)
 have hl1 := hbx.lt
 have h0 := hbx.cell
 have hf := hbx.frozen
 have hgr : g < rb := hoff g o _ c rfl (by simp)
 obtain ⟨y0, y1, y2, y3, y4, y5, y6, y7, y8, y9, y10⟩ := (hx 0 t rfl).tm
 simp only [Nat.zero_mul, Nat.add_zero] at y0 y1 y2 y3 y4 y5 y6 y7 y8 y9 y10
 have hn : (((t :: r).length : Nat) : Int) = (r.length : Int) + 1 := by simp
 simp only [List.length_cons] at h0 hc
 have HX := Lib.hid hx
 have HBX := Lib.hid hbx
 have HROW := Lib.hid hrow
 clear hx hbx hrow hoff hn
 unfold maxLen at hcm
 go_enter Tryz.func48, Tryz.ntmps48
 by_cases hc1 : c = 1
 ·subst hc1
  have hr0 : r = [] := List.eq_nil_of_length_eq_zero (by omega)
  subst hr0
  simp only [List.length_nil, Nat.zero_add] at *
  go_wp2_with fail
  refine bodyPost_ret (v := tma t) (by simp [results, Tryz.results48, go_sem]) rfl ?_
  obtain ⟨h1, h2⟩ := take_end (v' := .slice (some ⟨g, o, none⟩) 0 0) (r := []) _ _ HBX.out hb ⟨_, 0, rfl, Nat.le_refl _, Nat.zero_le _, fun h => (by cases h), fun h => absurd h (by simp)⟩ (fun g' o' n' c' h hn => by injection h with _ h _; omega)
  exact ⟨rfl, h1, h2⟩
 ·have hc2 : ¬ (1 = c) := fun e => hc1 e.symm
  have hrl : ((r.length : Int) + 1 == 0) = false := beq_eq_false_iff_ne.2 (fun e => by omega)
  have HR1 : Hid (Tms w (.slice (some ⟨g, o + 11, none⟩) r.length (c - 1)) r) := Lib.hid (by
   have h := HROW.out.pc 1 r.length (c - 1) (by simp; omega) (by omega) (by omega)
   simpa using h)
  go_wp2_with fail
  refine bodyPost_ret (v := tma t) (by simp [results, Tryz.results48, go_sem]) rfl ?_
  obtain ⟨h1, h2⟩ := take_end (v' := .slice (some ⟨g, o + 11, none⟩) r.length (c - 1)) (r := r) _ _ HBX.out hb HR1.out (fun g' o' n' c' h hn => by injection h with h _ _; injection h with h; injection h with h _; omega)
  exact ⟨rfl, h1, h2⟩
end
section
open Go.RowKit Go.Shelf Np Rw Vp Pw Fw Ev Ov
def GivesX (rb nb B : Nat) (w : World) (fv : Value) (F : Tr Nd → Rz) : Prop := ∃ (K : FuncId) (cap : Array Value), fv = .func (.func K) #[] cap ∧ (∀ args w, (callFunc K args).run Tryz.prog w = .ok (.enter K args) w) ∧
 ∀ (W : World) (S : Nat → Prop) (t : Tr Nd) (v : Value), KeepX rb nb w W → TrS S W t v → Val t → (flat t).length ≤ B → Calls Tryz.prog K (#[v] ++ cap) W (OutR S W (F t))
theorem GivesX.keep {rb nb B : Nat} {w w' : World} {fv : Value} {F : Tr Nd → Rz} (h : GivesX rb nb B w fv F) (hk : KeepX rb nb w w') : GivesX rb nb B w' fv F := by
 obtain ⟨K, cap, h1, h2, h3⟩ := h
 exact ⟨K, cap, h1, h2, fun W S t v hW => h3 W S t v (hk.trans hW)⟩
theorem GivesX.g {rb nb B : Nat} {w : World} {fv : Value} {F : Tr Nd → Rz} (h : GivesX rb nb B w fv F) : Gives B w fv F := by
 obtain ⟨K, cap, h1, h2, h3⟩ := h
 exact ⟨K, cap, h1, h2, fun W S t v hW => h3 W S t v (Below.keepX hW rb nb)⟩
def CondX (rb nb B : Nat) (w : World) (fv : Value) (F : Tr Nd → Bool × Int) : Prop := ∃ (K : FuncId) (cap : Array Value), fv = .func (.func K) #[] cap ∧ (∀ args w, (callFunc K args).run Tryz.prog w = .ok (.enter K args) w) ∧
 ∀ (W : World) (S : Nat → Prop) (t : Tr Nd) (v : Value), KeepX rb nb w W → TrS S W t v → Val t → (flat t).length ≤ B → Calls Tryz.prog K (#[v] ++ cap) W fun e w' => e = .returned (.tuple #[.bool (F t).1, .int .i64 (F t).2]) ∧ Below W.heap.size W w'
theorem CondX.keep {rb nb B : Nat} {w w' : World} {fv : Value} {F : Tr Nd → Bool × Int} (h : CondX rb nb B w fv F) (hk : KeepX rb nb w w') : CondX rb nb B w' fv F := by
 obtain ⟨K, cap, h1, h2, h3⟩ := h
 exact ⟨K, cap, h1, h2, fun W S t v hW => h3 W S t v (hk.trans hW)⟩
theorem CondX.g {rb nb B : Nat} {w : World} {fv : Value} {F : Tr Nd → Bool × Int} (h : CondX rb nb B w fv F) : GivesC B w fv F := by
 obtain ⟨K, cap, h1, h2, h3⟩ := h
 exact ⟨K, cap, h1, h2, fun W S t v hW => h3 W S t v (Below.keepX hW rb nb)⟩
theorem GivesX.wide {rb nb nb' B : Nat} {w : World} {fv : Value} {F : Tr Nd → Rz} (h : GivesX rb nb' B w fv F) (hn : nb ≤ nb') : GivesX rb nb B w fv F := by
 obtain ⟨K, cap, h1, h2, h3⟩ := h
 exact ⟨K, cap, h1, h2, fun W S t v hW => h3 W S t v (hW.wide (Nat.le_refl _) hn)⟩
theorem offR_own {rb nb m n c : Nat} {A : Option Addr} (h : ∀ (g o : Nat), A = some ⟨g, o, none⟩ → m ≤ g) (hn : nb ≤ m) : OffR rb nb (.slice A n c) := by
 intro g o n' c' e _
 injection e with e _ _
 exact .inr (Nat.le_trans hn (h g o e))
theorem evAlongX_any (rb nb B : Nat) (sl : Value) (p : List St) (w : World) (hp : Sps w sl p) (hps : ∀ s ∈ p, rightS s = true) (hrb : nb ≤ w.heap.size) (hoff : OffR rb nb sl) :
  Calls Tryz.prog 31 #[sl] w fun e w' => ∃ K cap, e = .returned (.func (.func K) #[] cap) ∧ GivesX rb nb B w' (.func (.func K) #[] cap) (fun t => ofO (alongE p t)) ∧ Below w.heap.size w w' := by
 have eK : ∀ args w, (callFunc 62 args).run Tryz.prog w = .ok (.enter 62 args) w := enters_of Tryz.func62 (by kernel_rfl) rfl
 have hmf : ∀ (fn : Fn) (first cap : Array Value) (w : World), (Instr.makeFunc fn first cap).run Tryz.prog w = .ok (.func fn first cap) w := fun _ _ _ _ => rfl
 have hb := (Below.refl w.heap.size w).alloc (Nat.le_refl _) (.cells #[sl] 25)
 have HB := Lib.hid hb
 have HG : Hid (GivesX rb nb B (w.alloc (.cells #[sl] 25)) (.func (.func 62) #[] #[.pointer (some ⟨w.heap.size, 0, none⟩)]) fun t => ofO (alongE p t)) := Lib.hid (by
  refine ⟨_, _, rfl, eK, fun W S t v hW h ht _ => ?_⟩
  have hc : (w.alloc (.cells #[sl] 25)).cell? ⟨w.heap.size, 0, none⟩ = some sl := by simp [World.cell?_alloc_new]
  exact alongC_any S p t v sl w.heap.size W ((hW.cell (by simp) (by omega)).trans hc) ((hp.below hb).keepX hW hoff) hps h ht)
 obtain ⟨A, c, rfl, -⟩ := hp
 clear hb hps eK hoff
 go_enter Tryz.func31, Tryz.ntmps31
 go_wp2_with fail
 go_ret
 exact ⟨_, _, rfl, HG.out, HB.out⟩
theorem byPathX_along (rb nb B : Nat) (s : List UInt8) (p : List St) (k : Nat) (w : World) (hr : readP s = (p, k, 0)) (hp : ∀ x ∈ p, rightS x = true) (hs : s.length ≤ 1000000) (hT : Pv w) (hrb : nb ≤ w.heap.size) :
  Calls Tryz.prog 50 #[.string ⟨s.toArray⟩, .func (.func 31) #[] #[]] w fun e w' => ∃ K cap, e = .returned (.func (.func K) #[] cap) ∧ GivesX rb nb B w' (.func (.func K) #[] cap) (fun t => ofO (alongE p t)) ∧ Below w.heap.size w w' := by
 have eK : ∀ args w, (callFunc 31 args).run Tryz.prog w = .ok (.enter 31 args) w := enters_of Tryz.func31 (by kernel_rfl) rfl
 have HR := Lib.hid (preadO_any ⟨s.toArray⟩ w (by rw [mk_size]; exact hs) hT)
 rw [show readP (ByteArray.mk s.toArray).data.toList = (p, k, 0) from hr] at HR
 have HP := Lib.hid hp
 clear hr hp hT
 go_enter Tryz.func50, Tryz.ntmps50
 go_wp2_with fail
 refine HR.out.mono ?_
 rintro e w1 ⟨A1, n1, c1, rfl, hp1, hb1, ho1⟩
 have HB1 := Lib.hid hb1
 have HA : Hid (Calls Tryz.prog 31 #[.slice A1 n1 c1] w1 fun e w' => ∃ K cap, e = .returned (.func (.func K) #[] cap) ∧ GivesX rb nb B w' (.func (.func K) #[] cap) (fun t => ofO (alongE p t)) ∧ Below w1.heap.size w1 w') := Lib.hid (by exact evAlongX_any rb nb B _ p w1 hp1 HP.out (Nat.le_trans hrb hb1.size) (offR_own ho1 hrb))
 clear hb1 hp1 HR ho1
 go_wp2_with fail
 refine HA.out.mono ?_
 rintro e w2 ⟨K, cap, rfl, hg2, hb2⟩
 have HG2 := Lib.hid hg2
 have HB2 := Lib.hid (Below.after HB1.out hb2)
 clear hg2 hb2
 go_wp2_with fail
 go_ret
 exact ⟨K, cap, rfl, HG2.out, HB2.out⟩
theorem nd6_keepX {rb nb g o : Nat} {w W : World} {n : Nd} (h : Nd6 w g o n) (hg : g < w.heap.size) (hn : g < rb ∨ nb ≤ g) (hk : KeepX rb nb w W) : Nd6 W g o n :=
 ⟨(hk.cell hg hn).trans h.c0, (hk.cell hg hn).trans h.c1, (hk.cell hg hn).trans h.c2, (hk.cell hg hn).trans h.c3, (hk.cell hg hn).trans h.c4, (hk.cell hg hn).trans h.c5⟩
theorem comparedX_any (rb nb B : Nat) (give : Value) (n : Int) (c : Nd) (F : Tr Nd → Rz) (w : World) (hG : GivesX rb nb B w give F) (hrb : nb ≤ w.heap.size) (hok : ∀ t, Val t → (flat t).length ≤ B → ∀ u, F t = .ok u → Val (flatT u)) (hbad : ∀ t k, F t = .bad k → k ≠ 0) (hcv : Val (.mk c [])) :
  Calls Tryz.prog 49 #[give, .int .i64 n, nda c] w fun e w' => ∃ K cap, e = .returned (.func (.func K) #[] cap) ∧ CondX rb nb B w' (.func (.func K) #[] cap) (fun t => cndR n c (F t)) ∧ Below w.heap.size w w' := by
 have eK : ∀ args w, (callFunc 91 args).run Tryz.prog w = .ok (.enter 91 args) w := enters_of Tryz.func91 (by kernel_rfl) rfl
 have hmf : ∀ (fn : Fn) (first cap : Array Value) (w : World), (Instr.makeFunc fn first cap).run Tryz.prog w = .ok (.func fn first cap) w := fun _ _ _ _ => rfl
 obtain ⟨K0, cap0, rfl, hG'⟩ := id hG
 obtain ⟨W3, hW3⟩ : ∃ W3, W3 = (((w.alloc (.cells #[.func (.func K0) #[] cap0] 69)).alloc (.cells #[.int .i64 n] 3)).alloc (.cells #[.int .i64 c.kind, .int .i64 c.many, .string ⟨c.name.toArray⟩, .string ⟨c.s.toArray⟩, .bool c.neg, .int .i64 c.e] 30)) := ⟨_, rfl⟩
 have h12 : Below (w.alloc (.cells #[.func (.func K0) #[] cap0] 69)).heap.size (w.alloc (.cells #[.func (.func K0) #[] cap0] 69)) W3 := by rw [hW3]; exact ((Below.refl _ _).alloc (Nat.le_refl _) _).alloc (by simp) _
 have h23 : Below ((w.alloc (.cells #[.func (.func K0) #[] cap0] 69)).alloc (.cells #[.int .i64 n] 3)).heap.size ((w.alloc (.cells #[.func (.func K0) #[] cap0] 69)).alloc (.cells #[.int .i64 n] 3)) W3 := by rw [hW3]; exact (Below.refl _ _).alloc (Nat.le_refl _) _
 have f1 : W3.cell? ⟨w.heap.size, 0, none⟩ = some (.func (.func K0) #[] cap0) := (h12.cell (p := ⟨w.heap.size, 0, none⟩) (by simp)).trans (by simp [World.cell?_alloc_new])
 have f2 : W3.cell? ⟨w.heap.size + 1, 0, none⟩ = some (.int .i64 n) := (h23.cell (p := ⟨w.heap.size + 1, 0, none⟩) (by simp)).trans (by
  have h := heap_alloc_new (w.alloc (.cells #[.func (.func K0) #[] cap0] 69)) (.cells #[.int .i64 n] 3)
  rw [show (w.alloc (.cells #[.func (.func K0) #[] cap0] 69)).heap.size = w.heap.size + 1 by simp] at h
  rw [Lib.cell_of_heap h]; rfl)
 have f3 : Nd6 W3 (w.heap.size + 1 + 1) 0 c := by
  have h := heap_alloc_new ((w.alloc (.cells #[.func (.func K0) #[] cap0] 69)).alloc (.cells #[.int .i64 n] 3)) (.cells #[.int .i64 c.kind, .int .i64 c.many, .string ⟨c.name.toArray⟩, .string ⟨c.s.toArray⟩, .bool c.neg, .int .i64 c.e] 30)
  rw [← hW3] at h
  have hs : ((w.alloc (.cells #[.func (.func K0) #[] cap0] 69)).alloc (.cells #[.int .i64 n] 3)).heap.size = w.heap.size + 1 + 1 := by simp
  rw [hs] at h
  constructor <;> (rw [Lib.cell_of_heap h]; rfl)
 have HB3 : Hid (Below w.heap.size w W3) := Lib.hid (by rw [hW3]; exact (((Below.refl _ w).alloc (Nat.le_refl _) _).alloc (by simp) _).alloc (by simp; omega) _)
 have hz3 : w.heap.size + 1 + 1 < W3.heap.size := by rw [hW3]; simp
 have HGC : Hid (CondX rb nb B W3 (.func (.func 91) #[] #[.pointer (some ⟨w.heap.size, 0, none⟩), .pointer (some ⟨w.heap.size + 1, 0, none⟩), .pointer (some ⟨w.heap.size + 1 + 1, 0, none⟩)]) (fun t => cndR n c (F t))) := Lib.hid
  ⟨_, _, rfl, eK, fun W S t v hW h ht hl => comparedC_any B S t v _ _ _ _ n c F W ((hW.cell (g := w.heap.size) (o := 0) (by show w.heap.size < _; omega) (by right; show _ ≤ w.heap.size; omega)).trans f1) ((hW.cell (g := w.heap.size + 1) (o := 0) (by show w.heap.size + 1 < _; omega) (by right; show _ ≤ w.heap.size + 1; omega)).trans f2) (nd6_keepX f3 hz3 (by omega) hW) (by have := hW.sz; omega) (by have := hW.sz; omega) (hG.keep ((Below.keepX HB3.out rb nb).trans hW)).g h ht hl (hok t ht hl) (hbad t) hcv⟩
 clear hG hG' h12 h23 f1 f2 f3 hz3 hok hbad hcv
 go_enter Tryz.func49, Tryz.ntmps49
 go_wp2_with fail
 rw [← hW3]
 go_ret
 exact ⟨_, _, rfl, HGC.out, HB3.out⟩
def joinP (settles : Bool) (F G : Tr Nd → Bool × Int) (u : Tr Nd) : Bool × Int := if (F u).2 ≠ 0 ∨ (F u).1 = settles then F u else G u
def notP (F : Tr Nd → Bool × Int) (u : Tr Nd) : Bool × Int := (decide ((F u).2 = 0) && !(F u).1, (F u).2)
theorem joinedC_any (rb nb B : Nat) (S : Nat → Prop) (t : Tr Nd) (v f1 f2 : Value) (b1 b2 b3 : Nat) (settles : Bool) (F G : Tr Nd → Bool × Int) (W : World) (h1 : W.cell? ⟨b1, 0, none⟩ = some f1) (h2 : W.cell? ⟨b2, 0, none⟩ = some (.bool settles)) (h3 : W.cell? ⟨b3, 0, none⟩ = some f2)
  (l2 : b2 < W.heap.size) (l3 : b3 < W.heap.size) (hF : CondX rb nb B W f1 F) (hG : CondX rb nb B W f2 G) (h : TrS S W t v) (ht : Val t) (hl : (flat t).length ≤ B) :
  Calls Tryz.prog 96 #[v, .pointer (some ⟨b1, 0, none⟩), .pointer (some ⟨b2, 0, none⟩), .pointer (some ⟨b3, 0, none⟩)] W fun e w' => e = .returned (.tuple #[.bool (joinP settles F G t).1, .int .i64 (joinP settles F G t).2]) ∧ Below W.heap.size W w' := by
 obtain ⟨K1, cap1, rfl, eK1, hC1⟩ := hF
 obtain ⟨K2, cap2, rfl, eK2, hC2⟩ := hG
 have HC1 := Lib.hid (hC1 W S t v (KeepX.refl _ _ _) h ht hl)
 have HC2 := Lib.hid (fun (W' : World) (hW : Below W.heap.size W W') => hC2 W' S t v (Below.keepX hW rb nb) (h.below hW) ht hl)
 have H2 := Lib.hid h2
 have H3 := Lib.hid h3
 have HJ : Hid (joinP settles F G t = if (F t).2 ≠ 0 ∨ (F t).1 = settles then F t else G t) := Lib.hid rfl
 clear hC1 hC2 h ht hl h2 h3
 generalize joinP settles F G t = J at *
 generalize F t = R1 at *
 generalize G t = R2 at *
 obtain ⟨a1, k1⟩ := R1
 obtain ⟨a2, k2⟩ := R2
 simp only at *
 go_enter Tryz.func96, Tryz.ntmps96
 go_wp2_with fail
 refine HC1.out.mono ?_
 rintro e w1 ⟨rfl, hb1⟩
 have g2 := (hb1.cell (p := ⟨b2, 0, none⟩) l2).trans H2.out
 have g3 := (hb1.cell (p := ⟨b3, 0, none⟩) l3).trans H3.out
 have HB1 := Lib.hid hb1
 clear hb1 HC1
 by_cases hk : k1 = 0
 ·subst hk
  by_cases ha : a1 = settles
  ·subst ha
   have HF : Hid (J = (a1, 0)) := Lib.hid (by rw [HJ.out]; simp)
   clear HJ
   cases a1 <;>
   ·go_wp2_with fail
    go_ret2
    exact ⟨by rw [HF.out]; rfl, HB1.out⟩
  ·have HF : Hid (J = (a2, k2)) := Lib.hid (by rw [HJ.out]; simp [ha])
   clear HJ
   cases a1 <;> cases settles <;> first | (exact absurd rfl ha) | skip
   all_goals
    go_wp2_with fail
    refine (HC2.out w1 HB1.out).mono ?_
    rintro e w2 ⟨rfl, hb2⟩
    go_wp2_with fail
    go_ret2
    exact ⟨by rw [HF.out]; rfl, Below.after HB1.out hb2⟩
 ·have HF : Hid (J = (a1, k1)) := Lib.hid (by rw [HJ.out]; simp [hk])
  have hk2 : (k1 == 0) = false := by simpa using hk
  have hk3 : (k1 != 0) = true := by simp [bne, hk2]
  clear HJ hk
  go_wp2_with fail
  go_ret2
  exact ⟨by rw [HF.out]; rfl, HB1.out⟩
theorem deniedC_any (rb nb B : Nat) (S : Nat → Prop) (t : Tr Nd) (v f1 : Value) (b1 : Nat) (F : Tr Nd → Bool × Int) (W : World) (h1 : W.cell? ⟨b1, 0, none⟩ = some f1)
  (hF : CondX rb nb B W f1 F) (h : TrS S W t v) (ht : Val t) (hl : (flat t).length ≤ B) :
  Calls Tryz.prog 97 #[v, .pointer (some ⟨b1, 0, none⟩)] W fun e w' => e = .returned (.tuple #[.bool (notP F t).1, .int .i64 (notP F t).2]) ∧ Below W.heap.size W w' := by
 obtain ⟨K1, cap1, rfl, eK1, hC1⟩ := hF
 have HC1 := Lib.hid (hC1 W S t v (KeepX.refl _ _ _) h ht hl)
 have HJ : Hid (notP F t = (decide ((F t).2 = 0) && !(F t).1, (F t).2)) := Lib.hid rfl
 clear hC1 h ht hl
 generalize notP F t = J at *
 generalize F t = R1 at *
 obtain ⟨a1, k1⟩ := R1
 simp only at *
 go_enter Tryz.func97, Tryz.ntmps97
 go_wp2_with fail
 refine HC1.out.mono ?_
 rintro e w1 ⟨rfl, hb1⟩
 have HB1 := Lib.hid hb1
 clear hb1 HC1
 by_cases hk : k1 = 0
 ·subst hk
  have HF : Hid (J = (!a1, 0)) := Lib.hid (by rw [HJ.out]; simp)
  clear HJ
  cases a1 <;>
  ·go_wp2_with fail
   go_ret2
   exact ⟨by rw [HF.out]; rfl, HB1.out⟩
 ·have HF : Hid (J = (false, k1)) := Lib.hid (by rw [HJ.out]; simp [hk])
  have hk2 : (k1 == 0) = false := by simpa using hk
  have hk3 : (k1 != 0) = true := by simp [bne, hk2]
  clear HJ hk
  go_wp2_with fail
  go_ret2
  exact ⟨by rw [HF.out]; rfl, HB1.out⟩
end
section
open Go.RowKit Go.Shelf Np Rw Vp Pw Fw Ev Ov
theorem laid3 (w : World) (x y z : Value) (Tx Ty Tz : TypeId) : ∀ W3, W3 = ((w.alloc (.cells #[x] Tx)).alloc (.cells #[y] Ty)).alloc (.cells #[z] Tz) → W3.cell? ⟨w.heap.size, 0, none⟩ = some x ∧ W3.cell? ⟨w.heap.size + 1, 0, none⟩ = some y ∧ W3.cell? ⟨w.heap.size + 1 + 1, 0, none⟩ = some z ∧ Below w.heap.size w W3 ∧ w.heap.size + 1 + 1 < W3.heap.size := by
 rintro W3 rfl
 have h1 := heap_alloc_new w (.cells #[x] Tx)
 have h2 := heap_alloc_new (w.alloc (.cells #[x] Tx)) (.cells #[y] Ty)
 have h3 := heap_alloc_new ((w.alloc (.cells #[x] Tx)).alloc (.cells #[y] Ty)) (.cells #[z] Tz)
 rw [show (w.alloc (.cells #[x] Tx)).heap.size = w.heap.size + 1 by simp] at h2
 rw [show ((w.alloc (.cells #[x] Tx)).alloc (.cells #[y] Ty)).heap.size = w.heap.size + 1 + 1 by simp] at h3
 have b1 : Below (w.alloc (.cells #[x] Tx)).heap.size (w.alloc (.cells #[x] Tx)) (((w.alloc (.cells #[x] Tx)).alloc (.cells #[y] Ty)).alloc (.cells #[z] Tz)) := ((Below.refl _ _).alloc (Nat.le_refl _) _).alloc (by simp) _
 have b2 : Below ((w.alloc (.cells #[x] Tx)).alloc (.cells #[y] Ty)).heap.size ((w.alloc (.cells #[x] Tx)).alloc (.cells #[y] Ty)) (((w.alloc (.cells #[x] Tx)).alloc (.cells #[y] Ty)).alloc (.cells #[z] Tz)) := (Below.refl _ _).alloc (Nat.le_refl _) _
 refine ⟨(b1.cell (p := ⟨w.heap.size, 0, none⟩) (by simp)).trans (by rw [Lib.cell_of_heap h1]; rfl), (b2.cell (p := ⟨w.heap.size + 1, 0, none⟩) (by simp)).trans (by rw [Lib.cell_of_heap h2]; rfl), by rw [Lib.cell_of_heap h3]; rfl, (((Below.refl _ w).alloc (Nat.le_refl _) _).alloc (by simp) _).alloc (by simp; omega) _, by simp⟩
theorem joined_any (rb nb B : Nat) (f1 f2 : Value) (settles : Bool) (F G : Tr Nd → Bool × Int) (w : World) (hF : CondX rb nb B w f1 F) (hG : CondX rb nb B w f2 G) (hrb : nb ≤ w.heap.size) :
  Calls Tryz.prog 51 #[f1, f2, .bool settles] w fun e w' => ∃ K cap, e = .returned (.func (.func K) #[] cap) ∧ CondX rb nb B w' (.func (.func K) #[] cap) (joinP settles F G) ∧ Below w.heap.size w w' := by
 have eK : ∀ args w, (callFunc 96 args).run Tryz.prog w = .ok (.enter 96 args) w := enters_of Tryz.func96 (by kernel_rfl) rfl
 have hmf : ∀ (fn : Fn) (first cap : Array Value) (w : World), (Instr.makeFunc fn first cap).run Tryz.prog w = .ok (.func fn first cap) w := fun _ _ _ _ => rfl
 obtain ⟨K1, cap1, rfl, hF'⟩ := id hF
 obtain ⟨K2, cap2, rfl, hG'⟩ := id hG
 obtain ⟨W3, hW3⟩ : ∃ W3, W3 = ((w.alloc (.cells #[.func (.func K1) #[] cap1] 59)).alloc (.cells #[.func (.func K2) #[] cap2] 59)).alloc (.cells #[.bool settles] 4) := ⟨_, rfl⟩
 obtain ⟨g1, g2, g3, hb3, hz3⟩ := laid3 w _ _ _ _ _ _ W3 hW3
 have HB3 := Lib.hid hb3
 have HGC : Hid (CondX rb nb B W3 (.func (.func 96) #[] #[.pointer (some ⟨w.heap.size, 0, none⟩), .pointer (some ⟨w.heap.size + 1 + 1, 0, none⟩), .pointer (some ⟨w.heap.size + 1, 0, none⟩)]) (joinP settles F G)) := Lib.hid
  ⟨_, _, rfl, eK, fun W S t v hW h ht hl => joinedC_any rb nb B S t v _ _ _ _ _ settles F G W ((hW.cell (by omega) (by omega)).trans g1) ((hW.cell (by omega) (by omega)).trans g3) ((hW.cell (by omega) (by omega)).trans g2) (by have := hW.sz; omega) (by have := hW.sz; omega) (hF.keep ((Below.keepX hb3 rb nb).trans hW)) (hG.keep ((Below.keepX hb3 rb nb).trans hW)) h ht hl⟩
 clear hF hG hF' hG' g1 g2 g3 hb3 hz3
 go_enter Tryz.func51, Tryz.ntmps51
 go_wp2_with fail
 rw [← hW3]
 go_ret
 exact ⟨_, _, rfl, HGC.out, HB3.out⟩
theorem denied_any (rb nb B : Nat) (f1 : Value) (F : Tr Nd → Bool × Int) (w : World) (hF : CondX rb nb B w f1 F) (hrb : nb ≤ w.heap.size) :
  Calls Tryz.prog 52 #[f1] w fun e w' => ∃ K cap, e = .returned (.func (.func K) #[] cap) ∧ CondX rb nb B w' (.func (.func K) #[] cap) (notP F) ∧ Below w.heap.size w w' := by
 have eK : ∀ args w, (callFunc 97 args).run Tryz.prog w = .ok (.enter 97 args) w := enters_of Tryz.func97 (by kernel_rfl) rfl
 have hmf : ∀ (fn : Fn) (first cap : Array Value) (w : World), (Instr.makeFunc fn first cap).run Tryz.prog w = .ok (.func fn first cap) w := fun _ _ _ _ => rfl
 obtain ⟨K1, cap1, rfl, hF'⟩ := id hF
 have hb : Below w.heap.size w (w.alloc (.cells #[.func (.func K1) #[] cap1] 59)) := (Below.refl _ w).alloc (Nat.le_refl _) _
 have HB := Lib.hid hb
 have g1 : (w.alloc (.cells #[.func (.func K1) #[] cap1] 59)).cell? ⟨w.heap.size, 0, none⟩ = some (.func (.func K1) #[] cap1) := by simp [World.cell?_alloc_new]
 have HGC : Hid (CondX rb nb B (w.alloc (.cells #[.func (.func K1) #[] cap1] 59)) (.func (.func 97) #[] #[.pointer (some ⟨w.heap.size, 0, none⟩)]) (notP F)) := Lib.hid
  ⟨_, _, rfl, eK, fun W S t v hW h ht hl => deniedC_any rb nb B S t v _ _ F W ((hW.cell (by simp) (by omega)).trans g1) (hF.keep ((Below.keepX hb rb nb).trans hW)) h ht hl⟩
 clear hF hF' g1 hb
 go_enter Tryz.func52, Tryz.ntmps52
 go_wp2_with fail
 go_ret
 exact ⟨_, _, rfl, HGC.out, HB.out⟩
end
section
open Go.RowKit Go.Shelf Np Rw Vp Pw Fw Ev Ov
inductive CndT : Tr Tm → (Tr Nd → Bool × Int) → Prop where
 | cmp (t : Tm) (p : List St) (k : Nat) : t.op = 16 → readP t.s = (p, k, 0) → (∀ x ∈ p, rightS x = true) → t.s.length ≤ 1000000 → Val (.mk t.c []) → (∀ u, Val u → ∀ z, ofO (alongE p u) = .ok z → Val (flatT z)) →
   CndT (.mk t []) (fun u => cndR t.n t.c (ofO (alongE p u)))
 | and (t : Tm) (a b : Tr Tm) (F G : Tr Nd → Bool × Int) : t.op = 17 → CndT a F → CndT b G → CndT (.mk t [a, b]) (joinP false F G)
 | or (t : Tm) (a b : Tr Tm) (F G : Tr Nd → Bool × Int) : t.op = 18 → CndT a F → CndT b G → CndT (.mk t [a, b]) (joinP true F G)
 | not (t : Tm) (a : Tr Tm) (F : Tr Nd → Bool × Int) : t.op = 19 → CndT a F → CndT (.mk t [a]) (notP F)
def CnE (base rb nb B : Nat) (r : List Tm) (F : Tr Nd → Bool × Int) (w : World) (e : Ending) (w' : World) : Prop :=
 ∃ K cap, e = .returned (.func (.func K) #[] cap) ∧ CondX rb nb B w' (.func (.func K) #[] cap) F ∧ RdF rb r w' ∧ Rk base rb w w'
def CnC (t : Tr Tm) (F : Tr Nd → Bool × Int) : Prop := ∀ (base rb nb B : Nat) (r : List Tm) (w : World), RdF rb (flat t ++ r) w → base ≤ rb → rb < nb → nb ≤ w.heap.size → (flat t ++ r).length ≤ 1000000 → (∀ W, Below base w W → Pv W) →
 Calls Tryz.prog 24 #[.pointer (some ⟨rb, 0, none⟩)] w (CnE base rb nb B r F w)
theorem RdF.lt {rb : Nat} {l : List Tm} {w : World} (h : RdF rb l w) : rb < w.heap.size := by obtain ⟨v, h1, -, -⟩ := h; exact h1.lt
theorem RdF.alloc {base rb : Nat} {l : List Tm} {w : World} (h : RdF rb l w) (hb : base ≤ rb) (o : Obj) : RdF rb l (w.alloc o) ∧ Rk base rb w (w.alloc o) :=
 have hx : Below w.heap.size w (w.alloc o) := (Below.refl _ w).alloc (Nat.le_refl _) o
 ⟨h.below hx, Rk.of hx (by have := h.lt; omega)⟩
theorem RdF.drew {base rb : Nat} {l : List Tm} {w : World} (h : RdF rb l w) (hb : base ≤ rb) : RdF rb l w.drew ∧ Rk base rb w w.drew :=
 have hx : Below w.heap.size w w.drew := (Below.refl _ w).drew
 ⟨h.below hx, Rk.of hx (by have := h.lt; omega)⟩
theorem Rk.refl (base rb : Nat) (w : World) : Rk base rb w w := ⟨KeepX.refl _ _ _, Below.refl _ _⟩
theorem Rk.after {base rb : Nat} {a b c : World} (h : Rk base rb a b) (k : Below b.heap.size b c) (hb : base ≤ b.heap.size) : Rk base rb a c := h.trans (Rk.of k hb)
theorem cnd_and (t : Tm) (a b : Tr Tm) (F G : Tr Nd → Bool × Int) (h1 : t.op = 17) (ha : CnC a F) (hb : CnC b G) : CnC (.mk t [a, b]) (joinP false F G) := by
 intro base rb nb B r w hd hbr hrn hnw hl hT
 rw [flat_mk, flats_cons, flats_cons, flats_nil, List.append_nil, List.cons_append, List.append_assoc] at hd hl
 have HTK := Lib.hid (evTakeX_any base rb t _ w hd hbr (by simp only [List.length_cons] at hl; omega))
 have HA := Lib.hid (fun W (h : RdF rb (flat a ++ (flat b ++ r)) W) (hk : Rk base rb w W) => ha base rb nb B _ W h hbr hrn (Nat.le_trans hnw hk.sz) (by simp only [List.length_cons] at hl; omega) (fun X hX => hT X (hk.b.trans hX)))
 have HB := Lib.hid (fun W (h : RdF rb (flat b ++ r) W) (hk : Rk base rb w W) => hb base rb nb B _ W h hbr hrn (Nat.le_trans hnw hk.sz) (by simp only [List.length_cons, List.length_append] at hl ⊢; omega) (fun X hX => hT X (hk.b.trans hX)))
 clear hd hl hT ha hb
 obtain ⟨op, many, name, s, n, c⟩ := t
 simp only at *
 subst h1
 go_enter Tryz.func24, Tryz.ntmps24
 go_wp2_with fail
 refine HTK.out.mono ?_
 rintro e w1 ⟨rfl, hd1, hk1⟩
 go_wp2_with fail
 obtain ⟨hd2, hk2⟩ := hd1.alloc hbr (.cells #[.int .i64 17, .int .i64 many, .string ⟨name.toArray⟩, .string ⟨s.toArray⟩, .int .i64 n, .int .i64 c.kind, .int .i64 c.many, .string ⟨c.name.toArray⟩, .string ⟨c.s.toArray⟩, .bool c.neg, .int .i64 c.e] 32)
 refine (HA.out _ hd2 (hk1.trans hk2)).mono ?_
 rintro e w2 ⟨K1, cap1, rfl, hc2, hd3, hk3⟩
 have HC2 := Lib.hid hc2
 have HD3 := Lib.hid hd3
 have HK3 := Lib.hid ((hk1.trans hk2).trans hk3)
 clear hc2 hd3 hk3 hd2 hk2 hd1 hk1 HA HTK
 go_wp2_with fail
 refine (HB.out w2 HD3.out HK3.out).mono ?_
 rintro e w3 ⟨K3, cap3, rfl, hc3, hd3, hk3⟩
 have HD4 := Lib.hid hd3
 have HK4 := Lib.hid (HK3.out.trans hk3)
 have HJ := Lib.hid (joined_any rb nb B _ _ false F G w3 (HC2.out.keep (hk3.k hrn)) hc3 (Nat.le_trans hnw HK4.out.sz))
 clear hc3 hd3 hk3 HB HC2
 go_wp2_with fail
 refine HJ.out.mono ?_
 rintro e w4 ⟨K4, cap4, rfl, hc4, hb4⟩
 have HC4 := Lib.hid hc4
 clear hc4 HJ
 go_wp2_with fail
 go_ret
 exact ⟨K4, cap4, rfl, HC4.out, HD4.out.below hb4, HK4.out.after hb4 (by have := HD4.out.lt; omega)⟩
theorem cnd_or (t : Tm) (a b : Tr Tm) (F G : Tr Nd → Bool × Int) (h1 : t.op = 18) (ha : CnC a F) (hb : CnC b G) : CnC (.mk t [a, b]) (joinP true F G) := by
 intro base rb nb B r w hd hbr hrn hnw hl hT
 rw [flat_mk, flats_cons, flats_cons, flats_nil, List.append_nil, List.cons_append, List.append_assoc] at hd hl
 have HTK := Lib.hid (evTakeX_any base rb t _ w hd hbr (by simp only [List.length_cons] at hl; omega))
 have HA := Lib.hid (fun W (h : RdF rb (flat a ++ (flat b ++ r)) W) (hk : Rk base rb w W) => ha base rb nb B _ W h hbr hrn (Nat.le_trans hnw hk.sz) (by simp only [List.length_cons] at hl; omega) (fun X hX => hT X (hk.b.trans hX)))
 have HB := Lib.hid (fun W (h : RdF rb (flat b ++ r) W) (hk : Rk base rb w W) => hb base rb nb B _ W h hbr hrn (Nat.le_trans hnw hk.sz) (by simp only [List.length_cons, List.length_append] at hl ⊢; omega) (fun X hX => hT X (hk.b.trans hX)))
 clear hd hl hT ha hb
 obtain ⟨op, many, name, s, n, c⟩ := t
 simp only at *
 subst h1
 go_enter Tryz.func24, Tryz.ntmps24
 go_wp2_with fail
 refine HTK.out.mono ?_
 rintro e w1 ⟨rfl, hd1, hk1⟩
 go_wp2_with fail
 obtain ⟨hd2, hk2⟩ := hd1.alloc hbr (.cells #[.int .i64 18, .int .i64 many, .string ⟨name.toArray⟩, .string ⟨s.toArray⟩, .int .i64 n, .int .i64 c.kind, .int .i64 c.many, .string ⟨c.name.toArray⟩, .string ⟨c.s.toArray⟩, .bool c.neg, .int .i64 c.e] 32)
 refine (HA.out _ hd2 (hk1.trans hk2)).mono ?_
 rintro e w2 ⟨K1, cap1, rfl, hc2, hd3, hk3⟩
 have HC2 := Lib.hid hc2
 have HD3 := Lib.hid hd3
 have HK3 := Lib.hid ((hk1.trans hk2).trans hk3)
 clear hc2 hd3 hk3 hd2 hk2 hd1 hk1 HA HTK
 go_wp2_with fail
 refine (HB.out w2 HD3.out HK3.out).mono ?_
 rintro e w3 ⟨K3, cap3, rfl, hc3, hd3, hk3⟩
 have HD4 := Lib.hid hd3
 have HK4 := Lib.hid (HK3.out.trans hk3)
 have HJ := Lib.hid (joined_any rb nb B _ _ true F G w3 (HC2.out.keep (hk3.k hrn)) hc3 (Nat.le_trans hnw HK4.out.sz))
 clear hc3 hd3 hk3 HB HC2
 go_wp2_with fail
 refine HJ.out.mono ?_
 rintro e w4 ⟨K4, cap4, rfl, hc4, hb4⟩
 have HC4 := Lib.hid hc4
 clear hc4 HJ
 go_wp2_with fail
 go_ret
 exact ⟨K4, cap4, rfl, HC4.out, HD4.out.below hb4, HK4.out.after hb4 (by have := HD4.out.lt; omega)⟩
theorem cnd_not (t : Tm) (a : Tr Tm) (F : Tr Nd → Bool × Int) (h1 : t.op = 19) (ha : CnC a F) : CnC (.mk t [a]) (notP F) := by
 intro base rb nb B r w hd hbr hrn hnw hl hT
 rw [flat_mk, flats_cons, flats_nil, List.append_nil, List.cons_append] at hd hl
 have HTK := Lib.hid (evTakeX_any base rb t _ w hd hbr (by simp only [List.length_cons] at hl; omega))
 have HA := Lib.hid (fun W (h : RdF rb (flat a ++ r) W) (hk : Rk base rb w W) => ha base rb nb B _ W h hbr hrn (Nat.le_trans hnw hk.sz) (by simp only [List.length_cons] at hl; omega) (fun X hX => hT X (hk.b.trans hX)))
 clear hd hl hT ha
 obtain ⟨op, many, name, s, n, c⟩ := t
 simp only at *
 subst h1
 go_enter Tryz.func24, Tryz.ntmps24
 go_wp2_with fail
 refine HTK.out.mono ?_
 rintro e w1 ⟨rfl, hd1, hk1⟩
 go_wp2_with fail
 obtain ⟨hd2, hk2⟩ := hd1.alloc hbr (.cells #[.int .i64 19, .int .i64 many, .string ⟨name.toArray⟩, .string ⟨s.toArray⟩, .int .i64 n, .int .i64 c.kind, .int .i64 c.many, .string ⟨c.name.toArray⟩, .string ⟨c.s.toArray⟩, .bool c.neg, .int .i64 c.e] 32)
 refine (HA.out _ hd2 (hk1.trans hk2)).mono ?_
 rintro e w2 ⟨K1, cap1, rfl, hc2, hd3, hk3⟩
 have HD3 := Lib.hid hd3
 have HK3 := Lib.hid ((hk1.trans hk2).trans hk3)
 have HJ := Lib.hid (denied_any rb nb B _ F w2 hc2 (Nat.le_trans hnw HK3.out.sz))
 clear hc2 hd3 hk3 hd2 hk2 hd1 hk1 HA HTK
 go_wp2_with fail
 refine HJ.out.mono ?_
 rintro e w4 ⟨K4, cap4, rfl, hc4, hb4⟩
 have HC4 := Lib.hid hc4
 clear hc4 HJ
 go_wp2_with fail
 go_ret
 exact ⟨K4, cap4, rfl, HC4.out, HD3.out.below hb4, HK3.out.after hb4 (by have := HD3.out.lt; omega)⟩
theorem cnd_cmp (t : Tm) (p : List St) (k : Nat) (h1 : t.op = 16) (hr : readP t.s = (p, k, 0)) (hp : ∀ x ∈ p, rightS x = true) (hs : t.s.length ≤ 1000000) (hc : Val (.mk t.c []))
  (hok : ∀ u, Val u → ∀ z, ofO (alongE p u) = .ok z → Val (flatT z)) : CnC (.mk t []) (fun u => cndR t.n t.c (ofO (alongE p u))) := by
 intro base rb nb B r w hd hbr hrn hnw hlr hT
 rw [flat_mk, flats_nil, List.cons_append, List.nil_append] at hd hlr
 have HTK := Lib.hid (evTakeX_any base rb t _ w hd hbr (by simp only [List.length_cons] at hlr; omega))
 have HBP := Lib.hid (fun (W : World) (hW : Rk base rb w W) => byPathX_along rb nb B t.s p k W hr hp hs (hT W hW.b) (Nat.le_trans hnw hW.sz))
 have HCP := Lib.hid (fun (W : World) (give : Value) (hG : GivesX rb nb B W give fun t => ofO (alongE p t)) (hrb : nb ≤ W.heap.size) => comparedX_any rb nb B give t.n t.c (fun t => ofO (alongE p t)) W hG hrb (fun u hu _ => hok u hu) (fun y e he => by
  cases hy : alongE p y with
  | none => rw [hy] at he; injection he with he; subst he; decide
  | some z => rw [hy] at he; cases he) hc)
 clear hd hs hp hr hc hT hok hlr
 obtain ⟨op, many, name, s, n, c⟩ := t
 simp only at *
 subst h1
 go_enter Tryz.func24, Tryz.ntmps24
 go_wp2_with fail
 refine HTK.out.mono ?_
 rintro e w1 ⟨rfl, hd1, hk1⟩
 have HD1 := Lib.hid hd1
 have HK1 := Lib.hid hk1
 have hl1 : rb < w1.heap.size := hd1.lt
 clear hd1 hk1 HTK
 obtain ⟨W0, hW0⟩ : ∃ W0, W0 = w1.alloc (.cells #[.int .i64 16, .int .i64 many, .string ⟨name.toArray⟩, .string ⟨s.toArray⟩, .int .i64 n, .int .i64 c.kind, .int .i64 c.many, .string ⟨c.name.toArray⟩, .string ⟨c.s.toArray⟩, .bool c.neg, .int .i64 c.e] 32) := ⟨_, rfl⟩
 have HD0 : Hid (RdF rb r W0) := Lib.hid (by rw [hW0]; exact (HD1.out.alloc hbr _).1)
 have HK0 : Hid (Rk base rb w W0) := Lib.hid (by rw [hW0]; exact HK1.out.trans (HD1.out.alloc hbr _).2)
 have hlt : w1.heap.size < W0.heap.size := by rw [hW0]; simp
 have HTM : Tm11 W0 w1.heap.size 0 ⟨16, many, name, s, n, c⟩ := by
  have h := heap_alloc_new w1 (.cells #[.int .i64 16, .int .i64 many, .string ⟨name.toArray⟩, .string ⟨s.toArray⟩, .int .i64 n, .int .i64 c.kind, .int .i64 c.many, .string ⟨c.name.toArray⟩, .string ⟨c.s.toArray⟩, .bool c.neg, .int .i64 c.e] 32)
  rw [← hW0] at h
  constructor <;> (rw [Lib.cell_of_heap h]; rfl)
 have HCL : Hid (∀ W, Below W0.heap.size W0 W → W.cell? ⟨w1.heap.size, 3, none⟩ = some (.string ⟨s.toArray⟩) ∧ W.cell? ⟨w1.heap.size, 4, none⟩ = some (.int .i64 n) ∧ W.cell? ⟨w1.heap.size, 5, none⟩ = some (.int .i64 c.kind) ∧ W.cell? ⟨w1.heap.size, 6, none⟩ = some (.int .i64 c.many) ∧ W.cell? ⟨w1.heap.size, 7, none⟩ = some (.string ⟨c.name.toArray⟩) ∧ W.cell? ⟨w1.heap.size, 8, none⟩ = some (.string ⟨c.s.toArray⟩) ∧ W.cell? ⟨w1.heap.size, 9, none⟩ = some (.bool c.neg) ∧ W.cell? ⟨w1.heap.size, 10, none⟩ = some (.int .i64 c.e)) := Lib.hid (fun W hW => by
  obtain ⟨-, -, -, z3, z4, z5, z6, z7, z8, z9, z10⟩ := HTM.below hlt hW
  simp only [Nat.zero_add] at z3 z4 z5 z6 z7 z8 z9 z10
  exact ⟨z3, z4, z5, z6, z7, z8, z9, z10⟩)
 have hl0 : rb < W0.heap.size := by omega
 clear HTM
 go_wp2_with fail
 rw [← hW0]
 clear hW0
 refine wp_region_held_drew (S := fun w' => Below W0.heap.size W0 w') (by kernel_rfl) ((Below.refl _ _).drew) (fun hH => ?_)
 generalize W0.drew = Wd at hH ⊢
 refine rtk 0 (.pointer (some ⟨w1.heap.size, 3, none⟩)) ?_ ?_
 ·intro w' hSw; go_simp
 try simp only [ls1, ls0]
 refine rtk 1 (.string ⟨s.toArray⟩) ?_ ?_
 ·intro w' hSw; obtain ⟨x3, x4, x5, x6, x7, x8, x9, x10⟩ := HCL.out w' hSw; go_simp
 try simp only [ls1, ls0]
 refine rtk 3 (.pointer (some ⟨w1.heap.size, 4, none⟩)) ?_ ?_
 ·intro w' hSw; go_simp
 try simp only [ls1, ls0]
 refine rtk 4 (.int .i64 n) ?_ ?_
 ·intro w' hSw; obtain ⟨x3, x4, x5, x6, x7, x8, x9, x10⟩ := HCL.out w' hSw; go_simp
 try simp only [ls1, ls0]
 refine rtk 5 (.pointer (some ⟨w1.heap.size, 5, none⟩)) ?_ ?_
 ·intro w' hSw; go_simp
 try simp only [ls1, ls0]
 refine rtk 6 (nda c) ?_ ?_
 ·intro w' hSw; obtain ⟨x3, x4, x5, x6, x7, x8, x9, x10⟩ := HCL.out w' hSw; go_simp
 try simp only [ls1, ls0]
 refine wpAnyH_ready (rs := [2]) (by kernel_rfl) (by simp) ?_
 refine AllReadyH.cons rfl (fun K2 hK2 => ?_) AllReadyH.nil
 go_simp
 go_at_call 50
 refine (HBP.out Wd (HK0.out.after hH (by omega))).mono ?_
 rintro e w2 ⟨K, cap, rfl, hg2, hb2⟩
 have HG2 := Lib.hid hg2
 clear hg2
 go_wp2_with fail
 refine hK2.out _ _ (hH.trans (hb2.mono hH.size)) (fun hH2 => ?_)
 clear hK2 K2
 try simp only [ls1, ls0]
 refine wpAnyH_ready (rs := [7]) (by kernel_rfl) (by simp) ?_
 refine AllReadyH.cons rfl (fun K7 hK7 => ?_) AllReadyH.nil
 go_simp
 go_at_call 49
 refine (HCP.out w2 _ HG2.out (Nat.le_trans (Nat.le_trans hnw HK0.out.sz) hH2.size)).mono ?_
 rintro e w3 ⟨K3, cap3, rfl, hg3, hb3⟩
 have HG3 := Lib.hid hg3
 clear hg3
 go_wp2_with fail
 refine hK7.out _ _ (hH2.trans (hb3.mono hH2.size)) (fun hH7 => ?_)
 clear hK7 K7
 try simp only [ls1, ls0]
 refine rtk 8 (.func (.func K3) #[] cap3) ?_ ?_
 ·intro w' hSw; go_simp
 try simp only [ls1, ls0]
 refine wpAnyH_done (by kernel_rfl) ?_ _
 go_wp2_with fail
 go_ret
 exact ⟨K3, cap3, rfl, HG3.out, HD0.out.below hH7, HK0.out.after hH7 (by omega)⟩
theorem evCondX : ∀ {t : Tr Tm} {F : Tr Nd → Bool × Int}, CndT t F → CnC t F := by
 intro t F h
 induction h with
 | cmp t p k h1 hr hp hs hc hok => exact cnd_cmp t p k h1 hr hp hs hc hok
 | and t a b F G h1 _ _ ha hb => exact cnd_and t a b F G h1 ha hb
 | or t a b F G h1 _ _ ha hb => exact cnd_or t a b F G h1 ha hb
 | not t a F h1 _ ha => exact cnd_not t a F h1 ha
end
section
open Go.RowKit Go.Shelf Np Rw Vp Pw Fw Ev Ov
theorem Row.ahead {α : Type} {enc : α → List Value} {sz : Nat} {w : World} {v : Value} {l : List α} (h : Row enc sz w v l) : Ahead w.heap.size v := by
 intro g o n c hv hn
 obtain ⟨A, c', hv', -, -, -, H⟩ := h
 rw [hv] at hv'
 injection hv' with e1 e2 _
 obtain ⟨g', o', hA, hg, -⟩ := H (by omega)
 rw [hA] at e1
 injection e1 with e1
 injection e1 with e1 _ _
 omega
theorem rdF_new {w : World} {v : Value} {l : List Tm} (h : Tms w v l) : RdF w.heap.size l (w.alloc (.cells #[v] 57)) :=
 ⟨v, heap_alloc_new w _, h.below ((Below.refl _ w).alloc (Nat.le_refl _) _), h.ahead⟩
theorem evHoldsX_any (fv v : Value) (t : Tr Tm) (F : Tr Nd → Bool × Int) (u : Tr Nd) (w : World) (hf : Tms w fv (flat t)) (hC : CndT t F) (hl1 : (flat t).length ≤ 1000000)
  (hv : Nds w v (flat u)) (hu : Val u) (hl : (flat u).length ≤ 1000000) (hT : Pv w) :
  Calls Tryz.prog 9 #[fv, v] w fun e w' => e = .returned (.tuple #[.bool (F u).1, .int .i64 (F u).2]) ∧ Below w.heap.size w w' := by
 have hrd := rdF_new hf
 obtain ⟨A, c, rfl, -⟩ := hf
 have HB0 : Hid (Below w.heap.size w (w.alloc (.cells #[.slice A (flat t).length c] 57))) := Lib.hid ((Below.refl _ w).alloc (Nat.le_refl _) _)
 have HFI := Lib.hid (evCondX hC w.heap.size w.heap.size (w.heap.size + 1) (flat u).length [] (w.alloc (.cells #[.slice A (flat t).length c] 57)) (by rw [List.append_nil]; exact hrd) (Nat.le_refl _) (Nat.lt_succ_self _) (by simp) (by simpa using hl1) (fun W hW => hT.below (HB0.out.trans hW)))
 have HG := Lib.hid (fun (W : World) (hW : Below w.heap.size w W) => evGrow_any u v W hu.ok (hv.below hW) (by omega))
 have HU := Lib.hid hu
 obtain ⟨A2, c2, rfl, -⟩ := hv
 clear hu hrd hC hT
 generalize hRR : F u = RR at *
 have HRR := Lib.hid hRR
 clear hRR
 go_enter Tryz.func9, Tryz.ntmps9
 go_wp2_with fail
 refine HFI.out.mono ?_
 rintro e w1 ⟨K, cap, rfl, hg1, hd1, hk1⟩
 have HB1 : Hid (Below w.heap.size w w1) := Lib.hid (HB0.out.trans hk1.b)
 obtain ⟨K', cap', hv', eK, hC⟩ := hg1.g
 injection hv' with e1 _ e3
 injection e1 with e1
 subst e1 e3
 have HC := Lib.hid hC
 clear hC hd1 hk1 hg1 HFI
 go_wp2_with fail
 refine (HG.out w1 HB1.out).mono ?_
 rintro e w2 ⟨gu, rfl, htu, hb2⟩
 have HB2 := Lib.hid (Below.after HB1.out hb2)
 have HCL := Lib.hid (HC.out w2 _ u _ hb2 htu HU.out (Nat.le_refl _))
 rw [HRR.out] at HCL
 clear htu hb2 HC
 go_wp2_with fail
 refine HCL.out.mono ?_
 rintro e w3 ⟨rfl, hb3⟩
 go_wp2_with fail
 go_ret2
 exact ⟨rfl, Below.after HB2.out hb3⟩
end
section
open Go.RowKit Go.Shelf Np Rw Vp Pw Fw Ev Ov
theorem leafE_of {c : Nd} (h : rightL [c] = true) : Val (.mk c []) := by
 obtain ⟨t, ht, he⟩ := val_of_rightL h
 obtain ⟨n, ks⟩ := t
 rw [flat_mk] at he
 injection he with e1 e2
 have hks : ks = [] := by
  cases ks with
  | nil => rfl
  | cons u us => rw [flats_cons] at e2; have := flat_ne u; simp_all
 subst e1 hks
 exact ht
theorem path_read {s : List UInt8} (h : isPth s = true) : ∃ p k, readP s = (p, k, 0) ∧ ∀ x ∈ p, rightS x = true := by
 unfold isPth at h
 rw [decide_eq_true_eq] at h
 rcases readP_good s with ⟨h0, h1, h2, h3⟩ | ⟨h0, -⟩
 ·refine ⟨(readP s).1, (readP s).2.1, by rw [← h0], ?_⟩
  unfold rightP at h2
  rw [Bool.and_eq_true, List.all_eq_true] at h2
  exact h2.1
 ·omega
theorem along_flat_ok (p : List St) : ∀ u, Val u → ∀ z, ofO (alongE p u) = .ok z → Val (flatT z) := by
 intro u hu z hz
 cases hc : alongE p u with
 | none => rw [hc] at hz; cases hz
 | some y => rw [hc] at hz; injection hz with hz; subst hz; exact flatT_val (along_val p hu hc)
theorem flats_split {α : Type} : ∀ {ks : List (Tr α)} {k : Tr α}, k ∈ ks → ∃ A B, flats ks = A ++ flat k ++ B
 | [], _, h => by simp at h
 | x :: ks, k, h => by
  rw [flats_cons]
  rcases List.mem_cons.1 h with rfl | h
  ·exact ⟨[], flats ks, by simp⟩
  ·obtain ⟨A, B, e⟩ := flats_split h
   exact ⟨flat x ++ A, B, by rw [e]; simp⟩
theorem cnd_of_right : ∀ (m : Nat) (t : Tr Tm), (flat t).length ≤ m → okT tmany t → rightTF t = true → isC t.nd.op = true → (∀ x ∈ flat t, x.s.length ≤ 1000000) → ∃ F, CndT t F
 | 0, t, hm, _, _, _, _ => by rw [flat_eq] at hm; simp at hm
 | m + 1, .mk d ks, hm, ho, hr, hc, hs => by
  have hk := flt_kids ho hr
  simp only [Tr.ks_mk, Tr.nd_mk] at hk hc
  rw [rightTF_mk, Bool.and_eq_true] at hr
  have hpl := hr.1
  have hmany : d.many = ks.length := (okT_mk.1 ho).1
  rw [flat_mk] at hm hs
  have hih : ∀ k ∈ ks, ofC d.op = true → ∃ F, CndT k F := by
   intro k hmem hof
   obtain ⟨h1, h2, h3, -, -⟩ := hk k hmem
   obtain ⟨A, B, e⟩ := flats_split hmem
   have hsub : ∀ x ∈ flat k, x ∈ flats ks := fun x hx => by
    rw [e]; simp [hx]
   have hlen : (flat k).length ≤ (flats ks).length := by
    rw [e]; simp; omega
   exact cnd_of_right m k (by simp only [List.length_cons] at hm; omega) h1 h2 (by rw [h3]; exact hof) (fun x hx => hs x (List.mem_cons_of_mem _ (hsub x hx)))
  have hs0 : d.s.length ≤ 1000000 := hs d (List.mem_cons_self ..)
  unfold isC at hc
  rw [decide_eq_true_eq] at hc
  unfold plainT at hpl
  simp only [Bool.and_eq_true] at hpl
  obtain ⟨⟨⟨⟨-, p2⟩, p3⟩, -⟩, p5⟩ := hpl
  rcases (by omega : d.op = 16 ∨ d.op = 17 ∨ d.op = 18 ∨ d.op = 19) with h | h | h | h
  ·rw [h] at p2 p3 p5
   simp [manyOk] at p2
   simp [sOk] at p3
   simp [cOk] at p5
   have : ks = [] := List.eq_nil_of_length_eq_zero (by omega)
   subst this
   obtain ⟨p, k, hp1, hp2⟩ := path_read p3
   unfold flatN at p5
   rw [Bool.and_eq_true] at p5
   exact ⟨_, .cmp d p k h hp1 hp2 hs0 (leafE_of p5.1) (along_flat_ok p)⟩
  ·rw [h] at p2 hih
   simp [manyOk] at p2
   match ks, hmany, hih with
   | [a, b], _, hih =>
    obtain ⟨F, hF⟩ := hih a (by simp) rfl
    obtain ⟨G, hG⟩ := hih b (by simp) rfl
    exact ⟨_, .and d a b F G h hF hG⟩
   | [], hmany, _ => simp at hmany; omega
   | [_], hmany, _ => simp at hmany; omega
   | _ :: _ :: _ :: _, hmany, _ => simp at hmany; omega
  ·rw [h] at p2 hih
   simp [manyOk] at p2
   match ks, hmany, hih with
   | [a, b], _, hih =>
    obtain ⟨F, hF⟩ := hih a (by simp) rfl
    obtain ⟨G, hG⟩ := hih b (by simp) rfl
    exact ⟨_, .or d a b F G h hF hG⟩
   | [], hmany, _ => simp at hmany; omega
   | [_], hmany, _ => simp at hmany; omega
   | _ :: _ :: _ :: _, hmany, _ => simp at hmany; omega
  ·rw [h] at p2 hih
   simp [manyOk] at p2
   match ks, hmany, hih with
   | [a], _, hih =>
    obtain ⟨F, hF⟩ := hih a (by simp) rfl
    exact ⟨_, .not d a F h hF⟩
   | [], hmany, _ => simp at hmany; omega
   | _ :: _ :: _, hmany, _ => simp at hmany; omega
end
end Go.Proofs.YtldioobbfkaebaaGreatDoor
