/-
  Joined: RefW3, Kb, NumOrdP, ObjP, TreeP.
-/
import Derived.Test.YtbffeffplabaeaaOrderTotalJ2
import Derived.Outline
import Derived.Test.YtbffeffplabaeaaOrderTotalJ1
import Derived.Laws.Pointers
import Derived.Sort.Walk0

/-
  What the document's own answers are: Next.
-/
namespace Go.Proofs.Ytbffeffplabaeaa
open Go.RowKit Np Rw Vp

theorem drop_at {α : Type} {l : List α} {k : Nat} {x : α} (h : l[k]? = some x) : l.drop k = x :: l.drop (k + 1) := by
  obtain ⟨hk, rfl⟩ := List.getElem?_eq_some_iff.1 h
  exact List.drop_eq_getElem_cons hk

set_option maxHeartbeats 1000000 in
theorem refNext_any (v : Value) (l : List Nd) (i : Nat) (w : World) (hv : Nds w v l) (hl : l.length ≤ 65536) (hi : i ≤ l.length) :
    Calls Try.prog 40 #[v, .int .i64 i] w fun e w' => e = .returned (.int .i64 (nxtL l.length (l.drop i) 1 i)) ∧ w = w' := by
  generalize hans : nxtL l.length (l.drop i) 1 i = ans
  have HANS := Lib.hid hans; clear hans
  rcases Nat.lt_or_ge i l.length with hlt | hge
  · obtain ⟨g, o, c, rfl, hc, hcm, hg, hx⟩ := hv.opened (by omega)
    have HX := Lib.hid hx; clear hx
    generalize hn : l.length = n at *
    have HN := Lib.hid hn; clear hn
    go_enter Try.func40, Try.ntmps40
    go_wp2
    go_loop [1, 5] (fun i op => ∃ k q : Nat, k ≤ n ∧ q ≤ 1 + k * 65536 ∧ i = .int .i64 k ∧ op = .int .i64 q ∧ nxtL n (l.drop k) q k = ans) (fun i _ => n - (intOf i).toNat)
    case atStart => exact ⟨i, 1, hi, by omega, rfl, rfl, HANS.out⟩
    case round =>
      obtain ⟨k, q, hk, hq, rfl, rfl, hans⟩ := hrel
      have HA := Lib.hid hans; clear hans
      by_cases hq0 : q = 0
      · subst hq0
        have HE : Hid ((k : Int) = ans) := Lib.hid (by rw [← HA.out, nxtL_zero])
        go_wp2
        go_ret
        exact ⟨ret_i64 HE.out, rfl⟩
      · obtain ⟨p, rfl⟩ : ∃ p, q = p + 1 := ⟨q - 1, by omega⟩
        have hqp : (0 : Int) < (p + 1 : Nat) := by omega
        by_cases hkn : k < n
        · obtain ⟨x, hx⟩ : ∃ a, l[k]? = some a := ⟨_, List.getElem?_eq_getElem (by rw [HN.out]; exact hkn)⟩
          obtain ⟨a0, a1, a2, a3, a4, a5⟩ := (HX.out k x hx).nd
          have HD : Hid (nxtL n (l.drop k) (p + 1) k = if x.many < 0 ∨ (n : Int) < x.many then -1 else nxtL n (l.drop (k + 1)) (p + x.many.toNat) (k + 1)) := Lib.hid (by rw [drop_at hx, nxtL_cons])
          clear hx a0 a2 a3 a4 a5
          by_cases hm : x.many < 0
          · have HE : Hid (-1 = ans) := Lib.hid (by rw [← HA.out, HD.out, if_pos (.inl hm)])
            go_wp2
            go_ret
            exact ⟨ret_i64 HE.out, rfl⟩
          · by_cases hm2 : (n : Int) < x.many
            · have HE : Hid (-1 = ans) := Lib.hid (by rw [← HA.out, HD.out, if_pos (.inr hm2)])
              go_wp2
              go_ret
              exact ⟨ret_i64 HE.out, rfl⟩
            · obtain ⟨m, hme⟩ : ∃ m : Nat, x.many = m := ⟨x.many.toNat, by omega⟩
              rw [hme] at a1 hm hm2
              have HE : Hid (nxtL n (l.drop (k + 1)) (p + m) (k + 1) = ans) := Lib.hid (by rw [← HA.out, HD.out, if_neg (by omega), hme]; rfl)
              clear hme
              go_wp2
              go_round
              case rel => exact ⟨k + 1, p + m, by omega, by omega, by go_num, by go_num, HE.out⟩
              case measure => simp [intOf]; omega
        · have HE : Hid (-1 = ans) := Lib.hid (by rw [← HA.out, List.drop_of_length_le (by rw [HN.out]; omega), nxtL_nil])
          go_wp2
          go_ret
          exact ⟨ret_i64 HE.out, rfl⟩
  · have HE : Hid (-1 = ans) := Lib.hid (by rw [← HANS.out, List.drop_of_length_le hge, nxtL_nil])
    obtain ⟨A, c, rfl, -⟩ := hv
    go_enter Try.func40, Try.ntmps40
    go_wp2
    go_loop [1, 5] (fun a op => a = .int .i64 i ∧ op = .int .i64 1) (fun _ _ => 0)
    case atStart => exact ⟨rfl, rfl⟩
    case round =>
      obtain ⟨rfl, rfl⟩ := hrel
      go_wp2
      go_ret
      exact ⟨ret_i64 HE.out, rfl⟩
end Go.Proofs.Ytbffeffplabaeaa

/-
  Words for memory: all but one block is kept. Of no function.
-/
namespace Go.Proofs.Ytbffeffplabaeaa
open Go.RowKit

/-- Below B all but one block is as it was. -/
structure Kb (B rb : Nat) (w w' : World) : Prop where
  os : w'.os = w.os
  tape : w'.tape = w.tape
  output : w'.output = w.output
  size : w.heap.size ≤ w'.heap.size
  block : ∀ k, k < B → k ≠ rb → w'.heap[k]? = w.heap[k]?
theorem Kb.refl (B rb : Nat) (w : World) : Kb B rb w w := ⟨rfl, rfl, rfl, Nat.le_refl _, fun _ _ _ => rfl⟩
theorem Kb.trans {B rb : Nat} {a b c : World} (h : Kb B rb a b) (k : Kb B rb b c) : Kb B rb a c :=
  ⟨k.os.trans h.os, k.tape.trans h.tape, k.output.trans h.output, Nat.le_trans h.size k.size, fun i hi hr => (k.block i hi hr).trans (h.block i hi hr)⟩
theorem Kb.mono {B B' rb : Nat} {w w' : World} (h : Kb B rb w w') (hB : B' ≤ B) : Kb B' rb w w' := ⟨h.os, h.tape, h.output, h.size, fun k hk hr => h.block k (Nat.lt_of_lt_of_le hk hB) hr⟩
/-- One call behind another. -/
theorem Kb.after {rb : Nat} {a b c : World} (h : Kb a.heap.size rb a b) (k : Kb b.heap.size rb b c) : Kb a.heap.size rb a c := h.trans (k.mono h.size)
theorem Kb.of {B rb : Nat} {w w' : World} (h : Below B w w') : Kb B rb w w' := ⟨h.os, h.tape, h.output, h.size, fun k hk _ => h.block k hk⟩
theorem Kb.below {B C rb : Nat} {w w' : World} (h : Kb B rb w w') (h1 : C ≤ B) (h2 : C ≤ rb) : Below C w w' := ⟨h.os, h.tape, h.output, h.size, fun k hk => h.block k (by omega) (by omega)⟩
theorem Kb.drewN {B rb : Nat} {a w : World} (h : Kb B rb a w) (n : Nat) : Kb B rb a (w.drewN n) := ⟨h.os, h.tape, h.output, h.size, h.block⟩
theorem Kb.drew {B rb : Nat} {a w : World} (h : Kb B rb a w) : Kb B rb a w.drew := ⟨h.os, h.tape, h.output, h.size, h.block⟩
theorem Kb.set {B rb : Nat} {a w : World} (h : Kb B rb a w) (o : Nat) (u : Value) : Kb B rb a (w.setCell ⟨rb, o, none⟩ u) :=
  h.trans ⟨rfl, rfl, rfl, by simp [World.setCell], fun k _ hr => Below.heap_setCell _ _ _ _ hr⟩
theorem Kb.setHigh {B rb : Nat} {a w : World} (h : Kb B rb a w) {p : Addr} (hp : B ≤ p.block) (u : Value) : Kb B rb a (w.setCell p u) :=
  h.trans ⟨rfl, rfl, rfl, by simp [World.setCell], fun k hk _ => Below.heap_setCell _ _ _ _ (by omega)⟩
theorem Kb.alloc {B rb : Nat} {a w : World} (h : Kb B rb a w) (hB : B ≤ w.heap.size) (o : Obj) : Kb B rb a (w.alloc o) :=
  h.trans ⟨rfl, rfl, rfl, by simp, fun k hk _ => Below.heap_alloc _ _ _ (by omega)⟩
theorem Kb.grown {B rb : Nat} {a w w' : World} {row : Option Nat} (h : Kb B rb a w) (hg : w.grownBy w' row) (hB : B ≤ w.heap.size) (hr : ∀ k, row = some k → B ≤ k) : Kb B rb a w' :=
  h.trans ⟨hg.os, hg.tape, hg.output, hg.size, fun k hk _ => hg.block k (by omega) (fun e => by have := hr k e.symm; omega)⟩
theorem Kb.cell {B rb : Nat} {w w' : World} (h : Kb B rb w w') {p : Addr} (hp : p.block < B) (hr : p.block ≠ rb) : w'.cell? p = w.cell? p := World.cell?_of_block (w := w) (h.block p.block hp hr)
theorem Kb.frozen {B rb : Nat} {w w' : World} (h : Kb B rb w w') {p : Addr} (hp : p.block < B) (hr : p.block ≠ rb) : w'.frozen? p = w.frozen? p := World.frozen?_of_block (w := w) (h.block p.block hp hr)
end Go.Proofs.Ytbffeffplabaeaa

/-
  Plain words: which of two numbers is greater is an order. No program stands here.
-/
namespace Go.Proofs.Ytbffeffplabaeaa
namespace Np
open Go.RowKit

theorem cmpB_lt (a b : List UInt8) : cmpB a b = -1 ↔ a < b := by
  unfold cmpB
  simp only [bytesLess_eq, decide_eq_true_eq]
  split
  · simp [*]
  · split <;> simp [*]
theorem cmpB_eq (a b : List UInt8) : cmpB a b = 0 ↔ a = b := by
  unfold cmpB
  simp only [bytesLess_eq, decide_eq_true_eq]
  split
  · rename_i h
    constructor
    · intro h; cases h
    · intro e; subst e; exact absurd h (List.lt_irrefl _)
  · split <;> simp [*]
theorem cmpB_gt (a b : List UInt8) : cmpB a b = 1 ↔ b < a := by
  have h0 := cmpB_cases a b
  have h1 := cmpB_lt a b
  have h2 := cmpB_eq a b
  constructor
  · intro h
    rcases Std.lt_trichotomy a b with h3 | h3 | h3
    · rw [h1.2 h3] at h; cases h
    · rw [h2.2 h3] at h; cases h
    · exact h3
  · intro h
    rcases h0 with h3 | h3 | h3
    · exact absurd (h1.1 h3) (List.lt_asymm h)
    · exact absurd h (by rw [h2.1 h3]; exact List.lt_irrefl _)
    · exact h3
theorem cmpI_lt (x y : Int) : Lib.compareInt x y = -1 ↔ x < y := by unfold Lib.compareInt; (repeat' split) <;> omega
theorem cmpI_eq (x y : Int) : Lib.compareInt x y = 0 ↔ x = y := by unfold Lib.compareInt; (repeat' split) <;> omega
theorem cmpI_gt (x y : Int) : Lib.compareInt x y = 1 ↔ y < x := by unfold Lib.compareInt; (repeat' split) <;> omega

/-- What lies at nought, below and above. -/
theorem sgn_zero {a : List UInt8} {g : Bool} : sgn a g = 0 ↔ a = [] := by
  unfold sgn; cases a <;> cases g <;> simp
theorem cmpSz_le (a : List UInt8) (x : Int) (b : List UInt8) (y : Int) : cmpSz a x b y ≤ 0 ↔ a.length + x < b.length + y ∨ a.length + x = b.length + y ∧ ¬ b < a := by
  have h1 := cmpI_lt (a.length + x) (b.length + y)
  have h2 := cmpI_eq (a.length + x) (b.length + y)
  have h3 := compareInt_cases (a.length + x) (b.length + y)
  have h4 := cmpB_cases a b
  have h5 := cmpB_gt a b
  unfold cmpSz
  split
  · rename_i h
    have := h2.1 h
    constructor
    · intro h6; exact .inr ⟨this, fun h7 => by have := h5.2 h7; omega⟩
    · rintro (h6 | ⟨_, h6⟩)
      · omega
      · rcases h4 with h7 | h7 | h7
        · omega
        · omega
        · exact absurd (h5.1 h7) h6
  · rename_i h
    constructor
    · intro h6; exact .inl (h1.1 (by omega))
    · rintro (h6 | ⟨h6, _⟩)
      · have := h1.2 h6; omega
      · exact absurd (h2.2 h6) h
theorem cmpSz_neg (a : List UInt8) (x : Int) (b : List UInt8) (y : Int) : cmpSz b y a x = -cmpSz a x b y := by
  have h1 := cmpI_lt (a.length + x) (b.length + y)
  have h2 := cmpI_eq (a.length + x) (b.length + y)
  have h2' := cmpI_gt (a.length + x) (b.length + y)
  have h1' := cmpI_lt (b.length + y) (a.length + x)
  have h3' := cmpI_eq (b.length + y) (a.length + x)
  have h4' := cmpI_gt (b.length + y) (a.length + x)
  have h3 := compareInt_cases (a.length + x) (b.length + y)
  have c1 := cmpB_lt a b
  have c2 := cmpB_eq a b
  have c3 := cmpB_gt a b
  have d1 := cmpB_lt b a
  have d2 := cmpB_eq b a
  have d3 := cmpB_gt b a
  have c4 := cmpB_cases a b
  unfold cmpSz
  by_cases h : a.length + x = b.length + y
  · rw [if_pos (h3'.2 h.symm), if_pos (h2.2 h)]
    rcases c4 with e | e | e
    · rw [e, d3.2 (c1.1 e)]; rfl
    · rw [e, d2.2 (c2.1 e).symm]; rfl
    · rw [e, d1.2 (c3.1 e)]
  · rw [if_neg (fun e => h (h3'.1 e).symm), if_neg (fun e => h (h2.1 e))]
    rcases h3 with e | e | e
    · rw [e, h4'.2 (h1.1 e)]; rfl
    · exact absurd (h2.1 e) h
    · rw [e, h1'.2 (h2'.1 e)]
theorem cmpSz_zero {a : List UInt8} {x : Int} {b : List UInt8} {y : Int} : cmpSz a x b y = 0 ↔ a = b ∧ x = y := by
  have h2 := cmpI_eq (a.length + x) (b.length + y)
  have c2 := cmpB_eq a b
  unfold cmpSz
  constructor
  · intro h
    by_cases e : a.length + x = b.length + y
    · rw [if_pos (h2.2 e)] at h
      have := c2.1 h
      subst this
      exact ⟨rfl, by omega⟩
    · rw [if_neg (fun h => e (h2.1 h))] at h
      exact absurd (h2.1 h) e
  · rintro ⟨rfl, rfl⟩
    rw [if_pos (h2.2 rfl)]; exact c2.2 rfl
theorem cmpSz_trans {a : List UInt8} {x : Int} {b : List UInt8} {y : Int} {c : List UInt8} {z : Int} (h1 : cmpSz a x b y ≤ 0) (h2 : cmpSz b y c z ≤ 0) : cmpSz a x c z ≤ 0 := by
  rw [cmpSz_le] at *
  rcases h1 with h1 | ⟨h1, h3⟩ <;> rcases h2 with h2 | ⟨h2, h4⟩
  · exact .inl (by omega)
  · exact .inl (by omega)
  · exact .inl (by omega)
  · refine .inr ⟨by omega, fun h => ?_⟩
    rcases Std.lt_trichotomy b c with h5 | h5 | h5
    · exact h3 (List.lt_trans h5 h)
    · subst h5; exact h3 h
    · exact h4 h5
theorem cmpN_range (a : List UInt8) (g : Bool) (x : Int) (b : List UInt8) (g2 : Bool) (y : Int) : cmpN a g x b g2 y = -1 ∨ cmpN a g x b g2 y = 0 ∨ cmpN a g x b g2 y = 1 := by
  unfold cmpN
  split
  · rcases sgn_cases a g with e | e | e <;> rcases cmpSz_cases a x b y with f | f | f <;> rw [e, f] <;> decide
  · exact compareInt_cases _ _
theorem cmpN_neg (a : List UInt8) (g : Bool) (x : Int) (b : List UInt8) (g2 : Bool) (y : Int) : cmpN b g2 y a g x = -cmpN a g x b g2 y := by
  unfold cmpN
  have h1 := cmpI_lt (sgn a g) (sgn b g2)
  have h2 := cmpI_eq (sgn a g) (sgn b g2)
  have h2' := cmpI_gt (sgn a g) (sgn b g2)
  have h1' := cmpI_lt (sgn b g2) (sgn a g)
  have h3' := cmpI_eq (sgn b g2) (sgn a g)
  have h4' := cmpI_gt (sgn b g2) (sgn a g)
  have h3 := compareInt_cases (sgn a g) (sgn b g2)
  by_cases h : sgn a g = sgn b g2
  · rw [if_pos (h3'.2 h.symm), if_pos (h2.2 h), cmpSz_neg, h, Int.mul_neg]
  · rw [if_neg (fun e => h (h3'.1 e).symm), if_neg (fun e => h (h2.1 e))]
    rcases h3 with e | e | e
    · rw [e, h4'.2 (h1.1 e)]; rfl
    · exact absurd (h2.1 e) h
    · rw [e, h1'.2 (h2'.1 e)]
theorem cmpN_le (a : List UInt8) (g : Bool) (x : Int) (b : List UInt8) (g2 : Bool) (y : Int) : cmpN a g x b g2 y ≤ 0 ↔ sgn a g < sgn b g2 ∨ sgn a g = sgn b g2 ∧ (sgn a g = 0 ∨ sgn a g = 1 ∧ cmpSz a x b y ≤ 0 ∨ sgn a g = -1 ∧ cmpSz b y a x ≤ 0) := by
  have h1 := cmpI_lt (sgn a g) (sgn b g2)
  have h2 := cmpI_eq (sgn a g) (sgn b g2)
  have h3 := compareInt_cases (sgn a g) (sgn b g2)
  rw [cmpSz_neg a x b y]
  unfold cmpN
  split
  · rename_i h
    have hh := h2.1 h
    clear h1 h2 h3 h
    rcases sgn_cases a g with e | e | e <;> rw [e] at hh ⊢ <;> omega
  · rename_i h
    omega
theorem cmpN_trans {a : List UInt8} {g : Bool} {x : Int} {b : List UInt8} {g2 : Bool} {y : Int} {c : List UInt8} {g3 : Bool} {z : Int} (h1 : cmpN a g x b g2 y ≤ 0) (h2 : cmpN b g2 y c g3 z ≤ 0) : cmpN a g x c g3 z ≤ 0 := by
  rw [cmpN_le] at *
  have t1 := @cmpSz_trans a x b y c z
  have t2 := @cmpSz_trans c z b y a x
  grind
theorem cmpN_flip (a : List UInt8) (g : Bool) (x : Int) (b : List UInt8) (g2 : Bool) (y : Int) : cmpN a (!g && !a.isEmpty) x b (!g2 && !b.isEmpty) y = -cmpN a g x b g2 y := by
  have e1 : sgn a (!g && !a.isEmpty) = -sgn a g := by unfold sgn; cases a <;> cases g <;> simp
  have e2 : sgn b (!g2 && !b.isEmpty) = -sgn b g2 := by unfold sgn; cases b <;> cases g2 <;> simp
  have h1 := cmpI_lt (sgn a g) (sgn b g2)
  have h2 := cmpI_eq (sgn a g) (sgn b g2)
  have h2' := cmpI_gt (sgn a g) (sgn b g2)
  have h1' := cmpI_lt (-sgn a g) (-sgn b g2)
  have h3' := cmpI_eq (-sgn a g) (-sgn b g2)
  have h4' := cmpI_gt (-sgn a g) (-sgn b g2)
  have h3 := compareInt_cases (sgn a g) (sgn b g2)
  unfold cmpN
  rw [e1, e2]
  by_cases h : sgn a g = sgn b g2
  · rw [if_pos (h3'.2 (by omega)), if_pos (h2.2 h), Int.neg_mul]
  · rw [if_neg (fun e => h (by have := h3'.1 e; omega)), if_neg (fun e => h (h2.1 e))]
    rcases h3 with e | e | e
    · rw [e, h4'.2 (by have := h1.1 e; omega)]; rfl
    · exact absurd (h2.1 e) h
    · rw [e, h1'.2 (by have := h2'.1 e; omega)]
theorem cmpN_zero {k m : Int} {nm a : List UInt8} {g : Bool} {x : Int} {k2 m2 : Int} {nm2 b : List UInt8} {g2 : Bool} {y : Int} (h1 : right ⟨k, m, nm, a, g, x⟩ = true) (h2 : right ⟨k2, m2, nm2, b, g2, y⟩ = true) :
    cmpN a g x b g2 y = 0 ↔ k = k2 ∧ m = m2 ∧ nm = nm2 ∧ a = b ∧ g = g2 ∧ x = y := by
  rw [right_iff] at h1 h2
  simp only at h1 h2
  obtain ⟨rfl, rfl, rfl, h1⟩ := h1
  obtain ⟨rfl, rfl, rfl, h2⟩ := h2
  have e0 := cmpI_eq (sgn a g) (sgn b g2)
  have z1 := @sgn_zero a g
  have z2 := @sgn_zero b g2
  have s1 : a ≠ [] → (sgn a g = -1 ↔ g = true) := by intro h; unfold sgn; cases a <;> cases g <;> simp at *
  have s2 : b ≠ [] → (sgn b g2 = -1 ↔ g2 = true) := by intro h; unfold sgn; cases b <;> cases g2 <;> simp at *
  have q := @cmpSz_zero a x b y
  have c1 := sgn_cases a g
  unfold cmpN
  constructor
  · intro h
    refine ⟨rfl, rfl, rfl, ?_⟩
    by_cases he : sgn a g = sgn b g2
    · rw [if_pos (e0.2 he)] at h
      rcases h1 with ⟨rfl, rfl, rfl⟩ | ⟨h1, _⟩
      · have : b = [] := z2.1 (by rw [← he]; exact z1.2 rfl)
        subst this
        rcases h2 with ⟨_, rfl, rfl⟩ | ⟨h2, _⟩
        · exact ⟨rfl, rfl, rfl⟩
        · exact absurd rfl h2
      · have hz : sgn a g ≠ 0 := fun e => h1 (z1.1 e)
        have hb : b ≠ [] := fun e => hz (by rw [he]; exact z2.2 e)
        have hc : cmpSz a x b y = 0 := by
          rcases Int.mul_eq_zero.1 h with h | h
          · exact absurd h hz
          · exact h
        obtain ⟨rfl, rfl⟩ := q.1 hc
        refine ⟨rfl, ?_, rfl⟩
        have := s1 h1
        have := s2 hb
        rw [he] at *
        cases g <;> cases g2 <;> simp_all
    · rw [if_neg (fun e => he (e0.1 e))] at h
      exact absurd (e0.1 h) he
  · rintro ⟨_, _, _, rfl, rfl, rfl⟩
    rw [if_pos (e0.2 rfl), q.2 ⟨rfl, rfl⟩, Int.mul_zero]

end Np
end Go.Proofs.Ytbffeffplabaeaa

/-
  Plain words: rows that are laid of named parts; an object of any names and parts, by their names. No program stands here.
-/
namespace Go.Proofs.Ytbffeffplabaeaa
open Go.RowKit Np Rw Vp

/-- A node without a name, of a kind and so many parts. -/
def hdN (kind : Int) (m : Nat) : Nd := ⟨kind, m, [], [], false, 0⟩
abbrev zeroN : Nd := ⟨0, 0, [], [], false, 0⟩
/-- A row whose first node has that name. -/
def setNm (nm : List UInt8) : List Nd → List Nd
  | [] => []
  | n :: l => { n with name := nm } :: l
theorem setNm_len (nm : List UInt8) (l : List Nd) : (setNm nm l).length = l.length := by cases l <;> rfl
abbrev Pr := List UInt8 × List Nd
/-- A list or an object of named parts. -/
def laid (ps : List Pr) : List Nd := (ps.map fun p => setNm p.1 p.2).flatten
theorem laid_snoc (ps : List Pr) (p : Pr) : laid (ps ++ [p]) = laid ps ++ setNm p.1 p.2 := by simp [laid]
theorem laid_nil : laid [] = [] := rfl
theorem laid_cons (p : Pr) (ps : List Pr) : laid (p :: ps) = setNm p.1 p.2 ++ laid ps := by simp [laid]
theorem laid_append (ps qs : List Pr) : laid (ps ++ qs) = laid ps ++ laid qs := by simp [laid]
theorem laid_len (ps : List Pr) : (laid ps).length = (ps.map fun p => p.2.length).sum := by
  induction ps with
  | nil => rfl
  | cons p ps ih => 
    rw [laid_cons, List.length_append, ih, setNm_len]; simp
theorem laid_len' (L : List (List Nd)) : (laid (L.map fun l => ([], l))).length = (L.map List.length).sum := by
  rw [laid_len, List.map_map]; rfl

/-- Named parts, by their names. -/
def srt (ps : List Pr) : List Pr := ps.mergeSort (fun a b => decide (a.1 ≤ b.1))
def rises (ps : List Pr) : Prop := ps.Pairwise (fun a b => a.1 < b.1)
theorem le_of_not {a b : List UInt8} (h : ¬ b < a) : a ≤ b := List.not_lt.1 h
theorem lt_of_ne {a b : List UInt8} (h : ¬ b < a) (hne : a ≠ b) : a < b := by
  rcases Classical.em (a < b) with h1 | h1
  · exact h1
  · exact absurd (List.le_antisymm (le_of_not h) (le_of_not h1)) hne
theorem srt_of {ps qs : List Pr} (hp : ps.Perm qs) (hr : rises ps) : srt qs = ps := by
  have h1 : (srt qs).Perm ps := (List.mergeSort_perm qs _).trans hp.symm
  have h2 : (srt qs).Pairwise (fun a b => decide (a.1 ≤ b.1) = true) := List.pairwise_mergeSort
    (fun a b c h1 h2 => by simp only [decide_eq_true_eq] at *; exact List.le_trans h1 h2)
    (fun a b => by
      rcases List.le_total a.1 b.1 with h | h
      · simp [h]
      · simp [h]) qs
  have h3 : ps.Pairwise (fun a b => decide (a.1 ≤ b.1) = true) := hr.imp fun h => by simpa using List.le_of_lt h
  refine List.Perm.eq_of_pairwise (le := fun a b => decide (a.1 ≤ b.1) = true) ?_ h2 h3 h1
  intro a b ha hb h4 h5
  simp only [decide_eq_true_eq] at h4 h5
  have ha' : a ∈ ps := h1.mem_iff.1 ha
  have he : a.1 = b.1 := List.le_antisymm h4 h5
  have key : ∀ (l : List Pr), rises l → ∀ a ∈ l, ∀ b ∈ l, a.1 = b.1 → a = b := by
    intro l
    induction l with
    | nil => intro _ a ha; simp at ha
    | cons x l ih =>
      intro hr a ha b hb he
      obtain ⟨hx, hl⟩ := List.pairwise_cons.1 hr
      rcases List.mem_cons.1 ha with h1 | h1 <;> rcases List.mem_cons.1 hb with h2 | h2
      · rw [h1, h2]
      · have := hx b h2; rw [← he, h1] at this; exact absurd this (List.lt_irrefl _)
      · have := hx a h1; rw [he, h2] at this; exact absurd this (List.lt_irrefl _)
      · exact ih hl a h1 b h2 he
  exact key ps hr a ha' b hb he
/-- No two of the same, and all are text. -/
def okNames (names : List (List UInt8)) : Bool := decide names.Nodup && names.all vld
def objB (names : List (List UInt8)) (L : List (List Nd)) : Bool := decide (names.length = L.length) && okNames names
def objV (names : List (List UInt8)) (L : List (List Nd)) : List Nd := if objB names L = true then hdN 6 L.length :: laid (srt (names.zip L)) else []
def objE (names : List (List UInt8)) (L : List (List Nd)) : Int := if objB names L = true then 0 else 4

theorem strict : ∀ (q : List (List UInt8)), q.Pairwise (fun a b => ¬ b < a) → (∀ i a b, q[i]? = some a → q[i + 1]? = some b → a ≠ b) → q.Pairwise (· < ·)
  | [], _, _ => List.Pairwise.nil
  | [a], _, _ => by simp
  | a :: c :: q, h, hn => by
    obtain ⟨h1, h2⟩ := List.pairwise_cons.1 h
    have ih := strict (c :: q) h2 (fun i x y hx hy => hn (i + 1) x y (by simpa using hx) (by simpa using hy))
    obtain ⟨h3, h4⟩ := List.pairwise_cons.1 ih
    have hac : a < c := lt_of_ne (h1 c (by simp)) (hn 0 a c rfl rfl)
    refine List.pairwise_cons.2 ⟨fun b hb => ?_, ih⟩
    rcases List.mem_cons.1 hb with rfl | hb
    · exact hac
    · exact List.lt_trans hac (h3 b hb)

abbrev atN (names : List (List UInt8)) (j : Nat) : List UInt8 := names.getD j []
abbrev atL (L : List (List Nd)) (j : Nat) : List Nd := L.getD j []
theorem range_names (names : List (List UInt8)) : (List.range names.length).map (atN names) = names := by
  apply List.ext_getElem
  · simp
  · intro i h1 h2
    simp [atN, List.getD_eq_getElem?_getD, h2]
theorem range_zip (names : List (List UInt8)) (L : List (List Nd)) (h : names.length = L.length) : (List.range names.length).map (fun j => (atN names j, atL L j)) = names.zip L := by
  apply List.ext_getElem
  · simp [h]
  · intro i h1 h2
    simp at h1
    simp [atN, atL, List.getD_eq_getElem?_getD, h1, show i < L.length by omega]
/-- The places, so that the names rise. -/
structure Places (names : List (List UInt8)) (p : List Nat) : Prop where
  perm : p.Perm (List.range names.length)
  rise : p.Pairwise (fun i j => ¬ atN names j < atN names i)
theorem Places.length {names : List (List UInt8)} {p : List Nat} (h : Places names p) : p.length = names.length := by rw [h.perm.length_eq]; simp
theorem Places.lt {names : List (List UInt8)} {p : List Nat} (h : Places names p) {j : Nat} (hj : j ∈ p) : j < names.length := by simpa using h.perm.mem_iff.1 hj
theorem Places.names {names : List (List UInt8)} {p : List Nat} (h : Places names p) : (p.map (atN names)).Perm names := by
  have := h.perm.map (atN names)
  rwa [range_names] at this
theorem Places.same {names : List (List UInt8)} {p : List Nat} (h : Places names p) {k i j : Nat} (hi : p[k]? = some i) (hj : p[k + 1]? = some j) (he : atN names i = atN names j) : okNames names = false := by
  have : ¬ names.Nodup := fun hn => by
    have h2 := h.names.nodup_iff.2 hn
    have h3 : (p.map (atN names))[k]? = some (atN names i) := by rw [List.getElem?_map, hi]; rfl
    have h4 : (p.map (atN names))[k + 1]? = some (atN names j) := by rw [List.getElem?_map, hj]; rfl
    obtain ⟨l3, e3⟩ := List.getElem?_eq_some_iff.1 h3
    obtain ⟨l4, e4⟩ := List.getElem?_eq_some_iff.1 h4
    have h5 := List.pairwise_iff_getElem.1 h2 k (k + 1) l3 l4 (by omega)
    rw [e3, e4] at h5
    exact h5 he
  unfold okNames
  simp [this]
theorem Places.wrong {names : List (List UInt8)} {p : List Nat} (h : Places names p) {i : Nat} (hi : i ∈ p) (hv : vld (atN names i) = false) : okNames names = false := by
  unfold okNames
  have hlt := h.lt hi
  have : names.all vld = false := by
    rw [List.all_eq_false]
    refine ⟨atN names i, ?_, by rw [hv]; decide⟩
    rw [atN, List.getD_eq_getElem?_getD, List.getElem?_eq_getElem hlt]
    exact List.getElem_mem hlt
  simp [this]
theorem Places.good {names : List (List UInt8)} {p : List Nat} (h : Places names p) (hv : ∀ i ∈ p, vld (atN names i) = true) (hn : ∀ k i j, p[k]? = some i → p[k + 1]? = some j → atN names i ≠ atN names j) :
    okNames names = true ∧ (p.map (atN names)).Pairwise (· < ·) := by
  have hs : (p.map (atN names)).Pairwise (· < ·) := by
    refine strict _ (List.pairwise_map.2 h.rise) fun k a b ha hb => ?_
    rw [List.getElem?_map] at ha hb
    obtain ⟨i, hi, rfl⟩ := Option.map_eq_some_iff.1 ha
    obtain ⟨j, hj, rfl⟩ := Option.map_eq_some_iff.1 hb
    exact hn k i j hi hj
  refine ⟨?_, hs⟩
  unfold okNames
  rw [Bool.and_eq_true, decide_eq_true_eq]
  refine ⟨h.names.nodup_iff.1 (List.Pairwise.imp (R := (· < ·)) (fun {a b} hab (e : a = b) => by subst e; exact List.lt_irrefl a hab) hs), ?_⟩
  rw [List.all_eq_true]
  intro x hx
  obtain ⟨i, hi, rfl⟩ := List.mem_map.1 (h.names.mem_iff.2 hx)
  exact hv i hi
theorem Places.pairs {names : List (List UInt8)} {L : List (List Nd)} {p : List Nat} (h : Places names p) (hl : names.length = L.length) (hs : (p.map (atN names)).Pairwise (· < ·)) :
    srt (names.zip L) = p.map (fun j => (atN names j, atL L j)) := by
  refine srt_of ?_ (List.pairwise_map.2 (List.pairwise_map.1 hs))
  have := h.perm.map (fun j => (atN names j, atL L j))
  rwa [range_zip names L hl] at this
theorem sum_part {α : Type} (f : α → Nat) (p : List α) (k : Nat) : ((p.take k).map f).sum ≤ (p.map f).sum := by
  conv => rhs; rw [← List.take_append_drop k p]
  rw [List.map_append, List.sum_append]
  omega
theorem Places.sum {names : List (List UInt8)} {L : List (List Nd)} {p : List Nat} (h : Places names p) (hl : names.length = L.length) : (p.map fun x => (atL L x).length).sum = (L.map List.length).sum := by
  rw [(h.perm.map (fun x => (atL L x).length)).sum_nat, hl]
  congr 1
  apply List.ext_getElem
  · simp
  · intro i h1 h2
    simp at h1
    simp [atL, List.getD_eq_getElem?_getD, h1]
theorem Places.long {names : List (List UInt8)} {L : List (List Nd)} {p : List Nat} (h : Places names p) (hl : names.length = L.length) (k : Nat) : (laid ((p.take k).map fun x => (atN names x, atL L x))).length ≤ (L.map List.length).sum := by
  rw [laid_len, List.map_map]
  have := sum_part (fun x => (atL L x).length) p k
  rw [h.sum hl] at this
  exact this
end Go.Proofs.Ytbffeffplabaeaa

/-
  Plain words: objects as trees: parts by their names; one with another part, or without one; what is right of them. No program stands here.
-/
namespace Go.Proofs.Ytbffeffplabaeaa
namespace Vp
open Go.RowKit Np Rw

def nmN (nm : List UInt8) (n : Nd) : Nd := { n with name := nm }
def nmd (nm : List UInt8) (t : Tr Nd) : Tr Nd := .mk (nmN nm t.nd) t.ks
theorem nmd_nd (nm : List UInt8) (t : Tr Nd) : (nmd nm t).nd = nmN nm t.nd := rfl
theorem nmd_name (nm : List UInt8) (t : Tr Nd) : (nmd nm t).nd.name = nm := rfl
theorem nmd_ks (nm : List UInt8) (t : Tr Nd) : (nmd nm t).ks = t.ks := rfl
theorem nmd_self (t : Tr Nd) : nmd t.nd.name t = t := by cases t; rfl
theorem nmd_nmd (a b : List UInt8) (t : Tr Nd) : nmd a (nmd b t) = nmd a t := rfl
theorem flat_nmd (nm : List UInt8) (t : Tr Nd) : flat (nmd nm t) = setNm nm (flat t) := by rw [nmd, flat_mk, flat_eq t]; rfl
theorem flat_nmd_len (nm : List UInt8) (t : Tr Nd) : (flat (nmd nm t)).length = (flat t).length := by rw [flat_nmd, setNm_len]
theorem plainN_nm (nm : List UInt8) (n : Nd) : plainN (nmN nm n) = plainN n := by unfold plainN nmN; rfl
theorem okT_nmd {nm : List UInt8} {t : Tr Nd} (h : okT many t) : okT many (nmd nm t) := okT_mk.2 (okT_eq.1 h)
theorem rightT_nmd (nm : List UInt8) (t : Tr Nd) : rightT (nmd nm t) = rightT t := by rw [nmd, rightT_mk, rightT_eq, plainN_nm]; rfl
theorem Val.clr {u : Tr Nd} (h1 : okT many u) (h2 : rightT u = true) : Val (nmd [] u) := ⟨okT_nmd h1, by rw [rightT_nmd]; exact h2, rfl⟩
theorem nmd_val {t : Tr Nd} (h : Val t) (nm : List UInt8) : nmd [] (nmd nm t) = t := by
  rw [nmd_nmd]; conv => rhs; rw [← nmd_self t, h.nm]

/-- Names that rise, of parts. -/
def Rise (ts : List (Tr Nd)) : Prop := ts.Pairwise (fun a b => a.nd.name < b.nd.name)
def Named (ts : List (Tr Nd)) : Prop := Rise ts ∧ ∀ t ∈ ts, vld t.nd.name = true
theorem nameOk_six (t : Tr Nd) : nameOk 6 t = vld t.nd.name := by simp [nameOk]
theorem rising_named : ∀ ts : List (Tr Nd), rising 6 ts = true ↔ Named ts
  | [] => by simp [rising, Named, Rise]
  | [t] => by simp [rising, Named, Rise, nameOk_six]
  | t :: u :: ts => by
    have ih := rising_named (u :: ts)
    rw [rising, Bool.and_eq_true, Bool.and_eq_true, nameOk_six, ih]
    unfold Named Rise
    rw [List.pairwise_cons (l := u :: ts)]
    constructor
    · rintro ⟨⟨h1, h2⟩, h3, h4⟩
      have h2' : t.nd.name < u.nd.name := by simpa using h2
      refine ⟨⟨fun b hb => ?_, h3⟩, fun x hx => ?_⟩
      · rcases List.mem_cons.1 hb with rfl | hb
        · exact h2'
        · exact List.lt_trans h2' ((List.pairwise_cons.1 h3).1 b hb)
      · rcases List.mem_cons.1 hx with rfl | hx
        · exact h1
        · exact h4 x hx
    · rintro ⟨⟨h1, h2⟩, h3⟩
      exact ⟨⟨h3 t (by simp), by simpa using h1 u (by simp)⟩, h2, fun x hx => h3 x (by simp [hx])⟩

theorem plainN_hd (n : Nat) : plainN (hdN 6 n) = true := by simp [plainN, hdN]
theorem plainN_hd5 (n : Nat) : plainN (hdN 5 n) = true := by simp [plainN, hdN]
def Parts (ts : List (Tr Nd)) : Prop := ∀ t ∈ ts, okT many t ∧ rightT t = true
/-- An object of named parts. -/
def objT (ts : List (Tr Nd)) : Tr Nd := .mk (hdN 6 ts.length) ts
def arrT (ts : List (Tr Nd)) : Tr Nd := .mk (hdN 5 ts.length) ts
theorem flat_objT (ts : List (Tr Nd)) : flat (objT ts) = hdN 6 ts.length :: flats ts := flat_mk _ _
theorem flat_arrT (ts : List (Tr Nd)) : flat (arrT ts) = hdN 5 ts.length :: flats ts := flat_mk _ _
theorem val_objT {ts : List (Tr Nd)} (hp : Parts ts) (hn : Named ts) : Val (objT ts) := by
  refine ⟨okT_mk.2 ⟨rfl, okTs_all.2 fun t ht => (hp t ht).1⟩, ?_, rfl⟩
  rw [objT, rightT_mk, plainN_hd, Bool.true_and]
  show rightKs 6 false [] ts = true
  rw [rightKs_obj, (rising_named ts).2 hn, Bool.true_and, List.all_eq_true]
  exact fun t ht => (hp t ht).2
theorem rising_five : ∀ ts : List (Tr Nd), (∀ t ∈ ts, t.nd.name = []) → rising 5 ts = true
  | [], _ => rfl
  | [t], h => by rw [rising, nameOk, h t (by simp)]; rfl
  | t :: u :: ts, h => by
    rw [rising, nameOk, h t (by simp), rising_five (u :: ts) (fun x hx => h x (by simp [hx]))]; rfl
theorem five_rising : ∀ ts : List (Tr Nd), rising 5 ts = true → ∀ t ∈ ts, t.nd.name = []
  | [], _, t, ht => by simp at ht
  | [u], h, t, ht => by
    simp at ht; subst ht
    simp [rising, nameOk] at h; exact h.1
  | u :: x :: ts, h, t, ht => by
    rw [rising, Bool.and_eq_true, Bool.and_eq_true] at h
    rcases List.mem_cons.1 ht with rfl | ht
    · have := h.1.1; simp [nameOk] at this; exact this.1
    · exact five_rising (x :: ts) h.2 t ht
theorem val_arrT {ts : List (Tr Nd)} (hp : ∀ t ∈ ts, Val t) : Val (arrT ts) := by
  refine ⟨okT_mk.2 ⟨rfl, okTs_all.2 fun t ht => (hp t ht).ok⟩, ?_, rfl⟩
  rw [arrT, rightT_mk, plainN_hd5, Bool.true_and]
  show rightKs 5 false [] ts = true
  rw [rightKs_arr, rising_five ts (fun t ht => (hp t ht).nm), Bool.true_and, List.all_eq_true]
  exact fun t ht => (hp t ht).rt
/-- What an object is. -/
theorem Val.parts {t : Tr Nd} (h : Val t) : Parts t.ks := val_kids h
theorem Val.plain {t : Tr Nd} (h : Val t) : plainN t.nd = true := by
  have := h.rt; rw [rightT_eq, Bool.and_eq_true] at this; exact this.1
theorem Val.named {t : Tr Nd} (h : Val t) (hk : t.nd.kind = 6) : Named t.ks := by
  have := h.rt
  rw [rightT_eq, Bool.and_eq_true, hk, rightKs_obj, Bool.and_eq_true] at this
  exact (rising_named _).1 this.2.1
theorem Val.unnamed {t : Tr Nd} (h : Val t) (hk : t.nd.kind = 5) : ∀ u ∈ t.ks, u.nd.name = [] := by
  have := h.rt
  rw [rightT_eq, Bool.and_eq_true, hk, rightKs_arr, Bool.and_eq_true] at this
  exact five_rising _ this.2.1
theorem Val.hd {t : Tr Nd} (h : Val t) (hk : t.nd.kind = 5 ∨ t.nd.kind = 6) : t.nd = hdN t.nd.kind t.ks.length := by
  have h1 := h.plain
  have h2 := (okT_eq.1 h.ok).1
  have h3 := h.nm
  obtain ⟨⟨k, m, nm, s, g, e⟩, ks⟩ := t
  simp only [Tr.nd_mk, Tr.ks_mk] at *
  unfold plainN at h1
  simp only at h1 h2 h3
  rw [if_neg (by omega), if_neg (by omega), if_neg (by omega), if_pos hk] at h1
  simp at h1
  obtain ⟨⟨⟨h4, h5⟩, h6⟩, h7⟩ := h1
  have h8 : m = ks.length := h2
  subst h3 h5 h6 h7 h8
  rfl
theorem Val.obj {t : Tr Nd} (h : Val t) (hk : t.nd.kind = 6) : t = objT t.ks := by
  have := h.hd (.inr hk)
  rw [hk] at this
  rw [objT, ← this]; exact Tr.eta t
theorem Val.arr {t : Tr Nd} (h : Val t) (hk : t.nd.kind = 5) : t = arrT t.ks := by
  have := h.hd (.inl hk)
  rw [hk] at this
  rw [arrT, ← this]; exact Tr.eta t
theorem Val.leaf {t : Tr Nd} (h : Val t) (h5 : t.nd.kind ≠ 5) (h6 : t.nd.kind ≠ 6) : t.ks = [] := by
  have h1 := (plainN_many h.plain).2 h5 h6
  have h2 : t.nd.many = t.ks.length := (okT_eq.1 h.ok).1
  exact List.eq_nil_of_length_eq_zero (by omega)

/-- Parts ahead of a name, of it, and behind it. -/
structure Cut (nm : List UInt8) (ts pre mid post : List (Tr Nd)) : Prop where
  all : ts = pre ++ (mid ++ post)
  lo : ∀ u ∈ pre, u.nd.name < nm
  eq : ∀ u ∈ mid, u.nd.name = nm
  one : mid.length ≤ 1
  hi : ∀ u ∈ post, nm < u.nd.name
theorem cut_ex (nm : List UInt8) : ∀ ts : List (Tr Nd), Rise ts → ∃ pre mid post, Cut nm ts pre mid post
  | [], _ => ⟨[], [], [], rfl, by simp, by simp, by simp, by simp⟩
  | t :: ts, h => by
    obtain ⟨h1, h2⟩ := List.pairwise_cons.1 h
    by_cases he : t.nd.name = nm
    · exact ⟨[], [t], ts, rfl, by simp, by simpa using he, by simp, fun u hu => he ▸ h1 u hu⟩
    · by_cases hl : nm < t.nd.name
      · refine ⟨[], [], t :: ts, rfl, by simp, by simp, by simp, fun u hu => ?_⟩
        rcases List.mem_cons.1 hu with rfl | hu
        · exact hl
        · exact List.lt_trans hl (h1 u hu)
      · obtain ⟨pre, mid, post, hc⟩ := cut_ex nm ts h2
        refine ⟨t :: pre, mid, post, by rw [hc.all]; rfl, fun u hu => ?_, hc.eq, hc.one, hc.hi⟩
        rcases List.mem_cons.1 hu with rfl | hu
        · exact lt_of_ne hl he
        · exact hc.lo u hu
theorem Cut.find {nm : List UInt8} {ts pre mid post : List (Tr Nd)} (h : Cut nm ts pre mid post) (p : Nat) : findK nm p ts = (p + (flats pre).length, p + (flats pre).length + (flats mid).length) := by
  have hp : ∀ t ∈ pre, passes nm t := fun t ht => ⟨fun e => List.lt_irrefl _ (e ▸ h.lo t ht), fun h' => List.lt_irrefl _ (List.lt_trans h' (h.lo t ht))⟩
  rw [h.all]
  rcases mid with _ | ⟨m, mid⟩
  · rw [List.nil_append]
    rcases post with _ | ⟨q, post⟩
    · rw [List.append_nil, findK_all hp]; simp
    · rw [findK_over hp (h.hi q (by simp))]; simp
  · have : mid = [] := List.eq_nil_of_length_eq_zero (by have := h.one; simp at this; simp [this])
    subst this
    rw [List.cons_append, findK_hit hp (h.eq m (by simp))]; simp

theorem rise_put {nm : List UInt8} {pre mid post : List (Tr Nd)} (h1 : Rise pre) (h2 : Rise post) (h3 : ∀ u ∈ pre, u.nd.name < nm) (h4 : ∀ u ∈ post, nm < u.nd.name) (h5 : ∀ u ∈ mid, u.nd.name = nm) (h6 : mid.length ≤ 1) : Rise (pre ++ (mid ++ post)) := by
  unfold Rise at *
  rw [List.pairwise_append, List.pairwise_append]
  refine ⟨h1, ⟨?_, h2, fun a ha b hb => by rw [h5 a ha]; exact h4 b hb⟩, fun a ha b hb => ?_⟩
  · rcases mid with _ | ⟨m, mid⟩
    · simp
    · have : mid = [] := List.eq_nil_of_length_eq_zero (by simp at h6; simp [h6])
      subst this; simp
  · rcases List.mem_append.1 hb with hb | hb
    · rw [h5 b hb]; exact h3 a ha
    · exact List.lt_trans (h3 a ha) (h4 b hb)
theorem Rise.split {a b : List (Tr Nd)} (h : Rise (a ++ b)) : Rise a ∧ Rise b := by
  obtain ⟨h1, h2, -⟩ := List.pairwise_append.1 h; exact ⟨h1, h2⟩
theorem Cut.pre_rise {nm : List UInt8} {ts pre mid post : List (Tr Nd)} (h : Cut nm ts pre mid post) (hr : Rise ts) : Rise pre := by rw [h.all] at hr; exact hr.split.1
theorem Cut.post_rise {nm : List UInt8} {ts pre mid post : List (Tr Nd)} (h : Cut nm ts pre mid post) (hr : Rise ts) : Rise post := by rw [h.all] at hr; exact hr.split.2.split.2
/-- A cut is the only one. -/
theorem Cut.uniq {nm : List UInt8} {ts pre mid post pre' mid' post' : List (Tr Nd)} (h : Cut nm ts pre mid post) (h' : Cut nm ts pre' mid' post') : pre = pre' ∧ mid = mid' ∧ post = post' := by
  have key : ∀ {pre mid post : List (Tr Nd)}, Cut nm ts pre mid post → pre = ts.filter (fun u => decide (u.nd.name < nm)) ∧ mid = ts.filter (fun u => decide (u.nd.name = nm)) ∧ post = ts.filter (fun u => decide (nm < u.nd.name)) := by
    intro pre mid post h
    have e1 : ∀ (p : Tr Nd → Bool) (l : List (Tr Nd)), (∀ u ∈ l, p u = true) → l.filter p = l := fun p l h => List.filter_eq_self.2 h
    have e2 : ∀ (p : Tr Nd → Bool) (l : List (Tr Nd)), (∀ u ∈ l, p u = false) → l.filter p = [] := fun p l h => List.filter_eq_nil_iff.2 (fun u hu => by simp [h u hu])
    have hlt : ∀ {a b : List UInt8}, a < b → ¬ b < a := fun h1 h2 => List.lt_irrefl _ (List.lt_trans h1 h2)
    have hne : ∀ {a b : List UInt8}, a < b → ¬ a = b := fun h1 h2 => List.lt_irrefl _ (h2 ▸ h1)
    rw [h.all]
    simp only [List.filter_append]
    refine ⟨?_, ?_, ?_⟩
    · rw [e1 _ pre (fun u hu => by simpa using h.lo u hu), e2 _ mid (fun u hu => by simp [h.eq u hu, List.lt_irrefl]), e2 _ post (fun u hu => by simpa using hlt (h.hi u hu))]; simp
    · rw [e2 _ pre (fun u hu => by simpa using hne (h.lo u hu)), e1 _ mid (fun u hu => by simpa using h.eq u hu), e2 _ post (fun u hu => by simpa using fun e => hne (h.hi u hu) e.symm)]; simp
    · rw [e2 _ pre (fun u hu => by simpa using hlt (h.lo u hu)), e2 _ mid (fun u hu => by simp [h.eq u hu, List.lt_irrefl]), e1 _ post (fun u hu => by simpa using h.hi u hu)]; simp
  obtain ⟨a1, a2, a3⟩ := key h
  obtain ⟨b1, b2, b3⟩ := key h'
  exact ⟨a1.trans b1.symm, a2.trans b2.symm, a3.trans b3.symm⟩
end Vp
end Go.Proofs.Ytbffeffplabaeaa
