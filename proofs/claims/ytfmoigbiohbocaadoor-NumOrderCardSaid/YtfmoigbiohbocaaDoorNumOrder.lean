/-
  The walk of the statement NumOrder: it returns true.
-/
import Derived.Test.YtfmoigbiohbocaaDoorNumEq
import Derived.Test.YtfmoigbiohbocaaDoorNumOrdP
namespace Go.Proofs.YtfmoigbiohbocaaDoor
open Go.RowKit Np

/-- What stays while the statement runs: three nodes' cells, the table, what lay below. -/
structure O3 (w0 : World) (k m : Int) (nm s : ByteArray) (g : Bool) (x : Int) (k2 m2 : Int) (nm2 s2 : ByteArray) (g2 : Bool) (x2 : Int) (k3 m3 : Int) (nm3 s3 : ByteArray) (g3 : Bool) (x3 : Int) (w : World) : Prop where
  a : At6 w (w0.heap.size) (.int .i64 k) (.int .i64 m) (.string nm) (.string s) (.bool g) (.int .i64 x)
  b : At6 w (w0.heap.size + 1) (.int .i64 k2) (.int .i64 m2) (.string nm2) (.string s2) (.bool g2) (.int .i64 x2)
  c : At6 w (w0.heap.size + 1 + 1) (.int .i64 k3) (.int .i64 m3) (.string nm3) (.string s3) (.bool g3) (.int .i64 x3)
  t : PowTab w
  l : Below w0.heap.size w0 w
theorem O3.step {w0 : World} {k m : Int} {nm s : ByteArray} {g : Bool} {x : Int} {k2 m2 : Int} {nm2 s2 : ByteArray} {g2 : Bool} {x2 : Int} {k3 m3 : Int} {nm3 s3 : ByteArray} {g3 : Bool} {x3 : Int} {w w' : World}
    (h : O3 w0 k m nm s g x k2 m2 nm2 s2 g2 x2 k3 m3 nm3 s3 g3 x3 w) (hb : Below w.heap.size w w') : O3 w0 k m nm s g x k2 m2 nm2 s2 g2 x2 k3 m3 nm3 s3 g3 x3 w' :=
  ⟨h.a.below hb, h.b.below hb, h.c.below hb, h.t.below hb, h.l.trans (hb.mono h.l.size)⟩
theorem O3.start (w0 : World) (k m : Int) (nm s : ByteArray) (g : Bool) (x : Int) (k2 m2 : Int) (nm2 s2 : ByteArray) (g2 : Bool) (x2 : Int) (k3 m3 : Int) (nm3 s3 : ByteArray) (g3 : Bool) (x3 : Int) (hT : PowTab w0) : O3 w0 k m nm s g x k2 m2 nm2 s2 g2 x2 k3 m3 nm3 s3 g3 x3
    (((w0.alloc (.cells #[.int .i64 k, .int .i64 m, .string nm, .string s, .bool g, .int .i64 x] 23)).alloc (.cells #[.int .i64 k2, .int .i64 m2, .string nm2, .string s2, .bool g2, .int .i64 x2] 23)).alloc (.cells #[.int .i64 k3, .int .i64 m3, .string nm3, .string s3, .bool g3, .int .i64 x3] 23)) := by
  have h1 := At6.new w0 (.int .i64 k) (.int .i64 m) (.string nm) (.string s) (.bool g) (.int .i64 x) 23
  have h2 := At6.new (w0.alloc (.cells #[.int .i64 k, .int .i64 m, .string nm, .string s, .bool g, .int .i64 x] 23)) (.int .i64 k2) (.int .i64 m2) (.string nm2) (.string s2) (.bool g2) (.int .i64 x2) 23
  have h3 := At6.new ((w0.alloc (.cells #[.int .i64 k, .int .i64 m, .string nm, .string s, .bool g, .int .i64 x] 23)).alloc (.cells #[.int .i64 k2, .int .i64 m2, .string nm2, .string s2, .bool g2, .int .i64 x2] 23)) (.int .i64 k3) (.int .i64 m3) (.string nm3) (.string s3) (.bool g3) (.int .i64 x3) 23
  simp only [World.size_alloc] at h2 h3
  have hl := (((Below.refl w0.heap.size w0).alloc (Nat.le_refl _) (.cells #[.int .i64 k, .int .i64 m, .string nm, .string s, .bool g, .int .i64 x] 23)).alloc (by simp) (.cells #[.int .i64 k2, .int .i64 m2, .string nm2, .string s2, .bool g2, .int .i64 x2] 23)).alloc (by simp; omega) (.cells #[.int .i64 k3, .int .i64 m3, .string nm3, .string s3, .bool g3, .int .i64 x3] 23)
  exact ⟨(h1.alloc _).alloc _, h2.alloc _, h3, hT.below hl, hl⟩

theorem At6.other {w : World} {b : Nat} {v0 v1 v2 v3 v4 v5 : Value} (h : At6 w b v0 v1 v2 v3 v4 v5) {p : Nat} (hp : p ≠ b) (o : Nat) (v : Value) : At6 (w.setCell ⟨p, o, none⟩ v) b v0 v1 v2 v3 v4 v5 := by
  have e : ∀ i, (w.setCell ⟨p, o, none⟩ v).cell? ⟨b, i, none⟩ = w.cell? ⟨b, i, none⟩ := fun i => World.cell?_setCell_other _ _ _ _ (by intro h; exact hp (congrArg Addr.block h))
  exact ⟨by simpa using h.lt, (e 0).trans h.c0, (e 1).trans h.c1, (e 2).trans h.c2, (e 3).trans h.c3, (e 4).trans h.c4, (e 5).trans h.c5⟩
theorem At6.set4 {w : World} {b : Nat} {v0 v1 v2 v3 v4 v5 : Value} (h : At6 w b v0 v1 v2 v3 v4 v5) (v : Value) : At6 (w.setCell ⟨b, 4, none⟩ v) b v0 v1 v2 v3 v v5 := by
  have e : ∀ i, i ≠ 4 → (w.setCell ⟨b, 4, none⟩ v).cell? ⟨b, i, none⟩ = w.cell? ⟨b, i, none⟩ := fun i hi => World.cell?_setCell_other _ _ _ _ (by intro h; exact hi (congrArg Addr.off h).symm)
  exact ⟨by simpa using h.lt, (e 0 (by decide)).trans h.c0, (e 1 (by decide)).trans h.c1, (e 2 (by decide)).trans h.c2, (e 3 (by decide)).trans h.c3, World.cell?_setCell_same _ _ _ h.c4, (e 5 (by decide)).trans h.c5⟩
theorem O3.set {w0 : World} {k m : Int} {nm s : ByteArray} {g : Bool} {x : Int} {k2 m2 : Int} {nm2 s2 : ByteArray} {g2 : Bool} {x2 : Int} {k3 m3 : Int} {nm3 s3 : ByteArray} {g3 : Bool} {x3 : Int} {w : World}
    (h : O3 w0 k m nm s g x k2 m2 nm2 s2 g2 x2 k3 m3 nm3 s3 g3 x3 w) (hT : PowTab w0) {p : Nat} (hp : w0.heap.size + 1 + 1 < p) (o : Nat) (v : Value) : O3 w0 k m nm s g x k2 m2 nm2 s2 g2 x2 k3 m3 nm3 s3 g3 x3 (w.setCell ⟨p, o, none⟩ v) :=
  have hl := h.l.setCell (p := ⟨p, o, none⟩) (show w0.heap.size ≤ p by omega) v
  ⟨h.a.other (by omega) o v, h.b.other (by omega) o v, h.c.other (by omega) o v, hT.below hl, hl⟩
theorem two_new (w : World) (u0 u1 u2 u3 u4 u5 v0 v1 v2 v3 v4 v5 : Value) (t : TypeId) :
    Below w.heap.size w ((w.alloc (.cells #[u0, u1, u2, u3, u4, u5] t)).alloc (.cells #[v0, v1, v2, v3, v4, v5] t)).drew
    ∧ At6 ((w.alloc (.cells #[u0, u1, u2, u3, u4, u5] t)).alloc (.cells #[v0, v1, v2, v3, v4, v5] t)).drew w.heap.size u0 u1 u2 u3 u4 u5
    ∧ At6 ((w.alloc (.cells #[u0, u1, u2, u3, u4, u5] t)).alloc (.cells #[v0, v1, v2, v3, v4, v5] t)).drew (w.heap.size + 1) v0 v1 v2 v3 v4 v5
    ∧ ((w.alloc (.cells #[u0, u1, u2, u3, u4, u5] t)).alloc (.cells #[v0, v1, v2, v3, v4, v5] t)).drew.frozen? ⟨w.heap.size, 4, none⟩ = false
    ∧ ((w.alloc (.cells #[u0, u1, u2, u3, u4, u5] t)).alloc (.cells #[v0, v1, v2, v3, v4, v5] t)).drew.frozen? ⟨w.heap.size + 1, 4, none⟩ = false := by
  have h1 := At6.new w u0 u1 u2 u3 u4 u5 t
  have h2 := At6.new (w.alloc (.cells #[u0, u1, u2, u3, u4, u5] t)) v0 v1 v2 v3 v4 v5 t
  simp only [World.size_alloc] at h2
  exact ⟨(((Below.refl _ _).alloc (Nat.le_refl _) _).alloc (by simp) _).drew, (h1.alloc _).below (Below.refl _ _).drew, h2.below (Below.refl _ _).drew, by simp [go_sem], by simp [go_sem]⟩

set_option maxRecDepth 100000 in
set_option maxHeartbeats 4000000 in
theorem numOrder_any (k m : Int) (nm s : ByteArray) (g : Bool) (x : Int) (k2 m2 : Int) (nm2 s2 : ByteArray) (g2 : Bool) (x2 : Int) (k3 m3 : Int) (nm3 s3 : ByteArray) (g3 : Bool) (x3 : Int) (w : World) (hT : PowTab w)
    (hs : s.size ≤ maxLen) (hs2 : s2.size ≤ maxLen) (hs3 : s3.size ≤ maxLen) :
    Calls Tryd.prog 7 #[.agg #[.int .i64 k, .int .i64 m, .string nm, .string s, .bool g, .int .i64 x], .agg #[.int .i64 k2, .int .i64 m2, .string nm2, .string s2, .bool g2, .int .i64 x2], .agg #[.int .i64 k3, .int .i64 m3, .string nm3, .string s3, .bool g3, .int .i64 x3]] w
      fun e w' => e = .returned (.bool true) ∧ Below w.heap.size w w' := by
  have H0 := Lib.hid (O3.start w k m nm s g x k2 m2 nm2 s2 g2 x2 k3 m3 nm3 s3 g3 x3 hT)
  go_enter Tryd.func7, Tryd.ntmps7
  go_wp2_with fail
  refine (refRight_any _ _ _ _ _ _ _ hs).mono ?_
  rintro e w1 ⟨rfl, hb1⟩
  have H1 := Lib.hid (H0.out.step hb1)
  clear hb1 H0
  obtain ⟨⟨l1, a0, a1, a2, a3, a4, a5⟩, ⟨l2, b0, b1, b2, b3, b4, b5⟩, ⟨l3, c0, c1, c2, c3, c4, c5⟩, -, -⟩ := H1.out
  cases hr1 : right ⟨k, m, nm.data.toList, s.data.toList, g, x⟩
  · clear hr1
    go_wp2_with fail
    refine (alive_any _ H1.out.t).mono ?_
    rintro e w2 ⟨rfl, hb2⟩
    have H2 := Lib.hid (H1.out.step hb2)
    clear l1 a0 a1 a2 a3 a4 a5 l2 b0 b1 b2 b3 b4 b5 l3 c0 c1 c2 c3 c4 c5
    go_wp2_with fail
    go_ret
    exact ⟨rfl, H2.out.l⟩
  have R1 := Lib.hid hr1
  clear hr1
  go_wp2_with fail
  refine (refRight_any _ _ _ _ _ _ _ hs2).mono ?_
  rintro e w2 ⟨rfl, hb2⟩
  have H2 := Lib.hid (H1.out.step hb2)
  clear l1 a0 a1 a2 a3 a4 a5 l2 b0 b1 b2 b3 b4 b5 l3 c0 c1 c2 c3 c4 c5 hb2 H1
  obtain ⟨⟨l1, a0, a1, a2, a3, a4, a5⟩, ⟨l2, b0, b1, b2, b3, b4, b5⟩, ⟨l3, c0, c1, c2, c3, c4, c5⟩, -, -⟩ := H2.out
  cases hr2 : right ⟨k2, m2, nm2.data.toList, s2.data.toList, g2, x2⟩
  · clear hr2
    go_wp2_with fail
    refine (alive_any _ H2.out.t).mono ?_
    rintro e w3 ⟨rfl, hb3⟩
    have H3 := Lib.hid (H2.out.step hb3)
    clear l1 a0 a1 a2 a3 a4 a5 l2 b0 b1 b2 b3 b4 b5 l3 c0 c1 c2 c3 c4 c5
    go_wp2_with fail
    go_ret
    exact ⟨rfl, H3.out.l⟩
  have R2 := Lib.hid hr2
  clear hr2
  go_wp2_with fail
  refine (refRight_any _ _ _ _ _ _ _ hs3).mono ?_
  rintro e w3 ⟨rfl, hb3⟩
  have H3 := Lib.hid (H2.out.step hb3)
  clear l1 a0 a1 a2 a3 a4 a5 l2 b0 b1 b2 b3 b4 b5 l3 c0 c1 c2 c3 c4 c5 hb3 H2
  obtain ⟨⟨l1, a0, a1, a2, a3, a4, a5⟩, ⟨l2, b0, b1, b2, b3, b4, b5⟩, ⟨l3, c0, c1, c2, c3, c4, c5⟩, -, -⟩ := H3.out
  cases hr3 : right ⟨k3, m3, nm3.data.toList, s3.data.toList, g3, x3⟩
  · clear hr3
    go_wp2_with fail
    refine (alive_any _ H3.out.t).mono ?_
    rintro e w4 ⟨rfl, hb4⟩
    have H4 := Lib.hid (H3.out.step hb4)
    clear l1 a0 a1 a2 a3 a4 a5 l2 b0 b1 b2 b3 b4 b5 l3 c0 c1 c2 c3 c4 c5
    go_wp2_with fail
    go_ret
    exact ⟨rfl, H4.out.l⟩
  have R3 := Lib.hid hr3
  clear hr3
  obtain ⟨p1, p2, p3⟩ := right_bounds R1.out
  obtain ⟨q1, q2, q3⟩ := right_bounds R2.out
  obtain ⟨r1, r2, r3⟩ := right_bounds R3.out
  simp only at p1 p2 p3 q1 q2 q3 r1 r2 r3
  rw [size_toList] at p1 q1 r1
  go_wp2_with fail
  refine (cmp_any _ _ _ _ _ _ _ _ _ _ _ _ _ (by omega) (by omega) (by omega) (by omega) (by omega) (by omega)).mono ?_
  rintro e w4 ⟨rfl, hb4⟩
  have H4 := Lib.hid (H3.out.step hb4)
  clear l1 a0 a1 a2 a3 a4 a5 l2 b0 b1 b2 b3 b4 b5 l3 c0 c1 c2 c3 c4 c5 hb4 H3
  obtain ⟨⟨l1, a0, a1, a2, a3, a4, a5⟩, ⟨l2, b0, b1, b2, b3, b4, b5⟩, ⟨l3, c0, c1, c2, c3, c4, c5⟩, -, -⟩ := H4.out
  have hX := cmpN_range s.data.toList g x s2.data.toList g2 x2
  have HN := Lib.hid (cmpN_neg s.data.toList g x s2.data.toList g2 x2)
  have HZ := Lib.hid ((sameNode_iff k m nm s g x k2 m2 nm2 s2 g2 x2).trans (cmpN_zero R1.out R2.out).symm)
  have hE := fun w => eql_node k m nm s g x k2 m2 nm2 s2 g2 x2 w
  have HT := Lib.hid (@cmpN_trans s.data.toList g x s2.data.toList g2 x2 s3.data.toList g3 x3)
  have HF := Lib.hid (cmpN_flip s.data.toList g x s2.data.toList g2 x2)
  generalize cmpN s.data.toList g x s2.data.toList g2 x2 = X at hX HN HZ HT HF ⊢
  go_upto_region 4 with fail
  go_cut [64] (fun s64 wx => s64 = .bool false ∧ O3 w k m nm s g x k2 m2 nm2 s2 g2 x2 k3 m3 nm3 s3 g3 x3 wx)
  case first =>
    rcases hX with rfl | rfl | rfl
    · cases hq : sameNode k m nm s g x k2 m2 nm2 s2 g2 x2
      case true => exact absurd (HZ.out.1 hq) (by decide)
      rw [hq] at hE
      clear hq
      go_wp2_with fail
      refine (cmp_any _ _ _ _ _ _ _ _ _ _ _ _ _ (by omega) (by omega) (by omega) (by omega) (by omega) (by omega)).mono ?_
      rintro e w5 ⟨rfl, hb5⟩
      have H5 := Lib.hid (H4.out.step hb5)
      clear l1 a0 a1 a2 a3 a4 a5 l2 b0 b1 b2 b3 b4 b5 l3 c0 c1 c2 c3 c4 c5 hb5 H4
      obtain ⟨⟨l1, a0, a1, a2, a3, a4, a5⟩, ⟨l2, b0, b1, b2, b3, b4, b5⟩, ⟨l3, c0, c1, c2, c3, c4, c5⟩, -, -⟩ := H5.out
      rw [HN.out]
      go_wp2_with fail
      all_goals
        refine (cmp_any _ _ _ _ _ _ _ _ _ _ _ _ _ (by omega) (by omega) (by omega) (by omega) (by omega) (by omega)).mono ?_
        rintro e w6 ⟨rfl, hb6⟩
        have H6 := Lib.hid (H5.out.step hb6)
        clear l1 a0 a1 a2 a3 a4 a5 l2 b0 b1 b2 b3 b4 b5 l3 c0 c1 c2 c3 c4 c5 hb6 H5
        obtain ⟨⟨l1, a0, a1, a2, a3, a4, a5⟩, ⟨l2, b0, b1, b2, b3, b4, b5⟩, ⟨l3, c0, c1, c2, c3, c4, c5⟩, -, -⟩ := H6.out
        have hY := cmpN_range s2.data.toList g2 x2 s3.data.toList g3 x3
        generalize cmpN s2.data.toList g2 x2 s3.data.toList g3 x3 = Y at hY HT ⊢
        rcases hY with rfl | rfl | rfl
        · go_wp2_with fail
          refine (cmp_any _ _ _ _ _ _ _ _ _ _ _ _ _ (by omega) (by omega) (by omega) (by omega) (by omega) (by omega)).mono ?_
          rintro e w7 ⟨rfl, hb7⟩
          have H7 := Lib.hid (H6.out.step hb7)
          clear l1 a0 a1 a2 a3 a4 a5 l2 b0 b1 b2 b3 b4 b5 l3 c0 c1 c2 c3 c4 c5 hb7 H6
          have hz := HT.out (by decide) (by decide)
          generalize cmpN s.data.toList g x s3.data.toList g3 x3 = Z at hz ⊢
          go_wp2_with fail
          go_meet
          exact ⟨congrArg Value.bool (decide_eq_false (by omega)), H7.out⟩
        · go_wp2_with fail
          refine (cmp_any _ _ _ _ _ _ _ _ _ _ _ _ _ (by omega) (by omega) (by omega) (by omega) (by omega) (by omega)).mono ?_
          rintro e w7 ⟨rfl, hb7⟩
          have H7 := Lib.hid (H6.out.step hb7)
          clear l1 a0 a1 a2 a3 a4 a5 l2 b0 b1 b2 b3 b4 b5 l3 c0 c1 c2 c3 c4 c5 hb7 H6
          have hz := HT.out (by decide) (by decide)
          generalize cmpN s.data.toList g x s3.data.toList g3 x3 = Z at hz ⊢
          go_wp2_with fail
          go_meet
          exact ⟨congrArg Value.bool (decide_eq_false (by omega)), H7.out⟩
        · clear l1 a0 a1 a2 a3 a4 a5 l2 b0 b1 b2 b3 b4 b5 l3 c0 c1 c2 c3 c4 c5
          go_wp2_with fail
          go_meet
          exact ⟨rfl, H6.out⟩
    · have hq : sameNode k m nm s g x k2 m2 nm2 s2 g2 x2 = true := HZ.out.2 rfl
      rw [hq] at hE
      clear hq
      go_wp2_with fail
      refine (cmp_any _ _ _ _ _ _ _ _ _ _ _ _ _ (by omega) (by omega) (by omega) (by omega) (by omega) (by omega)).mono ?_
      rintro e w5 ⟨rfl, hb5⟩
      have H5 := Lib.hid (H4.out.step hb5)
      clear l1 a0 a1 a2 a3 a4 a5 l2 b0 b1 b2 b3 b4 b5 l3 c0 c1 c2 c3 c4 c5 hb5 H4
      obtain ⟨⟨l1, a0, a1, a2, a3, a4, a5⟩, ⟨l2, b0, b1, b2, b3, b4, b5⟩, ⟨l3, c0, c1, c2, c3, c4, c5⟩, -, -⟩ := H5.out
      rw [HN.out]
      go_wp2_with fail
      all_goals
        refine (cmp_any _ _ _ _ _ _ _ _ _ _ _ _ _ (by omega) (by omega) (by omega) (by omega) (by omega) (by omega)).mono ?_
        rintro e w6 ⟨rfl, hb6⟩
        have H6 := Lib.hid (H5.out.step hb6)
        clear l1 a0 a1 a2 a3 a4 a5 l2 b0 b1 b2 b3 b4 b5 l3 c0 c1 c2 c3 c4 c5 hb6 H5
        obtain ⟨⟨l1, a0, a1, a2, a3, a4, a5⟩, ⟨l2, b0, b1, b2, b3, b4, b5⟩, ⟨l3, c0, c1, c2, c3, c4, c5⟩, -, -⟩ := H6.out
        have hY := cmpN_range s2.data.toList g2 x2 s3.data.toList g3 x3
        generalize cmpN s2.data.toList g2 x2 s3.data.toList g3 x3 = Y at hY HT ⊢
        rcases hY with rfl | rfl | rfl
        · go_wp2_with fail
          refine (cmp_any _ _ _ _ _ _ _ _ _ _ _ _ _ (by omega) (by omega) (by omega) (by omega) (by omega) (by omega)).mono ?_
          rintro e w7 ⟨rfl, hb7⟩
          have H7 := Lib.hid (H6.out.step hb7)
          clear l1 a0 a1 a2 a3 a4 a5 l2 b0 b1 b2 b3 b4 b5 l3 c0 c1 c2 c3 c4 c5 hb7 H6
          have hz := HT.out (by decide) (by decide)
          generalize cmpN s.data.toList g x s3.data.toList g3 x3 = Z at hz ⊢
          go_wp2_with fail
          go_meet
          exact ⟨congrArg Value.bool (decide_eq_false (by omega)), H7.out⟩
        · go_wp2_with fail
          refine (cmp_any _ _ _ _ _ _ _ _ _ _ _ _ _ (by omega) (by omega) (by omega) (by omega) (by omega) (by omega)).mono ?_
          rintro e w7 ⟨rfl, hb7⟩
          have H7 := Lib.hid (H6.out.step hb7)
          clear l1 a0 a1 a2 a3 a4 a5 l2 b0 b1 b2 b3 b4 b5 l3 c0 c1 c2 c3 c4 c5 hb7 H6
          have hz := HT.out (by decide) (by decide)
          generalize cmpN s.data.toList g x s3.data.toList g3 x3 = Z at hz ⊢
          go_wp2_with fail
          go_meet
          exact ⟨congrArg Value.bool (decide_eq_false (by omega)), H7.out⟩
        · clear l1 a0 a1 a2 a3 a4 a5 l2 b0 b1 b2 b3 b4 b5 l3 c0 c1 c2 c3 c4 c5
          go_wp2_with fail
          go_meet
          exact ⟨rfl, H6.out⟩
    · cases hq : sameNode k m nm s g x k2 m2 nm2 s2 g2 x2
      case true => exact absurd (HZ.out.1 hq) (by decide)
      rw [hq] at hE
      clear hq
      go_wp2_with fail
      refine (cmp_any _ _ _ _ _ _ _ _ _ _ _ _ _ (by omega) (by omega) (by omega) (by omega) (by omega) (by omega)).mono ?_
      rintro e w5 ⟨rfl, hb5⟩
      have H5 := Lib.hid (H4.out.step hb5)
      clear l1 a0 a1 a2 a3 a4 a5 l2 b0 b1 b2 b3 b4 b5 l3 c0 c1 c2 c3 c4 c5 hb5 H4
      obtain ⟨⟨l1, a0, a1, a2, a3, a4, a5⟩, ⟨l2, b0, b1, b2, b3, b4, b5⟩, ⟨l3, c0, c1, c2, c3, c4, c5⟩, -, -⟩ := H5.out
      rw [HN.out]
      go_wp2_with fail
      all_goals
        go_meet
        exact ⟨rfl, H5.out⟩
  case rest =>
    obtain ⟨rfl, hO⟩ := hcut
    have H5 := Lib.hid hO
    clear hO
    obtain ⟨⟨l1, a0, a1, a2, a3, a4, a5⟩, ⟨l2, b0, b1, b2, b3, b4, b5⟩, ⟨l3, c0, c1, c2, c3, c4, c5⟩, -, -⟩ := H5.out
    go_upto_region 6 with fail
    go_cut [8, 9] (fun s8 s9 wx => ∃ p q : Nat, s8 = .pointer (some ⟨p, 0, none⟩) ∧ s9 = .pointer (some ⟨q, 0, none⟩) ∧ O3 w k m nm s g x k2 m2 nm2 s2 g2 x2 k3 m3 nm3 s3 g3 x3 wx ∧ At6 wx p (.int .i64 k) (.int .i64 m) (.string nm) (.string s) (.bool g) (.int .i64 x) ∧ At6 wx q (.int .i64 k2) (.int .i64 m2) (.string nm2) (.string s2) (.bool g2) (.int .i64 x2) ∧ wx.frozen? ⟨p, 4, none⟩ = false ∧ wx.frozen? ⟨q, 4, none⟩ = false ∧ w.heap.size + 1 + 1 < p ∧ w.heap.size + 1 + 1 < q ∧ p ≠ q)
    case first =>
      go_region
      all_goals
        go_wp2_with fail
        go_meet
        first
          | (obtain ⟨t1, t2, t3, t4, t5⟩ := two_new wc (.int .i64 k) (.int .i64 m) (.string nm) (.string s) (.bool g) (.int .i64 x) (.int .i64 k2) (.int .i64 m2) (.string nm2) (.string s2) (.bool g2) (.int .i64 x2) 23
             exact ⟨wc.heap.size, wc.heap.size + 1, rfl, rfl, H5.out.step t1, t2, t3, t4, t5, by omega, by omega, by omega⟩)
          | (obtain ⟨t1, t2, t3, t4, t5⟩ := two_new wc (.int .i64 k2) (.int .i64 m2) (.string nm2) (.string s2) (.bool g2) (.int .i64 x2) (.int .i64 k) (.int .i64 m) (.string nm) (.string s) (.bool g) (.int .i64 x) 23
             exact ⟨wc.heap.size + 1, wc.heap.size, rfl, rfl, H5.out.step t1, t3, t2, t5, t4, by omega, by omega, by omega⟩)
    case rest =>
      clear l1 a0 a1 a2 a3 a4 a5 l2 b0 b1 b2 b3 b4 b5 l3 c0 c1 c2 c3 c4 c5 H5
      obtain ⟨p, q, rfl, rfl, hO, hP, hQ, f1, f2, i1, i2, hpq⟩ := hcut
      have H6 := Lib.hid hO
      have HP := Lib.hid hP
      have HQ := Lib.hid hQ
      clear hO hP hQ
      obtain ⟨⟨l1, a0, a1, a2, a3, a4, a5⟩, ⟨l2, b0, b1, b2, b3, b4, b5⟩, ⟨l3, c0, c1, c2, c3, c4, c5⟩, -, -⟩ := H6.out
      obtain ⟨m1, d0, d1, d2, d3, d4, d5⟩ := HP.out
      go_upto_region 7 with fail
      go_cut [] (fun wx => O3 w k m nm s g x k2 m2 nm2 s2 g2 x2 k3 m3 nm3 s3 g3 x3 wx ∧ At6 wx p (.int .i64 k) (.int .i64 m) (.string nm) (.string s) (.bool (!g && !s.data.toList.isEmpty)) (.int .i64 x) ∧ At6 wx q (.int .i64 k2) (.int .i64 m2) (.string nm2) (.string s2) (.bool g2) (.int .i64 x2) ∧ wx.frozen? ⟨q, 4, none⟩ = false)
      case first =>
        cases g
        · cases hse : s.toList.isEmpty
          · have HE : Hid ((!false && !s.data.toList.isEmpty) = true) := Lib.hid (by rw [← ByteArray.toList_eq, hse]; rfl)
            go_wp2_with fail
            go_meet
            rw [HE.out]
            exact ⟨H6.out.set hT i1 _ _, HP.out.set4 _, HQ.out.other hpq _ _, by rw [World.frozen?_setCell]; exact f2⟩
          · have HE : Hid ((!false && !s.data.toList.isEmpty) = false) := Lib.hid (by rw [← ByteArray.toList_eq, hse]; rfl)
            go_wp2_with fail
            go_meet
            rw [HE.out]
            exact ⟨H6.out.set hT i1 _ _, HP.out.set4 _, HQ.out.other hpq _ _, by rw [World.frozen?_setCell]; exact f2⟩
        · have HE : Hid ((!true && !s.data.toList.isEmpty) = false) := Lib.hid rfl
          go_wp2_with fail
          go_meet
          rw [HE.out]
          exact ⟨H6.out.set hT i1 _ _, HP.out.set4 _, HQ.out.other hpq _ _, by rw [World.frozen?_setCell]; exact f2⟩
      case rest =>
        clear l1 a0 a1 a2 a3 a4 a5 l2 b0 b1 b2 b3 b4 b5 l3 c0 c1 c2 c3 c4 c5 m1 d0 d1 d2 d3 d4 d5 H6 HP HQ f1 f2
        obtain ⟨hO, hP, hQ, f2⟩ := hcut
        have H7 := Lib.hid hO
        have HP7 := Lib.hid hP
        have HQ7 := Lib.hid hQ
        clear hO hP hQ
        obtain ⟨⟨l1, a0, a1, a2, a3, a4, a5⟩, ⟨l2, b0, b1, b2, b3, b4, b5⟩, ⟨l3, c0, c1, c2, c3, c4, c5⟩, -, -⟩ := H7.out
        obtain ⟨m1, d0, d1, d2, d3, d4, d5⟩ := HQ7.out
        go_upto_region 8 with fail
        go_cut [] (fun wx => O3 w k m nm s g x k2 m2 nm2 s2 g2 x2 k3 m3 nm3 s3 g3 x3 wx ∧ At6 wx p (.int .i64 k) (.int .i64 m) (.string nm) (.string s) (.bool (!g && !s.data.toList.isEmpty)) (.int .i64 x) ∧ At6 wx q (.int .i64 k2) (.int .i64 m2) (.string nm2) (.string s2) (.bool (!g2 && !s2.data.toList.isEmpty)) (.int .i64 x2))
        case first =>
          cases g2
          · cases hse : s2.toList.isEmpty
            · have HE : Hid ((!false && !s2.data.toList.isEmpty) = true) := Lib.hid (by rw [← ByteArray.toList_eq, hse]; rfl)
              go_wp2_with fail
              go_meet
              rw [HE.out]
              exact ⟨H7.out.set hT i2 _ _, HP7.out.other hpq.symm _ _, HQ7.out.set4 _⟩
            · have HE : Hid ((!false && !s2.data.toList.isEmpty) = false) := Lib.hid (by rw [← ByteArray.toList_eq, hse]; rfl)
              go_wp2_with fail
              go_meet
              rw [HE.out]
              exact ⟨H7.out.set hT i2 _ _, HP7.out.other hpq.symm _ _, HQ7.out.set4 _⟩
          · have HE : Hid ((!true && !s2.data.toList.isEmpty) = false) := Lib.hid rfl
            go_wp2_with fail
            go_meet
            rw [HE.out]
            exact ⟨H7.out.set hT i2 _ _, HP7.out.other hpq.symm _ _, HQ7.out.set4 _⟩
        case rest =>
          clear l1 a0 a1 a2 a3 a4 a5 l2 b0 b1 b2 b3 b4 b5 l3 c0 c1 c2 c3 c4 c5 m1 d0 d1 d2 d3 d4 d5 H7 HP7 HQ7 f2
          obtain ⟨hO, hP, hQ⟩ := hcut
          have H8 := Lib.hid hO
          have HP8 := Lib.hid hP
          have HQ8 := Lib.hid hQ
          clear hO hP hQ
          go_wp2_with fail
          refine (alive_any _ H8.out.t).mono ?_
          rintro e w9 ⟨rfl, hb9⟩
          have H9 := Lib.hid (H8.out.step hb9)
          have HP9 := Lib.hid (HP8.out.below hb9)
          have HQ9 := Lib.hid (HQ8.out.below hb9)
          clear hb9 H8 HP8 HQ8
          obtain ⟨m1, d0, d1, d2, d3, d4, d5⟩ := HP9.out
          obtain ⟨n1, e0, e1, e2, e3, e4, e5⟩ := HQ9.out
          generalize (!g && !s.data.toList.isEmpty) = u at *
          generalize (!g2 && !s2.data.toList.isEmpty) = v at *
          go_wp2_with fail
          refine (cmp_any _ _ _ _ _ _ _ _ _ _ _ _ _ (by omega) (by omega) (by omega) (by omega) (by omega) (by omega)).mono ?_
          rintro e w10 ⟨rfl, hb10⟩
          have H10 := Lib.hid (H9.out.step hb10)
          clear hb10 H9 HP9 HQ9 m1 d0 d1 d2 d3 d4 d5 n1 e0 e1 e2 e3 e4 e5
          rw [HF.out]
          rcases hX with rfl | rfl | rfl
          all_goals
            go_wp2_with fail
            go_ret
            exact ⟨rfl, H10.out.l⟩

end Go.Proofs.YtfmoigbiohbocaaDoor
