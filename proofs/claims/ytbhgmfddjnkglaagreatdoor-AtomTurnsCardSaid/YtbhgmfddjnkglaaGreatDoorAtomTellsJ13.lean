/-
  Joined: Ow5, Ow6, Ow7.
-/
import Derived.Test.YtbhgmfddjnkglaaGreatDoorAtomTellsJ12
import Derived.Test.YtbhgmfddjnkglaaGreatDoorAtomTellsJ8
import Derived.Test.YtbhgmfddjnkglaaGreatDoorAtomTellsJ6
import Derived.Recover
import Derived.Deep.RegionLaw

/-
  What (*pair).value and order.Cmp answer.
-/
namespace Go.Proofs.YtbhgmfddjnkglaaGreatDoor
open Go.RowKit Np Rw Vp Ov

theorem drop_flat (t : Tr Nd) (r : List Nd) : (flat t ++ r).tail = flats t.ks ++ r := by rw [flat_eq]; rfl
theorem nxt_flat (t : Tr Nd) (r : List Nd) : nxtN (flat t ++ r) = t.nd := by rw [flat_eq]; rfl
/-- What value asks of a value: its nodes are right. -/
structure Ok9 (t : Tr Nd) : Prop where
  ok : okT many t
  rt : rightT t = true
theorem Ok9.kids {t : Tr Nd} (h : Ok9 t) : ∀ u ∈ t.ks, Ok9 u := fun u hu => ⟨((Val.clr h.ok h.rt).parts u hu).1, ((Val.clr h.ok h.rt).parts u hu).2⟩
theorem Ok9.plain {t : Tr Nd} (h : Ok9 t) : plainN t.nd = true := (Val.clr h.ok h.rt).plain
theorem Ok9.many {t : Tr Nd} (h : Ok9 t) : t.nd.many = t.ks.length := (okT_eq.1 h.ok).1
theorem Ok9.kinds {t : Tr Nd} (h : Ok9 t) : t.nd.kind = 0 ∨ t.nd.kind = 1 ∨ t.nd.kind = 2 ∨ t.nd.kind = 3 ∨ t.nd.kind = 4 ∨ t.nd.kind = 5 ∨ t.nd.kind = 6 := by
  have := h.plain
  unfold plainN at this
  split at this
  · omega
  · split at this
    · omega
    · split at this
      · omega
      · split at this
        · omega
        · cases this
theorem Ok9.leaf {t : Tr Nd} (h : Ok9 t) (h5 : t.nd.kind ≠ 5) (h6 : t.nd.kind ≠ 6) : t.ks = [] := (Val.clr h.ok h.rt).leaf h5 h6

set_option maxRecDepth 100000 in
set_option maxHeartbeats 4000000 in
theorem value_of {t u : Tr Nd} (ht : Ok9 t) (hu : Ok9 u) (H : ∀ a ∈ t.ks, ∀ b ∈ u.ks, ValueQ a b) : ValueQ t u := by
  intro rb ra rc k w hp hla hlb hk
  have hk2 : k + 1 + (flats t.ks).length ≤ 2000000000000 := by rw [flat_eq, List.length_cons] at hk; omega
  have HN := Lib.hid (node_any rb _ _ k w hp)
  rw [drop_flat, drop_flat, nxt_flat, nxt_flat] at HN
  have hlt := hp.lt
  have hla' : (flats t.ks ++ ra).length ≤ 2000000000000 := by rw [List.length_append] at hla ⊢; rw [flat_eq, List.length_cons] at hla; omega
  have hlb' : (flats u.ks ++ rc).length ≤ 2000000000000 := by rw [List.length_append] at hlb ⊢; rw [flat_eq, List.length_cons] at hlb; omega
  have HL : Hid (∀ w1, Prs rb (flats t.ks ++ ra) (flats u.ks ++ rc) k w1 → Calls Tryz.prog 77 #[.pointer (some ⟨rb, 0, none⟩), .int .i64 t.ks.length, .int .i64 u.ks.length] w1 fun e w' => e = .returned (.int .i64 (cmpTs t.ks u.ks)) ∧ Prx rb (0 < k ∨ cmpTs t.ks u.ks = 0) ra rc k w' ∧ Kb w1.heap.size rb w1 w') :=
    Lib.hid fun w1 h1 => lists_of H (okT_eq.1 ht.ok).2 (okT_eq.1 hu.ok).2 rb ra rc k w1 h1 hla' hlb' (by omega)
  have HO : Hid (∀ w1, Prs rb (flats t.ks ++ ra) (flats u.ks ++ rc) k w1 → Calls Tryz.prog 78 #[.pointer (some ⟨rb, 0, none⟩), .int .i64 t.ks.length, .int .i64 u.ks.length] w1 fun e w' => e = .returned (.int .i64 (orI (cmpNm (nms t.ks) (nms u.ks)) (cmpTs t.ks u.ks))) ∧ Prx rb (0 < k ∨ orI (cmpNm (nms t.ks) (nms u.ks)) (cmpTs t.ks u.ks) = 0) ra rc k w' ∧ Kb w1.heap.size rb w1 w') :=
    Lib.hid fun w1 h1 => objects_of H (okT_eq.1 ht.ok).2 (okT_eq.1 hu.ok).2 rb ra rc k w1 h1 hla' hlb' (by omega)
  have HV : Hid (∀ w1, Prs rb (flats t.ks ++ ra) (flats u.ks ++ rc) k w1 → Calls Tryz.prog 74 #[.pointer (some ⟨rb, 0, none⟩), .int .i64 t.ks.length, .int .i64 u.ks.length] w1 fun e w' => e = .returned (.tuple #[]) ∧ Prx rb (0 < k ∨ (True ∧ t.ks.length = 0 ∧ u.ks.length = 0)) ra rc k w' ∧ Kb w1.heap.size rb w1 w') :=
    Lib.hid fun w1 h1 => leave_any (okT_eq.1 ht.ok).2 (okT_eq.1 hu.ok).2 rb True ra rc k w1 _ _ rfl rfl h1.x (fun _ => trivial) hla' hlb'
  have HRn := Lib.hid (fun h => cmpT_kind (t := t) (u := u) h)
  have HRs := Lib.hid (fun h => cmpT_same (t := t) (u := u) h)
  have hm := ht.many
  have hn := hu.many
  have HPx := Lib.hid ht.plain
  have HPy := Lib.hid hu.plain
  have HKx := Lib.hid ht.kinds
  have HLx := Lib.hid (fun a b => ht.leaf a b)
  have HLy := Lib.hid (fun a b => hu.leaf a b)
  have g1 := flats_len t.ks
  have g2 := flats_len u.ks
  have e1 : (flats t.ks ++ ra).length = (flats t.ks).length + ra.length := List.length_append
  have e2 : (flats u.ks ++ rc).length = (flats u.ks).length + rc.length := List.length_append
  generalize cmpT t u = R at *
  generalize t.nd = x at *
  generalize u.nd = y at *
  obtain ⟨kx, mx, nx, sx, gx, ex⟩ := x
  obtain ⟨ky, my, ny, sy, gy, ey⟩ := y
  simp only at hm hn HRn HRs HKx HLx HLy
  subst hm hn
  dsimp only [nda] at HN
  clear hp H hla hlb ht hu
  go_enter Tryz.func58, Tryz.ntmps58
  go_wp2_with fail
  go_at_call 72
  refine HN.out.mono ?_
  rintro e w1 ⟨rfl, hx1, hk1⟩
  have HX1 := Lib.hid hx1
  have HK1 := Lib.hid hk1
  obtain ⟨va, vb, hp1, ha1, hb1⟩ := hx1
  have hsz1 := hk1.size
  have hrb : rb < w1.heap.size := hp1.lt
  have hrb1 : ¬ rb = w1.heap.size := by omega
  have hrb2 : ¬ rb = w1.heap.size + 1 := by omega
  have c0 := hp1.c0
  have c1 := hp1.c1
  obtain ⟨A, c, rfl, -⟩ := ha1
  obtain ⟨B, d, rfl, -⟩ := hb1
  have HT : Hid (t.ks.length = 0 → t.ks = []) := Lib.hid List.eq_nil_of_length_eq_zero
  generalize (flats t.ks ++ ra).length = na at *
  generalize (flats u.ks ++ rc).length = nb at *
  have hmA : t.ks.length ≤ na := by omega
  have hmB : u.ks.length ≤ nb := by omega
  clear hk1 hp1 g1 g2 e1 e2 HN
  have HM : Hid (∃ m n, m = t.ks.length ∧ n = u.ks.length) := Lib.hid ⟨_, _, rfl, rfl⟩
  generalize hm : t.ks.length = m at *
  generalize hn : u.ks.length = n at *
  have HM1 := Lib.hid hm
  have HM2 := Lib.hid hn
  clear hm hn
  go_wp2_with fail
  have hmin1 : min (m : Int) (na : Int) = m := by omega
  have hmin2 : min (n : Int) (nb : Int) = n := by omega
  go_quiet (fail)
  go_wp2_with fail
  go_at_call 73
  refine (Tryz.cmp_Compare_int _ _ _).mono ?_
  rintro e w2 ⟨rfl, rfl⟩
  have HB2 : Hid (∀ a b q, Prs rb (flats t.ks ++ ra) (flats u.ks ++ rc) k (((w1.alloc a).alloc b).drewN q) ∧ Kb w.heap.size rb w (((w1.alloc a).alloc b).drewN q)) := Lib.hid fun a b q => by
    have hb : Below w1.heap.size w1 (((w1.alloc a).alloc b).drewN q) := drewN_below (((Below.refl _ w1).alloc (Nat.le_refl _) _).alloc (by simp) _) q
    exact ⟨HX1.out.below hb, HK1.out.trans (Kb.of (hb.mono HK1.out.size))⟩
  by_cases hk3 : kx = ky
  · subst hk3
    have hR := HRs.out rfl
    have hc0 : Lib.compareInt kx kx = 0 := (cmpI_eq _ _).2 rfl
    rw [hc0]
    rcases HKx.out with rfl | rfl | rfl | rfl | rfl | rfl | rfl
    · have HC : Hid (R = 0) := Lib.hid (by simpa using hR)
      have hks1 := HLx.out (by decide) (by decide)
      have hks2 := HLy.out (by decide) (by decide)
      clear hR
      go_wp2_with fail
      go_ret
      refine ⟨ret_i64 HC.out.symm, (HB2.out _ _ _).1.x.mono (fun _ => trivial) (fun _ => by rw [hks1]; rfl) (fun _ => by rw [hks2]; rfl), (HB2.out _ _ _).2⟩
    · have HC : Hid (R = 0) := Lib.hid (by simpa using hR)
      have hks1 := HLx.out (by decide) (by decide)
      have hks2 := HLy.out (by decide) (by decide)
      clear hR
      go_wp2_with fail
      go_ret
      refine ⟨ret_i64 HC.out.symm, (HB2.out _ _ _).1.x.mono (fun _ => trivial) (fun _ => by rw [hks1]; rfl) (fun _ => by rw [hks2]; rfl), (HB2.out _ _ _).2⟩
    · have HC : Hid (R = 0) := Lib.hid (by simpa using hR)
      have hks1 := HLx.out (by decide) (by decide)
      have hks2 := HLy.out (by decide) (by decide)
      clear hR
      go_wp2_with fail
      go_ret
      refine ⟨ret_i64 HC.out.symm, (HB2.out _ _ _).1.x.mono (fun _ => trivial) (fun _ => by rw [hks1]; rfl) (fun _ => by rw [hks2]; rfl), (HB2.out _ _ _).2⟩
    · have HC : Hid (R = cmpN sx gx ex sy gy ey) := Lib.hid (by simpa using hR)
      have hks1 := HLx.out (by decide) (by decide)
      have hks2 := HLy.out (by decide) (by decide)
      have q1 : right ⟨3, m, [], sx, gx, ex⟩ = true := HPx.out
      have q2 : right ⟨3, n, [], sy, gy, ey⟩ = true := HPy.out
      obtain ⟨b1, b2, b3⟩ := right_bounds q1
      obtain ⟨b4, b5, b6⟩ := right_bounds q2
      simp only at b1 b2 b3 b4 b5 b6
      clear hR q1 q2
      have HB3 : Hid (∀ a b q v1 v2, Prs rb (flats t.ks ++ ra) (flats u.ks ++ rc) k (((((w1.alloc a).alloc b).drewN q).setCell ⟨w1.heap.size, 2, none⟩ v1).setCell ⟨w1.heap.size + 1, 2, none⟩ v2) ∧ Kb w.heap.size rb w (((((w1.alloc a).alloc b).drewN q).setCell ⟨w1.heap.size, 2, none⟩ v1).setCell ⟨w1.heap.size + 1, 2, none⟩ v2)) := Lib.hid fun a b q v1 v2 => by
        have hb : Below w1.heap.size w1 (((((w1.alloc a).alloc b).drewN q).setCell ⟨w1.heap.size, 2, none⟩ v1).setCell ⟨w1.heap.size + 1, 2, none⟩ v2) := ((drewN_below (((Below.refl _ w1).alloc (Nat.le_refl _) _).alloc (by simp) _) q).setCell (by simp) _).setCell (by simp) _
        exact ⟨HX1.out.below hb, HK1.out.trans (Kb.of (hb.mono HK1.out.size))⟩
      go_wp2_with fail
      go_at_call 75
      refine (cmp_any 3 m ⟨#[]⟩ ⟨sx.toArray⟩ gx ex 3 n ⟨#[]⟩ ⟨sy.toArray⟩ gy ey _ (by rw [mk_size]; omega) (by rw [mk_size]; omega) (by omega) (by omega) (by omega) (by omega)).mono ?_
      rintro e w3 ⟨rfl, hb3⟩
      go_wp2_with fail
      go_ret
      refine ⟨ret_i64 (by rw [HC.out]), ((HB3.out _ _ _ _ _).1.below hb3).x.mono (fun _ => trivial) (fun _ => by rw [hks1]; rfl) (fun _ => by rw [hks2]; rfl), (HB3.out _ _ _ _ _).2.trans (Kb.of (hb3.mono (HB3.out _ _ _ _ _).2.size))⟩
    · have HC : Hid (R = cmpB sx sy) := Lib.hid (by simpa using hR)
      have hks1 := HLx.out (by decide) (by decide)
      have hks2 := HLy.out (by decide) (by decide)
      clear hR
      go_wp2_with fail
      go_at_call 76
      refine (cmpStr_below _ _ _).mono ?_
      rintro e w3 ⟨rfl, hb3⟩
      go_wp2_with fail
      go_ret
      refine ⟨ret_i64 (by rw [HC.out]), ((HB2.out _ _ _).1.below hb3).x.mono (fun _ => trivial) (fun _ => by rw [hks1]; rfl) (fun _ => by rw [hks2]; rfl), (HB2.out _ _ _).2.trans (Kb.of (hb3.mono (HB2.out _ _ _).2.size))⟩
    · have HC : Hid (R = cmpTs t.ks u.ks) := Lib.hid hR
      clear hR
      go_wp2_with fail
      go_at_call 77
      refine (HL.out _ (HB2.out _ _ _).1).mono ?_
      rintro e w3 ⟨rfl, hx3, hk3⟩
      have HX3 := Lib.hid hx3
      have HK3 := Lib.hid ((HB2.out _ _ _).2.trans (hk3.mono (HB2.out _ _ _).2.size))
      clear hx3 hk3
      go_wp2_with fail
      go_ret
      rw [HC.out]
      exact ⟨rfl, HX3.out, HK3.out⟩
    · have HC : Hid (R = orI (cmpNm (nms t.ks) (nms u.ks)) (cmpTs t.ks u.ks)) := Lib.hid hR
      clear hR
      go_wp2_with fail
      go_at_call 78
      refine (HO.out _ (HB2.out _ _ _).1).mono ?_
      rintro e w3 ⟨rfl, hx3, hk3⟩
      have HX3 := Lib.hid hx3
      have HK3 := Lib.hid ((HB2.out _ _ _).2.trans (hk3.mono (HB2.out _ _ _).2.size))
      clear hx3 hk3
      go_wp2_with fail
      go_ret
      rw [HC.out]
      exact ⟨rfl, HX3.out, HK3.out⟩
  · have hc0 : ¬ Lib.compareInt kx ky = 0 := fun h => hk3 ((cmpI_eq _ _).1 h)
    have HC : Hid (R = Lib.compareInt kx ky) := Lib.hid (HRn.out hk3)
    generalize Lib.compareInt kx ky = cc at *
    have hcc : ((cc != 0) : Bool) = true := by simpa using hc0
    go_wp2_with fail
    go_at_call 74
    refine (HV.out _ (HB2.out _ _ _).1).mono ?_
    rintro e w3 ⟨rfl, hx3, hk3⟩
    have HX3 := Lib.hid hx3
    have HK3 := Lib.hid ((HB2.out _ _ _).2.trans (hk3.mono (HB2.out _ _ _).2.size))
    clear hx3 hk3
    go_wp2_with fail
    go_ret
    exact ⟨ret_i64 HC.out.symm, HX3.out.mono (fun h => h.imp id fun h => absurd (HC.out.symm.trans h) hc0) (fun _ => rfl) (fun _ => rfl), HK3.out⟩

/-- What value answers, whatever stands behind. -/
theorem value_any : ∀ (n : Nat) (t u : Tr Nd), (flat t).length ≤ n → Ok9 t → Ok9 u → ValueQ t u := by
  intro n
  induction n with
  | zero => intro t u h; have := flat_pos t; omega
  | succ n ih =>
    intro t u h ht hu
    refine value_of ht hu fun a ha b hb => ih a b ?_ (ht.kids a ha) (hu.kids b hb)
    rw [flat_eq, List.length_cons] at h
    have : (flat a).length ≤ (flats t.ks).length := by
      obtain ⟨x, y, hxy⟩ := List.append_of_mem ha
      rw [hxy, flats_append, flats_cons, List.length_append, List.length_append]; omega
    omega
end Go.Proofs.YtbhgmfddjnkglaaGreatDoor

/-
  What order.Cmp answers; the comparison of keys by their places.
-/
namespace Go.Proofs.YtbhgmfddjnkglaaGreatDoor
open Go.RowKit Np Rw Vp Ov

theorem Vp.Val.ok9 {t : Tr Nd} (h : Val t) : Ok9 t := ⟨h.ok, h.rt⟩
set_option maxRecDepth 100000 in
set_option maxHeartbeats 4000000000000 in
theorem ordCmp_any (va vb : Value) (t u : Tr Nd) (w : World) (ha : Nds w va (flat t)) (hb : Nds w vb (flat u)) (ht : Val t) (hu : Val u) (h1 : (flat t).length ≤ 1000000000000) (h2 : (flat u).length ≤ 1000000000000) :
    Calls Tryz.prog 33 #[va, vb] w fun e w' => e = .returned (.int .i64 (cmpT t u)) ∧ Below w.heap.size w w' := by
  have HV : Hid (∀ W, W = w.alloc (.cells #[va, vb, .int .i64 (0 : Nat)] 84) → Calls Tryz.prog 58 #[.pointer (some ⟨w.heap.size, 0, none⟩)] W fun e w' => e = .returned (.int .i64 (cmpT t u)) ∧ Below w.heap.size w w') := Lib.hid fun W hW => by
    subst hW
    have hB : Below w.heap.size w (w.alloc (.cells #[va, vb, .int .i64 (0 : Nat)] 84)) := (Below.refl _ _).alloc (Nat.le_refl _) _
    have hp : Prs w.heap.size (flat t ++ []) (flat u ++ []) 0 (w.alloc (.cells #[va, vb, .int .i64 (0 : Nat)] 84)) := ⟨va, vb, alloc_at _ _ rfl, by rw [List.append_nil]; exact ha.below hB, by rw [List.append_nil]; exact hb.below hB⟩
    refine (value_any _ t u (Nat.le_refl _) ht.ok9 hu.ok9 w.heap.size [] [] 0 _ hp (by rw [List.append_nil]; omega) (by rw [List.append_nil]; omega) (by omega)).mono ?_
    rintro e w' ⟨rfl, -, hk⟩
    exact ⟨rfl, hB.trans (hk.below (by simp) (Nat.le_refl _))⟩
  obtain ⟨A, c, rfl, -⟩ := ha
  obtain ⟨B, d, rfl, -⟩ := hb
  generalize cmpT t u = R at *
  go_enter Tryz.func33, Tryz.ntmps33
  go_wp2_with fail
  go_at_call 58
  refine (HV.out _ rfl).mono ?_
  rintro e w' ⟨rfl, hb1⟩
  go_wp2_with fail
  go_ret
  exact ⟨rfl, hb1⟩

/-- Rows of keys. -/
structure Keys (w : World) (v : Value) (ts : List (Tr Nd)) : Prop where
  vls : Vls w v (ts.map flat)
  val : ∀ t ∈ ts, Val t
  len : ∀ t ∈ ts, (flat t).length ≤ 1000000000000
theorem Keys.below {w w' : World} {v : Value} {ts : List (Tr Nd)} (h : Keys w v ts) (hb : Below w.heap.size w w') : Keys w' v ts := ⟨h.vls.below hb, h.val, h.len⟩
/-- The comparison of two places. -/
def cat (ts : List (Tr Nd)) (i k : Nat) : Int := cmpT (ts.getD i (.mk zeroN [])) (ts.getD k (.mk zeroN []))
theorem cat_cp (ts : List (Tr Nd)) : Cp (cat ts) := ⟨fun _ _ => cmpT_neg _ _, fun _ _ _ => cmpT_tri _ _ _⟩
/-- A key, as it lies in memory. -/
theorem Keys.at {w : World} {v : Value} {ts : List (Tr Nd)} (h : Keys w v ts) {i : Nat} (hi : i < ts.length) : ∃ g o c A n d, v = .slice (some ⟨g, o, none⟩) ts.length c ∧ g < w.heap.size ∧ w.cell? ⟨g, o + i, none⟩ = some (.slice A n d) ∧ Nds w (.slice A n d) (flat ts[i]) ∧ n = (flat ts[i]).length := by
  obtain ⟨vs, hl, hr, hx⟩ := h.vls
  rw [List.length_map] at hl
  obtain ⟨g, o, c, hv, -, -, hg, hc⟩ := hr.opened (by omega)
  have hi' : i < vs.length := by omega
  have h1 := hc i vs[i] (List.getElem?_eq_getElem hi')
  have h2 := hx i vs[i] (flat ts[i]) (List.getElem?_eq_getElem hi') (by rw [List.getElem?_map, List.getElem?_eq_getElem hi]; rfl)
  obtain ⟨A, d, h3, -⟩ := id h2
  rw [h3] at h1 h2
  exact ⟨g, o, c, A, _, d, by rw [hv, hl], hg, h1.one, h2, rfl⟩
end Go.Proofs.YtbhgmfddjnkglaaGreatDoor

/-
  What order's merge and sorted answer: places, compared by the keys there.
-/
namespace Go.Proofs.YtbhgmfddjnkglaaGreatDoor
open Go.RowKit Np Rw Vp Ov

/-- The keys, in the closure's box. -/
structure Kx (kb : Nat) (vk : Value) (ts : List (Tr Nd)) (W : World) : Prop where
  bx : W.cell? ⟨kb, 0, none⟩ = some vk
  lt : kb < W.heap.size
  ks : Keys W vk ts
theorem Kx.below {kb : Nat} {vk : Value} {ts : List (Tr Nd)} {W W' : World} (h : Kx kb vk ts W) (hb : Below W.heap.size W W') : Kx kb vk ts W' :=
  ⟨(hb.cell (p := ⟨kb, 0, none⟩) h.lt).trans h.bx, Nat.lt_of_lt_of_le h.lt hb.size, h.ks.below hb⟩
theorem getD_at {ts : List (Tr Nd)} {i : Nat} (h : i < ts.length) : ts.getD i (.mk zeroN []) = ts[i] := by simp [List.getD, h]


/-- A row of places, its first place, and the row behind it. -/
theorem ins_step {w : World} {A : Option Addr} {N c : Nat} {x : Nat} {l : List Nat} (h : Ins w (.slice A N c) ((x :: l).map Int.ofNat)) :
    ∃ g o, A = some ⟨g, o, none⟩ ∧ N = l.length + 1 ∧ N ≤ c ∧ g < w.heap.size ∧ w.cell? ⟨g, o, none⟩ = some (.int .i64 (x : Nat)) ∧ (c = 1 → Ins w (.slice A (N - 1) 0) (l.map Int.ofNat)) ∧ (Ins w (.slice (some ⟨g, o + 1, none⟩) (N - 1) (c - 1)) (l.map Int.ofNat)) := by
  obtain ⟨g, o, c', hv, hc, hm, hg, hx⟩ := h.opened (by simp)
  injection hv with e1 e2 e3
  subst e1 e2 e3
  have h1 := (hx 0 _ rfl).int
  have h2 := h.rest 1 (by simp)
  rw [Nat.add_zero] at h1
  refine ⟨g, o, rfl, by simp, hc, hg, h1, fun hc1 => ?_, by simpa using h2⟩
  subst hc1
  have : l = [] := List.eq_nil_of_length_eq_zero (by rw [List.length_map, List.length_cons] at hc; omega)
  subst this
  exact Row.empty _ _ _ (Nat.zero_le _)
def lenV : Value → Nat
  | .slice _ n _ => n
  | _ => 0
theorem ord_new {w : World} {o : Obj} {B : Nat} (h : B = w.heap.size) : (w.alloc o).heap[B]? = some o := by subst h; exact heap_alloc_new w o
theorem own_snoc {Lr : List Nat} {k x base : Nat} {w6 : World} {v : Value} (hLk : Lr.length = k) (h : w6.ownsRow base 3 1 v (k + 1) ((Lr.map Int.ofNat).flatMap inc ++ [.int .i64 (x : Nat)])) : Own inc 1 3 base w6 v ((Lr ++ [x]).map Int.ofNat) := by
  unfold Own
  rw [List.length_map, List.length_append, hLk, List.map_append, List.flatMap_append]
  exact h
/-- How the two are merged, so far. -/
structure Mg (ts : List (Tr Nd)) (xs ys : List Nat) (i j : Nat) (w : World) (va vb vl : Value) (k : Nat) (wr : World) : Prop where
  a : Ins w va ((xs.drop i).map Int.ofNat)
  b : Ins w vb ((ys.drop j).map Int.ofNat)
  l : ∃ L : List Nat, L.length = k ∧ Own inc 1 3 w.heap.size wr vl (L.map Int.ofNat) ∧ L ++ List.merge (xs.drop i) (ys.drop j) (leC (cat ts)) = List.merge xs ys (leC (cat ts))
  bl : Below w.heap.size w wr
structure MgR (ts : List (Tr Nd)) (xs ys : List Nat) (m n : Nat) (w : World) (av bv lv : Value) (wr : World) : Prop where
  ex : ∃ (i j k : Nat) (A : Option Addr) (c : Nat) (B : Option Addr) (d : Nat) (L : Option Addr) (e : Nat), i ≤ m ∧ j ≤ n ∧ k = i + j ∧ av = .slice A (m - i) c ∧ bv = .slice B (n - j) d ∧ lv = .slice L k e ∧ Hid (Mg ts xs ys i j w (.slice A (m - i) c) (.slice B (n - j) d) (.slice L k e) k wr)
theorem drop_ge {xs : List Nat} {i : Nat} (h : i < xs.length) : xs.drop i = xs[i] :: xs.drop (i + 1) := (List.getElem_cons_drop h).symm

end Go.Proofs.YtbhgmfddjnkglaaGreatDoor
