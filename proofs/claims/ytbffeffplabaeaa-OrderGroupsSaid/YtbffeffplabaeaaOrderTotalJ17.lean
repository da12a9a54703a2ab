/-
  Joined: Ow7.
-/
import Derived.Test.YtbffeffplabaeaaOrderTotalJ16
import Derived.Test.YtbffeffplabaeaaOrderTotalJ9
import Derived.Recover
import Derived.Deep.RegionLaw

/-
  What order's merge and sorted answer: places, compared by the keys there.
-/
namespace Go.Proofs.Ytbffeffplabaeaa
open Go.RowKit Np Rw Vp Ov

/-- The keys, in the closure's box. -/
structure Kx (kb : Nat) (vk : Value) (ts : List (Tr Nd)) (W : World) : Prop where
  bx : W.cell? ⟨kb, 0, none⟩ = some vk
  lt : kb < W.heap.size
  ks : Keys W vk ts
theorem Kx.below {kb : Nat} {vk : Value} {ts : List (Tr Nd)} {W W' : World} (h : Kx kb vk ts W) (hb : Below W.heap.size W W') : Kx kb vk ts W' :=
  ⟨(hb.cell (p := ⟨kb, 0, none⟩) h.lt).trans h.bx, Nat.lt_of_lt_of_le h.lt hb.size, h.ks.below hb⟩
abbrev fnK (kb : Nat) : Value := .func (.func 36) #[] #[.pointer (some ⟨kb, 0, none⟩)]
theorem getD_at {ts : List (Tr Nd)} {i : Nat} (h : i < ts.length) : ts.getD i (.mk zeroN []) = ts[i] := by simp [List.getD, h]

set_option maxRecDepth 100000 in
set_option maxHeartbeats 2000000 in
theorem sortLess_any (kb : Nat) (vk : Value) (ts : List (Tr Nd)) (i k : Nat) (w : World) (h : Kx kb vk ts w) (hi : i < ts.length) (hk : k < ts.length) :
    Calls Try.prog 36 #[.int .i64 i, .int .i64 k, .pointer (some ⟨kb, 0, none⟩)] w fun e w' => e = .returned (.int .i64 (cat ts i k)) ∧ Below w.heap.size w w' := by
  obtain ⟨g, o, c, A, n, d, rfl, hg, h1, h2, -⟩ := h.ks.at hi
  obtain ⟨g', o', c', A', n', d', hv, -, h3, h4, -⟩ := h.ks.at hk
  injection hv with e1 e2 e3
  injection e1 with e1
  injection e1 with e4 e5 e6
  subst e4 e5 e3
  have HC : Hid (∀ W, Below w.heap.size w W → Calls Try.prog 12 #[.slice A n d, .slice A' n' d'] W fun e w' => e = .returned (.int .i64 (cat ts i k)) ∧ Below W.heap.size W w') := Lib.hid fun W hb => by
    have := ordCmp_any (.slice A n d) (.slice A' n' d') ts[i] ts[k] W (h2.below hb) (h4.below hb) (h.ks.val _ (List.getElem_mem hi)) (h.ks.val _ (List.getElem_mem hk)) (h.ks.len _ (List.getElem_mem hi)) (h.ks.len _ (List.getElem_mem hk))
    unfold cat
    rw [getD_at hi, getD_at hk]
    exact this
  have hbx := h.bx
  have hB := Below.refl w.heap.size w
  generalize cat ts i k = R at *
  have hlen : ts.length ≤ maxLen := by
    obtain ⟨vs, hl, hr, -⟩ := h.ks.vls
    have := hr.len
    rw [List.length_map] at hl
    omega
  unfold maxLen at hlen
  clear h h2 h4 e2 e6
  generalize ts.length = N at *
  go_enter Try.func36, Try.ntmps36
  go_wp2_with fail
  go_region_with (first | (go_at_call 12; refine (HC.out _ (Below.refl _ w).drew).mono ?_; rintro e w1 ⟨rfl, hb1⟩))
  all_goals go_wp2_with fail
  all_goals go_ret
  all_goals exact ⟨rfl, ((Below.refl _ w).drew).trans hb1⟩

/-- A row of places, its first place, and the row behind it. -/
theorem ins_step {w : World} {A : Option Addr} {N c : Nat} {x : Nat} {l : List Nat} (h : Ins w (.slice A N c) ((x :: l).map Int.ofNat)) :
    ∃ g o, A = some ⟨g, o, none⟩ ∧ N = l.length + 1 ∧ N ≤ c ∧ g < w.heap.size ∧ w.cell? ⟨g, o, none⟩ = some (.int .i64 (x : Nat)) ∧ (c = 1 → Ins w (.slice A (N - 1) 0) (l.map Int.ofNat)) ∧ (Ins w (.slice (some ⟨g, o + 1, none⟩) (N - 1) (c - 1)) (l.map Int.ofNat)) := by
  obtain ⟨g, o, c', hv, hc, hm, hg, hx⟩ := h.opened (by simp)
  injection hv with e1 e2 e3
  subst e1 e2 e3
  have h1 := (hx 0 _ rfl).int
  have h2 := h.rest 1 (by simp)
  rw [Nat.add_zero] at h1
  refine ⟨g, o, rfl, by simp, hc, hg, h1, fun hc1 => ?_, by simpa using h2⟩
  subst hc1
  have : l = [] := List.eq_nil_of_length_eq_zero (by rw [List.length_map, List.length_cons] at hc; omega)
  subst this
  exact Row.empty _ _ _ (Nat.zero_le _)
def lenV : Value → Nat
  | .slice _ n _ => n
  | _ => 0
theorem ord_new {w : World} {o : Obj} {B : Nat} (h : B = w.heap.size) : (w.alloc o).heap[B]? = some o := by subst h; exact heap_alloc_new w o
theorem own_snoc {Lr : List Nat} {k x base : Nat} {w6 : World} {v : Value} (hLk : Lr.length = k) (h : w6.ownsRow base 3 1 v (k + 1) ((Lr.map Int.ofNat).flatMap inc ++ [.int .i64 (x : Nat)])) : Own inc 1 3 base w6 v ((Lr ++ [x]).map Int.ofNat) := by
  unfold Own
  rw [List.length_map, List.length_append, hLk, List.map_append, List.flatMap_append]
  exact h
/-- How the two are merged, so far. -/
structure Mg (ts : List (Tr Nd)) (xs ys : List Nat) (i j : Nat) (w : World) (va vb vl : Value) (k : Nat) (wr : World) : Prop where
  a : Ins w va ((xs.drop i).map Int.ofNat)
  b : Ins w vb ((ys.drop j).map Int.ofNat)
  l : ∃ L : List Nat, L.length = k ∧ Own inc 1 3 w.heap.size wr vl (L.map Int.ofNat) ∧ L ++ List.merge (xs.drop i) (ys.drop j) (leC (cat ts)) = List.merge xs ys (leC (cat ts))
  bl : Below w.heap.size w wr
structure MgR (ts : List (Tr Nd)) (xs ys : List Nat) (m n : Nat) (w : World) (av bv lv : Value) (wr : World) : Prop where
  ex : ∃ (i j k : Nat) (A : Option Addr) (c : Nat) (B : Option Addr) (d : Nat) (L : Option Addr) (e : Nat), i ≤ m ∧ j ≤ n ∧ k = i + j ∧ av = .slice A (m - i) c ∧ bv = .slice B (n - j) d ∧ lv = .slice L k e ∧ Hid (Mg ts xs ys i j w (.slice A (m - i) c) (.slice B (n - j) d) (.slice L k e) k wr)
theorem drop_ge {xs : List Nat} {i : Nat} (h : i < xs.length) : xs.drop i = xs[i] :: xs.drop (i + 1) := (List.getElem_cons_drop h).symm

set_option maxRecDepth 100000 in
set_option maxHeartbeats 4000000 in
theorem merge_any (kb : Nat) (vk va vb : Value) (ts : List (Tr Nd)) (xs ys : List Nat) (w : World) (h : Kx kb vk ts w) (ha : Ins w va (xs.map Int.ofNat)) (hb : Ins w vb (ys.map Int.ofNat))
    (hx : ∀ x ∈ xs, x < ts.length) (hy : ∀ y ∈ ys, y < ts.length) (hl : xs.length + ys.length ≤ 100000) :
    Calls Try.prog 52 #[va, vb, fnK kb] w fun e w' => ∃ (A : Option Addr) (n c : Nat), e = .returned (.slice A n c) ∧ Ins w' (.slice A n c) ((List.merge xs ys (leC (cat ts))).map Int.ofNat) ∧ Below w.heap.size w w' := by
  have HH := Lib.hid h
  have HA := Lib.hid ha
  have HB := Lib.hid hb
  obtain ⟨A, c, rfl, -⟩ := ha
  obtain ⟨B, d, rfl, -⟩ := hb
  have hmk : ∀ W : World, (Instr.makeSlice 31 (.int .i64 0) (.int .i64 ((xs.length + ys.length : Nat) : Int))).run Try.prog W = .ok (.slice (some ⟨W.heap.size, 0, none⟩) 0 (xs.length + ys.length)) (W.alloc (.cells (madeCells #[.int .i64 0] (xs.length + ys.length)) 3)) := by
    intro W
    obtain ⟨i, hi, hz0, hz1, hz2⟩ := info_parts int_info
    have := run_make (P := Try.prog) W 31 3 i _ Try.underlying31 hi hz0 .i64 .i64 0 ((xs.length + ys.length : Nat) : Int) (by omega) (by omega) (by rw [hz2]; omega) (by omega)
    rw [hz1, Int.toNat_natCast, Nat.mul_one] at this
    exact this
  have HM := Lib.hid hmk
  clear hmk h
  simp only [List.length_map] at HA HB ⊢
  generalize hm : xs.length = m at *
  generalize hn : ys.length = n at *
  have HXL := Lib.hid hm
  have HYL := Lib.hid hn
  clear hm hn
  have hmk := HM.out w
  rw [show ((m + n : Nat) : Int) = (m : Int) + (n : Int) by omega] at hmk
  go_enter Try.func52, Try.ntmps52
  have hO : Own inc 1 3 w.heap.size (w.alloc (.cells (madeCells #[.int .i64 0] (m + n)) 3)) (.slice (some ⟨w.heap.size, 0, none⟩) 0 (m + n)) (([] : List Nat).map Int.ofNat) := by
    have := Own.made (E := 3) (base := w.heap.size) inc_len (by decide) w 0 #[.int .i64 0] rfl 0 (m + n) (Nat.zero_le _) (by unfold maxLen; omega) (Nat.le_refl _)
    simpa using this
  have HM0 : Hid (Mg ts xs ys 0 0 w (.slice A m c) (.slice B n d) (.slice (some ⟨w.heap.size, 0, none⟩) 0 (m + n)) 0 (w.alloc (.cells (madeCells #[.int .i64 0] (m + n)) 3))) :=
    Lib.hid ⟨by simpa using HA.out, by simpa using HB.out, ⟨[], rfl, hO, by simp⟩, (Below.refl _ _).alloc (Nat.le_refl _) _⟩
  clear hO
  go_wp2_with fail
  clear hmk
  generalize madeCells #[Value.int .i64 0] (m + n) = cs at HM0 ⊢
  go_loopw [0, 1, 7] (fun av bv lv wr => MgR ts xs ys m n w av bv lv wr) (fun av bv _ _ => lenV av + lenV bv)
  case atStart => exact ⟨0, 0, 0, _, _, _, _, _, _, Nat.zero_le _, Nat.zero_le _, rfl, rfl, rfl, rfl, HM0⟩
  case round =>
    obtain ⟨i, j, k, A1, c1, B1, d1, L1, e1, hi, hj, hk, rfl, rfl, rfl, HG⟩ := hrel.ex
    by_cases hgo : i < m ∧ j < n
    · obtain ⟨hi2, hj2⟩ := hgo
      have hi3 : i < xs.length := by rw [HXL.out]; exact hi2
      have hj3 : j < ys.length := by rw [HYL.out]; exact hj2
      have hA := HG.out.a
      have hB := HG.out.b
      rw [drop_ge hi3] at hA
      rw [drop_ge hj3] at hB
      obtain ⟨g1, o1, rfl, hN1, hc1, hg1, p1, q1, r1⟩ := ins_step hA
      obtain ⟨g2, o2, rfl, hN2, hc2, hg2, p2, q2, r2⟩ := ins_step hB
      have HD1 := Lib.hid (drop_ge hi3)
      have HD2 := Lib.hid (drop_ge hj3)
      have hx0 := hx _ (List.getElem_mem hi3)
      have hy0 := hy _ (List.getElem_mem hj3)
      obtain ⟨Lr, hLk, hLo, hLm⟩ := HG.out.l
      have hbl := HG.out.bl
      rw [drop_ge hi3, drop_ge hj3, List.cons_merge_cons] at hLm
      have HC : Hid (∀ W, Below w.heap.size w W → Calls Try.prog 36 #[.int .i64 (xs[i] : Nat), .int .i64 (ys[j] : Nat), .pointer (some ⟨kb, 0, none⟩)] W fun e w' => e = .returned (.int .i64 (cat ts xs[i] ys[j])) ∧ Below W.heap.size W w') := Lib.hid fun W hb => sortLess_any kb vk ts _ _ W (HH.out.below hb) hx0 hy0
      have HP1 : Hid (∀ W, Below w.heap.size w W → W.cell? ⟨g1, o1, none⟩ = some (.int .i64 (xs[i] : Nat)) ∧ W.cell? ⟨g2, o2, none⟩ = some (.int .i64 (ys[j] : Nat))) := Lib.hid fun W hb => ⟨(hb.cell (p := ⟨g1, o1, none⟩) hg1).trans p1, (hb.cell (p := ⟨g2, o2, none⟩) hg2).trans p2⟩
      have HQ1 := Lib.hid q1
      have HR1 := Lib.hid r1
      have HQ2 := Lib.hid q2
      have HR2 := Lib.hid r2
      have HLM := Lib.hid hLm
      have HLO := Lib.hid hLo
      have HBL := Lib.hid hbl
      have eK : ∀ args (w : World), (callFunc 36 args).run Try.prog w = .ok (.enter 36 args) w := fun _ _ => rfl
      obtain ⟨p3, p4⟩ := HP1.out wr hbl
      clear hA hB q1 q2 r1 r2 hLm hLo p1 p2 hx0 hy0 hbl
      have hlx : leC (cat ts) xs[i] ys[j] = decide (cat ts xs[i] ys[j] ≤ 0) := rfl
      rw [hlx] at HLM
      clear hlx
      generalize xs[i] = x at *
      generalize ys[j] = y at *
      generalize hq : cat ts x y = q at *
      have hN3 : 1 ≤ m - i := by omega
      have hN4 : 1 ≤ n - j := by omega
      have HK := Lib.hid hk
      have HMI : Hid (m - i - 1 = m - (i + 1)) := Lib.hid (by omega)
      have HNJ : Hid (n - j - 1 = n - (j + 1)) := Lib.hid (by omega)
      have HI1 : Hid (i + 1 ≤ m ∧ i ≤ m) := Lib.hid ⟨hi2, hi⟩
      have HJ1 : Hid (j + 1 ≤ n ∧ j ≤ n) := Lib.hid ⟨hj2, hj⟩
      have HLK := Lib.hid hLk
      have HKB : Hid (k ≤ 100000) := Lib.hid (by omega)
      clear hN1 hN2 hk hi3 hj3 hi2 hj2 hi hj
      generalize hMM : m - i = M at *
      generalize hNN : n - j = N at *
      have hN5 : (1 : Int) ≤ (M : Int) := by omega
      have hN6 : (1 : Int) ≤ (N : Int) := by omega
      have HMM := Lib.hid hMM
      have HNN := Lib.hid hNN
      clear hMM hNN
      go_upto_region 3 with fail
      go_cut [30] from 14 to 31 (fun s30 wx => s30 = .bool (decide (q ≤ 0)) ∧ Hid (Below wr.heap.size wr wx))
      case first =>
        go_region_with (first | (go_at_call 36; refine (HC.out _ (HBL.out.drew)).mono ?_; rintro e w1 ⟨rfl, hb1⟩))
        all_goals go_wp2_with fail
        all_goals go_meet
        all_goals exact ⟨rfl, Lib.hid (((Below.refl _ wr).drew).trans hb1)⟩
      case rest =>
        obtain ⟨rfl, HWC⟩ := hcut
        have hb2 : Below w.heap.size w wc := HBL.out.trans (HWC.out.mono HBL.out.size)
        obtain ⟨p5, p6⟩ := HP1.out wc hb2
        have HLO2 := Lib.hid (HLO.out.below HWC.out)
        have HB2 := Lib.hid hb2
        clear hb2 p3 p4
        by_cases hq0 : q ≤ 0
        · rw [if_pos (by simpa using hq0)] at HLM
          have HOW : Hid (∀ W, Below wc.heap.size wc W → W.ownsRow w.heap.size 3 1 (.slice L1 k e1) k ((Lr.map Int.ofNat).flatMap inc)) := Lib.hid fun W hb => by
            have h1 : Own inc 1 3 w.heap.size W (.slice L1 k e1) (Lr.map Int.ofNat) := HLO2.out.below hb
            unfold Own at h1
            rwa [List.length_map, hLk] at h1
          have HB63 : Hid (k + 1 ≤ maxLen ∧ (k + 1) * 8 ≤ 140737488355328) := Lib.hid (by unfold maxLen; have := HKB.out; omega)
          have HSZ : Hid (w.heap.size ≤ wc.heap.size) := Lib.hid HB2.out.size
          by_cases hcc : c1 = 1
          · have HQZ := Lib.hid (HQ1.out hcc)
            rw [show M - 1 = 0 by omega] at HQZ
            have HZ : Hid (m - (i + 1) = 0) := Lib.hid (by have := HMI.out; omega)
            subst hcc
            go_upto_region 4 with fail
            obtain ⟨ist, hist, hs0, hs1, hs2⟩ := info_parts int_info
            go_region_law (refine step_append_lies _ (by rfl) _ _ _ (by rfl) w.heap.size _ ist (.int .i64 0) 1 8 Try.underlying31 hist hs0 hs1 hs2 (by decide) (by decide) (.slice L1 k e1) k ((Lr.map Int.ofNat).flatMap inc) (by rfl) (by first | exact HOW.out _ (by assumption) | exact HOW.out _ ((Below.refl _ _).drew) | exact HOW.out _ (((Below.refl _ _).drew).alloc (Nat.le_refl _) _) | exact HOW.out _ (((Below.refl _ _).alloc (Nat.le_refl _) _).drew)) _ 1 1 [.int .i64 (x : Nat)] (by rfl) (by rfl) (World.news_of_block (by first | exact ord_new (by simp))) (by intro u hu; simp at hu; subst hu; rfl) (by decide) HB63.out.1 HB63.out.2 (by have := HSZ.out; simp; omega) _ rfl ?_; intro gN capN w6 hownN hgrN hatN hltN)
            have HON := Lib.hid (own_snoc HLK.out hownN)
            have hbw : Below wc.heap.size wc ((wc.alloc (.cells #[.int .i64 (x : Nat)] 3)).drew) := ((Below.refl _ _).alloc (Nat.le_refl _) _).drew
            have HBN : Hid (Below w.heap.size w w6) := Lib.hid ((HB2.out.trans (hbw.mono HSZ.out)).trans ((HLO2.out.below hbw).kept hgrN (by have := HSZ.out; simp; omega)))
            clear hownN hgrN hatN hltN hbw
            try simp only [Act.put, List.getElem_toArray, List.getElem_cons_succ, List.getElem_cons_zero, List.setIfInBounds_toArray, List.set_cons_zero, List.set_cons_succ]
            go_wp2_with fail
            go_roundw
            case rel => exact ⟨i + 1, j, k + 1, _, _, _, _, _, _, HI1.out.1, HJ1.out.2, by have := HK.out; omega, by rw [HZ.out], by rw [HNN.out], rfl, Lib.hid ⟨by rw [HZ.out]; exact HQZ.out, by rw [HNN.out]; exact HG.out.b, ⟨Lr ++ [x], by simp [HLK.out], HON.out, by rw [List.append_assoc, HD2.out]; exact HLM.out⟩, HBN.out⟩⟩
            case measure => simp [lenV]; omega
          · go_upto_region 4 with fail
            obtain ⟨ist, hist, hs0, hs1, hs2⟩ := info_parts int_info
            go_region_law (refine step_append_lies _ (by rfl) _ _ _ (by rfl) w.heap.size _ ist (.int .i64 0) 1 8 Try.underlying31 hist hs0 hs1 hs2 (by decide) (by decide) (.slice L1 k e1) k ((Lr.map Int.ofNat).flatMap inc) (by rfl) (by first | exact HOW.out _ (by assumption) | exact HOW.out _ ((Below.refl _ _).drew) | exact HOW.out _ (((Below.refl _ _).drew).alloc (Nat.le_refl _) _) | exact HOW.out _ (((Below.refl _ _).alloc (Nat.le_refl _) _).drew)) _ 1 1 [.int .i64 (x : Nat)] (by rfl) (by rfl) (World.news_of_block (by first | exact ord_new (by simp))) (by intro u hu; simp at hu; subst hu; rfl) (by decide) HB63.out.1 HB63.out.2 (by have := HSZ.out; simp; omega) _ rfl ?_; intro gN capN w6 hownN hgrN hatN hltN)
            have HON := Lib.hid (own_snoc HLK.out hownN)
            have hbw : Below wc.heap.size wc ((wc.alloc (.cells #[.int .i64 (x : Nat)] 3)).drew) := ((Below.refl _ _).alloc (Nat.le_refl _) _).drew
            have HBN : Hid (Below w.heap.size w w6) := Lib.hid ((HB2.out.trans (hbw.mono HSZ.out)).trans ((HLO2.out.below hbw).kept hgrN (by have := HSZ.out; simp; omega)))
            clear hownN hgrN hatN hltN hbw
            try simp only [Act.put, List.getElem_toArray, List.getElem_cons_succ, List.getElem_cons_zero, List.setIfInBounds_toArray, List.set_cons_zero, List.set_cons_succ]
            go_wp2_with fail
            go_roundw
            case rel => exact ⟨i + 1, j, k + 1, _, _, _, _, _, _, HI1.out.1, HJ1.out.2, by have := HK.out; omega, by rw [HMI.out], by rw [HNN.out], rfl, Lib.hid ⟨by rw [← HMI.out]; exact HR1.out, by rw [HNN.out]; exact HG.out.b, ⟨Lr ++ [x], by simp [HLK.out], HON.out, by rw [List.append_assoc, HD2.out]; exact HLM.out⟩, HBN.out⟩⟩
            case measure => simp [lenV]; omega
        · rw [if_neg (by simpa using hq0)] at HLM
          have HOW : Hid (∀ W, Below wc.heap.size wc W → W.ownsRow w.heap.size 3 1 (.slice L1 k e1) k ((Lr.map Int.ofNat).flatMap inc)) := Lib.hid fun W hb => by
            have h1 : Own inc 1 3 w.heap.size W (.slice L1 k e1) (Lr.map Int.ofNat) := HLO2.out.below hb
            unfold Own at h1
            rwa [List.length_map, hLk] at h1
          have HB63 : Hid (k + 1 ≤ maxLen ∧ (k + 1) * 8 ≤ 140737488355328) := Lib.hid (by unfold maxLen; have := HKB.out; omega)
          have HSZ : Hid (w.heap.size ≤ wc.heap.size) := Lib.hid HB2.out.size
          by_cases hcc : d1 = 1
          · have HQZ := Lib.hid (HQ2.out hcc)
            rw [show N - 1 = 0 by omega] at HQZ
            have HZ : Hid (n - (j + 1) = 0) := Lib.hid (by have := HNJ.out; omega)
            subst hcc
            go_upto_region 5 with fail
            obtain ⟨ist, hist, hs0, hs1, hs2⟩ := info_parts int_info
            go_region_law (refine step_append_lies _ (by rfl) _ _ _ (by rfl) w.heap.size _ ist (.int .i64 0) 1 8 Try.underlying31 hist hs0 hs1 hs2 (by decide) (by decide) (.slice L1 k e1) k ((Lr.map Int.ofNat).flatMap inc) (by rfl) (by first | exact HOW.out _ (by assumption) | exact HOW.out _ ((Below.refl _ _).drew) | exact HOW.out _ (((Below.refl _ _).drew).alloc (Nat.le_refl _) _) | exact HOW.out _ (((Below.refl _ _).alloc (Nat.le_refl _) _).drew)) _ 1 1 [.int .i64 (y : Nat)] (by rfl) (by rfl) (World.news_of_block (by first | exact ord_new (by simp))) (by intro u hu; simp at hu; subst hu; rfl) (by decide) HB63.out.1 HB63.out.2 (by have := HSZ.out; simp; omega) _ rfl ?_; intro gN capN w6 hownN hgrN hatN hltN)
            have HON := Lib.hid (own_snoc HLK.out hownN)
            have hbw : Below wc.heap.size wc ((wc.alloc (.cells #[.int .i64 (y : Nat)] 3)).drew) := ((Below.refl _ _).alloc (Nat.le_refl _) _).drew
            have HBN : Hid (Below w.heap.size w w6) := Lib.hid ((HB2.out.trans (hbw.mono HSZ.out)).trans ((HLO2.out.below hbw).kept hgrN (by have := HSZ.out; simp; omega)))
            clear hownN hgrN hatN hltN hbw
            try simp only [Act.put, List.getElem_toArray, List.getElem_cons_succ, List.getElem_cons_zero, List.setIfInBounds_toArray, List.set_cons_zero, List.set_cons_succ]
            go_wp2_with fail
            go_roundw
            case rel => exact ⟨i, j + 1, k + 1, _, _, _, _, _, _, HI1.out.2, HJ1.out.1, by have := HK.out; omega, by rw [HMM.out], by rw [HZ.out], rfl, Lib.hid ⟨by rw [HMM.out]; exact HG.out.a, by rw [HZ.out]; exact HQZ.out, ⟨Lr ++ [y], by simp [HLK.out], HON.out, by rw [List.append_assoc, HD1.out]; exact HLM.out⟩, HBN.out⟩⟩
            case measure => simp [lenV]; omega
          · go_upto_region 5 with fail
            obtain ⟨ist, hist, hs0, hs1, hs2⟩ := info_parts int_info
            go_region_law (refine step_append_lies _ (by rfl) _ _ _ (by rfl) w.heap.size _ ist (.int .i64 0) 1 8 Try.underlying31 hist hs0 hs1 hs2 (by decide) (by decide) (.slice L1 k e1) k ((Lr.map Int.ofNat).flatMap inc) (by rfl) (by first | exact HOW.out _ (by assumption) | exact HOW.out _ ((Below.refl _ _).drew) | exact HOW.out _ (((Below.refl _ _).drew).alloc (Nat.le_refl _) _) | exact HOW.out _ (((Below.refl _ _).alloc (Nat.le_refl _) _).drew)) _ 1 1 [.int .i64 (y : Nat)] (by rfl) (by rfl) (World.news_of_block (by first | exact ord_new (by simp))) (by intro u hu; simp at hu; subst hu; rfl) (by decide) HB63.out.1 HB63.out.2 (by have := HSZ.out; simp; omega) _ rfl ?_; intro gN capN w6 hownN hgrN hatN hltN)
            have HON := Lib.hid (own_snoc HLK.out hownN)
            have hbw : Below wc.heap.size wc ((wc.alloc (.cells #[.int .i64 (y : Nat)] 3)).drew) := ((Below.refl _ _).alloc (Nat.le_refl _) _).drew
            have HBN : Hid (Below w.heap.size w w6) := Lib.hid ((HB2.out.trans (hbw.mono HSZ.out)).trans ((HLO2.out.below hbw).kept hgrN (by have := HSZ.out; simp; omega)))
            clear hownN hgrN hatN hltN hbw
            try simp only [Act.put, List.getElem_toArray, List.getElem_cons_succ, List.getElem_cons_zero, List.setIfInBounds_toArray, List.set_cons_zero, List.set_cons_succ]
            go_wp2_with fail
            go_roundw
            case rel => exact ⟨i, j + 1, k + 1, _, _, _, _, _, _, HI1.out.2, HJ1.out.1, by have := HK.out; omega, by rw [HMM.out], by rw [HNJ.out], rfl, Lib.hid ⟨by rw [HMM.out]; exact HG.out.a, by rw [← HNJ.out]; exact HR2.out, ⟨Lr ++ [y], by simp [HLK.out], HON.out, by rw [List.append_assoc, HD1.out]; exact HLM.out⟩, HBN.out⟩⟩
            case measure => simp [lenV]; omega
    · have hbl := HG.out.bl
      obtain ⟨Lr, hLk, hLo, hLm⟩ := HG.out.l
      have HFIN : Hid (Lr ++ xs.drop i ++ ys.drop j = List.merge xs ys (leC (cat ts))) := Lib.hid (by
        rcases (by omega : i = m ∨ j = n) with h | h
        · have e : xs.drop i = [] := List.drop_eq_nil_of_le (by rw [HXL.out]; omega)
          rw [e, List.nil_merge] at hLm
          rw [e, List.append_nil]
          exact hLm
        · have e : ys.drop j = [] := List.drop_eq_nil_of_le (by rw [HYL.out]; omega)
          rw [e, List.merge_right] at hLm
          rw [e, List.append_nil]
          exact hLm)
      have HLEN : Hid ((Lr.map Int.ofNat).length + ((xs.drop i).map Int.ofNat).length + ((ys.drop j).map Int.ofNat).length ≤ 100000) := Lib.hid (by
        simp only [List.length_map, List.length_drop, HXL.out, HYL.out, hLk]; omega)
      have HLO := Lib.hid hLo
      have HA1 := Lib.hid (HG.out.a.below hbl)
      have HBL := Lib.hid hbl
      have HGB := Lib.hid HG.out.b
      have HFM : Hid (Lr.map Int.ofNat ++ (xs.drop i).map Int.ofNat ++ (ys.drop j).map Int.ofNat = (List.merge xs ys (leC (cat ts))).map Int.ofNat) := Lib.hid (by rw [← HFIN.out, List.map_append, List.map_append])
      have hgo2 : m - i = 0 ∨ n - j = 0 := by omega
      clear hLk hLo hLm hgo hbl hk hi hj HFIN HG
      generalize Lr.map Int.ofNat = z1 at *
      generalize (xs.drop i).map Int.ofNat = z2 at *
      generalize (ys.drop j).map Int.ofNat = z3 at *
      generalize m - i = M at *
      generalize n - j = N at *
      by_cases hM : M = 0
      · subst hM
        clear hgo2
        go_wp2_with (at_builtin; refine wpList_append_row (base := w.heap.size) elInt rfl _ _ rfl rfl HLO.out rfl HA1.out ?_ ?_ ?_ ?_)
        · have := HLEN.out; unfold maxLen; omega
        · have := HLEN.out; omega
        · exact HBL.out.size
        · intro A2 c2 w2 hown2 hg2 hwh
          clear hwh
          have HO2 := Lib.hid hown2
          have HBL2 : Hid (Below w.heap.size w w2) := Lib.hid (HBL.out.trans (HLO.out.kept hg2 HBL.out.size))
          have HB2 := Lib.hid (HGB.out.below HBL2.out)
          clear hown2 hg2
          go_wp2_with (at_builtin; refine wpList_append_row (base := w.heap.size) elInt rfl _ _ rfl rfl HO2.out rfl HB2.out ?_ ?_ ?_ ?_)
          · have := HLEN.out; (try rw [List.length_append]); unfold maxLen; omega
          · have := HLEN.out; (try rw [List.length_append]); omega
          · exact HBL2.out.size
          · intro A3 c3 w3 hown3 hg3 hwh
            clear hwh
            have HO3 := Lib.hid hown3
            have HBL3 : Hid (Below w.heap.size w w3) := Lib.hid (HBL2.out.trans (HO2.out.kept hg3 HBL2.out.size))
            clear hown3 hg3
            go_wp2_with fail
            go_ret
            refine ⟨A3, _, c3, rfl, ?_, HBL3.out⟩
            rw [← HFM.out]
            have h9 := HO3.out.row inc_len
            simpa using h9
      · have hN : N = 0 := hgo2.resolve_left hM
        subst hN
        clear hgo2
        have hM2 : (M : Int) > 0 := by omega
        go_wp2_with (at_builtin; refine wpList_append_row (base := w.heap.size) elInt rfl _ _ rfl rfl HLO.out rfl HA1.out ?_ ?_ ?_ ?_)
        · have := HLEN.out; unfold maxLen; omega
        · have := HLEN.out; omega
        · exact HBL.out.size
        · intro A2 c2 w2 hown2 hg2 hwh
          clear hwh
          have HO2 := Lib.hid hown2
          have HBL2 : Hid (Below w.heap.size w w2) := Lib.hid (HBL.out.trans (HLO.out.kept hg2 HBL.out.size))
          have HB2 := Lib.hid (HGB.out.below HBL2.out)
          clear hown2 hg2
          go_wp2_with (at_builtin; refine wpList_append_row (base := w.heap.size) elInt rfl _ _ rfl rfl HO2.out rfl HB2.out ?_ ?_ ?_ ?_)
          · have := HLEN.out; (try rw [List.length_append]); unfold maxLen; omega
          · have := HLEN.out; (try rw [List.length_append]); omega
          · exact HBL2.out.size
          · intro A3 c3 w3 hown3 hg3 hwh
            clear hwh
            have HO3 := Lib.hid hown3
            have HBL3 : Hid (Below w.heap.size w w3) := Lib.hid (HBL2.out.trans (HO2.out.kept hg3 HBL2.out.size))
            clear hown3 hg3
            go_wp2_with fail
            go_ret
            refine ⟨A3, _, c3, rfl, ?_, HBL3.out⟩
            rw [← HFM.out]
            have h9 := HO3.out.row inc_len
            simpa using h9
end Go.Proofs.Ytbffeffplabaeaa
